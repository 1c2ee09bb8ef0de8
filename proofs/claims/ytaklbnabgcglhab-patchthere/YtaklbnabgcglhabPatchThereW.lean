/- The walk of the law PatchThere: it returns true. -/
import Derived.Test.YtaklbnabgcglhabPatE
import Derived.Lib.QuietBelow
namespace Go.Proofs.Ytaklbnabgcglhab.patchThere
open Go.RowKit Go.PlainAid

set_option maxRecDepth 100000

set_option maxHeartbeats 2000000 in
theorem core (s t : ByteArray) (a m : Nat) (K S D sym base n k : Int) (w : World) (hs : s.size ≤ 140737488351232) (hm : m ≤ 4) (ha : a + m ≤ s.size) (hz : t.size = s.size) (hout : ∀ i, i < a ∨ a + m ≤ i → bt t i = bt s i)
    (b0 : 0 ≤ base) (b1 : base ≤ 65279) (d0 : 0 ≤ D) (d1 : D ≤ 65535) (s0 : 0 ≤ sym) (s1 : sym ≤ 65535) (k0 : -4294967296 ≤ k) (k1 : k ≤ 4294967296)
    (HA : Hid (∀ w, Calls Try.prog 9 #[.string s, .agg #[.int .i64 K, .int .i64 a, .int .i64 S, .int .i64 D], .int .i64 sym, .int .i64 base] w fun e w' => e = .returned (.tuple #[.string t, .int .i64 0]) ∧ Below w.heap.size w w'))
    (HW : Hid (∀ w, Calls Try.prog 12 #[.int .i64 K] w fun e w' => e = .returned (.tuple #[.int .i64 m, .int .i64 0]) ∧ w' = w))
    (HG : Hid (∀ w, Calls Try.prog 13 #[.string t, .int .i64 a, .int .i64 m] w fun e w' => e = .returned (.tuple #[.int .i64 n, .int .i64 0]) ∧ Below w.heap.size w w'))
    (HS : Hid (∀ w, Calls Try.prog 14 #[.int .i64 n, .int .i64 (8 * m)] w fun e w' => e = .returned (.tuple #[.int .i64 k, .int .i64 0]) ∧ w' = w))
    (hfin : Hid ((K = 1 ∧ n = sym + D) ∨ (K = 2 ∧ base + a + k = sym + D) ∨ (K = 3 ∧ n = (sym + D) / 65536) ∨ (K = 4 ∧ n = (sym + D) % 65536) ∨ (K = 5 ∧ base + a + 2 * k = sym + D))) :
    Calls Try.prog 3 #[.string s, .agg #[.int .i64 K, .int .i64 a, .int .i64 S, .int .i64 D], .int .i64 sym, .int .i64 base] w fun e w' => e = .returned (.bool true) ∧ Below w.heap.size w w' := by
  have hzb : ((t.size : Int) != (s.size : Int)) = false := by simp [hz]
  have HZ : Hid (t.size = s.size) := hz
  have HO : Hid (∀ i, i < a ∨ a + m ≤ i → bt t i = bt s i) := hout
  clear hz hout
  go_enter Try.func3, Try.ntmps3
  go_wp2_with fail
  refine (HA.out _).mono ?_
  rintro e w1 ⟨rfl, c1⟩
  have X1 : ∀ o, w1.cell? ⟨w.heap.size, o, none⟩ = (w.alloc (.cells #[.int .i64 K, .int .i64 a, .int .i64 S, .int .i64 D] 23)).cell? ⟨w.heap.size, o, none⟩ := fun o => c1.cell (p := ⟨w.heap.size, o, none⟩) (by simp)
  have P0 := X1 0
  have P1 := X1 1
  have P3 := X1 3
  simp at P0 P1 P3
  have Z1 : w.heap.size < w1.heap.size := by have := c1.size; simp at this; omega
  have C1 : Below w.heap.size w w1 := ((Below.refl w.heap.size w).alloc (Nat.le_refl _) _).trans (c1.mono (by simp))
  clear X1 c1
  go_wp2_with fail
  refine (patchBegun_any _).mono ?_
  rintro e w2 ⟨rfl, c2⟩
  go_wp2_with fail
  refine (wordBegun_any _).mono ?_
  rintro e w3 ⟨rfl, c3⟩
  have c23 := c2.trans (c3.mono c2.size)
  have Q0 := (c23.cell (p := ⟨w.heap.size, 0, none⟩) Z1).trans P0
  have Q1 := (c23.cell (p := ⟨w.heap.size, 1, none⟩) Z1).trans P1
  have Q3 := (c23.cell (p := ⟨w.heap.size, 3, none⟩) Z1).trans P3
  have C3 := C1.trans (c23.mono C1.size)
  have Z3 : w.heap.size < w3.heap.size := Nat.lt_of_lt_of_le Z1 c23.size
  clear c2 c3 c23 P0 P1 P3 C1 Z1
  go_wp2_with fail
  refine (HW.out _).mono ?_
  rintro e w4 ⟨rfl, rfl⟩
  go_wp2_with fail
  refine (HG.out _).mono ?_
  rintro e w5 ⟨rfl, c5⟩
  have R0 := (c5.cell (p := ⟨w.heap.size, 0, none⟩) Z3).trans Q0
  have R1 := (c5.cell (p := ⟨w.heap.size, 1, none⟩) Z3).trans Q1
  have R3 := (c5.cell (p := ⟨w.heap.size, 3, none⟩) Z3).trans Q3
  have C5 := C3.trans (c5.mono C3.size)
  have Z5 : w.heap.size < w5.heap.size := Nat.lt_of_lt_of_le Z3 c5.size
  clear c5 Q0 Q1 Q3 C3 Z3
  go_wp2_with fail
  go_loopw [14] (fun i wr => ∃ j : Nat, j ≤ s.size ∧ i = .int .i64 j ∧ Below w5.heap.size w5 wr) (fun i _ => s.size - (intOf i).toNat)
  case atStart => exact ⟨0, Nat.zero_le _, rfl, Below.refl _ _⟩
  case round =>
    obtain ⟨j, hj, rfl, B⟩ := hrel
    have T0 := (B.cell (p := ⟨w.heap.size, 0, none⟩) Z5).trans R0
    have T1 := (B.cell (p := ⟨w.heap.size, 1, none⟩) Z5).trans R1
    have T3 := (B.cell (p := ⟨w.heap.size, 3, none⟩) Z5).trans R3
    by_cases hlt : j < s.size
    · have hjt : j < t.size := by rw [HZ.out]; exact hlt
      have hbs := get_bt s
      have hbtt := get_bt t
      have i0 : IntKind.i64.wrap ((a : Int) + m) = (a : Int) + m := by rw [i64_is]; unfold wrap64; omega
      by_cases hA : (j : Int) < a
      · have hne : (bt t j != bt s j) = false := by rw [HO.out j (.inl (by omega))]; simp
        go_wp2
        go_quiet (fail)
        all_goals go_wp2
        exact ⟨⟨j + 1, by omega, by go_num, below_drewN B _⟩, by simp [intOf]; omega⟩
      · have hAd : decide ((j : Int) < a) = false := decide_eq_false hA
        have hAd' : decide (j < a) = false := decide_eq_false (by omega)
        by_cases hB : (a : Int) + m ≤ j
        · have hne : (bt t j != bt s j) = false := by rw [HO.out j (.inr (by omega))]; simp
          go_wp2
          go_quiet (fail)
          all_goals go_wp2
          exact ⟨⟨j + 1, by omega, by go_num, below_drewN B _⟩, by simp [intOf]; omega⟩
        · have hBd : decide ((a : Int) + m ≤ j) = false := decide_eq_false hB
          have hBd' : decide (a + m ≤ j) = false := decide_eq_false (by omega)
          go_wp2
          go_quiet (fail)
          all_goals go_wp2
          exact ⟨⟨j + 1, by omega, by go_num, below_drewN B _⟩, by simp [intOf]; omega⟩
    · have CB := C5.trans (B.mono C5.size)
      have hjt : ¬ j < t.size := by rw [HZ.out]; exact hlt
      clear R0 R1 R3 HO
      go_wp2_with fail
      refine (HS.out _).mono ?_
      rintro e w6 ⟨rfl, rfl⟩
      rcases hfin.out with ⟨rfl, rfl⟩ | ⟨rfl, h⟩ | ⟨rfl, rfl⟩ | ⟨rfl, rfl⟩ | ⟨rfl, h⟩
      · go_wp2
        go_ret
        exact ⟨by simp, CB⟩
      · have h' : (base + a + k == sym + D) = true := by rw [h]; simp
        clear h
        go_wp2
        go_ret
        exact ⟨by first | rfl | simp [h'], CB⟩
      · go_wp2
        go_ret
        exact ⟨by simp, CB⟩
      · go_wp2
        go_ret
        exact ⟨by simp, CB⟩
      · have h' : (base + a + 2 * k == sym + D) = true := by rw [h]; simp
        clear h
        go_wp2
        go_ret
        exact ⟨by first | rfl | simp [h'], CB⟩

set_option maxHeartbeats 1000000 in
theorem bad (s : ByteArray) (K A S D sym base x : Int) (w : World) (hx : (x != 0) = true)
    (HA : Hid (∀ w, Calls Try.prog 9 #[.string s, .agg #[.int .i64 K, .int .i64 A, .int .i64 S, .int .i64 D], .int .i64 sym, .int .i64 base] w fun e w' => e = .returned (.tuple #[.string ⟨#[]⟩, .int .i64 x]) ∧ Below w.heap.size w w')) :
    Calls Try.prog 3 #[.string s, .agg #[.int .i64 K, .int .i64 A, .int .i64 S, .int .i64 D], .int .i64 sym, .int .i64 base] w fun e w' => e = .returned (.bool true) ∧ Below w.heap.size w w' := by
  go_enter Try.func3, Try.ntmps3
  go_wp2_with fail
  refine (HA.out _).mono ?_
  rintro e w1 ⟨rfl, c1⟩
  have C1 : Below w.heap.size w w1 := ((Below.refl w.heap.size w).alloc (Nat.le_refl _) _).trans (c1.mono (by simp))
  clear c1
  go_wp2_with fail
  refine (patchBegun_any _).mono ?_
  rintro e w2 ⟨rfl, c2⟩
  go_wp2_with fail
  refine (wordBegun_any _).mono ?_
  rintro e w3 ⟨rfl, c3⟩
  go_wp2
  go_ret
  exact ⟨rfl, C1.trans ((c2.trans (c3.mono c2.size)).mono C1.size)⟩

theorem pow8 (m : Nat) : (2 : Int) ^ (8 * (m : Int)).toNat = 256 ^ m := by
  rw [show (8 * (m : Int)).toNat = 8 * m from by omega, Int.pow_mul]; rfl

/-- What is read back of a value that stands there. -/
theorem tells (kind sym add place : Int) (h : valErr kind sym add place = 0) : ∃ m : Nat, width kind = m ∧ 1 ≤ m ∧ m ≤ 4 ∧ 0 ≤ valNum kind sym add place ∧ valNum kind sym add place < 256 ^ m ∧ signedE (valNum kind sym add place) (8 * m) = 0 ∧ -4294967296 ≤ signedN (valNum kind sym add place) (8 * m) ∧ signedN (valNum kind sym add place) (8 * m) ≤ 4294967296 ∧
    0 ≤ sym ∧ sym ≤ 65535 ∧ 0 ≤ add ∧ add ≤ 65535 ∧
    ((kind = 1 ∧ valNum kind sym add place = sym + add) ∨ (kind = 2 ∧ place + signedN (valNum kind sym add place) (8 * m) = sym + add) ∨ (kind = 3 ∧ valNum kind sym add place = (sym + add) / 65536) ∨ (kind = 4 ∧ valNum kind sym add place = (sym + add) % 65536) ∨ (kind = 5 ∧ place + 2 * signedN (valNum kind sym add place) (8 * m) = sym + add)) := by
  rcases val_cases kind sym add place with ⟨_, e, _⟩ | ⟨_, _, e, _⟩ | ⟨hr, key⟩
  · omega
  · omega
  obtain ⟨s0, s1, p0, p1, a0, a1⟩ := valRange_true hr
  have sE : ∀ (n : Int) (m : Nat), 1 ≤ m → m ≤ 4 → 0 ≤ n → n < 256 ^ m → signedE n (8 * m) = 0 := by
    intro n m h1 h4 n0 n1
    unfold signedE
    rw [if_neg (by omega), pow8, if_neg (by omega)]
  have sN : ∀ (n : Int) (m : Nat), 1 ≤ m → m ≤ 4 → 0 ≤ n → n < 256 ^ m → signedN n (8 * m) = if 256 ^ m / 2 ≤ n then n - 256 ^ m else n := by
    intro n m h1 h4 n0 n1
    unfold signedN
    rw [if_neg (by omega), pow8, if_neg (by omega)]
  have q4 : (256 : Int) ^ 4 = 4294967296 := by decide
  have q3 : (256 : Int) ^ 3 = 16777216 := by decide
  have q2 : (256 : Int) ^ 2 = 65536 := by decide
  rcases key with ⟨rfl, _, hN⟩ | ⟨rfl, _, hN⟩ | ⟨rfl, _, hN⟩ | ⟨rfl, _, hN⟩ | ⟨rfl, _, e, _⟩ | ⟨rfl, hp, _, hN⟩
  · rw [hN]
    have n1 : sym + add < 256 ^ 4 := by rw [q4]; omega
    have t := sN (sym + add) 4 (by decide) (by decide) (by omega) n1
    rw [q4] at t
    refine ⟨4, rfl, by decide, by decide, by omega, n1, sE _ 4 (by decide) (by decide) (by omega) n1, ?_, ?_, s0, s1, a0, a1, .inl ⟨rfl, rfl⟩⟩
    · rw [t]; split <;> omega
    · rw [t]; split <;> omega
  · rw [hN]
    have n0 : 0 ≤ (sym + add - place) % 4294967296 := by omega
    have n1 : (sym + add - place) % 4294967296 < 256 ^ 4 := by rw [q4]; omega
    have t := sN _ 4 (by decide) (by decide) n0 n1
    rw [q4] at t
    refine ⟨4, rfl, by decide, by decide, n0, n1, sE _ 4 (by decide) (by decide) n0 n1, ?_, ?_, s0, s1, a0, a1, .inr (.inl ⟨rfl, ?_⟩)⟩
    · rw [t]; split <;> omega
    · rw [t]; split <;> omega
    · rw [t]; split <;> omega
  · rw [hN]
    have n1 : (sym + add) / 65536 < 256 ^ 2 := by rw [q2]; omega
    have t := sN _ 2 (by decide) (by decide) (show 0 ≤ (sym + add) / 65536 by omega) n1
    rw [q2] at t
    refine ⟨2, rfl, by decide, by decide, by omega, n1, sE _ 2 (by decide) (by decide) (by omega) n1, ?_, ?_, s0, s1, a0, a1, .inr (.inr (.inl ⟨rfl, rfl⟩))⟩
    · rw [t]; split <;> omega
    · rw [t]; split <;> omega
  · rw [hN]
    have n1 : (sym + add) % 65536 < 256 ^ 2 := by rw [q2]; omega
    have t := sN _ 2 (by decide) (by decide) (show 0 ≤ (sym + add) % 65536 by omega) n1
    rw [q2] at t
    refine ⟨2, rfl, by decide, by decide, by omega, n1, sE _ 2 (by decide) (by decide) (by omega) n1, ?_, ?_, s0, s1, a0, a1, .inr (.inr (.inr (.inl ⟨rfl, rfl⟩)))⟩
    · rw [t]; split <;> omega
    · rw [t]; split <;> omega
  · omega
  · rw [hN]
    have n0 : 0 ≤ ((sym + add - place) / 2) % 16777216 := by omega
    have n1 : ((sym + add - place) / 2) % 16777216 < 256 ^ 3 := by rw [q3]; omega
    have t := sN _ 3 (by decide) (by decide) n0 n1
    rw [q3] at t
    refine ⟨3, rfl, by decide, by decide, n0, n1, sE _ 3 (by decide) (by decide) n0 n1, ?_, ?_, s0, s1, a0, a1, .inr (.inr (.inr (.inr ⟨rfl, ?_⟩)))⟩
    · rw [t]; split <;> omega
    · rw [t]; split <;> omega
    · rw [t]; split <;> omega

theorem walk (s : ByteArray) (p : Pat) (sym base : Int) (w : World) (hs : s.size ≤ 140737488351232) (_ : (Lit.int .i64 sym).wf = true) (_ : (Lit.int .i64 base).wf = true) :
    Calls Try.prog 3 #[.string s, .agg #[.int .i64 p.kind, .int .i64 p.pos, .int .i64 p.sym, .int .i64 p.add], .int .i64 sym, .int .i64 base] w fun e w' => e = .returned (.bool true) ∧ Below w.heap.size w w' := by
  have HA := fun w => apply_any s p sym base w hs
  rcases app_cases s p sym base with ⟨h0, hE, hS⟩ | ⟨h0, _, hE, hS⟩ | ⟨h0, q1, q2, q3, q4, ⟨hv, hE, hS⟩ | ⟨hv, hE, hS⟩⟩
  · rw [hE, hS] at HA
    exact bad s _ _ _ _ sym base 7 w rfl HA
  · rw [hE, hS] at HA
    exact bad s _ _ _ _ sym base 3 w rfl HA
  · rw [hE, hS] at HA
    exact bad s _ _ _ _ sym base _ w (by simpa using hv) HA
  · rw [hE, hS] at HA
    obtain ⟨m, em, m1, m4, n0, n1, hsE, k0, k1, s0, s1, a0, a1, fin⟩ := tells _ _ _ _ hv
    obtain ⟨K, P, S, D⟩ := p
    dsimp only at *
    obtain ⟨a, rfl⟩ := Int.eq_ofNat_of_zero_le q1
    rw [em] at q2 HA
    rw [Int.toNat_natCast, Int.toNat_natCast] at HA
    have ha : a + m ≤ s.size := by omega
    have hz := putS_size s a m (valNum K sym D (base + a))
    have hg := getN_put s a m (valNum K sym D (base + a)) ha m1 m4
    rw [Int.emod_eq_of_lt n0 n1] at hg
    refine core s (putS s a m (valNum K sym D (base + a))) a m K S D sym base (valNum K sym D (base + a)) (signedN (valNum K sym D (base + a)) (8 * m)) w hs m4 ha hz (fun i hi => bt_put_out s a m _ i ha hi) q3 q4 a0 a1 s0 s1 k0 k1 HA ?_ ?_ ?_ fin
    · intro w
      have := patchWidth_any K w
      rwa [widthErr, if_neg h0, em] at this
    · intro w
      have := callsIn_wide.1 (get_ok_in (putS s a m (valNum K sym D (base + a))) a m w (by omega) m1 m4 (by omega))
      rwa [hg] at this
    · intro w
      have := signed_any (valNum K sym D (base + a)) (8 * m) w
      rwa [hsE] at this

end Go.Proofs.Ytaklbnabgcglhab.patchThere
