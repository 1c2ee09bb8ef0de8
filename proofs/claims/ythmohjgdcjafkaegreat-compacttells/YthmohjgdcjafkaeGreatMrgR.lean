/- Texts that are laid together. -/
import Derived.Test.YthmohjgdcjafkaeGreatMrgP
import Derived.Test.YthmohjgdcjafkaeGreatMrgK
import Derived.Test.YthmohjgdcjafkaeGreatMrgD
import Derived.Test.YthmohjgdcjafkaeGreatMrgA
import Derived.WalkSpells
import Derived.Test.YthmohjgdcjafkaeGreatMrgG
import Derived.Test.YthmohjgdcjafkaeGreatMrgB
import Derived.Lib.QuietBelow
import Derived.Test.YthmohjgdcjafkaeGreatMrgQ

/- The contract of the document's CheckRegions. -/
namespace Go.Proofs.YthmohjgdcjafkaeGreat
open Go.RowKit Go.PlainAid

set_option maxRecDepth 100000

set_option maxHeartbeats 4000000 in
theorem checkRegions_any (l : List PV) (v : Value) (w : World) (hrow : IsPlcs w.heap.size w v l) (hfit : ∀ x ∈ l, x.mod.fits) :
    Calls Tryz.prog 85 #[v] w fun e w' => e = .returned (.int .i64 (chkReg (l.map PV.plc))) ∧ Below w.heap.size w w' := by
  have HC : Hid (∀ W, Below w.heap.size w W → Calls Tryz.prog 124 #[v, .bool true, .bool true] W fun e w' => e = .returned (.int .i64 (if 8 < l.length then 2 else chkBy outErr (l.map PV.plc))) ∧ Below W.heap.size W w') := fun W hb => checkModules_whole l v W ((hrow.below hb).more hb.size) hfit
  have hat := hrow.2
  obtain ⟨⟨a, cap, rfl, hmax, hrow⟩, _⟩ := hrow
  have key := chkReg_cases (l.map PV.plc)
  rw [List.length_map] at key
  have hall : (∀ p ∈ l.map PV.plc, chkMod p.mod = 0 ∧ 0 ≤ p.first ∧ p.first + szM p.mod ≤ 16) → ∀ x ∈ l, x.mod.text.size ≤ 256 ∧ 0 ≤ x.first ∧ x.first + szM x.mod ≤ 16 := by
    intro h x hx
    obtain ⟨h1, h2, h3⟩ := h x.plc (List.mem_map_of_mem hx)
    exact ⟨(szM_bd h1).2.2.1, h2, h3⟩
  generalize chkReg (l.map PV.plc) = R at *
  generalize (if 8 < l.length then (2 : Int) else chkBy outErr (l.map PV.plc)) = cp at *
  go_enter Tryz.func85, Tryz.ntmps85
  go_wp2_with fail
  refine (HC.out w (Below.refl _ _)).mono ?_
  rintro e w2 ⟨rfl, B2⟩
  clear HC
  rcases key with ⟨h0, rfl⟩ | ⟨rfl, h0, rfl⟩
  · have h0' : (R != 0) = true := by simpa using h0
    clear hall hrow hat
    go_wp2
    go_ret
    exact ⟨rfl, B2⟩
  · have hx0 := hall h0
    clear hall h0
    go_wp2_with fail
    go_loopw [4] (fun i wr => ∃ (k m : Nat), i = .int .i64 k ∧ Hid (k = m + 1) ∧ ((l = [] ∧ m = 0) ∨ ∃ x, l[m]? = some x ∧ Hid (behind 0 (l.map PV.plc) = behind (x.first + szM x.mod) ((l.drop (m + 1)).map PV.plc))) ∧ Below w.heap.size w wr) (fun i _ => l.length + 1 - (intOf i).toNat)
    case atStart =>
      refine ⟨1, 0, rfl, (rfl : 1 = 0 + 1), ?_, B2⟩
      cases l with
      | nil => exact .inl ⟨rfl, rfl⟩
      | cons x l =>
        refine .inr ⟨x, rfl, ?_⟩
        show behind 0 ((x :: l).map PV.plc) = behind (x.first + szM x.mod) (((x :: l).drop (0 + 1)).map PV.plc)
        have h1 : behind 0 ((x :: l).map PV.plc) = (!decide (x.first < 0) && behind (x.first + szM x.mod) (l.map PV.plc)) := rfl
        have h2 := (hx0 x (by simp)).2.1
        rw [h1, decide_eq_false (by omega)]
        rfl
    case round =>
      obtain ⟨k, m, rfl, HK, hm, B⟩ := hrel
      rcases hm with ⟨rfl, rfl⟩ | ⟨x, hx, HC⟩
      · obtain rfl : k = 1 := HK.out
        go_wp2
        go_ret
        exact ⟨rfl, B⟩
      · have hml : m < l.length := (List.getElem?_eq_some_iff.1 hx).1
        by_cases hlt : k < l.length
        · obtain ⟨y, hy⟩ : ∃ y, l[k]? = some y := ⟨_, List.getElem?_eq_getElem hlt⟩
          rcases hrow with h | ⟨b, off, rfl, hbn, hcells⟩
          · subst h; simp at hlt
          have HR : Hid (behind 0 (l.map PV.plc) = (!decide (y.first < x.first + szM x.mod) && behind (y.first + szM y.mod) ((l.drop (k + 1)).map PV.plc))) := by
            show behind 0 (l.map PV.plc) = _
            rw [HC.out, ← HK.out, drop_at hy]; rfl
          have hxx := hx0 x (List.mem_of_getElem? hx)
          have HS : Hid (∀ W, Calls Tryz.prog 47 #[x.modV] W fun e w' => e = .returned (.int .i64 (szM x.mod : Int)) ∧ Below W.heap.size W w') := by
            intro W
            obtain ⟨⟨pe, ke, e4, _⟩, ⟨pi, ki, e5, _⟩, ⟨pp, kp, e6, _⟩⟩ := hat x (List.mem_of_getElem? hx)
            unfold PV.modV
            rw [e4, e5, e6]
            exact sizeOf_any _ _ _ _ _ _ _ _ _ _ _ _ _ _ hxx.1
          obtain ⟨⟨pe, ke, e4, _⟩, ⟨pi, ki, e5, _⟩, ⟨pp, kp, e6, _⟩⟩ := hat x (List.mem_of_getElem? hx)
          have d7 := (B.cell (p := ⟨b, off + k * 8 + 7, none⟩) hbn).trans (hcells k _ hy 7 (by omega))
          have HY : Hid (l[k]? = some y) := hy
          clear hy
          generalize hyf : y.first = yf at *
          generalize hsz : szM x.mod = sz at *
          obtain ⟨⟨N, ma, mi, T, es, is, ps⟩, ve, vi, vp, fi⟩ := x
          dsimp only at e4 e5 e6
          subst e4 e5 e6
          have c0 := (B.cell (p := ⟨b, off + m * 8 + 0, none⟩) hbn).trans (hcells m _ hx 0 (by omega))
          have c1 := (B.cell (p := ⟨b, off + m * 8 + 1, none⟩) hbn).trans (hcells m _ hx 1 (by omega))
          have c2 := (B.cell (p := ⟨b, off + m * 8 + 2, none⟩) hbn).trans (hcells m _ hx 2 (by omega))
          have c3 := (B.cell (p := ⟨b, off + m * 8 + 3, none⟩) hbn).trans (hcells m _ hx 3 (by omega))
          have c4 := (B.cell (p := ⟨b, off + m * 8 + 4, none⟩) hbn).trans (hcells m _ hx 4 (by omega))
          have c5 := (B.cell (p := ⟨b, off + m * 8 + 5, none⟩) hbn).trans (hcells m _ hx 5 (by omega))
          have c6 := (B.cell (p := ⟨b, off + m * 8 + 6, none⟩) hbn).trans (hcells m _ hx 6 (by omega))
          have c7 := (B.cell (p := ⟨b, off + m * 8 + 7, none⟩) hbn).trans (hcells m _ hx 7 (by omega))
          dsimp only [PV.cell] at c0 c1 c2 c3 c4 c5 c6 c7 d7
          dsimp only [PV.modV] at HS
          dsimp only at hxx HR
          rw [Nat.add_zero] at c0
          rw [hyf] at d7
          clear HC hcells hx hat hsz hx0
          obtain ⟨_, hf0, hf1⟩ := hxx
          generalize es.length = le at *
          generalize is.length = li at *
          generalize ps.length = lp at *
          have t0 := cell_regrown c0
          have t1 := cell_regrown c1
          have t2 := cell_regrown c2
          have t3 := cell_regrown c3
          have t4 := cell_regrown c4
          have t5 := cell_regrown c5
          have t6 := cell_regrown c6
          have t7 := cell_regrown c7
          have s7 := cell_regrown d7
          clear c0 c1 c2 c3 c4 c5 c6 c7 d7
          have hbd : l.length ≤ 9223372036854775807 := hmax
          have i0 : IntKind.i64.wrap ((k : Int) - 1) = (m : Int) := by have := HK.out; rw [i64_is]; unfold wrap64; omega
          have i1 : IntKind.i64.wrap (fi + (sz : Int)) = fi + (sz : Int) := by rw [i64_is]; unfold wrap64; omega
          by_cases hb : yf < fi + sz
          · have HZ : Hid (behind 0 (l.map PV.plc) = false) := by
              show behind 0 (l.map PV.plc) = false
              rw [HR.out, decide_eq_true hb]; rfl
            clear HR
            go_wp2_with fail
            refine wp_region_quiet_below (by kernel_rfl) (by kernel_rfl) ?_
            repeat (quiet_step ((go_at_call 47; go_must (exact Calls.regrown_of (HS.out _)))))
            refine wpQuiet_nil ?_
            intro _ hw'
            obtain ⟨⟨dq, osq⟩, hw''⟩ := hw'
            have B5 := B.trans ((below_regrown wr dq osq).mono B.size)
            rw [← hw''] at B5
            clear hw'' t0 t1 t2 t3 t4 t5 t6 t7 s7 HS
            go_wp2
            go_ret
            exact ⟨by rw [HZ.out]; rfl, B5⟩
          · have hb' : decide (yf < fi + sz) = false := decide_eq_false hb
            have HZ : Hid (behind 0 (l.map PV.plc) = behind (y.first + szM y.mod) ((l.drop (k + 1)).map PV.plc)) := by
              show behind 0 (l.map PV.plc) = _
              rw [HR.out, hb', hyf]; rfl
            clear HR
            go_wp2_with fail
            refine wp_region_quiet_below (by kernel_rfl) (by kernel_rfl) ?_
            repeat (quiet_step ((go_at_call 47; go_must (exact Calls.regrown_of (HS.out _)))))
            refine wpQuiet_nil ?_
            intro _ hw'
            obtain ⟨⟨dq, osq⟩, hw''⟩ := hw'
            have B5 := B.trans ((below_regrown wr dq osq).mono B.size)
            rw [← hw''] at B5
            clear hw'' t0 t1 t2 t3 t4 t5 t6 t7 s7 HS
            go_wp2
            exact ⟨⟨k + 1, k, by go_num, (rfl : k + 1 = k + 1), .inr ⟨y, HY.out, HZ.out⟩, B5⟩, by simp [intOf]; omega⟩
        · have hlt' : decide ((k : Int) < l.length) = false := decide_eq_false (by omega)
          have HZ : Hid (behind 0 (l.map PV.plc) = true) := by
            show behind 0 (l.map PV.plc) = true
            rw [HC.out, List.drop_eq_nil_of_le (by have := HK.out; omega)]; rfl
          go_wp2
          go_ret
          exact ⟨by rw [HZ.out]; rfl, B⟩

end Go.Proofs.YthmohjgdcjafkaeGreat

/- The contracts of the document's answers to numbers in bytes. -/
namespace Go.Proofs.YthmohjgdcjafkaeGreat
open Go.RowKit Go.PlainAid

theorem pow_le_31 (j : Nat) (h : j ≤ 31) : (1 : Int) ≤ 2 ^ j ∧ (2 : Int) ^ j ≤ 2147483648 := by
  constructor
  · have : (0 : Int) < 2 ^ j := Int.pow_pos (by omega)
    omega
  · have := Nat.pow_le_pow_right (n := 2) (by omega) h
    have h' : ((2 ^ j : Nat) : Int) ≤ ((2 ^ 31 : Nat) : Int) := Int.ofNat_le.2 this
    simpa using h'

set_option maxHeartbeats 400000 in
theorem power_any (k : Nat) (hk : k ≤ 32) (w : World) :
    Calls Tryz.prog 166 #[.int .i64 k] w fun e w' => e = .returned (.int .i64 (2 ^ k)) ∧ w' = w := by
  go_enter Tryz.func166, Tryz.ntmps166
  go_wp2
  go_loop [3, 4] (fun x i => ∃ (j : Nat) (p : Int), j ≤ k ∧ i = .int .i64 j ∧ x = .int .i64 p ∧ Hid (p = 2 ^ j)) (fun _ i => k - (intOf i).toNat)
  case atStart => exact ⟨0, 1, Nat.zero_le _, rfl, rfl, by show (1 : Int) = 2 ^ 0; rfl⟩
  case round =>
    obtain ⟨j, p, hj, rfl, rfl, HP⟩ := hrel
    by_cases hlt : j < k
    · obtain ⟨p1, p2⟩ := pow_le_31 j (by omega)
      rw [← HP.out] at p1 p2
      go_wp2
      go_round
      case rel => exact ⟨j + 1, 2 * p, by omega, by go_num, rfl, by show 2 * p = 2 ^ (j + 1); rw [HP.out, Int.pow_succ]; omega⟩
      case measure => simp [intOf]; omega
    · obtain rfl : j = k := by omega
      go_wp2
      go_ret
      exact ⟨by rw [← HP.out]; rfl, rfl⟩

theorem tmod_neg (n m : Int) (h0 : 0 < m) (h : n.tmod m < 0) : n % m = n.tmod m + m ∧ -m < n.tmod m := by
  have a := Int.emod_nonneg n (b := m) (by omega)
  have b := Int.emod_lt_of_pos n h0
  rw [Int.tmod_eq_emod] at h ⊢
  split at h
  · omega
  · rw [if_neg ‹_›]; omega
theorem tmod_nonneg (n m : Int) (h0 : 0 < m) (h : 0 ≤ n.tmod m) : n % m = n.tmod m := by
  have a := Int.emod_nonneg n (b := m) (by omega)
  have b := Int.emod_lt_of_pos n h0
  rw [Int.tmod_eq_emod] at h ⊢
  split at h
  · rw [if_pos ‹_›]; omega
  · omega

set_option maxHeartbeats 400000 in
theorem modulo_any (n m : Int) (h0 : 0 < m) (h1 : m ≤ 4294967296) (w : World) :
    Calls Tryz.prog 165 #[.int .i64 n, .int .i64 m] w fun e w' => e = .returned (.int .i64 (n % m)) ∧ w' = w := by
  have hne : (m == 0) = false := beq_eq_false_iff_ne.2 (by omega)
  have hne1 : (m == -1) = false := beq_eq_false_iff_ne.2 (by omega)
  by_cases h : n.tmod m < 0
  · obtain ⟨e1, e2⟩ := tmod_neg n m h0 h
    rw [e1]
    have HE : Hid (wrap64 (n.tmod m + m) = n.tmod m + m) := by show wrap64 (n.tmod m + m) = n.tmod m + m; unfold wrap64; omega
    clear e1
    go_enter Tryz.func165, Tryz.ntmps165
    go_wp2
    go_ret
    exact ⟨by first | rfl | (rw [← HE.out]; rfl), rfl⟩
  · have e1 := tmod_nonneg n m h0 (by omega)
    rw [e1]
    clear e1
    go_enter Tryz.func165, Tryz.ntmps165
    go_wp2
    go_ret
    exact ⟨rfl, rfl⟩

end Go.Proofs.YthmohjgdcjafkaeGreat

/- The contracts of the document's GetOf and BytesOf. -/
namespace Go.Proofs.YthmohjgdcjafkaeGreat
open Go.RowKit Go.PlainAid

theorem power8 (j : Nat) (hj : j ≤ 4) (w : World) : Calls Tryz.prog 166 #[.int .i64 (8 * (j : Int))] w fun e w' => e = .returned (.int .i64 (256 ^ j)) ∧ w' = w := by
  have := power_any (8 * j) (by omega) w
  rwa [pow_256, show ((8 * j : Nat) : Int) = 8 * (j : Int) from by omega] at this

theorem pow256_le (j : Nat) (h : j ≤ 4) : (1 : Int) ≤ 256 ^ j ∧ (256 : Int) ^ j ≤ 4294967296 := by
  have : j = 0 ∨ j = 1 ∨ j = 2 ∨ j = 3 ∨ j = 4 := by omega
  rcases this with rfl | rfl | rfl | rfl | rfl <;> decide

/-- The bytes of a number, the lesser ones first. -/
def bytesN (n : Int) (m : Nat) : ByteArray := ⟨((List.range m).map (byteOf n)).toArray⟩

theorem bytesN_size (n : Int) (m : Nat) : (bytesN n m).size = m := by
  show ((List.range m).map (byteOf n)).toArray.size = m
  simp
theorem byteOf_div (n : Int) (j : Nat) : byteOf (n / 256 ^ j) 0 = byteOf n j := by unfold byteOf; rw [Int.pow_zero, Int.ediv_one]
theorem bytesN_succ (n : Int) (j : Nat) : bytesN n j ++ (⟨#[byteOf (n / 256 ^ j) 0]⟩ : ByteArray) = bytesN n (j + 1) := by
  unfold bytesN
  rw [List.range_succ, List.map_append, byteOf_div, ByteArray.mk_append_mk]
  simp

theorem conv1 (W : World) (X : Int) : Sem.run Tryz.prog (convert 185 9 (.slice (some ⟨W.heap.size, 0, none⟩) 1 1)) (W.alloc (.cells #[.int .u8 (X % 256)] 5)) = .ok (.string ⟨#[byteOf X 0]⟩) (W.alloc (.cells #[.int .u8 (X % 256)] 5)) := by
  have h := run_convert_bytes_back (P := Tryz.prog) (W.alloc (.cells #[.int .u8 (X % 256)] 5)) 185 9 5 ⟨W.heap.size, 0, none⟩ 1 [byteOf X 0] Tryz.underlying185 Tryz.underlying5 Tryz.underlying9
    (fun j hj => by
      obtain rfl : j = 0 := by simpa using hj
      have e := byteOf_toNat X 0
      simp only [Int.pow_zero, Int.ediv_one] at e
      rw [List.getElem_cons_zero, e]
      simp [Addr.add])
  exact h

set_option maxHeartbeats 1000000 in
theorem bytesOf_any (n : Int) (m : Nat) (w : World) (hm : m ≤ 4) :
    Calls Tryz.prog 148 #[.int .i64 n, .int .i64 m] w fun e w' => e = .returned (.string (bytesN n m)) ∧ Below w.heap.size w w' := by
  obtain ⟨p1, p2⟩ := pow256_le m hm
  have HP : Hid (∀ w, Calls Tryz.prog 166 #[.int .i64 (8 * (m : Int))] w fun e w' => e = .returned (.int .i64 (256 ^ m)) ∧ w' = w) := fun w => power8 m hm w
  have HM : Hid (∀ w, Calls Tryz.prog 165 #[.int .i64 n, .int .i64 (256 ^ m)] w fun e w' => e = .returned (.int .i64 (n % 256 ^ m)) ∧ w' = w) := fun w => modulo_any n _ (by omega) p2 w
  have n0 := Int.emod_nonneg n (b := 256 ^ m) (by omega)
  have n1 := Int.emod_lt_of_pos n (b := 256 ^ m) (by omega)
  have HB : Hid (∀ j, j < m → byteOf (n % 256 ^ m) j = byteOf n j) := by
    intro j hj
    unfold byteOf
    rw [(same_bytes n m j (by omega) hm hj).1]
  have HBN : Hid (bytesN (n % 256 ^ m) m = bytesN n m) := by
    show bytesN (n % 256 ^ m) m = bytesN n m
    unfold bytesN
    rw [List.map_congr_left (fun j hj => HB.out j (List.mem_range.1 hj))]
  rw [← HBN.out]
  clear HB HBN
  generalize n % 256 ^ m = N at *
  generalize (256 : Int) ^ m = P at *
  go_enter Tryz.func148, Tryz.ntmps148
  go_wp2_with (first
    | (go_at_call 166; refine (HP.out _).mono ?_; rintro e w ⟨rfl, rfl⟩)
    | (go_at_call 165; refine (HM.out _).mono ?_; rintro e w ⟨rfl, rfl⟩))
  go_loopw [0, 5, 6] (fun x s i wr => ∃ (j : Nat) (X : Int) (S : ByteArray), j ≤ m ∧ i = .int .i64 j ∧ x = .int .i64 X ∧ s = .string S ∧ 0 ≤ X ∧ X ≤ 4294967296 ∧ S.size = j ∧ Hid (X = N / 256 ^ j) ∧ Hid (S = bytesN N j) ∧ Below w.heap.size w wr) (fun _ _ i _ => m - (intOf i).toNat)
  case atStart => exact ⟨0, N, ⟨#[]⟩, Nat.zero_le _, rfl, rfl, rfl, n0, by omega, rfl, by show N = N / 256 ^ 0; simp, rfl, Below.refl _ _⟩
  case round =>
    obtain ⟨j, X, S, hj, rfl, rfl, rfl, x0, x1, hsz, HX, HS, B⟩ := hrel
    by_cases hlt : j < m
    · have HSZ : Hid (S.size = j) := hsz
      clear hsz
      obtain ⟨E, HE⟩ : ∃ E : ByteArray, Hid (E = ⟨#[byteOf X 0]⟩) := ⟨_, rfl⟩
      have hcv := conv1 wr X
      rw [← HE.out] at hcv
      have hE : E.size ≤ 1 := by rw [HE.out]; exact Nat.le_refl _
      have hS : S.size ≤ 4 := by rw [HSZ.out]; omega
      have hadd : ∀ W, Sem.run Tryz.prog (Op.stringOp .add S E) W = .ok (.string (S ++ E)) W := fun W => run_string_add_sum W S E (by omega)
      have HS2 : Hid (S ++ E = bytesN N (j + 1)) := by
        show S ++ E = bytesN N (j + 1)
        rw [HS.out, HE.out, HX.out, bytesN_succ]
      have HX2 : Hid (X / 256 = N / 256 ^ (j + 1)) := by
        show X / 256 = N / 256 ^ (j + 1)
        rw [HX.out]
        have : j = 0 ∨ j = 1 ∨ j = 2 ∨ j = 3 := by omega
        rcases this with rfl | rfl | rfl | rfl <;> omega
      have HZ2 : Hid ((S ++ E).size = j + 1) := by
        show (S ++ E).size = j + 1
        rw [HS2.out, bytesN_size]
      go_wp2
      exact ⟨⟨j + 1, X / 256, S ++ E, by omega, by go_num, rfl, rfl, by omega, by omega, HZ2.out, HX2.out, HS2.out, B.alloc B.size _⟩, by simp [intOf]; omega⟩
    · obtain rfl : j = m := by omega
      go_wp2
      go_ret
      exact ⟨by rw [← HS.out]; rfl, B⟩

end Go.Proofs.YthmohjgdcjafkaeGreat

/- The contracts of the document's answers to patches. -/
namespace Go.Proofs.YthmohjgdcjafkaeGreat
open Go.RowKit Go.PlainAid

set_option maxRecDepth 100000

theorem power_lit (k : Nat) (p : Int) (hk : k ≤ 32) (hp : (2 : Int) ^ k = p) (w : World) : Calls Tryz.prog 166 #[.int .i64 k] w fun e w' => e = .returned (.int .i64 p) ∧ w' = w := by
  have := power_any k hk w
  rwa [hp] at this

set_option maxHeartbeats 2000000 in
theorem valueOf_any (kind sym add place : Int) (w : World) :
    Calls Tryz.prog 147 #[.int .i64 kind, .int .i64 sym, .int .i64 add, .int .i64 place] w fun e w' => e = .returned (.tuple #[.int .i64 (valNum kind sym add place), .int .i64 (valErr kind sym add place)]) ∧ w' = w := by
  rcases val_cases kind sym add place with ⟨h0, hE, hN⟩ | ⟨h0, hr, hE, hN⟩ | ⟨hr, key⟩
  · rw [hE, hN]
    have HW : Hid (∀ w, Calls Tryz.prog 93 #[.int .i64 kind] w fun e w' => e = .returned (.int .i64 0) ∧ w' = w) := fun w => by
      have := widthOf_any kind w
      rwa [h0] at this
    clear h0 hE hN
    go_enter Tryz.func147, Tryz.ntmps147
    go_wp2_with (go_at_call 93; refine (HW.out _).mono ?_; rintro e w' ⟨rfl, rfl⟩)
    go_ret2
    exact ⟨rfl, rfl⟩
  · rw [hE, hN]
    have HW : Hid (∀ w, Calls Tryz.prog 93 #[.int .i64 kind] w fun e w' => e = .returned (.int .i64 (width kind)) ∧ w' = w) := fun w => widthOf_any kind w
    have h0' : (width kind == 0) = false := beq_eq_false_iff_ne.2 h0
    clear h0 hE hN
    generalize width kind = wd at HW h0'
    unfold valRange at hr
    cases h1 : betw sym 0 65535
    · clear hr
      go_enter Tryz.func147, Tryz.ntmps147
      go_wp2_with (first | (go_at_call 93; refine (HW.out _).mono ?_; rintro e w' ⟨rfl, rfl⟩) | (go_at_call 90; refine (between_any _ _ _ _).mono ?_; rintro e w' ⟨rfl, rfl⟩))
      go_ret2
      exact ⟨rfl, rfl⟩
    cases h2 : betw place 0 65535
    · clear hr
      go_enter Tryz.func147, Tryz.ntmps147
      go_wp2_with (first | (go_at_call 93; refine (HW.out _).mono ?_; rintro e w' ⟨rfl, rfl⟩) | (go_at_call 90; refine (between_any _ _ _ _).mono ?_; rintro e w' ⟨rfl, rfl⟩))
      go_ret2
      exact ⟨rfl, rfl⟩
    rw [h1, h2] at hr
    have h3 : betw add 0 65535 = false := by simpa using hr
    clear hr
    go_enter Tryz.func147, Tryz.ntmps147
    go_wp2_with (first | (go_at_call 93; refine (HW.out _).mono ?_; rintro e w' ⟨rfl, rfl⟩) | (go_at_call 90; refine (between_any _ _ _ _).mono ?_; rintro e w' ⟨rfl, rfl⟩))
    go_ret2
    exact ⟨rfl, rfl⟩
  · obtain ⟨s0, s1, p0, p1, a0, a1⟩ := valRange_true hr
    have h1 : betw sym 0 65535 = true := betw_true s0 s1
    have h2 : betw place 0 65535 = true := betw_true p0 p1
    have h3 : betw add 0 65535 = true := betw_true a0 a1
    clear hr
    rcases key with ⟨rfl, hE, hN⟩ | ⟨rfl, hE, hN⟩ | ⟨rfl, hE, hN⟩ | ⟨rfl, hE, hN⟩ | ⟨rfl, hp, hE, hN⟩ | ⟨rfl, hp, hE, hN⟩
    all_goals rw [hE, hN]; clear hE hN
    · have HW : Hid (∀ w, Calls Tryz.prog 93 #[.int .i64 1] w fun e w' => e = .returned (.int .i64 4) ∧ w' = w) := fun w => widthOf_any 1 w
      have HP : Hid (∀ w, Calls Tryz.prog 166 #[.int .i64 32] w fun e w' => e = .returned (.int .i64 4294967296) ∧ w' = w) := fun w => power_lit 32 _ (by decide) (by decide) w
      have HM : Hid (∀ w, Calls Tryz.prog 165 #[.int .i64 (sym + add), .int .i64 4294967296] w fun e w' => e = .returned (.int .i64 (sym + add)) ∧ w' = w) := fun w => by
        have := modulo_any (sym + add) 4294967296 (by decide) (by decide) w
        rwa [Int.emod_eq_of_lt (by omega) (by omega)] at this
      go_enter Tryz.func147, Tryz.ntmps147
      go_wp2_with (first | (go_at_call 93; refine (HW.out _).mono ?_; rintro e w' ⟨rfl, rfl⟩) | (go_at_call 90; refine (between_any _ _ _ _).mono ?_; rintro e w' ⟨rfl, rfl⟩) | (go_at_call 166; refine (HP.out _).mono ?_; rintro e w' ⟨rfl, rfl⟩) | (go_at_call 165; refine (HM.out _).mono ?_; rintro e w' ⟨rfl, rfl⟩))
      go_ret2
      exact ⟨rfl, rfl⟩
    · have HW : Hid (∀ w, Calls Tryz.prog 93 #[.int .i64 2] w fun e w' => e = .returned (.int .i64 4) ∧ w' = w) := fun w => widthOf_any 2 w
      have HP : Hid (∀ w, Calls Tryz.prog 166 #[.int .i64 32] w fun e w' => e = .returned (.int .i64 4294967296) ∧ w' = w) := fun w => power_lit 32 _ (by decide) (by decide) w
      have HM : Hid (∀ w, Calls Tryz.prog 165 #[.int .i64 (sym + add - place), .int .i64 4294967296] w fun e w' => e = .returned (.int .i64 ((sym + add - place) % 4294967296)) ∧ w' = w) := fun w => modulo_any _ 4294967296 (by decide) (by decide) w
      generalize (sym + add - place) % 4294967296 = R at HM ⊢
      go_enter Tryz.func147, Tryz.ntmps147
      go_wp2_with (first | (go_at_call 93; refine (HW.out _).mono ?_; rintro e w' ⟨rfl, rfl⟩) | (go_at_call 90; refine (between_any _ _ _ _).mono ?_; rintro e w' ⟨rfl, rfl⟩) | (go_at_call 166; refine (HP.out _).mono ?_; rintro e w' ⟨rfl, rfl⟩) | (go_at_call 165; refine (HM.out _).mono ?_; rintro e w' ⟨rfl, rfl⟩))
      go_ret2
      exact ⟨rfl, rfl⟩
    · have HW : Hid (∀ w, Calls Tryz.prog 93 #[.int .i64 3] w fun e w' => e = .returned (.int .i64 2) ∧ w' = w) := fun w => widthOf_any 3 w
      have HP : Hid (∀ w, Calls Tryz.prog 166 #[.int .i64 16] w fun e w' => e = .returned (.int .i64 65536) ∧ w' = w) := fun w => power_lit 16 _ (by decide) (by decide) w
      have HM : Hid (∀ w, Calls Tryz.prog 165 #[.int .i64 ((sym + add) / 65536), .int .i64 65536] w fun e w' => e = .returned (.int .i64 ((sym + add) / 65536)) ∧ w' = w) := fun w => by
        have := modulo_any ((sym + add) / 65536) 65536 (by decide) (by decide) w
        rwa [Int.emod_eq_of_lt (by omega) (by omega)] at this
      go_enter Tryz.func147, Tryz.ntmps147
      go_wp2_with (first | (go_at_call 93; refine (HW.out _).mono ?_; rintro e w' ⟨rfl, rfl⟩) | (go_at_call 90; refine (between_any _ _ _ _).mono ?_; rintro e w' ⟨rfl, rfl⟩) | (go_at_call 166; refine (HP.out _).mono ?_; rintro e w' ⟨rfl, rfl⟩) | (go_at_call 165; refine (HM.out _).mono ?_; rintro e w' ⟨rfl, rfl⟩))
      go_ret2
      exact ⟨rfl, rfl⟩
    · have HW : Hid (∀ w, Calls Tryz.prog 93 #[.int .i64 4] w fun e w' => e = .returned (.int .i64 2) ∧ w' = w) := fun w => widthOf_any 4 w
      have HP : Hid (∀ w, Calls Tryz.prog 166 #[.int .i64 16] w fun e w' => e = .returned (.int .i64 65536) ∧ w' = w) := fun w => power_lit 16 _ (by decide) (by decide) w
      have HM : Hid (∀ w, Calls Tryz.prog 165 #[.int .i64 (sym + add), .int .i64 65536] w fun e w' => e = .returned (.int .i64 ((sym + add) % 65536)) ∧ w' = w) := fun w => modulo_any _ 65536 (by decide) (by decide) w
      generalize (sym + add) % 65536 = R at HM ⊢
      go_enter Tryz.func147, Tryz.ntmps147
      go_wp2_with (first | (go_at_call 93; refine (HW.out _).mono ?_; rintro e w' ⟨rfl, rfl⟩) | (go_at_call 90; refine (between_any _ _ _ _).mono ?_; rintro e w' ⟨rfl, rfl⟩) | (go_at_call 166; refine (HP.out _).mono ?_; rintro e w' ⟨rfl, rfl⟩) | (go_at_call 165; refine (HM.out _).mono ?_; rintro e w' ⟨rfl, rfl⟩))
      go_ret2
      exact ⟨rfl, rfl⟩
    · have HW : Hid (∀ w, Calls Tryz.prog 93 #[.int .i64 5] w fun e w' => e = .returned (.int .i64 3) ∧ w' = w) := fun w => widthOf_any 5 w
      have HM : Hid (∀ w, Calls Tryz.prog 165 #[.int .i64 (sym + add - place), .int .i64 2] w fun e w' => e = .returned (.int .i64 1) ∧ w' = w) := fun w => by
        have := modulo_any (sym + add - place) 2 (by decide) (by decide) w
        rwa [hp] at this
      clear hp
      go_enter Tryz.func147, Tryz.ntmps147
      go_wp2_with (first | (go_at_call 93; refine (HW.out _).mono ?_; rintro e w' ⟨rfl, rfl⟩) | (go_at_call 90; refine (between_any _ _ _ _).mono ?_; rintro e w' ⟨rfl, rfl⟩) | (go_at_call 165; refine (HM.out _).mono ?_; rintro e w' ⟨rfl, rfl⟩))
      go_ret2
      exact ⟨rfl, rfl⟩
    · have HW : Hid (∀ w, Calls Tryz.prog 93 #[.int .i64 5] w fun e w' => e = .returned (.int .i64 3) ∧ w' = w) := fun w => widthOf_any 5 w
      have HM : Hid (∀ w, Calls Tryz.prog 165 #[.int .i64 (sym + add - place), .int .i64 2] w fun e w' => e = .returned (.int .i64 0) ∧ w' = w) := fun w => by
        have := modulo_any (sym + add - place) 2 (by decide) (by decide) w
        rwa [hp] at this
      have HP : Hid (∀ w, Calls Tryz.prog 166 #[.int .i64 24] w fun e w' => e = .returned (.int .i64 16777216) ∧ w' = w) := fun w => power_lit 24 _ (by decide) (by decide) w
      have HM2 : Hid (∀ w, Calls Tryz.prog 165 #[.int .i64 ((sym + add - place).tdiv 2), .int .i64 16777216] w fun e w' => e = .returned (.int .i64 (((sym + add - place) / 2) % 16777216)) ∧ w' = w) := fun w => by
        have := modulo_any ((sym + add - place).tdiv 2) 16777216 (by decide) (by decide) w
        rwa [tdiv2_even _ hp] at this ⊢
      have hb : betw (sym + add - place) (-16777216) 16777215 = true := betw_true (by omega) (by omega)
      generalize ((sym + add - place) / 2) % 16777216 = R at HM2 ⊢
      clear hp
      go_enter Tryz.func147, Tryz.ntmps147
      go_wp2_with (first | (go_at_call 93; refine (HW.out _).mono ?_; rintro e w' ⟨rfl, rfl⟩) | (go_at_call 90; refine (between_any _ _ _ _).mono ?_; rintro e w' ⟨rfl, rfl⟩))
      refine (HM.out _).mono ?_
      rintro e w1 ⟨rfl, rfl⟩
      go_wp2_with (first | (go_at_call 90; refine (between_any _ _ _ _).mono ?_; rintro e w' ⟨rfl, rfl⟩) | (go_at_call 166; refine (HP.out _).mono ?_; rintro e w' ⟨rfl, rfl⟩))
      refine (HM2.out _).mono ?_
      rintro e w2 ⟨rfl, rfl⟩
      go_wp2
      go_ret2
      exact ⟨rfl, rfl⟩

theorem joined_put (s : ByteArray) (a m : Nat) (n : Int) (h : a + m ≤ s.size) : s.extract 0 a ++ bytesN n m ++ s.extract (a + m) s.size = putS s a m n := by
  apply ByteArray.ext
  apply Array.toList_inj.1
  have e1 : (putS s a m n).data.toList = putFold s a n (List.range m) := by simp [putS]
  have hl : s.data.toList.length = s.size := by simp
  rw [e1]
  have e2 : (s.extract 0 a ++ bytesN n m ++ s.extract (a + m) s.size).data.toList = s.data.toList.take a ++ (List.range m).map (byteOf n) ++ s.data.toList.drop (a + m) := by
    simp only [ByteArray.data_append, ByteArray.data_extract, Array.toList_append, Array.toList_extract, bytesN, List.extract_eq_take_drop, List.drop_zero, Nat.sub_zero]
    rw [List.take_of_length_le (l := List.drop (a + m) s.data.toList) (by rw [List.length_drop]; omega)]
  rw [e2]
  apply List.ext_getElem?
  intro i
  rw [putFold_at s a n m i h]
  have l1 : (s.data.toList.take a).length = a := by rw [List.length_take]; omega
  by_cases c1 : i < a
  · rw [if_neg (by omega), List.append_assoc, List.getElem?_append_left (by omega), List.getElem?_take_of_lt c1]
  · rw [List.append_assoc, List.getElem?_append_right (by omega), l1]
    by_cases c2 : i < a + m
    · rw [if_pos (by omega), List.getElem?_append_left (by simp; omega)]
      have hi : i - a < m := by omega
      simp [hi]
    · rw [if_neg (by omega), List.getElem?_append_right (by simp; omega), List.getElem?_drop]
      simp
      congr 1
      omega

theorem addr_cases (p : Pat) (len base : Int) : (betw p.add 0 65535 && betw p.pos 0 (len - width p.kind) && betw base 0 65279) = false → betw p.add 0 65535 = false ∨ betw p.add 0 65535 = true ∧ betw p.pos 0 (len - width p.kind) = false ∨ betw p.add 0 65535 = true ∧ betw p.pos 0 (len - width p.kind) = true ∧ betw base 0 65279 = false := by
  intro h
  cases h1 : betw p.add 0 65535
  · exact .inl rfl
  cases h2 : betw p.pos 0 (len - width p.kind)
  · exact .inr (.inl ⟨rfl, rfl⟩)
  · rw [h1, h2] at h
    exact .inr (.inr ⟨rfl, rfl, by simpa using h⟩)

set_option maxHeartbeats 2000000 in
theorem applyOf_good (s E t : ByteArray) (K S D sym base n : Int) (a m : Nat) (w : World) (hs : s.size ≤ 140737488351232) (hm0 : 1 ≤ m) (hm : m ≤ 4) (ha : a + m ≤ s.size) (hE : E.size ≤ 4) (hT : s.extract 0 a ++ E ++ s.extract (a + m) s.size = t)
    (h1 : betw D 0 65535 = true) (h2 : betw a 0 (s.size - m) = true) (h3 : betw base 0 65279 = true) (b0 : 0 ≤ base) (b1 : base ≤ 65279)
    (HW : Hid (∀ w, Calls Tryz.prog 93 #[.int .i64 K] w fun e w' => e = .returned (.int .i64 m) ∧ w' = w))
    (HV : Hid (∀ w, Calls Tryz.prog 147 #[.int .i64 K, .int .i64 sym, .int .i64 D, .int .i64 (base + a)] w fun e w' => e = .returned (.tuple #[.int .i64 n, .int .i64 0]) ∧ w' = w))
    (HB : Hid (∀ w, Calls Tryz.prog 148 #[.int .i64 n, .int .i64 m] w fun e w' => e = .returned (.string E) ∧ Below w.heap.size w w')) :
    Calls Tryz.prog 126 #[.string s, .agg #[.int .i64 K, .int .i64 a, .int .i64 S, .int .i64 D], .int .i64 sym, .int .i64 base] w fun e w' => e = .returned (.tuple #[.string t, .int .i64 0]) ∧ Below w.heap.size w w' := by
  have i0 : IntKind.i64.wrap ((a : Int) + m) = (a : Int) + m := by rw [i64_is]; unfold wrap64; omega
  have f0 : (a : Int) ≤ s.size := by omega
  have f1 : (a : Int) + m ≤ s.size := by omega
  have f2 : 0 ≤ (a : Int) + m := by omega
  have c1 : ¬ (9223372036854775807 < min a s.size + E.size) := by omega
  have c2 : ¬ (9223372036854775807 < min a s.size + E.size + (s.size - (a + m))) := by omega
  have f3 : ((a : Int) + m).toNat = a + m := by omega
  have hne : ((m : Int) == 0) = false := beq_eq_false_iff_ne.2 (by omega)
  go_enter Tryz.func126, Tryz.ntmps126
  go_wp2_with (first | (go_at_call 93; refine (HW.out _).mono ?_; rintro e w' ⟨rfl, rfl⟩) | (go_at_call 90; refine (between_any _ _ _ _).mono ?_; rintro e w' ⟨rfl, rfl⟩) | (go_at_call 147; refine (HV.out _).mono ?_; rintro e w' ⟨rfl, rfl⟩))
  have g1 : (w.alloc (.cells #[.int .i64 K, .int .i64 a, .int .i64 S, .int .i64 D] 102)).cell? ⟨w.heap.size, 1, none⟩ = some (.int .i64 a) := by simp
  have B0 : Below w.heap.size w (w.alloc (.cells #[.int .i64 K, .int .i64 a, .int .i64 S, .int .i64 D] 102)) := (Below.refl _ _).alloc (Nat.le_refl _) _
  have z0 : w.heap.size < (w.alloc (.cells #[.int .i64 K, .int .i64 a, .int .i64 S, .int .i64 D] 102)).heap.size := by simp
  generalize w.alloc (.cells #[.int .i64 K, .int .i64 a, .int .i64 S, .int .i64 D] 102) = W1 at g1 B0 z0 ⊢
  have k1 := cell_regrown g1
  refine wp_region_quiet_below (by kernel_rfl) (by kernel_rfl) ?_
  repeat (quiet_step ((go_at_call 148; go_must (exact Calls.regrown_of (HB.out _)))))
  refine wpQuiet_nil ?_
  intro _ hw'
  obtain ⟨⟨dq, osq⟩, hw''⟩ := hw'
  have B5 := B0.trans ((below_regrown W1 dq osq).mono B0.size)
  rw [← hw''] at B5
  clear hw''
  go_wp2
  go_ret2
  exact ⟨rfl, B5⟩

set_option maxHeartbeats 2000000 in
theorem applyOf_any (s : ByteArray) (p : Pat) (sym base : Int) (w : World) (hs : s.size ≤ 140737488351232) :
    Calls Tryz.prog 126 #[.string s, .agg #[.int .i64 p.kind, .int .i64 p.pos, .int .i64 p.sym, .int .i64 p.add], .int .i64 sym, .int .i64 base] w fun e w' => e = .returned (.tuple #[.string (appStr s p sym base), .int .i64 (appErr s.size p sym base)]) ∧ Below w.heap.size w w' := by
  have HW : Hid (∀ w, Calls Tryz.prog 93 #[.int .i64 p.kind] w fun e w' => e = .returned (.int .i64 (width p.kind)) ∧ w' = w) := fun w => widthOf_any _ w
  have HV : Hid (∀ w, Calls Tryz.prog 147 #[.int .i64 p.kind, .int .i64 sym, .int .i64 p.add, .int .i64 (base + p.pos)] w fun e w' => e = .returned (.tuple #[.int .i64 (valNum p.kind sym p.add (base + p.pos)), .int .i64 (valErr p.kind sym p.add (base + p.pos))]) ∧ w' = w) := fun w => valueOf_any _ _ _ _ w
  have hB := width_bd p.kind
  by_cases h0 : width p.kind = 0
  · have e1 : appErr s.size p sym base = 7 := by rw [appErr, if_pos h0]
    have e2 : appStr s p sym base = ⟨#[]⟩ := by rw [appStr, e1, if_neg (by decide)]
    rw [e1, e2]
    rw [h0] at HW
    clear e1 e2 h0 hB HV
    obtain ⟨K, A, S, D⟩ := p
    dsimp only at *
    go_enter Tryz.func126, Tryz.ntmps126
    go_wp2_with (go_at_call 93; refine (HW.out _).mono ?_; rintro e w' ⟨rfl, rfl⟩)
    go_ret2
    exact ⟨rfl, (Below.refl _ _).alloc (Nat.le_refl _) _⟩
  have hne : (width p.kind == 0) = false := beq_eq_false_iff_ne.2 h0
  cases hr : (betw p.add 0 65535 && betw p.pos 0 (s.size - width p.kind) && betw base 0 65279)
  · have e1 : appErr s.size p sym base = 3 := by rw [appErr, if_neg h0, if_pos hr]
    have e2 : appStr s p sym base = ⟨#[]⟩ := by rw [appStr, e1, if_neg (by decide)]
    rw [e1, e2]
    have key := addr_cases p s.size base hr
    clear e1 e2 h0 HV hr
    obtain ⟨K, A, S, D⟩ := p
    dsimp only at *
    generalize width K = wd at *
    rcases key with h1 | ⟨h1, h2⟩ | ⟨h1, h2, h3⟩
    all_goals
      go_enter Tryz.func126, Tryz.ntmps126
      go_wp2_with (first | (go_at_call 93; refine (HW.out _).mono ?_; rintro e w' ⟨rfl, rfl⟩) | (go_at_call 90; refine (between_any _ _ _ _).mono ?_; rintro e w' ⟨rfl, rfl⟩))
      go_ret2
      exact ⟨rfl, (Below.refl _ _).alloc (Nat.le_refl _) _⟩
  have hr' := hr
  simp only [Bool.and_eq_true] at hr'
  obtain ⟨⟨h1, h2⟩, h3⟩ := hr'
  have q1 := betw_iff.1 h2
  have q2 := betw_iff.1 h3
  have e1 : appErr s.size p sym base = valErr p.kind sym p.add (base + p.pos) := by rw [appErr, if_neg h0, hr, if_neg (by decide)]
  by_cases hv : valErr p.kind sym p.add (base + p.pos) = 0
  · have e2 : appStr s p sym base = putS s p.pos.toNat (width p.kind).toNat (valNum p.kind sym p.add (base + p.pos)) := by rw [appStr, e1, hv, if_pos rfl]
    rw [e1, hv, e2]
    rw [hv] at HV
    obtain ⟨m, em⟩ := Int.eq_ofNat_of_zero_le hB.1
    obtain ⟨K, A, S, D⟩ := p
    dsimp only at *
    obtain ⟨a, rfl⟩ := Int.eq_ofNat_of_zero_le q1.1
    rw [em] at HW h2 q1 hB h0 ⊢
    rw [Int.toNat_natCast, Int.toNat_natCast]
    have ha : a + m ≤ s.size := by omega
    exact applyOf_good s (bytesN (valNum K sym D (base + a)) m) _ K S D sym base (valNum K sym D (base + a)) a m w hs (by omega) (by omega) ha (by rw [bytesN_size]; omega) (joined_put s a m _ ha) h1 h2 h3 q2.1 q2.2 HW HV (fun w => bytesOf_any _ m w (by omega))
  · have e2 : appStr s p sym base = ⟨#[]⟩ := by rw [appStr, e1, if_neg hv]
    rw [e1, e2]
    have hv' : (valErr p.kind sym p.add (base + p.pos) != 0) = true := by simpa using hv
    clear e1 e2 h0 hr hv
    obtain ⟨K, A, S, D⟩ := p
    dsimp only at *
    generalize valErr K sym D (base + A) = ve at *
    generalize valNum K sym D (base + A) = vn at *
    generalize width K = wd at *
    go_enter Tryz.func126, Tryz.ntmps126
    go_wp2_with (first | (go_at_call 93; refine (HW.out _).mono ?_; rintro e w' ⟨rfl, rfl⟩) | (go_at_call 90; refine (between_any _ _ _ _).mono ?_; rintro e w' ⟨rfl, rfl⟩) | (go_at_call 147; refine (HV.out _).mono ?_; rintro e w' ⟨rfl, rfl⟩))
    go_ret2
    exact ⟨rfl, (Below.refl _ _).alloc (Nat.le_refl _) _⟩

end Go.Proofs.YthmohjgdcjafkaeGreat

/- The contracts of the document's CheckLink and ImageOf. -/
namespace Go.Proofs.YthmohjgdcjafkaeGreat
open Go.RowKit Go.PlainAid

set_option maxRecDepth 100000

def sizeV : Value → Nat
  | .string s => s.size
  | _ => 0

set_option maxHeartbeats 4000000 in
theorem checkLink_any (K : Ker) (vk : Value) (l : List PV) (v : Value) (w : World) (hK : IsKer w.heap.size w vk K) (hf : K.fits) (hrow : IsPlcs w.heap.size w v l) (hfit : ∀ x ∈ l, x.mod.fits) :
    Calls Tryz.prog 41 #[vk, v] w fun e w' => e = .returned (.int .i64 (chkLink K (l.map PV.plc))) ∧ Below w.heap.size w w' := by
  have HC : Hid (∀ W, Below w.heap.size w W → Calls Tryz.prog 84 #[vk] W fun e w' => e = .returned (.int .i64 (chkKer K)) ∧ Below W.heap.size W w') := fun W hb => checkKernel_any K vk W ((hK.below hb).more hb.size) hf
  have HF : Hid (∀ W, Below w.heap.size w W → Calls Tryz.prog 85 #[v] W fun e w' => e = .returned (.int .i64 (chkReg (l.map PV.plc))) ∧ Below W.heap.size W w') := fun W hb => checkRegions_any l v W ((hrow.below hb).more hb.size) hfit
  have HO : Hid (∀ W, Below w.heap.size w W → Calls Tryz.prog 86 #[v] W fun e w' => e = .returned (.bool (twiceFrom [] (l.map PV.plc))) ∧ Below W.heap.size W w') := fun W hb => isTwice_any l v W (((hrow.below hb).more hb.size).1)
  have key := chkLink_cases K (l.map PV.plc)
  generalize chkLink K (l.map PV.plc) = cl at *
  obtain ⟨vke, rfl, hE⟩ := hK
  obtain ⟨qe, je, rfl, _, _⟩ := hE
  obtain ⟨⟨a, cap, rfl, _, _⟩, _⟩ := hrow
  generalize chkKer K = ck at *
  generalize l.map PV.plc = L at *
  generalize chkReg L = cr at *
  generalize twiceFrom [] L = tw at *
  obtain ⟨ma, mi, ks⟩ := K
  dsimp only at *
  clear hf hfit
  generalize ks.length = lk at *
  generalize l.length = ll at *
  have B1 : Below w.heap.size w (w.alloc (.cells #[.int .i64 ma, .int .i64 mi, .slice qe lk je] 24)) := (Below.refl _ _).alloc (Nat.le_refl _) _
  go_enter Tryz.func41, Tryz.ntmps41
  go_wp2_with fail
  refine (HC.out _ B1).mono ?_
  rintro e w2 ⟨rfl, b2⟩
  have B2 := B1.trans (b2.mono B1.size)
  clear b2 HC B1
  rcases key with ⟨h1, rfl⟩ | ⟨rfl, h2, rfl⟩ | ⟨rfl, rfl, rfl, rfl⟩ | ⟨rfl, rfl, rfl, rfl⟩
  · have h1' : (cl == 0) = false := by simpa using h1
    clear h1
    go_wp2
    go_ret
    exact ⟨rfl, B2⟩
  all_goals
    go_wp2_with fail
    refine (HF.out _ B2).mono ?_
    rintro e w3 ⟨rfl, b3⟩
    have B3 := B2.trans (b3.mono B2.size)
    clear b3 HF B2
  · have h2' : (cl == 0) = false := by simpa using h2
    clear h2
    go_wp2
    go_ret
    exact ⟨rfl, B3⟩
  all_goals
    go_wp2_with fail
    refine (HO.out _ B3).mono ?_
    rintro e w4 ⟨rfl, b4⟩
    have B4 := B3.trans (b4.mono B3.size)
    go_wp2
    go_ret
    exact ⟨rfl, B4⟩

set_option maxHeartbeats 8000000 in
theorem rfImage_any (K : Ker) (vk : Value) (l : List PV) (v : Value) (j : Nat) (x : PV) (w : World) (hK : IsKer w.heap.size w vk K) (hrow : IsPlcs w.heap.size w v l) (h0 : chkLink K (l.map PV.plc) = 0) (hx : l[j]? = some x) :
    Calls Tryz.prog 88 #[vk, v, .int .i64 j] w fun e w' => e = .returned (.tuple #[.string (imgRes K (l.map PV.plc) x.plc).1, .int .i64 (imgRes K (l.map PV.plc) x.plc).2]) ∧ Below w.heap.size w w' := by
  have hmem := List.mem_of_getElem? hx
  obtain ⟨hm0, f0, f1, hz1⟩ := link_at h0 hmem
  have hcf := link_find h0
  have hxa := hrow.2 x hmem
  have HA : Hid (∀ W, Below w.heap.size w W → Calls Tryz.prog 125 #[vk, v, x.modV] W fun e w' => (∃ r, e = .returned (.tuple #[r, .int .i64 (allRes K (l.map PV.plc) x.mod).2]) ∧ RowOf 1 intCell w'.heap.size w' r (allRes K (l.map PV.plc) x.mod).1) ∧ Below W.heap.size W w') := fun W hb => by
    have := addressesOf_any K vk l v x.mod x.modV W ((hK.below hb).more hb.size) ((hrow.below hb).more hb.size) (((hxa.below hb).more hb.size).isMod) hcf hm0
    rcases allRes_cases K (l.map PV.plc) x.mod with ⟨h, _⟩ | ⟨_, h, _⟩ | ⟨_, _, e⟩
    · exact absurd hcf h
    · exact absurd hm0 h
    · rw [e]; exact this
  have HL : Hid ((allRes K (l.map PV.plc) x.mod).2 = 0 → (allRes K (l.map PV.plc) x.mod).1.length = x.mod.imps.length) := fun h => allRes_length h
  have key := imgRes_ln K (l.map PV.plc) x.plc
  change _ = if (allRes K (l.map PV.plc) x.mod).2 ≠ 0 then (⟨#[]⟩, (allRes K (l.map PV.plc) x.mod).2) else lnRes (allRes K (l.map PV.plc) x.mod).1 x.plc at key
  have HLR : Hid (∀ ads, lnRes ads x.plc = if (patd ads (4096 + x.first * 64) x.mod.text x.mod.pats).2 ≠ 0 then (⟨#[]⟩, (patd ads (4096 + x.first * 64) x.mod.text x.mod.pats).2) else (fillTo (patd ads (4096 + x.first * 64) x.mod.text x.mod.pats).1 (64 * szM x.mod), 0)) := fun _ => rfl
  generalize imgRes K (l.map PV.plc) x.plc = R at *
  generalize allRes K (l.map PV.plc) x.mod = ar at *
  have hps := pats_of hm0
  have hT : x.mod.text.size ≤ 256 := (chkMod_exps hm0).2.1
  have h12 : x.mod.pats.length ≤ 12 := (chkMod_exps hm0).2.2.2.2.1
  have h6 : x.mod.imps.length ≤ 6 := (chkMod_exps hm0).2.2.2.1
  have hzT : Hid (szM x.mod = (x.mod.text.size + 63) / 64 ∧ szM x.mod ≤ 4) := (⟨rfl, (szM_bd hm0).2.1⟩ : szM x.mod = (x.mod.text.size + 63) / 64 ∧ szM x.mod ≤ 4)
  generalize szM x.mod = zz at *
  obtain ⟨vke, rfl, hE⟩ := hK
  obtain ⟨qe, je, rfl, _, _⟩ := hE
  obtain ⟨⟨a, cap, rfl, hmax, hrow⟩, _⟩ := hrow
  have hlt : (j : Int) < (l.length : Int) := by have := (List.getElem?_eq_some_iff.1 hx).1; omega
  rcases hrow with h | ⟨b, off, rfl, hbn, hcells⟩
  · subst h; simp at hx
  have c0 := hcells j _ hx 0 (by omega)
  have c1 := hcells j _ hx 1 (by omega)
  have c2 := hcells j _ hx 2 (by omega)
  have c3 := hcells j _ hx 3 (by omega)
  have c4 := hcells j _ hx 4 (by omega)
  have c5 := hcells j _ hx 5 (by omega)
  have c6 := hcells j _ hx 6 (by omega)
  have c7 := hcells j _ hx 7 (by omega)
  obtain ⟨⟨pe, ke, e4, _⟩, ⟨pi, ki, e5, _⟩, ⟨pp, kp, e6, _, hP⟩⟩ := hxa
  obtain ⟨ma, mi, ks⟩ := K
  clear hcells hx hm0 hcf h0 hmem
  obtain ⟨⟨N, xa, xi, T, es, is, ps⟩, ve, vi, vp, fi⟩ := x
  dsimp only [PV.modV, PV.plc] at *
  subst e4 e5 e6
  dsimp only [PV.cell] at c0 c1 c2 c3 c4 c5 c6 c7
  rw [Nat.add_zero] at c0
  generalize es.length = le at *
  generalize hli : is.length = li at *
  generalize ks.length = lk at *
  have i1 : IntKind.i64.wrap (64 * fi) = 64 * fi := by rw [i64_is]; unfold wrap64; omega
  have i2 : IntKind.i64.wrap (4096 + 64 * fi) = 4096 + fi * 64 := by rw [i64_is]; unfold wrap64; omega
  generalize hbg : 4096 + fi * 64 = bg at *
  generalize hll : l.length = ll at *
  obtain ⟨ads, er⟩ := ar
  dsimp only at *
  have B0 : Below w.heap.size w (w.alloc (.cells #[.int .i64 ma, .int .i64 mi, .slice qe lk je] 24)) := (Below.refl _ _).alloc (Nat.le_refl _) _
  have g0 := (B0.cell (p := ⟨b, off + j * 8, none⟩) hbn).trans c0
  have g1 := (B0.cell (p := ⟨b, off + j * 8 + 1, none⟩) hbn).trans c1
  have g2 := (B0.cell (p := ⟨b, off + j * 8 + 2, none⟩) hbn).trans c2
  have g3 := (B0.cell (p := ⟨b, off + j * 8 + 3, none⟩) hbn).trans c3
  have g4 := (B0.cell (p := ⟨b, off + j * 8 + 4, none⟩) hbn).trans c4
  have g5 := (B0.cell (p := ⟨b, off + j * 8 + 5, none⟩) hbn).trans c5
  have g6 := (B0.cell (p := ⟨b, off + j * 8 + 6, none⟩) hbn).trans c6
  have HB1 : Hid (Below w.heap.size w ((w.alloc (.cells #[.int .i64 ma, .int .i64 mi, .slice qe lk je] 24)).alloc (.cells #[.string N, .int .i64 xa, .int .i64 xi, .string T, .slice pe le ke, .slice pi li ki, .slice pp ps.length kp] 31))) := B0.alloc (by simp) _
  have HC1 : Hid (CellsAt ((w.alloc (.cells #[.int .i64 ma, .int .i64 mi, .slice qe lk je] 24)).alloc (.cells #[.string N, .int .i64 xa, .int .i64 xi, .string T, .slice pe le ke, .slice pi li ki, .slice pp ps.length kp] 31)) (w.heap.size + 1) 31 #[.string N, .int .i64 xa, .int .i64 xi, .string T, .slice pe le ke, .slice pi li ki, .slice pp ps.length kp]) := by
    have := CellsAt.new (w.alloc (.cells #[.int .i64 ma, .int .i64 mi, .slice qe lk je] 24)) 31 #[.string N, .int .i64 xa, .int .i64 xi, .string T, .slice pe le ke, .slice pi li ki, .slice pp ps.length kp]
    rw [World.size_alloc] at this
    exact this
  clear c0 c1 c2 c3 c4 c5 c6
  go_enter Tryz.func88, Tryz.ntmps88
  go_wp2_with fail
  refine (HA.out _ HB1.out).mono ?_
  rintro e w2 ⟨⟨r, rfl, hr⟩, b2⟩
  have B2 := HB1.out.trans (b2.mono HB1.out.size)
  have C2 := HC1.out.below b2 HC1.out.lt
  have d7 := (B2.cell (p := ⟨b, off + j * 8 + 7, none⟩) hbn).trans c7
  clear b2 HB1 HC1 HA B0 g0 g1 g2 g3 g4 g5 g6 c7
  obtain ⟨ra, rk, rfl, _, hA⟩ := hr
  by_cases hq : er = 0
  · subst hq
    have hal := HL.out rfl
    rw [← hal] at h6 hps
    have HR : Hid (R = if (patd ads bg T ps).2 ≠ 0 then (⟨#[]⟩, (patd ads bg T ps).2) else (fillTo (patd ads bg T ps).1 (64 * zz), 0)) := by
      show R = _
      rw [key, if_neg (by simp), HLR.out]
    have HPZ : Hid ((patd ads bg T ps).2 = 0 → (patd ads bg T ps).1.size = T.size) := fun h => patd_size h
    clear key HL HLR hal hli
    have HPN : Hid (∀ s, patd ads bg s [] = (s, 0)) := fun _ => rfl
    have HPC : Hid (∀ s p r, patd ads bg s (p :: r) = if appErr s.size p (symOf ads bg p) bg ≠ 0 then (⟨#[]⟩, appErr s.size p (symOf ads bg p) bg) else patd ads bg (appStr s p (symOf ads bg p) bg) r) := fun _ _ _ => rfl
    generalize patd ads bg = PD at *
    have e3 := C2.cell 3
    have hc2 := C2.lt
    simp at e3
    go_wp2_with fail
    go_loopw [10, 12, 13] (fun ee f i wr => ∃ (k : Nat) (S : ByteArray), k ≤ ps.length ∧ ee = .int .i64 0 ∧ i = .int .i64 k ∧ f = .string S ∧ Hid (S.size = T.size) ∧ Hid (PD T ps = PD S (ps.drop k)) ∧ Below w2.heap.size w2 wr) (fun _ _ i _ => ps.length - (intOf i).toNat)
    case atStart => exact ⟨0, T, Nat.zero_le _, rfl, rfl, rfl, (rfl : T.size = T.size), (by show PD T ps = PD T (ps.drop 0); rfl), Below.refl _ _⟩
    case round =>
      obtain ⟨k, S, hk, rfl, rfl, rfl, HSZ, HCC, B⟩ := hrel
      have B' : Below w.heap.size w wr := B2.trans (B.mono B2.size)
      have CB := C2.below B C2.lt
      have d6 := CB.cell 6
      have hwl : w.heap.size + 1 < wr.heap.size := CB.lt
      simp at d6
      clear CB e3 d7
      by_cases hlt2 : k < ps.length
      · obtain ⟨x, hx⟩ : ∃ x, ps[k]? = some x := ⟨_, List.getElem?_eq_getElem hlt2⟩
        rcases hP with h | ⟨bp, offp, rfl, hbp, hcp⟩
        · subst h; simp at hlt2
        have c0 := (B'.cell (p := ⟨bp, offp + k * 4 + 0, none⟩) hbp).trans (hcp k _ hx 0 (by omega))
        have c1 := (B'.cell (p := ⟨bp, offp + k * 4 + 1, none⟩) hbp).trans (hcp k _ hx 1 (by omega))
        have c2 := (B'.cell (p := ⟨bp, offp + k * 4 + 2, none⟩) hbp).trans (hcp k _ hx 2 (by omega))
        have c3 := (B'.cell (p := ⟨bp, offp + k * 4 + 3, none⟩) hbp).trans (hcp k _ hx 3 (by omega))
        have HRX : Hid (PD T ps = if appErr S.size x (symOf ads bg x) bg ≠ 0 then (⟨#[]⟩, appErr S.size x (symOf ads bg x) bg) else PD (appStr S x (symOf ads bg x) bg) (ps.drop (k + 1))) := by
          show PD T ps = _
          rw [HCC.out, drop_at hx, HPC.out]
        have HAX : Hid (∀ sy W, Calls Tryz.prog 126 #[.string S, .agg #[.int .i64 x.kind, .int .i64 x.pos, .int .i64 x.sym, .int .i64 x.add], .int .i64 sy, .int .i64 bg] W fun e w' => e = .returned (.tuple #[.string (appStr S x sy bg), .int .i64 (appErr S.size x sy bg)]) ∧ Below W.heap.size W w') := fun sy W => applyOf_any S x sy bg W (by rw [HSZ.out]; omega)
        have HSS : Hid (∀ sy, appErr S.size x sy bg = 0 → (appStr S x sy bg).size = T.size) := fun sy h => by rw [appStr_size h, HSZ.out]
        obtain ⟨hs1, hs2⟩ := hps x (List.mem_of_getElem? hx)
        have HSY : Hid (∃ sy : Int, symOf ads bg x = sy ∧ ((0 ≤ x.sym ∧ ∃ n : Nat, x.sym = n ∧ ads[n]? = some sy) ∨ (x.sym < 0 ∧ sy = bg))) := by
          refine ⟨_, rfl, ?_⟩
          unfold symOf
          by_cases h0 : 0 ≤ x.sym
          · refine .inl ⟨h0, x.sym.toNat, by omega, ?_⟩
            rw [if_pos h0, List.getElem?_eq_getElem (by omega)]
            rfl
          · exact .inr ⟨by omega, by rw [if_neg h0]⟩
        obtain ⟨sy, hsy, hcase⟩ := HSY.out
        have HR' : Hid (PD T ps = if appErr S.size x sy bg ≠ 0 then (⟨#[]⟩, appErr S.size x sy bg) else PD (appStr S x sy bg) (ps.drop (k + 1))) := by
          show PD T ps = _
          rw [HRX.out, hsy]
        have HAX' : Hid (∀ W, Calls Tryz.prog 126 #[.string S, .agg #[.int .i64 x.kind, .int .i64 x.pos, .int .i64 x.sym, .int .i64 x.add], .int .i64 sy, .int .i64 bg] W fun e w' => e = .returned (.tuple #[.string (appStr S x sy bg), .int .i64 (appErr S.size x sy bg)]) ∧ Below W.heap.size W w') := HAX.out sy
        have HSS' : Hid (appErr S.size x sy bg = 0 → (appStr S x sy bg).size = T.size) := HSS.out sy
        clear HRX HAX HSS HSY hsy HCC hcp hps HSZ HPN HPC
        generalize appErr S.size x sy bg = er at *
        generalize appStr S x sy bg = S' at *
        obtain ⟨xk, xp, xs, xa⟩ := x
        dsimp only [Pat.cell] at c0 c1 c2 c3
        dsimp only at *
        rw [Nat.add_zero] at c0
        clear HPZ
        have hk2 : (k : Int) < (ps.length : Int) := by omega
        rcases hcase with ⟨h0, n, rfl, hn⟩ | ⟨h0, rfl⟩
        · rcases hA with h | ⟨ba, offa, rfl, hba, hca⟩
          · subst h; simp at hn
          have hnl : (n : Int) < (ads.length : Int) := by omega
          have d9 := (B.cell (p := ⟨ba, offa + n * 1 + 0, none⟩) hba).trans (hca n _ hn 0 (by omega))
          dsimp only [intCell] at d9
          rw [Nat.add_zero, Nat.mul_one] at d9
          have hba2 : ba < wr.heap.size := Nat.lt_of_lt_of_le hba B.size
          clear hca hn
          go_wp2_with fail
          refine (HAX'.out _).mono ?_
          rintro e w7 ⟨rfl, b7⟩
          have E7 := B.trans (b7.mono B.size)
          have F7 := B2.trans (E7.mono B2.size)
          by_cases hq : er = 0
          · subst hq
            have HR2 : Hid (PD T ps = PD S' (ps.drop (k + 1))) := by
              show PD T ps = _
              rw [HR'.out]; rfl
            have HS2 : Hid (S'.size = T.size) := HSS'.out rfl
            clear HR' HSS'
            go_wp2
            exact ⟨⟨k + 1, S', by omega, rfl, by go_num, rfl, HS2, HR2, E7⟩, by simp [intOf]; omega⟩
          · have hq' : (er != 0) = true := by simpa using hq
            have HR2 : Hid (R = (⟨#[]⟩, er)) := by
              show R = _
              have h1 : PD T ps = (⟨#[]⟩, er) := by rw [HR'.out, if_pos hq]
              rw [HR.out, h1, if_pos hq]
            clear HR' HSS' hq HR
            go_wp2
            go_ret2
            exact ⟨by rw [HR2.out]; rfl, F7⟩
        · clear hA
          go_wp2_with fail
          refine (HAX'.out _).mono ?_
          rintro e w7 ⟨rfl, b7⟩
          have E7 := B.trans (b7.mono B.size)
          have F7 := B2.trans (E7.mono B2.size)
          by_cases hq : er = 0
          · subst hq
            have HR2 : Hid (PD T ps = PD S' (ps.drop (k + 1))) := by
              show PD T ps = _
              rw [HR'.out]; rfl
            have HS2 : Hid (S'.size = T.size) := HSS'.out rfl
            clear HR' HSS'
            go_wp2
            exact ⟨⟨k + 1, S', by omega, rfl, by go_num, rfl, HS2, HR2, E7⟩, by simp [intOf]; omega⟩
          · have hq' : (er != 0) = true := by simpa using hq
            have HR2 : Hid (R = (⟨#[]⟩, er)) := by
              show R = _
              have h1 : PD T ps = (⟨#[]⟩, er) := by rw [HR'.out, if_pos hq]
              rw [HR.out, h1, if_pos hq]
            clear HR' HSS' hq HR
            go_wp2
            go_ret2
            exact ⟨by rw [HR2.out]; rfl, F7⟩
      · obtain rfl : k = ps.length := by omega
        have hZ : PD T ps = (S, 0) := by rw [HCC.out, List.drop_length, HPN.out]
        obtain ⟨F, HFF⟩ : ∃ F, Hid (fillTo S (64 * zz) = F) := ⟨fillTo S (64 * zz), (rfl : fillTo S (64 * zz) = fillTo S (64 * zz))⟩
        have HR2 : Hid (R = (F, 0)) := by
          show R = _
          rw [HR.out, hZ, if_neg (by simp), ← HFF.out]
        clear HR HPZ HPN HPC hA hP hps
        go_wp2_with fail
        go_loopw [12] (fun f wi => ∃ (S2 : ByteArray), f = .string S2 ∧ Hid (S2.size ≤ 64 * zz ∧ 64 * zz < S2.size + 64 ∧ fillTo S2 (64 * zz) = F) ∧ Below wr.heap.size wr wi) (fun f _ => 64 * zz - sizeV f)
        case atStart => exact ⟨S, rfl, (by have := hzT.out; have := HSZ.out; exact ⟨by omega, by omega, HFF.out⟩), Below.refl _ _⟩
        case round =>
          obtain ⟨S2, rfl, HS2, BI⟩ := hrel
          have BW := B'.trans (BI.mono B'.size)
          obtain ⟨a1, a2, a3⟩ := HS2.out
          have hz4 := hzT.out.2
          have ht : ((S2.size : Int).tmod 64) = ((S2.size % 64 : Nat) : Int) := by rw [Int.tmod_eq_emod_of_nonneg (by omega)]; omega
          by_cases hS : S2.size = 64 * zz
          · have hm : S2.size % 64 = 0 := by omega
            rw [hm] at ht
            have hFS : F = S2 := by rw [← a3, fillTo_done (by omega)]
            have HFS : Hid (F = S2) := hFS
            clear hm HS2 a3 hFS
            go_wp2
            go_ret2
            exact ⟨by rw [HR2.out, HFS.out]; rfl, BW⟩
          · have hm : 0 < ((S2.size % 64 : Nat) : Int) := by omega
            have hm2 : ((S2.size % 64 : Nat) : Int) < 64 := by omega
            have HS3 : Hid ((S2 ++ ⟨#[255]⟩).size ≤ 64 * zz ∧ 64 * zz < (S2 ++ ⟨#[255]⟩).size + 64 ∧ fillTo (S2 ++ ⟨#[255]⟩) (64 * zz) = F) := by
              have h1 : (S2 ++ ⟨#[255]⟩).size = S2.size + 1 := by rw [ByteArray.size_append]; rfl
              exact ⟨by omega, by omega, by rw [fillTo_step (by omega), a3]⟩
            have hbig : ¬ (9223372036854775807 < S2.size + ByteArray.size ⟨#[255]⟩) := by
              have : ByteArray.size ⟨#[255]⟩ = 1 := rfl
              omega
            generalize ((S2.size % 64 : Nat) : Int) = q at ht hm hm2
            clear HS2 a3
            go_wp2
            refine ⟨⟨S2 ++ ⟨#[255]⟩, rfl, HS3, BI⟩, ?_⟩
            have h1 : (S2 ++ ⟨#[255]⟩).size = S2.size + 1 := by rw [ByteArray.size_append]; rfl
            show 64 * zz - (S2 ++ ⟨#[255]⟩).size < 64 * zz - S2.size
            omega
  · have HR : Hid (R = (⟨#[]⟩, er)) := by
      show R = _
      rw [key, if_pos hq]
    have hq' : (er != 0) = true := by simpa using hq
    clear key HL hq HLR
    go_wp2
    go_ret2
    exact ⟨by rw [HR.out]; rfl, B2⟩

end Go.Proofs.YthmohjgdcjafkaeGreat

/- The contract of the document's AreaOf. -/
namespace Go.Proofs.YthmohjgdcjafkaeGreat
open Go.RowKit Go.PlainAid

set_option maxRecDepth 100000

set_option maxHeartbeats 8000000 in
theorem rfArea_any (K : Ker) (vk : Value) (l : List PV) (v : Value) (w : World) (hK : IsKer w.heap.size w vk K) (hrow : IsPlcs w.heap.size w v l) (h0 : chkLink K (l.map PV.plc) = 0) :
    Calls Tryz.prog 43 #[vk, v] w fun e w' => e = .returned (.tuple #[.string (areaFrom K (l.map PV.plc) ⟨#[]⟩ (l.map PV.plc)).1, .int .i64 (areaFrom K (l.map PV.plc) ⟨#[]⟩ (l.map PV.plc)).2]) ∧ Below w.heap.size w w' := by
  have HM : Hid (∀ (j : Nat) x, l[j]? = some x → ∀ W, Below w.heap.size w W → Calls Tryz.prog 88 #[vk, v, .int .i64 j] W fun e w' => e = .returned (.tuple #[.string (imgRes K (l.map PV.plc) x.plc).1, .int .i64 (imgRes K (l.map PV.plc) x.plc).2]) ∧ Below W.heap.size W w') := fun j x hx W hb =>
    rfImage_any K vk l v j x W ((hK.below hb).more hb.size) ((hrow.below hb).more hb.size) h0 hx
  have HO2 : Hid (okPl 0 (l.map PV.plc)) := (chkReg_zero.1 (chkLink_zero h0).2.1).2.2
  have h8 : l.length ≤ 8 := by simpa using (chkReg_zero.1 (chkLink_zero h0).2.1).1
  have HIS : Hid (∀ p, (imgRes K (l.map PV.plc) p).2 = 0 → (imgRes K (l.map PV.plc) p).1.size = 64 * szM p.mod) := fun p h => imgRes_size h
  clear h0
  obtain ⟨vke, rfl, hE⟩ := hK
  obtain ⟨qe, je, rfl, _, _⟩ := hE
  obtain ⟨⟨a, cap, rfl, hmax, hrow⟩, _⟩ := hrow
  have HAC : Hid (∀ s p r, areaFrom K (l.map PV.plc) s (p :: r) = if (imgRes K (l.map PV.plc) p).2 ≠ 0 then (⟨#[]⟩, (imgRes K (l.map PV.plc) p).2) else areaFrom K (l.map PV.plc) (fillTo s (64 * p.first.toNat) ++ (imgRes K (l.map PV.plc) p).1) r) := fun _ _ _ => rfl
  have HAN : Hid (∀ s, areaFrom K (l.map PV.plc) s [] = (fillTo s 1024, 0)) := fun _ => rfl
  generalize areaFrom K (l.map PV.plc) = AF at *
  generalize hLL : l.map PV.plc = L at *
  generalize imgRes K L = IR at *
  obtain ⟨ma, mi, ks⟩ := K
  dsimp only at *
  generalize ks.length = lk at *
  have B1 : Below w.heap.size w (w.alloc (.cells #[.int .i64 ma, .int .i64 mi, .slice qe lk je] 24)) := (Below.refl _ _).alloc (Nat.le_refl _) _
  have K1 : CellsAt (w.alloc (.cells #[.int .i64 ma, .int .i64 mi, .slice qe lk je] 24)) w.heap.size 24 #[.int .i64 ma, .int .i64 mi, .slice qe lk je] := CellsAt.new w 24 #[.int .i64 ma, .int .i64 mi, .slice qe lk je]
  go_enter Tryz.func43, Tryz.ntmps43
  go_wp2_with fail
  go_loopw [6, 7] (fun f i wr => ∃ (k : Nat) (S : ByteArray), k ≤ l.length ∧ i = .int .i64 k ∧ f = .string S ∧ Hid (∃ e : Nat, S.size ≤ 64 * e ∧ okPl e (L.drop k)) ∧ Hid (AF ⟨#[]⟩ L = AF S (L.drop k)) ∧ Below (w.heap.size + 1) (w.alloc (.cells #[.int .i64 ma, .int .i64 mi, .slice qe lk je] 24)) wr) (fun _ i _ => l.length - (intOf i).toNat)
  case atStart => exact ⟨0, ⟨#[]⟩, Nat.zero_le _, rfl, rfl, (⟨0, Nat.le_refl _, HO2.out⟩ : ∃ e : Nat, (⟨#[]⟩ : ByteArray).size ≤ 64 * e ∧ okPl e (L.drop 0)), (by show AF ⟨#[]⟩ L = AF ⟨#[]⟩ (L.drop 0); rfl), Below.refl _ _⟩
  case round =>
    obtain ⟨k, S, hk, rfl, rfl, HSZ, HCC, B⟩ := hrel
    have B' : Below w.heap.size w wr := B1.trans (B.mono (by omega))
    have K3 := K1.below B (by omega)
    by_cases hlt : k < l.length
    · obtain ⟨x, hx⟩ : ∃ x, l[k]? = some x := ⟨_, List.getElem?_eq_getElem hlt⟩
      have hLx : L[k]? = some x.plc := by rw [← hLL, List.getElem?_map, hx]; rfl
      rcases hrow with h | ⟨b, off, rfl, hbn, hcells⟩
      · subst h; simp at hlt
      have HR : Hid (AF ⟨#[]⟩ L = if (IR x.plc).2 ≠ 0 then (⟨#[]⟩, (IR x.plc).2) else AF (fillTo S (64 * x.first.toNat) ++ (IR x.plc).1) (L.drop (k + 1))) := by
        show AF ⟨#[]⟩ L = _
        rw [HCC.out, drop_at hLx, HAC.out]
        rfl
      obtain ⟨e, he, hpl⟩ := HSZ.out
      rw [drop_at hLx] at hpl
      obtain ⟨p1, p2, p3, p4⟩ := hpl
      change (e : Int) ≤ x.first at p1
      change 1 ≤ szM x.mod at p2
      change x.first + (szM x.mod : Int) ≤ 16 at p3
      change okPl (x.first + (szM x.mod : Int)) (L.drop (k + 1)) at p4
      have HIX : Hid ((IR x.plc).2 = 0 → (IR x.plc).1.size = 64 * szM x.mod) := HIS.out x.plc
      obtain ⟨n, hn⟩ : ∃ n : Nat, x.first = n := ⟨x.first.toNat, by omega⟩
      have HX := HM.out k x hx
      have c7' := hcells k _ hx 7 (by omega)
      change w.cell? _ = some (.int .i64 x.first) at c7'
      rw [hn] at HR p1 p3 p4 c7'
      rw [Int.toNat_natCast] at HR
      generalize IR x.plc = R at HX HR HIX
      generalize szM x.mod = zz at *
      have HP4 : Hid (okPl ((n + zz : Nat) : Int) (L.drop (k + 1))) := by
        show okPl ((n + zz : Nat) : Int) (L.drop (k + 1))
        rw [show ((n + zz : Nat) : Int) = (n : Int) + (zz : Int) by omega]
        exact p4
      have HXX : Hid (∀ W, Below w.heap.size w W → Calls Tryz.prog 88 #[.agg #[.int .i64 ma, .int .i64 mi, .slice qe lk je], .slice (some ⟨b, off, none⟩) l.length cap, .int .i64 k] W fun e w' => e = .returned (.tuple #[.string R.1, .int .i64 R.2]) ∧ Below W.heap.size W w') := HX
      have hSn : S.size ≤ 64 * n := by omega
      have d0 := K3.cell 0
      have d1 := K3.cell 1
      have d2 := K3.cell 2
      have hk3 := K3.lt
      simp at d0 d1 d2
      obtain ⟨R1, R2⟩ := R
      dsimp only at HXX HR HIX
      clear hcells hx hLx HX HM HAC HAN HIS HSZ HCC p4 HO2 K3 hn he p1
      have hkl : (k : Int) < (l.length : Int) := by omega
      go_wp2_with fail
      refine (HXX.out _ B').mono ?_
      rintro e2 w7 ⟨rfl, b7⟩
      have E7 := B.trans (b7.mono (by have := B.size; simp at this; omega))
      have F7 := B'.trans (b7.mono B'.size)
      clear HXX d0 d1 d2
      by_cases hq : R2 = 0
      · subst hq
        obtain ⟨F, HFF⟩ : ∃ F, Hid (fillTo S (64 * n) = F) := ⟨fillTo S (64 * n), (rfl : fillTo S (64 * n) = fillTo S (64 * n))⟩
        have HR2 : Hid (AF ⟨#[]⟩ L = AF (F ++ R1) (L.drop (k + 1))) := by
          show AF ⟨#[]⟩ L = _
          rw [HR.out, ← HFF.out]; rfl
        have hFn : F.size = 64 * n := by rw [← HFF.out]; exact fillTo_size hSn
        have hR1 : R1.size = 64 * zz := HIX.out rfl
        have HS2 : Hid (∃ e : Nat, (F ++ R1).size ≤ 64 * e ∧ okPl e (L.drop (k + 1))) := by
          refine ⟨n + zz, ?_, HP4.out⟩
          rw [ByteArray.size_append, hFn, hR1]
          omega
        clear HR HIX HP4
        have i1 : IntKind.i64.wrap (64 * (n : Int)) = ((64 * n : Nat) : Int) := by rw [i64_is]; unfold wrap64; omega
        go_wp2_with fail
        go_loopw [6] (fun f wi => ∃ (S2 : ByteArray), f = .string S2 ∧ Hid (S2.size ≤ 64 * n ∧ fillTo S2 (64 * n) = F) ∧ Below w7.heap.size w7 wi) (fun f _ => 64 * n - sizeV f)
        case atStart => exact ⟨S, rfl, (⟨hSn, HFF.out⟩ : S.size ≤ 64 * n ∧ fillTo S (64 * n) = F), Below.refl _ _⟩
        case round =>
          obtain ⟨S2, rfl, HS3, BI⟩ := hrel
          have BW := F7.trans (BI.mono F7.size)
          have EW := E7.trans (BI.mono (by have := E7.size; simp at this; omega))
          obtain ⟨a1, a3⟩ := HS3.out
          have c7 := (BW.cell (p := ⟨b, off + k * 8 + 7, none⟩) hbn).trans c7'
          clear c7' HS3
          by_cases hS : S2.size = 64 * n
          · have hFS : F = S2 := by rw [← a3, fillTo_done (by omega)]
            have hz4 : zz ≤ 16 := by omega
            clear a3
            subst hFS
            have hno : ¬ ((F.size : Int) < ((64 * n : Nat) : Int)) := by omega
            have hbig : ¬ (9223372036854775807 < F.size + R1.size) := by omega
            go_wp2
            exact ⟨⟨k + 1, F ++ R1, by omega, by go_num, rfl, HS2, HR2, EW⟩, by simp [intOf]; omega⟩
          · have hyes : (S2.size : Int) < ((64 * n : Nat) : Int) := by omega
            have HS4 : Hid ((S2 ++ ⟨#[255]⟩).size ≤ 64 * n ∧ fillTo (S2 ++ ⟨#[255]⟩) (64 * n) = F) := by
              have h1 : (S2 ++ ⟨#[255]⟩).size = S2.size + 1 := by rw [ByteArray.size_append]; rfl
              exact ⟨by omega, by rw [fillTo_step (by omega), a3]⟩
            have hbig : ¬ (9223372036854775807 < S2.size + ByteArray.size ⟨#[255]⟩) := by
              have : ByteArray.size ⟨#[255]⟩ = 1 := rfl
              omega
            clear a3
            go_wp2
            refine ⟨⟨S2 ++ ⟨#[255]⟩, rfl, HS4, BI⟩, ?_⟩
            have h1 : (S2 ++ ⟨#[255]⟩).size = S2.size + 1 := by rw [ByteArray.size_append]; rfl
            show 64 * n - (S2 ++ ⟨#[255]⟩).size < 64 * n - S2.size
            omega
      · have hq' : (R2 != 0) = true := by simpa using hq
        have HR2 : Hid (AF ⟨#[]⟩ L = (⟨#[]⟩, R2)) := by
          show AF ⟨#[]⟩ L = _
          rw [HR.out, if_pos hq]
        clear HR hq HIX
        go_wp2
        go_ret2
        exact ⟨by rw [HR2.out]; rfl, F7⟩
    · obtain rfl : k = l.length := by omega
      obtain ⟨F, HFF⟩ : ∃ F, Hid (fillTo S 1024 = F) := ⟨fillTo S 1024, (rfl : fillTo S 1024 = fillTo S 1024)⟩
      have HZ : Hid (AF ⟨#[]⟩ L = (F, 0)) := by
        show AF ⟨#[]⟩ L = (F, 0)
        rw [HCC.out, show L.drop l.length = [] from by rw [← hLL, ← List.length_map (f := PV.plc)]; exact List.drop_length, HAN.out, HFF.out]
      have hS1 : S.size ≤ 1024 := by
        obtain ⟨e, he, hpl⟩ := HSZ.out
        have := okPl_end hpl
        omega
      clear HSZ HCC HM HAC HAN HIS HO2
      go_wp2_with fail
      go_loopw [6] (fun f wi => ∃ (S2 : ByteArray), f = .string S2 ∧ Hid (S2.size ≤ 1024 ∧ fillTo S2 1024 = F) ∧ Below wr.heap.size wr wi) (fun f _ => 1024 - sizeV f)
      case atStart => exact ⟨S, rfl, (⟨hS1, HFF.out⟩ : S.size ≤ 1024 ∧ fillTo S 1024 = F), Below.refl _ _⟩
      case round =>
        obtain ⟨S2, rfl, HS3, BI⟩ := hrel
        have BW := B'.trans (BI.mono B'.size)
        obtain ⟨a1, a3⟩ := HS3.out
        clear HS3
        by_cases hS : S2.size = 1024
        · have hFS : F = S2 := by rw [← a3, fillTo_done (by omega)]
          have HFS : Hid (F = S2) := hFS
          clear a3 hFS
          have hno : ¬ ((S2.size : Int) < 1024) := by omega
          go_wp2
          go_ret2
          exact ⟨by rw [HZ.out, HFS.out]; rfl, BW⟩
        · have hyes : (S2.size : Int) < 1024 := by omega
          have HS4 : Hid ((S2 ++ ⟨#[255]⟩).size ≤ 1024 ∧ fillTo (S2 ++ ⟨#[255]⟩) 1024 = F) := by
            have h1 : (S2 ++ ⟨#[255]⟩).size = S2.size + 1 := by rw [ByteArray.size_append]; rfl
            exact ⟨by omega, by rw [fillTo_step (by omega), a3]⟩
          have hbig : ¬ (9223372036854775807 < S2.size + ByteArray.size ⟨#[255]⟩) := by
            have : ByteArray.size ⟨#[255]⟩ = 1 := rfl
            omega
          clear a3
          go_wp2
          refine ⟨⟨S2 ++ ⟨#[255]⟩, rfl, HS4, BI⟩, ?_⟩
          have h1 : (S2 ++ ⟨#[255]⟩).size = S2.size + 1 := by rw [ByteArray.size_append]; rfl
          show 1024 - (S2 ++ ⟨#[255]⟩).size < 1024 - S2.size
          omega

end Go.Proofs.YthmohjgdcjafkaeGreat
