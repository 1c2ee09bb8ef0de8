/- The walk of the law WordBack: it returns true. -/
import Derived.Test.YtaklbnabgcglhaaWordD
import Derived.Test.YtaklbnabgcglhaaWordN
import Derived.Deep.QuietTactic
import Derived.BigQuiet
import Derived.WalkSmall
namespace Go.Proofs.Ytaklbnabgcglhaa.wordBack
open Go.RowKit Go.PlainAid

set_option maxHeartbeats 1000000 in
theorem core (s t : ByteArray) (a m : Nat) (n x k y : Int) (w : World) (hs : s.size ≤ 140737488351232) (hm : m ≤ 4) (ha : a + m ≤ s.size) (hz : t.size = s.size)
    (hx0 : 0 ≤ x) (hx1 : m < 4 → x < 16777216) (hout : ∀ i, i < a ∨ a + m ≤ i → bt t i = bt s i)
    (P1 : Hid (∀ w, Calls Try.prog 10 #[.string s, .int .i64 a, .int .i64 m, .int .i64 n] w fun e w' => e = .returned (.tuple #[.string t, .int .i64 0]) ∧ Below w.heap.size w w'))
    (G1 : Hid (∀ w, Calls Try.prog 9 #[.string t, .int .i64 a, .int .i64 m] w fun e w' => e = .returned (.tuple #[.int .i64 x, .int .i64 0]) ∧ Below w.heap.size w w'))
    (G2 : Hid (∀ w, Calls Try.prog 9 #[.string s, .int .i64 a, .int .i64 m] w fun e w' => e = .returned (.tuple #[.int .i64 k, .int .i64 0]) ∧ Below w.heap.size w w'))
    (P2 : Hid (∀ w, Calls Try.prog 10 #[.string t, .int .i64 a, .int .i64 m, .int .i64 k] w fun e w' => e = .returned (.tuple #[.string s, .int .i64 0]) ∧ Below w.heap.size w w'))
    (S1 : Hid (∀ w, Calls Try.prog 11 #[.int .i64 x, .int .i64 (8 * m)] w fun e w' => e = .returned (.tuple #[.int .i64 y, .int .i64 0]) ∧ w' = w))
    (P3 : Hid (∀ w, Calls Try.prog 10 #[.string s, .int .i64 a, .int .i64 m, .int .i64 y] w fun e w' => e = .returned (.tuple #[.string t, .int .i64 0]) ∧ Below w.heap.size w w')) :
    Calls Try.prog 4 #[.string s, .int .i64 a, .int .i64 m, .int .i64 n] w fun e w' => e = .returned (.bool true) ∧ Below w.heap.size w w' := by
  have hzb : ((t.size : Int) != (s.size : Int)) = false := by simp [hz]
  have HZ : Hid (t.size = s.size) := hz
  have HO : Hid (∀ i, i < a ∨ a + m ≤ i → bt t i = bt s i) := hout
  clear hz hout
  have h4 : ((m : Int) < 4 ∧ x < 16777216) ∨ (m : Int) = 4 := by
    by_cases h : m < 4
    · exact .inl ⟨by omega, hx1 h⟩
    · exact .inr (by omega)
  clear hx1
  have hd0 : decide (x < 0) = false := decide_eq_false (by omega)
  have hd1 : ((m : Int) < 4 ∧ x < 16777216) ∨ decide ((m : Int) < 4) = false := h4.imp id (fun h => decide_eq_false (by omega))
  clear h4
  rcases hd1 with ⟨h4, hx2⟩ | h4
  all_goals
    go_enter Try.func4, Try.ntmps4
    go_wp2_with fail
    refine (P1.out _).mono ?_
    rintro e w1 ⟨rfl, b1⟩
    go_wp2_with fail
    refine (wordBegun_any _).mono ?_
    rintro e w2 ⟨rfl, b2⟩
    go_wp2_with fail
    refine (G1.out _).mono ?_
    rintro e w3 ⟨rfl, b3⟩
    go_wp2_with fail
    have B3 : Below w.heap.size w w3 := b1.trans ((b2.mono b1.size).trans (b3.mono (Nat.le_trans b1.size b2.size)))
    clear b1 b2 b3
    go_loopw [12] (fun i wr => ∃ j : Nat, j ≤ s.size ∧ i = .int .i64 j ∧ Below w.heap.size w wr) (fun i _ => s.size - (intOf i).toNat)
    case atStart => exact ⟨0, Nat.zero_le _, rfl, B3⟩
    case round =>
      obtain ⟨j, hj, rfl, B⟩ := hrel
      by_cases hlt : j < s.size
      · have hjt : j < t.size := by rw [HZ.out]; exact hlt
        have hbs := get_bt s
        have hbtt := get_bt t
        by_cases hA : (j : Int) < a
        · have hne : (bt s j != bt t j) = false := by rw [HO.out j (.inl (by omega))]; simp
          go_wp2
          go_quiet (fail)
          all_goals go_wp2
          exact ⟨⟨j + 1, by omega, by go_num, below_drewN B _⟩, by simp [intOf]; omega⟩
        · have hAd : decide ((j : Int) < a) = false := decide_eq_false hA
          have hAd' : decide (j < a) = false := decide_eq_false (by omega)
          by_cases hB : (a : Int) + m ≤ j
          · have hne : (bt s j != bt t j) = false := by rw [HO.out j (.inr (by omega))]; simp
            go_wp2
            go_quiet (fail)
            all_goals go_wp2
            exact ⟨⟨j + 1, by omega, by go_num, below_drewN B _⟩, by simp [intOf]; omega⟩
          · have hBd : decide ((a : Int) + m ≤ j) = false := decide_eq_false hB
            have hBd' : decide (a + m ≤ j) = false := decide_eq_false (by omega)
            go_wp2
            go_quiet (fail)
            all_goals go_wp2
            exact ⟨⟨j + 1, by omega, by go_num, below_drewN B _⟩, by simp [intOf]; omega⟩
      · go_wp2_with fail
        refine (G2.out _).mono ?_
        rintro e w4 ⟨rfl, b4⟩
        go_wp2_with fail
        refine (P2.out _).mono ?_
        rintro e w5 ⟨rfl, b5⟩
        go_wp2_with fail
        refine (S1.out _).mono ?_
        rintro e w6 ⟨rfl, rfl⟩
        go_wp2_with fail
        refine (P3.out _).mono ?_
        rintro e w7 ⟨rfl, b7⟩
        go_wp2
        go_ret
        exact ⟨rfl, B.trans ((b4.mono B.size).trans ((b5.mono (Nat.le_trans B.size b4.size)).trans (b7.mono (Nat.le_trans B.size (Nat.le_trans b4.size b5.size)))))⟩

theorem bad (s : ByteArray) (at' bytes n x : Int) (w : World) (hx : (x != 0) = true)
    (P1 : Hid (∀ w, Calls Try.prog 10 #[.string s, .int .i64 at', .int .i64 bytes, .int .i64 n] w fun e w' => e = .returned (.tuple #[.string ⟨#[]⟩, .int .i64 x]) ∧ Below w.heap.size w w')) :
    Calls Try.prog 4 #[.string s, .int .i64 at', .int .i64 bytes, .int .i64 n] w fun e w' => e = .returned (.bool true) ∧ Below w.heap.size w w' := by
  go_enter Try.func4, Try.ntmps4
  go_wp2_with fail
  refine (P1.out _).mono ?_
  rintro e w1 ⟨rfl, b1⟩
  go_wp2_with fail
  refine (wordBegun_any _).mono ?_
  rintro e w2 ⟨rfl, b2⟩
  go_wp2
  go_ret
  exact ⟨rfl, b1.trans (b2.mono b1.size)⟩

theorem pow8 (m : Nat) : (2 : Int) ^ (8 * (m : Int)).toNat = 256 ^ m := by
  rw [show (8 * (m : Int)).toNat = 8 * m from by omega, Int.pow_mul]; rfl

theorem signed_back (n : Int) (m : Nat) (h1 : 1 ≤ m) (h4 : m ≤ 4) : signedE (n % 256 ^ m) (8 * m) = 0 ∧ ∀ j, j < m → signedN (n % 256 ^ m) (8 * m) / 256 ^ j % 256 = n / 256 ^ j % 256 := by
  have hp : (0 : Int) < 256 ^ m := Int.pow_pos (by omega)
  have a0 := Int.emod_nonneg n (b := 256 ^ m) (by omega)
  have a1 := Int.emod_lt_of_pos n hp
  constructor
  · unfold signedE
    rw [if_neg (by omega), pow8, if_neg (by omega)]
  · intro j hj
    obtain ⟨e1, e2⟩ := same_bytes n m j h1 h4 hj
    unfold signedN
    rw [if_neg (by omega), pow8, if_neg (by omega)]
    split
    · exact e2
    · exact e1

theorem walk (s : ByteArray) (at' bytes n : Int) (hs : s.size ≤ 140737488351232) (_ : (Lit.int .i64 at').wf = true) (_ : (Lit.int .i64 bytes).wf = true) (_ : (Lit.int .i64 n).wf = true) (w : World) :
    Calls Try.prog 4 #[.string s, .int .i64 at', .int .i64 bytes, .int .i64 n] w fun e w' => e = .returned (.bool true) ∧ Below w.heap.size w w' := by
  by_cases h : wrongAt s.size at' bytes = 0
  · obtain ⟨h1, h2, h3, h5⟩ := wrongAt_zero h
    obtain ⟨a, rfl⟩ := Int.eq_ofNat_of_zero_le h3
    obtain ⟨m, rfl⟩ := Int.eq_ofNat_of_zero_le (show 0 ≤ bytes by omega)
    have hm1 : 1 ≤ m := by omega
    have hm4 : m ≤ 4 := by omega
    have ha : a + m ≤ s.size := by omega
    have hz := putS_size s a m n
    have hg := getN_put s a m n ha hm1 hm4
    obtain ⟨hE, hB⟩ := signed_back n m hm1 hm4
    have hp : (0 : Int) < 256 ^ m := Int.pow_pos (by omega)
    refine core s (putS s a m n) a m n (n % 256 ^ m) (getN s a m) (signedN (n % 256 ^ m) (8 * m)) w hs hm4 ha hz (Int.emod_nonneg n (by omega)) ?_ (fun i hi => bt_put_out s a m n i ha hi) ?_ ?_ ?_ ?_ ?_ ?_
    · intro h3m
      have a1 := Int.emod_lt_of_pos n hp
      have : m = 1 ∨ m = 2 ∨ m = 3 := by omega
      rcases this with rfl | rfl | rfl <;> omega
    · exact fun w => callsIn_wide.1 (put_ok_in s a m n w hs hm1 hm4 ha)
    · intro w
      have := callsIn_wide.1 (get_ok_in (putS s a m n) a m w (by omega) hm1 hm4 (by omega))
      rwa [hg] at this
    · exact fun w => callsIn_wide.1 (get_ok_in s a m w hs hm1 hm4 ha)
    · intro w
      have := callsIn_wide.1 (put_ok_in (putS s a m n) a m (getN s a m) w (by omega) hm1 hm4 (by omega))
      rwa [put_back s a m n ha hm1 hm4] at this
    · intro w
      have := signed_any (n % 256 ^ m) (8 * m) w
      rwa [hE] at this
    · intro w
      have := callsIn_wide.1 (put_ok_in s a m (signedN (n % 256 ^ m) (8 * m)) w hs hm1 hm4 ha)
      rwa [put_same s a m _ n ha hB] at this
  · refine bad s at' bytes n (wrongAt s.size at' bytes) w (by simpa using h) ?_
    intro w
    have := put_any s at' bytes n w hs
    rwa [putR, if_neg h] at this

end Go.Proofs.Ytaklbnabgcglhaa.wordBack
