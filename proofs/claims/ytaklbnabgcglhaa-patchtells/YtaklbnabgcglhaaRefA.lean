/- The contracts of the document's answers to numbers in bytes. -/
import Derived.Test.YtaklbnabgcglhaaWordD
import Derived.Test.YtaklbnabgcglhaaBtw
namespace Go.Proofs.Ytaklbnabgcglhaa
open Go.RowKit Go.PlainAid

theorem pow_le_31 (j : Nat) (h : j ≤ 31) : (1 : Int) ≤ 2 ^ j ∧ (2 : Int) ^ j ≤ 2147483648 := by
  constructor
  · have : (0 : Int) < 2 ^ j := Int.pow_pos (by omega)
    omega
  · have := Nat.pow_le_pow_right (n := 2) (by omega) h
    have h' : ((2 ^ j : Nat) : Int) ≤ ((2 ^ 31 : Nat) : Int) := Int.ofNat_le.2 this
    simpa using h'

set_option maxHeartbeats 400000 in
theorem power_any (k : Nat) (hk : k ≤ 32) (w : World) :
    Calls Try.prog 35 #[.int .i64 k] w fun e w' => e = .returned (.int .i64 (2 ^ k)) ∧ w' = w := by
  go_enter Try.func35, Try.ntmps35
  go_wp2
  go_loop [3, 4] (fun x i => ∃ (j : Nat) (p : Int), j ≤ k ∧ i = .int .i64 j ∧ x = .int .i64 p ∧ Hid (p = 2 ^ j)) (fun _ i => k - (intOf i).toNat)
  case atStart => exact ⟨0, 1, Nat.zero_le _, rfl, rfl, by show (1 : Int) = 2 ^ 0; rfl⟩
  case round =>
    obtain ⟨j, p, hj, rfl, rfl, HP⟩ := hrel
    by_cases hlt : j < k
    · obtain ⟨p1, p2⟩ := pow_le_31 j (by omega)
      rw [← HP.out] at p1 p2
      go_wp2
      go_round
      case rel => exact ⟨j + 1, 2 * p, by omega, by go_num, rfl, by show 2 * p = 2 ^ (j + 1); rw [HP.out, Int.pow_succ]; omega⟩
      case measure => simp [intOf]; omega
    · obtain rfl : j = k := by omega
      go_wp2
      go_ret
      exact ⟨by rw [← HP.out]; rfl, rfl⟩

theorem tmod_neg (n m : Int) (h0 : 0 < m) (h : n.tmod m < 0) : n % m = n.tmod m + m ∧ -m < n.tmod m := by
  have a := Int.emod_nonneg n (b := m) (by omega)
  have b := Int.emod_lt_of_pos n h0
  rw [Int.tmod_eq_emod] at h ⊢
  split at h
  · omega
  · rw [if_neg ‹_›]; omega
theorem tmod_nonneg (n m : Int) (h0 : 0 < m) (h : 0 ≤ n.tmod m) : n % m = n.tmod m := by
  have a := Int.emod_nonneg n (b := m) (by omega)
  have b := Int.emod_lt_of_pos n h0
  rw [Int.tmod_eq_emod] at h ⊢
  split at h
  · rw [if_pos ‹_›]; omega
  · omega

set_option maxHeartbeats 400000 in
theorem modulo_any (n m : Int) (h0 : 0 < m) (h1 : m ≤ 4294967296) (w : World) :
    Calls Try.prog 36 #[.int .i64 n, .int .i64 m] w fun e w' => e = .returned (.int .i64 (n % m)) ∧ w' = w := by
  have hne : (m == 0) = false := beq_eq_false_iff_ne.2 (by omega)
  have hne1 : (m == -1) = false := beq_eq_false_iff_ne.2 (by omega)
  by_cases h : n.tmod m < 0
  · obtain ⟨e1, e2⟩ := tmod_neg n m h0 h
    rw [e1]
    have HE : Hid (wrap64 (n.tmod m + m) = n.tmod m + m) := by show wrap64 (n.tmod m + m) = n.tmod m + m; unfold wrap64; omega
    clear e1
    go_enter Try.func36, Try.ntmps36
    go_wp2
    go_ret
    exact ⟨by first | rfl | (rw [← HE.out]; rfl), rfl⟩
  · have e1 := tmod_nonneg n m h0 (by omega)
    rw [e1]
    clear e1
    go_enter Try.func36, Try.ntmps36
    go_wp2
    go_ret
    exact ⟨rfl, rfl⟩

set_option maxHeartbeats 400000 in
theorem checkWord_any (s : ByteArray) (at' bytes : Int) (w : World) (hs : s.size ≤ 140737488351232) :
    Calls Try.prog 12 #[.string s, .int .i64 at', .int .i64 bytes] w fun e w' => e = .returned (.int .i64 (wrongAt s.size at' bytes)) ∧ w' = w := by
  by_cases h : bytes < 1 ∨ 4 < bytes
  · rw [show wrongAt s.size at' bytes = 7 from by unfold wrongAt; rw [if_pos h]]
    have hb := betw_false h
    go_enter Try.func12, Try.ntmps12
    go_wp2_with (go_at_call 34; refine (between_any _ _ _ _).mono ?_; rintro e w' ⟨rfl, rfl⟩)
    go_ret
    exact ⟨rfl, rfl⟩
  · have hb : betw bytes 1 4 = true := betw_true (by omega) (by omega)
    have h1 : 1 ≤ bytes := by omega
    have h4 : bytes ≤ 4 := by omega
    by_cases c : at' < 0 ∨ s.size - bytes < at'
    · rw [show wrongAt s.size at' bytes = 3 from by unfold wrongAt; rw [if_neg h, if_pos c]]
      have hc := betw_false c
      clear h c
      go_enter Try.func12, Try.ntmps12
      go_wp2_with (go_at_call 34; refine (between_any _ _ _ _).mono ?_; rintro e w' ⟨rfl, rfl⟩)
      go_ret
      exact ⟨rfl, rfl⟩
    · rw [show wrongAt s.size at' bytes = 0 from by unfold wrongAt; rw [if_neg h, if_neg c]]
      have hc : betw at' 0 (s.size - bytes) = true := betw_true (by omega) (by omega)
      clear h c
      go_enter Try.func12, Try.ntmps12
      go_wp2_with (go_at_call 34; refine (between_any _ _ _ _).mono ?_; rintro e w' ⟨rfl, rfl⟩)
      go_ret
      exact ⟨rfl, rfl⟩

set_option maxHeartbeats 400000 in
theorem signedOf_any (n bits : Int) (w : World) :
    Calls Try.prog 15 #[.int .i64 n, .int .i64 bits] w fun e w' => e = .returned (.tuple #[.int .i64 (signedN n bits), .int .i64 (signedE n bits)]) ∧ w' = w := by
  by_cases h : bits < 1 ∨ 32 < bits
  · rw [show signedN n bits = 0 from by unfold signedN; rw [if_pos h], show signedE n bits = 7 from by unfold signedE; rw [if_pos h]]
    have hb := betw_false h
    go_enter Try.func15, Try.ntmps15
    go_wp2_with (go_at_call 34; refine (between_any _ _ _ _).mono ?_; rintro e w' ⟨rfl, rfl⟩)
    go_ret2
    exact ⟨rfl, rfl⟩
  obtain ⟨k, rfl⟩ : ∃ k : Nat, bits = (k : Int) + 1 := ⟨(bits - 1).toNat, by omega⟩
  have hk : k ≤ 31 := by omega
  have hb : betw ((k : Int) + 1) 1 32 = true := betw_true (by omega) (by omega)
  obtain ⟨p1, p2⟩ := pow_le_31 k hk
  have e2 : (2 : Int) ^ ((k : Int) + 1).toNat = 2 * 2 ^ k := by rw [show ((k : Int) + 1).toNat = k + 1 from by omega, Int.pow_succ]; omega
  have eN : signedN n ((k : Int) + 1) = if n < 0 ∨ 2 * 2 ^ k ≤ n then 0 else if 2 ^ k ≤ n then n - 2 * 2 ^ k else n := by
    unfold signedN; rw [if_neg h, e2, show (2 * 2 ^ k : Int) / 2 = 2 ^ k from by omega]
  have eE : signedE n ((k : Int) + 1) = if n < 0 ∨ 2 * 2 ^ k ≤ n then 3 else 0 := by
    unfold signedE; rw [if_neg h, e2]
  rw [eN, eE]
  have HP : Hid (∀ w, Calls Try.prog 35 #[.int .i64 k] w fun e w' => e = .returned (.int .i64 (2 ^ k)) ∧ w' = w) := fun w => power_any k (by omega) w
  have HP1 : Hid (∀ w, Calls Try.prog 35 #[.int .i64 ((k : Int) + 1)] w fun e w' => e = .returned (.int .i64 (2 * 2 ^ k)) ∧ w' = w) := by
    intro w
    have := power_any (k + 1) (by omega) w
    rwa [show (2 : Int) ^ (k + 1) = 2 * 2 ^ k from by rw [Int.pow_succ]; omega] at this
  clear eN eE e2 h
  generalize (2 : Int) ^ k = q at *
  by_cases c : n < 0 ∨ 2 * q ≤ n
  · rw [if_pos c, if_pos c]
    have hc : betw n 0 (2 * q - 1) = false := betw_false (by omega)
    clear c
    go_enter Try.func15, Try.ntmps15
    go_wp2_with (first
      | (go_at_call 34; refine (between_any _ _ _ _).mono ?_; rintro e w' ⟨rfl, rfl⟩)
      | (go_at_call 35; refine (HP1.out _).mono ?_; rintro e w' ⟨rfl, rfl⟩))
    go_ret2
    exact ⟨rfl, rfl⟩
  · rw [if_neg c, if_neg c]
    have hc : betw n 0 (2 * q - 1) = true := betw_true (by omega) (by omega)
    have n1 : 0 ≤ n := by omega
    have n2 : n < 2 * q := by omega
    clear c
    by_cases f : q ≤ n
    · rw [if_pos f]
      go_enter Try.func15, Try.ntmps15
      go_wp2_with (go_at_call 34; refine (between_any _ _ _ _).mono ?_; rintro e w' ⟨rfl, rfl⟩)
      refine (HP1.out _).mono ?_
      rintro e w1 ⟨rfl, rfl⟩
      go_wp2_with (go_at_call 34; refine (between_any _ _ _ _).mono ?_; rintro e w' ⟨rfl, rfl⟩)
      refine (HP.out _).mono ?_
      rintro e w1 ⟨rfl, rfl⟩
      go_wp2_with fail
      refine (HP1.out _).mono ?_
      rintro e w1 ⟨rfl, rfl⟩
      go_wp2
      go_ret2
      exact ⟨rfl, rfl⟩
    · rw [if_neg f]
      go_enter Try.func15, Try.ntmps15
      go_wp2_with (go_at_call 34; refine (between_any _ _ _ _).mono ?_; rintro e w' ⟨rfl, rfl⟩)
      refine (HP1.out _).mono ?_
      rintro e w1 ⟨rfl, rfl⟩
      go_wp2_with (go_at_call 34; refine (between_any _ _ _ _).mono ?_; rintro e w' ⟨rfl, rfl⟩)
      refine (HP.out _).mono ?_
      rintro e w1 ⟨rfl, rfl⟩
      go_wp2
      go_ret2
      exact ⟨rfl, rfl⟩

end Go.Proofs.Ytaklbnabgcglhaa
