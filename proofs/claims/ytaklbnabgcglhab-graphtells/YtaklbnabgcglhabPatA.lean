/- The contracts of package patch's small functions. -/
import Derived.Test.YtaklbnabgcglhabPatM
import Derived.Laws.BitsLemmas
import Derived.Laws.Bits64
namespace Go.Proofs.Ytaklbnabgcglhab
open Go.RowKit Go.PlainAid

set_option maxHeartbeats 400000 in
theorem isAddress_any (n : Int) (w : World) : Calls Try.prog 41 #[.int .i64 n] w fun e w' => e = .returned (.bool (betw n 0 65535)) ∧ w' = w := by
  by_cases h1 : 0 ≤ n
  · by_cases h2 : n ≤ 65535
    · rw [betw_true h1 h2]
      go_enter Try.func41, Try.ntmps41
      go_wp2
      go_ret
      exact ⟨rfl, rfl⟩
    · rw [betw_false (.inr (by omega))]
      have h3 : decide (n ≤ 65535) = false := decide_eq_false h2
      go_enter Try.func41, Try.ntmps41
      go_wp2
      go_ret
      exact ⟨rfl, rfl⟩
  · rw [betw_false (.inl (by omega))]
    have h3 : decide (0 ≤ n) = false := decide_eq_false h1
    go_enter Try.func41, Try.ntmps41
    go_wp2
    go_ret
    exact ⟨rfl, rfl⟩

def widthErr (k : Int) : Int := if width k = 0 then 7 else 0
set_option maxHeartbeats 400000 in
theorem patchWidth_any (k : Int) (w : World) : Calls Try.prog 12 #[.int .i64 k] w fun e w' => e = .returned (.tuple #[.int .i64 (width k), .int .i64 (widthErr k)]) ∧ w' = w := by
  have HW : Hid (∀ w, Calls Try.prog 38 #[.int .i64 k] w fun e w' => e = .returned (.int .i64 (width k)) ∧ w' = w) := fun w => patched_any k w
  unfold widthErr
  by_cases h : width k = 0
  · rw [if_pos h]
    rw [h] at HW ⊢
    clear h
    go_enter Try.func12, Try.ntmps12
    go_wp2_with (go_at_call 38; refine (HW.out _).mono ?_; rintro e w' ⟨rfl, rfl⟩)
    go_ret2
    exact ⟨rfl, rfl⟩
  · rw [if_neg h]
    have h0 : (width k == 0) = false := beq_eq_false_iff_ne.2 h
    clear h
    generalize width k = m at *
    go_enter Try.func12, Try.ntmps12
    go_wp2_with (go_at_call 38; refine (HW.out _).mono ?_; rintro e w' ⟨rfl, rfl⟩)
    go_ret2
    exact ⟨rfl, rfl⟩

theorem tdiv2_bd (n : Int) : n / 2 ≤ n.tdiv 2 ∧ n.tdiv 2 ≤ n / 2 + 1 := by
  rw [Int.tdiv_eq_ediv]
  split
  · omega
  · have : Int.sign 2 = 1 := rfl
    omega
theorem tdiv2_even (n : Int) (h : n % 2 = 0) : n.tdiv 2 = n / 2 := by
  rw [Int.tdiv_eq_ediv, if_pos (.inr (by omega))]
  omega
theorem tmod2_even (n : Int) : (n.tmod 2 == 0) = (n % 2 == 0) := by
  rw [Bool.eq_iff_iff, beq_iff_eq, beq_iff_eq]
  rw [Int.tmod_eq_emod]
  split
  · omega
  · have : (Int.natAbs 2 : Int) = 2 := rfl
    omega
theorem and_low (s : Int) (h0 : 0 ≤ s) (h1 : s ≤ 131070) : bits .and .i64 s 65535 = s % 65536 := by
  have h := bits_mask .i64 63 (by decide) (fun n a b => by rw [IntKind.wrap_i64]; omega) 16 (by decide) s h0 (by omega)
  have e : ((2 : Int) ^ 16 - 1) = 65535 := by decide
  have e2 : ((2 : Int) ^ 16) = 65536 := by decide
  rwa [e, e2] at h

set_option maxHeartbeats 400000 in
theorem half_any (far : Int) (h0 : -65535 ≤ far) (h1 : far ≤ 131070) (w : World) : Calls Try.prog 103 #[.int .i64 far] w fun e w' => e = .returned (.tuple #[.int .i64 (far.tdiv 2), .bool (far.tmod 2 == 0)]) ∧ w' = w := by
  have b2 := tdiv2_bd far
  have b0 : -8388608 ≤ far.tdiv 2 := by omega
  have b1 : far.tdiv 2 < 8388608 := by omega
  clear b2
  cases hc : far.tmod 2 == 0
  · go_enter Try.func103, Try.ntmps103
    go_wp2
    go_ret2
    exact ⟨rfl, rfl⟩
  · go_enter Try.func103, Try.ntmps103
    go_wp2
    go_ret2
    exact ⟨rfl, rfl⟩

set_option maxHeartbeats 400000 in
theorem formula1_any (s p : Int) (w : World) : Calls Try.prog 98 #[.int .i64 s, .int .i64 p] w fun e w' => e = .returned (.tuple #[.int .i64 s, .bool true]) ∧ w' = w := by
  go_enter Try.func98, Try.ntmps98
  go_wp2
  go_ret2
  exact ⟨rfl, rfl⟩
set_option maxHeartbeats 400000 in
theorem formula2_any (s p : Int) (h0 : 0 ≤ s) (h1 : s ≤ 131070) (h2 : 0 ≤ p) (h3 : p ≤ 65535) (w : World) : Calls Try.prog 99 #[.int .i64 s, .int .i64 p] w fun e w' => e = .returned (.tuple #[.int .i64 (s - p), .bool true]) ∧ w' = w := by
  go_enter Try.func99, Try.ntmps99
  go_wp2
  go_ret2
  exact ⟨rfl, rfl⟩
set_option maxHeartbeats 400000 in
theorem formula3_any (s p : Int) (w : World) : Calls Try.prog 100 #[.int .i64 s, .int .i64 p] w fun e w' => e = .returned (.tuple #[.int .i64 (s / 65536), .bool true]) ∧ w' = w := by
  go_enter Try.func100, Try.ntmps100
  go_wp2
  go_ret2
  exact ⟨rfl, rfl⟩
set_option maxHeartbeats 400000 in
theorem formula4_any (s p : Int) (h0 : 0 ≤ s) (h1 : s ≤ 131070) (w : World) : Calls Try.prog 101 #[.int .i64 s, .int .i64 p] w fun e w' => e = .returned (.tuple #[.int .i64 (s % 65536), .bool true]) ∧ w' = w := by
  go_enter Try.func101, Try.ntmps101
  go_wp2
  go_ret2
  exact ⟨by rw [← and_low s h0 h1]; rfl, rfl⟩
set_option maxHeartbeats 400000 in
theorem formula5_any (s p : Int) (h0 : 0 ≤ s) (h1 : s ≤ 131070) (h2 : 0 ≤ p) (h3 : p ≤ 65535) (w : World) : Calls Try.prog 102 #[.int .i64 s, .int .i64 p] w fun e w' => e = .returned (.tuple #[.int .i64 ((s - p).tdiv 2), .bool ((s - p).tmod 2 == 0)]) ∧ w' = w := by
  have HH : Hid (∀ w, Calls Try.prog 103 #[.int .i64 (s - p)] w fun e w' => e = .returned (.tuple #[.int .i64 ((s - p).tdiv 2), .bool ((s - p).tmod 2 == 0)]) ∧ w' = w) := fun w => half_any (s - p) (by omega) (by omega) w
  go_enter Try.func102, Try.ntmps102
  go_wp2_with (go_at_call 103; refine (HH.out _).mono ?_; rintro e w' ⟨rfl, rfl⟩)
  go_ret2
  exact ⟨rfl, rfl⟩

end Go.Proofs.Ytaklbnabgcglhab
