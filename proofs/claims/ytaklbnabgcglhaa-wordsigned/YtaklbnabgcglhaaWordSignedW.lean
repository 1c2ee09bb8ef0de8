/- The walk of the law WordSigned: it returns true. -/
import Derived.Test.YtaklbnabgcglhaaWordD
namespace Go.Proofs.Ytaklbnabgcglhaa.wordSigned
open Go.RowKit Go.PlainAid

set_option maxHeartbeats 400000 in
theorem walk (n bits : Int) (_ : (Lit.int .i64 n).wf = true) (_ : (Lit.int .i64 bits).wf = true) (w : World) :
    Calls Try.prog 5 #[.int .i64 n, .int .i64 bits] w fun e w' => e = .returned (.bool true) ∧ Below w.heap.size w w' := by
  by_cases hE : signedE n bits = 0
  · have hb : 1 ≤ bits ∧ bits ≤ 32 := by
      unfold signedE at hE
      split at hE <;> omega
    obtain ⟨q, hq, hq1, hq2⟩ := two_pow_half bits (by omega) (by omega)
    have hn : 0 ≤ n ∧ n < 2 * q := by
      unfold signedE at hE
      rw [if_neg (by omega), hq] at hE
      split at hE <;> omega
    have eN : signedN n bits = if q ≤ n then n - 2 * q else n := by
      unfold signedN; rw [if_neg (by omega), if_neg (by omega), hq, show 2 * q / 2 = q from by omega]
    obtain ⟨hn1, hn2⟩ := hn
    obtain ⟨hb1, hb2⟩ := hb
    by_cases hc : q ≤ n
    · rw [if_pos hc] at eN
      have hs := fun w => signed_any n bits w
      rw [eN, hE] at hs
      have HS : Hid (∀ w, Calls Try.prog 11 #[.int .i64 n, .int .i64 bits] w fun e w' => e = .returned (.tuple #[.int .i64 (n - 2 * q), .int .i64 0]) ∧ w' = w) := hs
      clear hs eN hE
      have t1 : (n - 2 * q == n) = false := beq_eq_false_iff_ne.2 (by omega)
      have t2 : n - 2 * q < q := by omega
      go_enter Try.func5, Try.ntmps5
      go_wp2_with fail
      refine (HS.out _).mono ?_
      rintro e w1 ⟨rfl, rfl⟩
      go_wp2_with fail
      refine (wordBegun_any _).mono ?_
      rintro e w2 ⟨rfl, hb2'⟩
      go_wp2
      go_ret
      exact ⟨rfl, hb2'⟩
    · rw [if_neg hc] at eN
      have hs := fun w => signed_any n bits w
      rw [eN, hE] at hs
      have HS : Hid (∀ w, Calls Try.prog 11 #[.int .i64 n, .int .i64 bits] w fun e w' => e = .returned (.tuple #[.int .i64 n, .int .i64 0]) ∧ w' = w) := hs
      clear hs eN hE
      go_enter Try.func5, Try.ntmps5
      go_wp2_with fail
      refine (HS.out _).mono ?_
      rintro e w1 ⟨rfl, rfl⟩
      go_wp2_with fail
      refine (wordBegun_any _).mono ?_
      rintro e w2 ⟨rfl, hb2'⟩
      go_wp2
      go_ret
      exact ⟨rfl, hb2'⟩
  · have hz : signedN n bits = 0 := by
      unfold signedE at hE; unfold signedN
      split at hE
      · rw [if_pos ‹_›]
      · rw [if_neg ‹_›]; split at hE
        · rw [if_pos ‹_›]
        · omega
    have hb : (signedE n bits != 0) = true := by simpa using hE
    have hs := fun w => signed_any n bits w
    rw [hz] at hs
    clear hz hE
    generalize signedE n bits = x at hs hb
    have HS : Hid (∀ w, Calls Try.prog 11 #[.int .i64 n, .int .i64 bits] w fun e w' => e = .returned (.tuple #[.int .i64 0, .int .i64 x]) ∧ w' = w) := hs
    clear hs
    go_enter Try.func5, Try.ntmps5
    go_wp2_with fail
    refine (HS.out _).mono ?_
    rintro e w1 ⟨rfl, rfl⟩
    go_wp2_with fail
    refine (wordBegun_any _).mono ?_
    rintro e w2 ⟨rfl, hb2'⟩
    go_wp2
    go_ret
    exact ⟨rfl, hb2'⟩

end Go.Proofs.Ytaklbnabgcglhaa.wordSigned
