/- The contract of the document's between. -/
import Derived.Test.YtnomapbiklfciafBase
import Derived.Test.YtnomapbiklfciafModM
import Derived.Deep.QuietTactic
import Derived.BigQuiet
import Derived.WalkSmall
import Derived.WalkSpells
namespace Go.Proofs.Ytnomapbiklfciaf
open Go.RowKit Go.PlainAid

set_option maxHeartbeats 400000 in
theorem between_any (n l m : Int) (w : World) :
    Calls Try.prog 33 #[.int .i64 n, .int .i64 l, .int .i64 m] w fun e w' => e = .returned (.bool (betw n l m)) ∧ w' = w := by
  by_cases h1 : l ≤ n
  · by_cases h2 : n ≤ m
    · rw [betw_true h1 h2]
      go_enter Try.func33, Try.ntmps33
      go_wp2
      go_ret
      exact ⟨rfl, rfl⟩
    · rw [betw_false (.inr (by omega))]
      have h3 : decide (n ≤ m) = false := decide_eq_false h2
      go_enter Try.func33, Try.ntmps33
      go_wp2
      go_ret
      exact ⟨rfl, rfl⟩
  · rw [betw_false (.inl (by omega))]
    have h3 : decide (l ≤ n) = false := decide_eq_false h1
    go_enter Try.func33, Try.ntmps33
    go_wp2
    go_ret
    exact ⟨rfl, rfl⟩

end Go.Proofs.Ytnomapbiklfciaf
