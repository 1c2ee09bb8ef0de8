/- The contracts of patch.formulas, formulaOf. -/
import Derived.Test.YtaklbnabgcglhabPatA
namespace Go.Proofs.Ytaklbnabgcglhab
open Go.RowKit Go.PlainAid

def formulaRow : Array Value := #[.int .i64 1, .func (.func 98) #[] #[], .int .i64 2, .func (.func 99) #[] #[], .int .i64 3, .func (.func 100) #[] #[], .int .i64 4, .func (.func 101) #[] #[], .int .i64 5, .func (.func 102) #[] #[]]

set_option maxHeartbeats 400000 in
theorem formulas_any (w : World) : Calls Try.prog 70 #[] w fun e w' => e = .returned (.slice (some ⟨w.heap.size, 0, none⟩) 5 5) ∧ w' = w.alloc (.cells formulaRow 80) := by
  go_enter Try.func70, Try.ntmps70
  go_wp2
  go_ret
  exact ⟨rfl, rfl⟩

set_option maxHeartbeats 400000 in
theorem isKind_any (B : Nat) (k K : Int) (f : Value) (w : World) (hlt : B < w.heap.size) (hB : w.cell? ⟨B, 0, none⟩ = some (.int .i64 k)) : Calls Try.prog 72 #[.agg #[.int .i64 K, f], .pointer (some ⟨B, 0, none⟩)] w fun e w' => e = .returned (.bool (K == k)) ∧ Below w.heap.size w w' := by
  go_enter Try.func72, Try.ntmps72
  go_wp2
  trace_state
  go_ret
  exact ⟨rfl, (Below.refl _ _).alloc (Nat.le_refl _) _⟩

end Go.Proofs.Ytaklbnabgcglhab
