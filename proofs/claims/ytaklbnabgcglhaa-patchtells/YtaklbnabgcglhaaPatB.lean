/- The contracts of patch.formulas, formulaOf. -/
import Derived.Test.YtaklbnabgcglhaaPatA
namespace Go.Proofs.Ytaklbnabgcglhaa
open Go.RowKit Go.PlainAid

def formulaRow : Array Value := #[.int .i64 1, .func (.func 77) #[] #[], .int .i64 2, .func (.func 78) #[] #[], .int .i64 3, .func (.func 79) #[] #[], .int .i64 4, .func (.func 80) #[] #[], .int .i64 5, .func (.func 81) #[] #[]]

set_option maxHeartbeats 400000 in
theorem formulas_any (w : World) : Calls Try.prog 73 #[] w fun e w' => e = .returned (.slice (some ⟨w.heap.size, 0, none⟩) 5 5) ∧ w' = w.alloc (.cells formulaRow 89) := by
  go_enter Try.func73, Try.ntmps73
  go_wp2
  go_ret
  exact ⟨rfl, rfl⟩

set_option maxHeartbeats 400000 in
theorem isKind_any (B : Nat) (k K : Int) (f : Value) (w : World) (hlt : B < w.heap.size) (hB : w.cell? ⟨B, 0, none⟩ = some (.int .i64 k)) : Calls Try.prog 75 #[.agg #[.int .i64 K, f], .pointer (some ⟨B, 0, none⟩)] w fun e w' => e = .returned (.bool (K == k)) ∧ Below w.heap.size w w' := by
  go_enter Try.func75, Try.ntmps75
  go_wp2
  trace_state
  go_ret
  exact ⟨rfl, (Below.refl _ _).alloc (Nat.le_refl _) _⟩

end Go.Proofs.Ytaklbnabgcglhaa
