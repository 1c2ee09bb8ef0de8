/- Where the first one is of which something holds. -/
import Derived.PlainAid
namespace Go.Proofs.Ytaklbnabgcglhab
open Go.RowKit Go.PlainAid

def ixFrom {α : Type} (p : α → Bool) (k : Nat) : List α → Int
  | [] => -1
  | x :: l => if p x then (k : Int) else ixFrom p (k + 1) l

theorem ix_find {α : Type} (p : α → Bool) : ∀ (l : List α) (k : Nat), (l.find? p = none ∧ ixFrom p k l = -1) ∨ ∃ j x, l.find? p = some x ∧ l[j]? = some x ∧ ixFrom p k l = ((k + j : Nat) : Int)
  | [], _ => .inl ⟨rfl, rfl⟩
  | y :: l, k => by
    unfold ixFrom
    cases hy : p y
    · rcases ix_find p l (k + 1) with ⟨h1, h2⟩ | ⟨j, x, h1, h2, h3⟩
      · exact .inl ⟨by rw [List.find?_cons, hy]; exact h1, by simpa using h2⟩
      · refine .inr ⟨j + 1, x, by rw [List.find?_cons, hy]; exact h1, by simpa using h2, ?_⟩
        rw [if_neg (by decide), h3]
        congr 1; omega
    · exact .inr ⟨0, y, by rw [List.find?_cons, hy], rfl, by simp⟩

end Go.Proofs.Ytaklbnabgcglhab
