/- The contracts of small functions: names, versions, widths. -/
import Derived.Test.YtnomapbiklfciafBtw
namespace Go.Proofs.Ytnomapbiklfciaf
open Go.RowKit Go.PlainAid

theorem width_cases (k : Int) : (k = 1 ∧ width k = 4) ∨ (k = 2 ∧ width k = 4) ∨ (k = 3 ∧ width k = 2) ∨ (k = 4 ∧ width k = 2) ∨ (k = 5 ∧ width k = 3) ∨ (k ≠ 1 ∧ k ≠ 2 ∧ k ≠ 3 ∧ k ≠ 4 ∧ k ≠ 5 ∧ width k = 0) := by
  by_cases h1 : k = 1
  · subst h1; exact .inl ⟨rfl, by decide⟩
  by_cases h2 : k = 2
  · subst h2; exact .inr (.inl ⟨rfl, by decide⟩)
  by_cases h3 : k = 3
  · subst h3; exact .inr (.inr (.inl ⟨rfl, by decide⟩))
  by_cases h4 : k = 4
  · subst h4; exact .inr (.inr (.inr (.inl ⟨rfl, by decide⟩)))
  by_cases h5 : k = 5
  · subst h5; exact .inr (.inr (.inr (.inr (.inl ⟨rfl, by decide⟩))))
  · refine .inr (.inr (.inr (.inr (.inr ⟨h1, h2, h3, h4, h5, ?_⟩))))
    unfold width
    rw [if_neg (by omega), if_neg (by omega), if_neg h5]

end Go.Proofs.Ytnomapbiklfciaf
