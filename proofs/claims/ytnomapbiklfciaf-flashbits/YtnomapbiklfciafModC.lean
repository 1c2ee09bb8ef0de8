/- The contract of module.wrongImports. -/
import Derived.Test.YtnomapbiklfciafModB
import Derived.DeepKeys4
namespace Go.Proofs.Ytnomapbiklfciaf
open Go.RowKit Go.PlainAid Go.Maps Go.WideMaps

set_option maxRecDepth 100000

theorem laidOut : laidOutB Try.prog = true := by kernel_rfl
theorem impErr_cases (met : List (ByteArray × ByteArray)) (m n : ByteArray) (a b : Int) :
    (isNm m = false ∧ impErr met ⟨m, n, a, b⟩ = 1) ∨ (isNm m = true ∧ isNm n = false ∧ impErr met ⟨m, n, a, b⟩ = 1) ∨ (isNm m = true ∧ isNm n = true ∧ (met.any fun x => x.1 == m && x.2 == n) = true ∧ impErr met ⟨m, n, a, b⟩ = 6) ∨
    (isNm m = true ∧ isNm n = true ∧ (met.any fun x => x.1 == m && x.2 == n) = false ∧ isVer a b = false ∧ impErr met ⟨m, n, a, b⟩ = 3) ∨ (isNm m = true ∧ isNm n = true ∧ (met.any fun x => x.1 == m && x.2 == n) = false ∧ isVer a b = true ∧ impErr met ⟨m, n, a, b⟩ = 0) := by
  unfold impErr
  dsimp only
  cases h1 : isNm m
  · exact .inl ⟨rfl, by simp⟩
  cases h2 : isNm n
  · exact .inr (.inl ⟨rfl, rfl, by simp⟩)
  cases h3 : met.any fun x => x.1 == m && x.2 == n
  · cases h4 : isVer a b
    · exact .inr (.inr (.inr (.inl ⟨rfl, rfl, rfl, rfl, by simp⟩)))
    · exact .inr (.inr (.inr (.inr ⟨rfl, rfl, rfl, rfl, by simp⟩)))
  · exact .inr (.inr (.inl ⟨rfl, rfl, rfl, by simp⟩))

end Go.Proofs.Ytnomapbiklfciaf
