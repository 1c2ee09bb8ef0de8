/- The contract of the document's CheckExports. -/
import Derived.Test.YtnomapbiklfciafModE
namespace Go.Proofs.Ytnomapbiklfciaf
open Go.RowKit Go.PlainAid

theorem any_take_succ {α : Type} (l : List α) (p : α → Bool) (j : Nat) (x : α) (h : l[j]? = some x) : (l.take (j + 1)).any p = ((l.take j).any p || p x) := by
  rw [List.take_add_one, h]; simp
theorem any_take_le {α : Type} (l : List α) (p : α → Bool) (j k : Nat) (x : α) (h : l[j]? = some x) (hk : j < k) (hp : p x = true) : (l.take k).any p = true := by
  rw [List.any_eq_true]
  refine ⟨x, ?_, hp⟩
  rw [List.mem_iff_getElem?]
  exact ⟨j, by rw [List.getElem?_take_of_lt hk]; exact h⟩

theorem toList_beq2 (x y : ByteArray) : (x.toList == y.toList) = (x == y) := by
  rw [Bool.eq_iff_iff, ba_beq, beq_iff_eq, ByteArray.toList_eq, ByteArray.toList_eq]
  constructor
  · intro h; exact ByteArray.ext (Array.toList_inj.1 h)
  · rintro rfl; rfl

end Go.Proofs.Ytnomapbiklfciaf
