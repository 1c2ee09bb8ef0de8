/- Texts that are laid together. -/
import Derived.Test.YthmohjgdcjafkagMrgD

/- The contract of module.Check. -/
namespace Go.Proofs.Ythmohjgdcjafkag
open Go.RowKit Go.PlainAid

theorem chkMod_cases (M : Mod) : (isNm M.name = false ∧ chkMod M = 1) ∨ (isNm M.name = true ∧ ((M.name == kernelName) = true ∧ chkMod M = 1 ∨ (M.name == kernelName) = false ∧
    (isVer M.major M.minor = false ∧ chkMod M = 3 ∨ isVer M.major M.minor = true ∧ (tooManyB M = true ∧ chkMod M = 2 ∨ tooManyB M = false ∧ M.text.size ≤ 256 ∧ M.exps.length ≤ 6 ∧ M.imps.length ≤ 6 ∧ M.pats.length ≤ 12 ∧
      (M.text.size = 0 ∧ chkMod M = 1 ∨ 0 < M.text.size ∧ (M.text.size % 4 ≠ 0 ∧ chkMod M = 1 ∨ M.text.size % 4 = 0 ∧
        (chkExps M.text.size [] M.exps ≠ 0 ∧ chkMod M = chkExps M.text.size [] M.exps ∨ chkExps M.text.size [] M.exps = 0 ∧
          (chkImps [] M.imps ≠ 0 ∧ chkMod M = chkImps [] M.imps ∨ chkImps [] M.imps = 0 ∧ chkMod M = chkPats M.text.size M.imps.length 0 M.pats)))))))) := by
  unfold chkMod
  cases h1 : isNm M.name
  · exact .inl ⟨rfl, by simp⟩
  refine .inr ⟨rfl, ?_⟩
  by_cases h2 : (M.name == kernelName) = true
  · exact .inl ⟨h2, by simp [h2]⟩
  have h2f : (M.name == kernelName) = false := by simpa using h2
  refine .inr ⟨h2f, ?_⟩
  rw [h2f]
  cases h3 : isVer M.major M.minor
  · exact .inl ⟨rfl, by simp⟩
  refine .inr ⟨rfl, ?_⟩
  by_cases h4 : 256 < M.text.size ∨ 6 < M.exps.length ∨ 6 < M.imps.length ∨ 12 < M.pats.length
  · refine .inl ⟨?_, by simp [h4]⟩
    unfold tooManyB
    rcases h4 with h | h | h | h
    · rw [decide_eq_true (show 256 < (M.text.size : Int) by omega)]; simp
    · rw [decide_eq_true (show 6 < (M.exps.length : Int) by omega)]; simp
    · rw [decide_eq_true (show 6 < (M.imps.length : Int) by omega)]; simp
    · rw [decide_eq_true (show 12 < (M.pats.length : Int) by omega)]; simp
  have t1 : tooManyB M = false := by
    unfold tooManyB
    rw [decide_eq_false (show ¬ 256 < (M.text.size : Int) by omega), decide_eq_false (show ¬ 6 < (M.exps.length : Int) by omega), decide_eq_false (show ¬ 6 < (M.imps.length : Int) by omega), decide_eq_false (show ¬ 12 < (M.pats.length : Int) by omega)]; rfl
  refine .inr ⟨t1, by omega, by omega, by omega, by omega, ?_⟩
  rw [if_neg (by simp), if_neg (by simp), if_neg h4]
  by_cases h5 : M.text.size = 0
  · exact .inl ⟨h5, by rw [if_pos (.inl h5)]⟩
  refine .inr ⟨by omega, ?_⟩
  by_cases h6 : M.text.size % 4 ≠ 0
  · exact .inl ⟨h6, by rw [if_pos (.inr h6)]⟩
  refine .inr ⟨by omega, ?_⟩
  rw [if_neg (by omega)]
  by_cases h7 : chkExps M.text.size [] M.exps ≠ 0
  · exact .inl ⟨h7, by rw [if_pos h7]⟩
  refine .inr ⟨by omega, ?_⟩
  rw [if_neg h7]
  by_cases h8 : chkImps [] M.imps ≠ 0
  · exact .inl ⟨h8, by rw [if_pos h8]⟩
  · exact .inr ⟨by omega, by rw [if_neg h8]⟩

theorem kern_form (N : ByteArray) : (N.toList == [107, 101, 114, 110, 101, 108]) = (N == kernelName) := by
  rw [Bool.eq_iff_iff, ba_beq, beq_iff_eq, ByteArray.toList_eq]
  constructor
  · intro h; exact ByteArray.ext (Array.toList_inj.1 h)
  · rintro rfl; rfl

end Go.Proofs.Ythmohjgdcjafkag

/- The contract of the document's CheckExports. -/
namespace Go.Proofs.Ythmohjgdcjafkag
open Go.RowKit Go.PlainAid

theorem any_take_succ {α : Type} (l : List α) (p : α → Bool) (j : Nat) (x : α) (h : l[j]? = some x) : (l.take (j + 1)).any p = ((l.take j).any p || p x) := by
  rw [List.take_add_one, h]; simp
theorem any_take_le {α : Type} (l : List α) (p : α → Bool) (j k : Nat) (x : α) (h : l[j]? = some x) (hk : j < k) (hp : p x = true) : (l.take k).any p = true := by
  rw [List.any_eq_true]
  refine ⟨x, ?_, hp⟩
  rw [List.mem_iff_getElem?]
  exact ⟨j, by rw [List.getElem?_take_of_lt hk]; exact h⟩

theorem toList_beq2 (x y : ByteArray) : (x.toList == y.toList) = (x == y) := by
  rw [Bool.eq_iff_iff, ba_beq, beq_iff_eq, ByteArray.toList_eq, ByteArray.toList_eq]
  constructor
  · intro h; exact ByteArray.ext (Array.toList_inj.1 h)
  · rintro rfl; rfl

end Go.Proofs.Ythmohjgdcjafkag

/- The contract of the document's CheckModule. -/
namespace Go.Proofs.Ythmohjgdcjafkag
open Go.RowKit Go.PlainAid

theorem impErr_own (met : List (ByteArray × ByteArray)) (i : Imp) : impErr met i = if impOwn i = 1 then 1 else if (met.any fun x => x.1 == i.mod && x.2 == i.name) = true then 6 else impOwn i := by
  unfold impErr impOwn
  cases h1 : isNm i.mod && isNm i.name
  · simp
  · cases h2 : isVer i.major i.minor
    · simp
    · simp
theorem impOwn_three (i : Imp) : impOwn i = 1 ∨ impOwn i = 3 ∨ impOwn i = 0 := by
  unfold impOwn
  cases h1 : isNm i.mod && isNm i.name
  · simp
  · cases h2 : isVer i.major i.minor <;> simp

end Go.Proofs.Ythmohjgdcjafkag
