/- Patches as numbers: what stands there, or why nothing can. -/
import Derived.Test.YtaklbnabgcglhabWordD
import Derived.Test.YtaklbnabgcglhabNameW
namespace Go.Proofs.Ytaklbnabgcglhab
open Go.RowKit Go.PlainAid

def valRange (sym add place : Int) : Bool := betw sym 0 65535 && betw place 0 65535 && betw add 0 65535
/-- Why no number can stand there. -/
def valErr (kind sym add place : Int) : Int :=
  if width kind = 0 then 7 else if valRange sym add place = false then 3 else if kind = 5 ∧ (sym + add - place) % 2 = 1 then 4 else 0
def rawVal (kind sym add place : Int) : Int :=
  if kind = 1 then sym + add else if kind = 2 then (sym + add - place) % 4294967296 else if kind = 3 then (sym + add) / 65536 else if kind = 4 then (sym + add) % 65536 else ((sym + add - place) / 2) % 16777216
def valNum (kind sym add place : Int) : Int := if valErr kind sym add place = 0 then rawVal kind sym add place else 0

theorem valRange_true {sym add place : Int} (h : valRange sym add place = true) : 0 ≤ sym ∧ sym ≤ 65535 ∧ 0 ≤ place ∧ place ≤ 65535 ∧ 0 ≤ add ∧ add ≤ 65535 := by
  unfold valRange at h
  simp only [Bool.and_eq_true, betw_iff] at h
  omega

/-- The ways of a value. -/
theorem val_cases (kind sym add place : Int) :
    (width kind = 0 ∧ valErr kind sym add place = 7 ∧ valNum kind sym add place = 0) ∨
    (width kind ≠ 0 ∧ valRange sym add place = false ∧ valErr kind sym add place = 3 ∧ valNum kind sym add place = 0) ∨
    (valRange sym add place = true ∧ (
      (kind = 1 ∧ valErr kind sym add place = 0 ∧ valNum kind sym add place = sym + add) ∨
      (kind = 2 ∧ valErr kind sym add place = 0 ∧ valNum kind sym add place = (sym + add - place) % 4294967296) ∨
      (kind = 3 ∧ valErr kind sym add place = 0 ∧ valNum kind sym add place = (sym + add) / 65536) ∨
      (kind = 4 ∧ valErr kind sym add place = 0 ∧ valNum kind sym add place = (sym + add) % 65536) ∨
      (kind = 5 ∧ (sym + add - place) % 2 = 1 ∧ valErr kind sym add place = 4 ∧ valNum kind sym add place = 0) ∨
      (kind = 5 ∧ (sym + add - place) % 2 = 0 ∧ valErr kind sym add place = 0 ∧ valNum kind sym add place = ((sym + add - place) / 2) % 16777216))) := by
  by_cases h0 : width kind = 0
  · exact .inl ⟨h0, by simp [valErr, h0], by simp [valNum, valErr, h0]⟩
  cases hr : valRange sym add place
  · exact .inr (.inl ⟨h0, rfl, by simp [valErr, h0, hr], by simp [valNum, valErr, h0, hr]⟩)
  refine .inr (.inr ⟨rfl, ?_⟩)
  rcases width_cases kind with ⟨rfl, h⟩ | ⟨rfl, h⟩ | ⟨rfl, h⟩ | ⟨rfl, h⟩ | ⟨rfl, h⟩ | ⟨h1, h2, h3, h4, h5, h⟩
  · have e : valErr 1 sym add place = 0 := by simp [valErr, h, hr]
    exact .inl ⟨rfl, e, by simp [valNum, e, rawVal]⟩
  · have e : valErr 2 sym add place = 0 := by simp [valErr, h, hr]
    exact .inr (.inl ⟨rfl, e, by simp [valNum, e, rawVal]⟩)
  · have e : valErr 3 sym add place = 0 := by simp [valErr, h, hr]
    exact .inr (.inr (.inl ⟨rfl, e, by simp [valNum, e, rawVal]⟩))
  · have e : valErr 4 sym add place = 0 := by simp [valErr, h, hr]
    exact .inr (.inr (.inr (.inl ⟨rfl, e, by simp [valNum, e, rawVal]⟩)))
  · by_cases hp : (sym + add - place) % 2 = 1
    · have e : valErr 5 sym add place = 4 := by simp [valErr, h, hr, hp]
      exact .inr (.inr (.inr (.inr (.inl ⟨rfl, hp, e, by simp [valNum, e]⟩))))
    · have e : valErr 5 sym add place = 0 := by simp [valErr, h, hr]; omega
      exact .inr (.inr (.inr (.inr (.inr ⟨rfl, by omega, e, by simp [valNum, e, rawVal]⟩))))
  · exact absurd h h0

end Go.Proofs.Ytaklbnabgcglhab
