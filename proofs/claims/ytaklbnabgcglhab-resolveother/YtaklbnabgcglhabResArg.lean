/- Kernels that came in. -/
import Derived.Test.YtaklbnabgcglhabPlcArg
namespace Go.Proofs.Ytaklbnabgcglhab
open Go.ChangeShapes Go.WideShapes Go.ChangeAt Go.RowKit Go.PlainAid Go.Deep

set_option maxRecDepth 100000

section
variable {H : Type} {enc : TypeId × Value → H} {W : World} {spare : Nat → Bool} {held : Bool}

theorem open_kernel {v : Value} {d : DataW H} {ps : List MemPlace} {base : Nat} (hv : Value.okWide Try.prog W .any base 37 v) (h : DataW.Trod enc Try.prog W 0 spare held 37 v d ps) : ∃ K, IsKer W.heap.size W v K ∧ K.fits := by
  obtain ⟨cs, rfl, hcs⟩ := okWide_struct Try.underlying37 hv
  obtain ⟨fuel, hf⟩ := h
  obtain ⟨xs, m, _, _, hl, hlen, hf⟩ := DataW.trod_struct Try.underlying37 hf
  have hc3 : Try.prog.cellsOf 37 = 3 := by kernel_rfl
  obtain ⟨x0, x1, x2, rfl⟩ := list3 hlen
  rw [hc3] at hl
  obtain ⟨c0, c1, c2, hcl⟩ := list3 hl
  have hcs' : cs.toList = [c0, c1, c2] := hcl
  have hcA : cs = #[c0, c1, c2] := by rw [← Array.toArray_toList (xs := cs), hcs']
  subst hcA
  have f0 := hf 0 _ rfl
  have f1 := hf 1 _ rfl
  have f2 := hf 2 _ rfl
  obtain ⟨a, rfl⟩ := int_of_trod f0
  obtain ⟨b, rfl⟩ := int_of_trod f1
  have _ : Inhabited Exp := ⟨⟨⟨#[]⟩, 0⟩⟩
  obtain ⟨es, hE, gE⟩ := row_of_trod (cells := Exp.cell) Try.underlying35 (sz := 2) (by kernel_rfl) (by decide) exp_of_trod f2
  exact ⟨⟨a, b, es⟩, ⟨c2, rfl, hE⟩, gE⟩

end

end Go.Proofs.Ytaklbnabgcglhab
