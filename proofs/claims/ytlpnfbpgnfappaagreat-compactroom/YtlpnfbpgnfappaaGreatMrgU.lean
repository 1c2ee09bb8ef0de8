/- Texts that are laid together. -/
import Derived.Test.YtlpnfbpgnfappaaGreatMrgT
import Derived.Test.YtlpnfbpgnfappaaGreatMrgM

/- Registries that came in. -/
namespace Go.Proofs.YtlpnfbpgnfappaaGreat
open Go.ChangeShapes Go.WideShapes Go.ChangeAt Go.RowKit Go.PlainAid Go.Deep

set_option maxRecDepth 100000

section
variable {H : Type} {enc : TypeId × Value → H} {W : World} {spare : Nat → Bool} {held : Bool}

theorem open_registry {v : Value} {d : DataW H} {ps : List MemPlace} {base : Nat} (hv : Value.okWide Tryz.prog W .any base 27 v) (h : DataW.Trod enc Tryz.prog W 0 spare held 27 v d ps) : ∃ K l, IsReg W.heap.size W v K l ∧ K.fits ∧ ∀ x ∈ l, x.mod.fits := by
  obtain ⟨cs, rfl, hcs⟩ := okWide_struct Tryz.underlying27 hv
  obtain ⟨fuel, hf⟩ := h
  obtain ⟨xs, m, _, _, hl, hlen, hf⟩ := DataW.trod_struct Tryz.underlying27 hf
  have hc4 : Tryz.prog.cellsOf 27 = 4 := by kernel_rfl
  have hk3 : Tryz.prog.cellsOf 24 = 3 := by kernel_rfl
  obtain ⟨y0, y1, rfl⟩ := list2 hlen
  rw [hc4] at hl
  obtain ⟨c0, c1, c2, c3, hcl⟩ := list4 hl
  have hcs' : cs.toList = [c0, c1, c2, c3] := hcl
  have hcA : cs = #[c0, c1, c2, c3] := by rw [← Array.toArray_toList (xs := cs), hcs']
  subst hcA
  have g0 : DataW.trod enc Tryz.prog W 0 spare held m 24 (([c0, c1, c2, c3].drop 0).take (Tryz.prog.cellsOf 24)) = some y0 := hf 0 _ rfl
  rw [hk3] at g0
  have g1 := hf 1 _ rfl
  obtain ⟨zs, m2, _, _, _, hlen2, hf2⟩ := DataW.trod_struct Tryz.underlying24 g0
  obtain ⟨z0, z1, z2, rfl⟩ := list3 hlen2
  have f0 := hf2 0 _ rfl
  have f1 := hf2 1 _ rfl
  have f2 := hf2 2 _ rfl
  obtain ⟨a, rfl⟩ := int_of_trod f0
  obtain ⟨b, rfl⟩ := int_of_trod f1
  have _ : Inhabited Exp := ⟨⟨⟨#[]⟩, 0⟩⟩
  obtain ⟨es, hE, gE⟩ := row_of_trod (cells := Exp.cell) Tryz.underlying22 (sz := 2) (by kernel_rfl) (by decide) exp_of_trod f2
  have _ : Inhabited PV := ⟨⟨⟨⟨#[]⟩, 0, 0, ⟨#[]⟩, [], [], []⟩, .slice none 0 0, .slice none 0 0, .slice none 0 0, 0⟩⟩
  obtain ⟨l, hL, gL⟩ := row_of_trod (α := PV) (cells := PV.cell) (good := fun x => PlcAt W.heap.size W x ∧ x.mod.fits) Tryz.underlying25 (sz := 8) (by kernel_rfl) (by decide) plc_of_trod g1
  exact ⟨⟨a, b, es⟩, l, ⟨c2, c3, rfl, hE, hL, fun x hx => (gL x hx).1⟩, gE, fun x hx => (gL x hx).2⟩

end

end Go.Proofs.YtlpnfbpgnfappaaGreat
