/- Texts that are laid together. -/
import Derived.Test.YthmohjgdcjafkagMrgU
import Derived.Test.YthmohjgdcjafkagMrgK

/- Flashes, deeds, rows of texts and of numbers that came in. -/
namespace Go.Proofs.Ythmohjgdcjafkag
open Go.ChangeShapes Go.WideShapes Go.ChangeAt Go.RowKit Go.PlainAid Go.Deep

set_option maxRecDepth 100000

theorem list3f {α : Type} {l : List α} (h : l.length = 3) : ∃ a b c, l = [a, b, c] := by
  match l, h with
  | [a, b, c], _ => exact ⟨a, b, c, rfl⟩
theorem list1f {α : Type} {l : List α} (h : l.length = 1) : ∃ a, l = [a] := by
  match l, h with
  | [a], _ => exact ⟨a, rfl⟩

section
variable {H : Type} {enc : TypeId × Value → H} {W : World} {spare : Nat → Bool} {held : Bool}

theorem cap_of_trod {t e : TypeId} {fuel : Nat} {c : Value} {y : DataW H × List MemPlace} (ht : Try.prog.underlying t = some (.slice e)) (h : DataW.trod enc Try.prog W 0 spare held fuel t [c] = some y) : CapIn c := by
  intro a' n' c' hv
  rcases open_slice ht h with ⟨hc, _⟩ | ⟨a, len, cap, m, n, D, Pl, hc, _, hl, hm, hmm, _, hx⟩
  · injection hc with hc
    rw [hc] at hv
    injection hv
    omega
  · injection hc with hc
    rw [hc] at hv
    injection hv
    omega

theorem txt_of_trod (n : Nat) (cs : List Value) (z : DataW H × List MemPlace) (hl : cs.length = 1) (h : DataW.trod enc Try.prog W 0 spare held n 9 cs = some z) : ∃ x : ByteArray, (∀ i, i < 1 → cs[i]? = some (strCell x i)) ∧ x.size ≤ 9223372036854775807 := by
  obtain ⟨c, rfl⟩ := list1f hl
  obtain ⟨s, rfl, hs⟩ := str_of_trod h
  refine ⟨s, fun i hi => ?_, hs⟩
  obtain rfl : i = 0 := by omega
  rfl
theorem num_of_trod (n : Nat) (cs : List Value) (z : DataW H × List MemPlace) (hl : cs.length = 1) (h : DataW.trod enc Try.prog W 0 spare held n 3 cs = some z) : ∃ x : Int, (∀ i, i < 1 → cs[i]? = some (intCell x i)) ∧ (Lit.int .i64 x).wf = true := by
  obtain ⟨c, rfl⟩ := list1f hl
  obtain ⟨k, hc, hz, hk⟩ := DataW.trod_int Try.underlying3 h
  injection hc with hc
  subst hc
  refine ⟨k, fun i hi => ?_, ?_⟩
  · obtain rfl : i = 0 := by omega
    rfl
  · first | exact hk | simpa [Lit.wf] using hk
theorem deed_of_trod (n : Nat) (cs : List Value) (z : DataW H × List MemPlace) (hl : cs.length = 3) (h : DataW.trod enc Try.prog W 0 spare held n 40 cs = some z) : ∃ x : Deed, (∀ i, i < 3 → cs[i]? = some (Deed.cell x i)) ∧ True := by
  obtain ⟨xs, m, _, _, _, hlen, hf⟩ := DataW.trod_struct Try.underlying40 h
  obtain ⟨x0, x1, x2, rfl⟩ := list3f hlen
  obtain ⟨c0, c1, c2, rfl⟩ := list3f hl
  obtain ⟨a, rfl⟩ := int_of_trod (hf 0 _ rfl)
  obtain ⟨b, rfl⟩ := int_of_trod (hf 1 _ rfl)
  obtain ⟨k, rfl⟩ := int_of_trod (hf 2 _ rfl)
  refine ⟨⟨a, b, k⟩, fun i hi => ?_, trivial⟩
  have : i = 0 ∨ i = 1 ∨ i = 2 := by omega
  rcases this with rfl | rfl | rfl <;> rfl

theorem open_flash {v : Value} {d : DataW H} {ps : List MemPlace} {base : Nat} (hv : Value.okWide Try.prog W .any base 26 v) (h : DataW.Trod enc Try.prog W 0 spare held 26 v d ps) : ∃ (F : List ByteArray) (c : Value), v = .agg #[c] ∧ IsFl W.heap.size W c F := by
  obtain ⟨cs, rfl, hcs⟩ := okWide_struct Try.underlying26 hv
  obtain ⟨fuel, hf⟩ := h
  obtain ⟨xs, m, _, _, hl, hlen, hf⟩ := DataW.trod_struct Try.underlying26 hf
  have hc1 : Try.prog.cellsOf 26 = 1 := by kernel_rfl
  obtain ⟨x0, rfl⟩ := list1f hlen
  rw [hc1] at hl
  obtain ⟨c0, hcl⟩ := list1f hl
  have hcs' : cs.toList = [c0] := hcl
  have hcA : cs = #[c0] := by rw [← Array.toArray_toList (xs := cs), hcs']
  subst hcA
  have f0 := hf 0 _ rfl
  have _ : Inhabited ByteArray := ⟨⟨#[]⟩⟩
  obtain ⟨F, hF, _⟩ := row_of_trod (cells := strCell) (good := fun x => x.size ≤ 9223372036854775807) Try.underlying22 (sz := 1) (by kernel_rfl) (by decide) txt_of_trod f0
  exact ⟨F, c0, rfl, hF, cap_of_trod Try.underlying22 f0⟩

theorem open_deed {v : Value} {d : DataW H} {ps : List MemPlace} {base : Nat} (hv : Value.okWide Try.prog W .any base 40 v) (h : DataW.Trod enc Try.prog W 0 spare held 40 v d ps) : ∃ D : Deed, v = D.value := by
  obtain ⟨cs, rfl, hcs⟩ := okWide_struct Try.underlying40 hv
  obtain ⟨fuel, hf⟩ := h
  obtain ⟨xs, m, _, _, hl, hlen, hf⟩ := DataW.trod_struct Try.underlying40 hf
  have hc3 : Try.prog.cellsOf 40 = 3 := by kernel_rfl
  obtain ⟨x0, x1, x2, rfl⟩ := list3f hlen
  rw [hc3] at hl
  obtain ⟨c0, c1, c2, hcl⟩ := list3f hl
  have hcs' : cs.toList = [c0, c1, c2] := hcl
  have hcA : cs = #[c0, c1, c2] := by rw [← Array.toArray_toList (xs := cs), hcs']
  subst hcA
  obtain ⟨a, rfl⟩ := int_of_trod (hf 0 _ rfl)
  obtain ⟨b, rfl⟩ := int_of_trod (hf 1 _ rfl)
  obtain ⟨k, rfl⟩ := int_of_trod (hf 2 _ rfl)
  exact ⟨⟨a, b, k⟩, rfl⟩

theorem open_deeds {v : Value} {d : DataW H} {ps : List MemPlace} {base : Nat} (hv : Value.okWide Try.prog W .any base 32 v) (h : DataW.Trod enc Try.prog W 0 spare held 32 v d ps) : ∃ l : List Deed, RowOf 3 Deed.cell W.heap.size W v l ∧ CapIn v := by
  obtain ⟨a, ln, cp, rfl⟩ := okWide_slice Try.underlying32 hv
  obtain ⟨fuel, hf⟩ := h
  have _ : Inhabited Deed := ⟨⟨0, 0, 0⟩⟩
  obtain ⟨l, hL, _⟩ := row_of_trod (α := Deed) (cells := Deed.cell) (good := fun _ => True) (c := .slice a ln cp) Try.underlying32 (sz := 3) (by kernel_rfl) (by decide) deed_of_trod hf
  exact ⟨l, hL, cap_of_trod (c := .slice a ln cp) Try.underlying32 hf⟩

theorem open_texts {v : Value} {d : DataW H} {ps : List MemPlace} {base : Nat} (hv : Value.okWide Try.prog W .any base 22 v) (h : DataW.Trod enc Try.prog W 0 spare held 22 v d ps) : ∃ l : List ByteArray, RowOf 1 strCell W.heap.size W v l ∧ (∀ x ∈ l, x.size ≤ 9223372036854775807) ∧ CapIn v := by
  obtain ⟨a, ln, cp, rfl⟩ := okWide_slice Try.underlying22 hv
  obtain ⟨fuel, hf⟩ := h
  have _ : Inhabited ByteArray := ⟨⟨#[]⟩⟩
  obtain ⟨l, hL, hg⟩ := row_of_trod (α := ByteArray) (cells := strCell) (good := fun x => x.size ≤ 9223372036854775807) (c := .slice a ln cp) Try.underlying22 (sz := 1) (by kernel_rfl) (by decide) txt_of_trod hf
  exact ⟨l, hL, hg, cap_of_trod (c := .slice a ln cp) Try.underlying22 hf⟩

theorem open_nums {v : Value} {d : DataW H} {ps : List MemPlace} {base : Nat} (hv : Value.okWide Try.prog W .any base 23 v) (h : DataW.Trod enc Try.prog W 0 spare held 23 v d ps) : ∃ l : List Int, RowOf 1 intCell W.heap.size W v l ∧ (∀ x ∈ l, (Lit.int .i64 x).wf = true) ∧ CapIn v := by
  obtain ⟨a, ln, cp, rfl⟩ := okWide_slice Try.underlying23 hv
  obtain ⟨fuel, hf⟩ := h
  have _ : Inhabited Int := ⟨0⟩
  obtain ⟨l, hL, hg⟩ := row_of_trod (α := Int) (cells := intCell) (good := fun x => (Lit.int .i64 x).wf = true) (c := .slice a ln cp) Try.underlying23 (sz := 1) (by kernel_rfl) (by decide) num_of_trod hf
  exact ⟨l, hL, hg, cap_of_trod (c := .slice a ln cp) Try.underlying23 hf⟩

end

end Go.Proofs.Ythmohjgdcjafkag
