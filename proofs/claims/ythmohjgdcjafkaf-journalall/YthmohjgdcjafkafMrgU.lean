/- Texts that are laid together. -/
import Derived.Test.YthmohjgdcjafkafMrgC
import Derived.ProofKit
import Derived.OpenShut
import Derived.ShutString
import Derived.ChangeOld
import Derived.SizedLaws
import Derived.Below
import Derived.Carry
import Derived.Deep.Slices
import Derived.Test.YthmohjgdcjafkafMrgK

/- Arguments that came in: texts, numbers, rows, a patch. -/
namespace Go.Proofs.Ythmohjgdcjafkaf
open Go.ChangeShapes Go.WideShapes Go.ChangeAt Go.RowKit Go.PlainAid Go.Deep

set_option maxRecDepth 100000

theorem list7 {α : Type} {l : List α} (h : l.length = 7) : ∃ a b c d e f g, l = [a, b, c, d, e, f, g] := by
  match l, h with
  | [a, b, c, d, e, f, g], _ => exact ⟨a, b, c, d, e, f, g, rfl⟩
theorem list4 {α : Type} {l : List α} (h : l.length = 4) : ∃ a b c d, l = [a, b, c, d] := by
  match l, h with
  | [a, b, c, d], _ => exact ⟨a, b, c, d, rfl⟩
theorem list2 {α : Type} {l : List α} (h : l.length = 2) : ∃ a b, l = [a, b] := by
  match l, h with
  | [a, b], _ => exact ⟨a, b, rfl⟩

section
variable {H : Type} {enc : TypeId × Value → H} {W : World} {spare : Nat → Bool} {held : Bool}

theorem row_of_trod {α : Type} [Inhabited α] {t e : TypeId} {sz fuel : Nat} {c : Value} {y : DataW H × List MemPlace} {cells : α → Nat → Value} {good : α → Prop} (ht : Try.prog.underlying t = some (.slice e)) (hsz : Try.prog.cellsOf e = sz) (h0 : 0 < sz)
    (conv : ∀ n cs z, cs.length = sz → DataW.trod enc Try.prog W 0 spare held n e cs = some z → ∃ x : α, (∀ i, i < sz → cs[i]? = some (cells x i)) ∧ good x)
    (h : DataW.trod enc Try.prog W 0 spare held fuel t [c] = some y) : ∃ l : List α, RowOf sz cells W.heap.size W c l ∧ ∀ x ∈ l, good x := by
  rcases open_slice ht h with ⟨hc, _⟩ | ⟨a, len, cap, m, n, D, Pl, hc, _, hl, hm, hmm, _, hx⟩
  · injection hc with hc
    subst hc
    exact ⟨[], ⟨none, 0, rfl, Nat.zero_le _, .inl rfl⟩, by simp⟩
  · injection hc with hc
    subst hc
    rw [hsz] at hx
    have hle : len ≤ m := by rw [hmm]; split <;> omega
    obtain ⟨X, hX⟩ := choose_lt (α := α) (n := len) (p := fun i x => (∀ j, j < sz → W.cell? (a.add (i * sz + j)) = some (cells x j)) ∧ good x) (fun i hi => by
      obtain ⟨cs', h1, h2⟩ := hx i (by omega)
      obtain ⟨_, hlen, hcell⟩ := World.cells?_some h1
      obtain ⟨x, hx1, hx2⟩ := conv n cs' _ hlen h2
      refine ⟨x, fun j hj => ?_, hx2⟩
      have h3 := hcell j hj
      rw [hx1 j hj] at h3
      have hadd : (a.add (i * sz)).add j = a.add (i * sz + j) ∨ W.cell? ((a.add (i * sz)).add j) = W.cell? (a.add (i * sz + j)) := by
        unfold Addr.add
        by_cases e1 : i * sz = 0
        · rw [if_pos e1, e1, Nat.zero_add]; exact .inl rfl
        · rw [if_neg e1]
          by_cases e2 : j = 0
          · rw [if_pos e2, e2, Nat.add_zero, if_neg e1]; exact .inl rfl
          · rw [if_neg e2, if_neg (by omega), Nat.add_assoc]; exact .inl rfl
      rcases hadd with hadd | hadd
      · rw [← hadd]; exact h3
      · rw [← hadd]; exact h3)
    refine ⟨(List.range len).map X, ⟨some a, cap, by simp, by simp; unfold maxLen at hm; omega, ?_⟩, ?_⟩
    · by_cases hz : len = 0
      · left
        subst hz
        rfl
      · right
        have hc0 := (hX 0 (by omega)).1 0 h0
        rw [Nat.zero_mul, Nat.zero_add] at hc0
        obtain ⟨b, off, spot⟩ := a
        have hsp : spot = none := by simpa [Addr.add] using World.cell?_spot hc0
        subst hsp
        refine ⟨b, off, rfl, ?_, fun j x hj i hi => ?_⟩
        · have := World.block_lt_of_cell? W _ hc0
          simpa [Addr.add] using this
        · have hjl : j < len := by
            have := (List.getElem?_eq_some_iff.1 hj).1
            simpa using this
          obtain rfl : X j = x := by
            rw [List.getElem?_map, List.getElem?_range hjl] at hj
            simpa using hj
          have h4 := (hX j hjl).1 i hi
          unfold Addr.add at h4
          by_cases e0 : j * sz + i = 0
          · rw [if_pos e0] at h4
            rw [Nat.add_assoc, e0]
            exact h4
          · rw [if_neg e0] at h4
            rw [Nat.add_assoc]
            exact h4
    · intro x hx
      obtain ⟨i, hi, rfl⟩ := List.mem_map.1 hx
      exact (hX i (by simpa using hi)).2

theorem str_of_trod {n : Nat} {c : Value} {y : DataW H × List MemPlace} (h : DataW.trod enc Try.prog W 0 spare held n 9 [c] = some y) : ∃ s : ByteArray, c = .string s ∧ s.size ≤ 9223372036854775807 := by
  obtain ⟨s, hc, _, hs⟩ := DataW.trod_string Try.underlying9 h
  injection hc with hc
  exact ⟨s, hc, hs⟩
theorem int_of_trod {n : Nat} {c : Value} {y : DataW H × List MemPlace} (h : DataW.trod enc Try.prog W 0 spare held n 3 [c] = some y) : ∃ k : Int, c = .int .i64 k := by
  obtain ⟨k, hc, _, _⟩ := DataW.trod_int Try.underlying3 h
  injection hc with hc
  exact ⟨k, hc⟩

end

end Go.Proofs.Ythmohjgdcjafkaf

/- Flashes, deeds, rows of texts and of numbers that came in. -/
namespace Go.Proofs.Ythmohjgdcjafkaf
open Go.ChangeShapes Go.WideShapes Go.ChangeAt Go.RowKit Go.PlainAid Go.Deep

set_option maxRecDepth 100000

theorem list3f {α : Type} {l : List α} (h : l.length = 3) : ∃ a b c, l = [a, b, c] := by
  match l, h with
  | [a, b, c], _ => exact ⟨a, b, c, rfl⟩
theorem list1f {α : Type} {l : List α} (h : l.length = 1) : ∃ a, l = [a] := by
  match l, h with
  | [a], _ => exact ⟨a, rfl⟩

section
variable {H : Type} {enc : TypeId × Value → H} {W : World} {spare : Nat → Bool} {held : Bool}

theorem cap_of_trod {t e : TypeId} {fuel : Nat} {c : Value} {y : DataW H × List MemPlace} (ht : Try.prog.underlying t = some (.slice e)) (h : DataW.trod enc Try.prog W 0 spare held fuel t [c] = some y) : CapIn c := by
  intro a' n' c' hv
  rcases open_slice ht h with ⟨hc, _⟩ | ⟨a, len, cap, m, n, D, Pl, hc, _, hl, hm, hmm, _, hx⟩
  · injection hc with hc
    rw [hc] at hv
    injection hv
    omega
  · injection hc with hc
    rw [hc] at hv
    injection hv
    omega

theorem txt_of_trod (n : Nat) (cs : List Value) (z : DataW H × List MemPlace) (hl : cs.length = 1) (h : DataW.trod enc Try.prog W 0 spare held n 9 cs = some z) : ∃ x : ByteArray, (∀ i, i < 1 → cs[i]? = some (strCell x i)) ∧ x.size ≤ 9223372036854775807 := by
  obtain ⟨c, rfl⟩ := list1f hl
  obtain ⟨s, rfl, hs⟩ := str_of_trod h
  refine ⟨s, fun i hi => ?_, hs⟩
  obtain rfl : i = 0 := by omega
  rfl
theorem num_of_trod (n : Nat) (cs : List Value) (z : DataW H × List MemPlace) (hl : cs.length = 1) (h : DataW.trod enc Try.prog W 0 spare held n 3 cs = some z) : ∃ x : Int, (∀ i, i < 1 → cs[i]? = some (intCell x i)) ∧ (Lit.int .i64 x).wf = true := by
  obtain ⟨c, rfl⟩ := list1f hl
  obtain ⟨k, hc, hz, hk⟩ := DataW.trod_int Try.underlying3 h
  injection hc with hc
  subst hc
  refine ⟨k, fun i hi => ?_, ?_⟩
  · obtain rfl : i = 0 := by omega
    rfl
  · first | exact hk | simpa [Lit.wf] using hk
theorem deed_of_trod (n : Nat) (cs : List Value) (z : DataW H × List MemPlace) (hl : cs.length = 3) (h : DataW.trod enc Try.prog W 0 spare held n 32 cs = some z) : ∃ x : Deed, (∀ i, i < 3 → cs[i]? = some (Deed.cell x i)) ∧ True := by
  obtain ⟨xs, m, _, _, _, hlen, hf⟩ := DataW.trod_struct Try.underlying32 h
  obtain ⟨x0, x1, x2, rfl⟩ := list3f hlen
  obtain ⟨c0, c1, c2, rfl⟩ := list3f hl
  obtain ⟨a, rfl⟩ := int_of_trod (hf 0 _ rfl)
  obtain ⟨b, rfl⟩ := int_of_trod (hf 1 _ rfl)
  obtain ⟨k, rfl⟩ := int_of_trod (hf 2 _ rfl)
  refine ⟨⟨a, b, k⟩, fun i hi => ?_, trivial⟩
  have : i = 0 ∨ i = 1 ∨ i = 2 := by omega
  rcases this with rfl | rfl | rfl <;> rfl

theorem open_flash {v : Value} {d : DataW H} {ps : List MemPlace} {base : Nat} (hv : Value.okWide Try.prog W .any base 24 v) (h : DataW.Trod enc Try.prog W 0 spare held 24 v d ps) : ∃ (F : List ByteArray) (c : Value), v = .agg #[c] ∧ IsFl W.heap.size W c F := by
  obtain ⟨cs, rfl, hcs⟩ := okWide_struct Try.underlying24 hv
  obtain ⟨fuel, hf⟩ := h
  obtain ⟨xs, m, _, _, hl, hlen, hf⟩ := DataW.trod_struct Try.underlying24 hf
  have hc1 : Try.prog.cellsOf 24 = 1 := by kernel_rfl
  obtain ⟨x0, rfl⟩ := list1f hlen
  rw [hc1] at hl
  obtain ⟨c0, hcl⟩ := list1f hl
  have hcs' : cs.toList = [c0] := hcl
  have hcA : cs = #[c0] := by rw [← Array.toArray_toList (xs := cs), hcs']
  subst hcA
  have f0 := hf 0 _ rfl
  have _ : Inhabited ByteArray := ⟨⟨#[]⟩⟩
  obtain ⟨F, hF, _⟩ := row_of_trod (cells := strCell) (good := fun x => x.size ≤ 9223372036854775807) Try.underlying22 (sz := 1) (by kernel_rfl) (by decide) txt_of_trod f0
  exact ⟨F, c0, rfl, hF, cap_of_trod Try.underlying22 f0⟩

theorem open_deed {v : Value} {d : DataW H} {ps : List MemPlace} {base : Nat} (hv : Value.okWide Try.prog W .any base 32 v) (h : DataW.Trod enc Try.prog W 0 spare held 32 v d ps) : ∃ D : Deed, v = D.value := by
  obtain ⟨cs, rfl, hcs⟩ := okWide_struct Try.underlying32 hv
  obtain ⟨fuel, hf⟩ := h
  obtain ⟨xs, m, _, _, hl, hlen, hf⟩ := DataW.trod_struct Try.underlying32 hf
  have hc3 : Try.prog.cellsOf 32 = 3 := by kernel_rfl
  obtain ⟨x0, x1, x2, rfl⟩ := list3f hlen
  rw [hc3] at hl
  obtain ⟨c0, c1, c2, hcl⟩ := list3f hl
  have hcs' : cs.toList = [c0, c1, c2] := hcl
  have hcA : cs = #[c0, c1, c2] := by rw [← Array.toArray_toList (xs := cs), hcs']
  subst hcA
  obtain ⟨a, rfl⟩ := int_of_trod (hf 0 _ rfl)
  obtain ⟨b, rfl⟩ := int_of_trod (hf 1 _ rfl)
  obtain ⟨k, rfl⟩ := int_of_trod (hf 2 _ rfl)
  exact ⟨⟨a, b, k⟩, rfl⟩

theorem open_deeds {v : Value} {d : DataW H} {ps : List MemPlace} {base : Nat} (hv : Value.okWide Try.prog W .any base 25 v) (h : DataW.Trod enc Try.prog W 0 spare held 25 v d ps) : ∃ l : List Deed, RowOf 3 Deed.cell W.heap.size W v l ∧ CapIn v := by
  obtain ⟨a, ln, cp, rfl⟩ := okWide_slice Try.underlying25 hv
  obtain ⟨fuel, hf⟩ := h
  have _ : Inhabited Deed := ⟨⟨0, 0, 0⟩⟩
  obtain ⟨l, hL, _⟩ := row_of_trod (α := Deed) (cells := Deed.cell) (good := fun _ => True) (c := .slice a ln cp) Try.underlying25 (sz := 3) (by kernel_rfl) (by decide) deed_of_trod hf
  exact ⟨l, hL, cap_of_trod (c := .slice a ln cp) Try.underlying25 hf⟩

theorem open_texts {v : Value} {d : DataW H} {ps : List MemPlace} {base : Nat} (hv : Value.okWide Try.prog W .any base 22 v) (h : DataW.Trod enc Try.prog W 0 spare held 22 v d ps) : ∃ l : List ByteArray, RowOf 1 strCell W.heap.size W v l ∧ (∀ x ∈ l, x.size ≤ 9223372036854775807) ∧ CapIn v := by
  obtain ⟨a, ln, cp, rfl⟩ := okWide_slice Try.underlying22 hv
  obtain ⟨fuel, hf⟩ := h
  have _ : Inhabited ByteArray := ⟨⟨#[]⟩⟩
  obtain ⟨l, hL, hg⟩ := row_of_trod (α := ByteArray) (cells := strCell) (good := fun x => x.size ≤ 9223372036854775807) (c := .slice a ln cp) Try.underlying22 (sz := 1) (by kernel_rfl) (by decide) txt_of_trod hf
  exact ⟨l, hL, hg, cap_of_trod (c := .slice a ln cp) Try.underlying22 hf⟩

end

end Go.Proofs.Ythmohjgdcjafkaf
