/- The contract of the document's OrderOf. -/
import Derived.Test.YtaklbnabgcglhabRfH
import Derived.Test.YtaklbnabgcglhabRfI
namespace Go.Proofs.Ytaklbnabgcglhab
open Go.RowKit Go.PlainAid

set_option maxRecDepth 100000

/-- A row of truths in one block. -/
def BoolsAt (W : World) (g n : Nat) (D : Nat → Bool) : Prop := ∃ cs, CellsAt W g 4 cs ∧ ∀ i, i < n → cs[i]? = some (.bool (D i))
theorem BoolsAt.cell {W : World} {g n : Nat} {D : Nat → Bool} (h : BoolsAt W g n D) {i : Nat} (hi : i < n) : W.cell? ⟨g, i, none⟩ = some (.bool (D i)) ∧ W.frozen? ⟨g, i, none⟩ = false := by
  obtain ⟨cs, h1, h2⟩ := h
  exact ⟨(h1.cell i).trans (h2 i hi), h1.frozen i⟩
theorem BoolsAt.lt {W : World} {g n : Nat} {D : Nat → Bool} (h : BoolsAt W g n D) : g < W.heap.size := by
  obtain ⟨cs, h1, _⟩ := h
  exact h1.lt
theorem BoolsAt.below {W W' : World} {g n m : Nat} {D : Nat → Bool} (h : BoolsAt W g n D) (hb : Below m W W') (hg : g < m) : BoolsAt W' g n D := by
  obtain ⟨cs, h1, h2⟩ := h
  exact ⟨cs, h1.below hb hg, h2⟩
theorem BoolsAt.kept {W W' : World} {g n : Nat} {row : Option Nat} {D : Nat → Bool} (h : BoolsAt W g n D) (hg : W.grownBy W' row) (hne : some g ≠ row) : BoolsAt W' g n D := by
  obtain ⟨cs, h1, h2⟩ := h
  exact ⟨cs, h1.kept hg hne, h2⟩
theorem BoolsAt.set {W : World} {g n i : Nat} {D D' : Nat → Bool} (h : BoolsAt W g n D) (hi : i < n) (b : Bool) (hD : ∀ q, q < n → D' q = if q = i then b else D q) : BoolsAt (W.setCell ⟨g, i, none⟩ (.bool b)) g n D' := by
  obtain ⟨cs, h1, h2⟩ := h
  refine ⟨_, h1.set i (.bool b), fun q hq => ?_⟩
  rw [Array.getElem?_setIfInBounds, hD q hq]
  by_cases e : i = q
  · subst e
    have hs : i < cs.size := (Array.getElem?_eq_some_iff.1 (h2 i hi)).1
    rw [if_pos rfl, if_pos hs, if_pos rfl]
  · rw [if_neg e, if_neg (fun h => e h.symm)]
    exact h2 q hq
theorem BoolsAt.of_own {W : World} {base g n cap : Nat} (h : W.ownsRow base 4 1 (.slice (some ⟨g, 0, none⟩) n cap) n (List.replicate n (.bool false))) : BoolsAt W g n (fun _ => false) ∧ base ≤ g := by
  rcases h.2 with ⟨e, _⟩ | ⟨g', cap', cur, e, hg, hc, _⟩
  · cases e
  · injection e with e1 _ _
    injection e1 with e1
    injection e1 with e1
    subst e1
    refine ⟨⟨cur, hc, fun i hi => ?_⟩, hg⟩
    have h2 := h.cells (g := g) rfl i (.bool false) (by rw [List.getElem?_replicate, if_pos hi])
    rw [addr_add0] at h2
    exact (CellsAt.cell (t := 4) (cs := cur) hc i).symm.trans h2
/-- The table stays where another block of truths is written. -/
theorem MatAt.other {W : World} {base n : Nat} {v : Value} {T : Nat → Nat → Bool} (h : MatAt W base n v T) {g : Nat} (hg : ∀ (go co i : Nat), v = .slice (some ⟨go, 0, none⟩) n co → i < n → ∀ c, W.cell? ⟨go, i, none⟩ ≠ some (.slice (some ⟨g, 0, none⟩) n c)) {D : Nat → Bool} (hb : BoolsAt W g n D) (i : Nat) (b : Bool) : MatAt (W.setCell ⟨g, i, none⟩ (.bool b)) base n v T := by
  obtain ⟨vs, h1, h2, h3⟩ := h
  obtain ⟨cs, hc, _⟩ := hb
  have hgr := grown_set W g i (.bool b)
  refine ⟨vs, h1, h2.kept hgr (.inr fun e => own_type_ne h2 hc (by decide) e.symm), ⟨fun j v' hj => ?_, h3.apart⟩⟩
  obtain ⟨g2, c2, cs2, f1, f2, f3, f4, f5⟩ := h3.row j v' hj
  have hjn : j < n := by have := (List.getElem?_eq_some_iff.1 hj).1; omega
  have hne : some g2 ≠ some g := fun e => by
    injection e with e
    subst e
    rcases h2.2 with ⟨_, h0⟩ | ⟨go, co, cur, rfl, _⟩
    · omega
    · have h6 := h2.cells (g := go) rfl j _ hj
      rw [addr_add0, f1] at h6
      exact hg go co j rfl hjn c2 h6
  exact ⟨g2, c2, cs2, f1, f2, Nat.lt_of_lt_of_le f3 hgr.size, f4.kept hgr hne, f5⟩

end Go.Proofs.Ytaklbnabgcglhab
