/- The contract of the reader's module: what is read ahead of the rows. -/
import Derived.Test.YtaklbnabgcglhaaDecE
namespace Go.Proofs.Ytaklbnabgcglhaa
open Go.RowKit Go.PlainAid Go.Lib

theorem LowK.rest {base R Bm : Nat} {w w0 w1 : World} (h0 : w.grownBy w0 (some R)) (h : LowK base R Bm w0 w1) (hn : w.heap.size ≤ base) (hB : w.heap.size ≤ Bm) : w.grownBy w1 (some R) :=
  ⟨h.os.trans h0.os, h.tape.trans h0.tape, h.output.trans h0.output, Nat.le_trans h0.size h.size, fun k hk hne => (h.block k (by omega) (fun e => hne (by rw [e])) (by omega)).trans (h0.block k hk hne)⟩

theorem rowOf_own {α : Type} {C : α → List Value} {cells : α → Nat → Value} {sz : Nat} (hC : ∀ x, (C x).length = sz) (hc : ∀ x i, i < sz → (C x)[i]? = some (cells x i)) {W : World} {base : Nat} {e : TypeId} {v : Value} {l : List α}
    (h : W.ownsRow base e sz v l.length (l.flatMap C)) (hl : l.length ≤ 255) : RowOf sz cells W.heap.size W v l := by
  rcases h.2 with ⟨rfl, hn⟩ | ⟨g, cap, cur, rfl, hg, hb, hcap, hm, hsz, htk⟩
  · obtain rfl : l = [] := List.length_eq_zero_iff.1 hn
    exact ⟨none, 0, rfl, by simp, .inl rfl⟩
  · refine ⟨_, cap, rfl, by omega, .inr ⟨g, 0, rfl, (Array.getElem?_eq_some_iff.1 hb).1, fun j x hj i hi => ?_⟩⟩
    have h1 := flat_at hC l j x i hj hi
    rw [hc x i hi] at h1
    have := h.cells (g := g) rfl (j * sz + i) _ h1
    have hadd : (⟨g, 0, none⟩ : Addr).add (j * sz + i) = ⟨g, j * sz + i, none⟩ := by unfold Addr.add; split <;> simp_all
    rw [hadd] at this
    rw [Nat.zero_add]
    exact this

theorem rowExp {W : World} {base : Nat} {v : Value} {l : List Exp} (h : W.ownsRow base 77 2 v l.length (l.flatMap expC)) (hl : l.length ≤ 255) : RowOf 2 Exp.cell W.heap.size W v l :=
  rowOf_own (C := expC) (cells := Exp.cell) (sz := 2) (fun _ => rfl) (fun x i hi => by
    have : i = 0 ∨ i = 1 := by omega
    rcases this with rfl | rfl <;> rfl) h hl
theorem rowImp {W : World} {base : Nat} {v : Value} {l : List Imp} (h : W.ownsRow base 74 4 v l.length (l.flatMap impC)) (hl : l.length ≤ 255) : RowOf 4 Imp.cell W.heap.size W v l :=
  rowOf_own (C := impC) (cells := Imp.cell) (sz := 4) (fun _ => rfl) (fun x i hi => by
    have : i = 0 ∨ i = 1 ∨ i = 2 ∨ i = 3 := by omega
    rcases this with rfl | rfl | rfl | rfl <;> rfl) h hl
theorem rowPat {W : World} {base : Nat} {v : Value} {l : List Pat} (h : W.ownsRow base 48 4 v l.length (l.flatMap patC)) (hl : l.length ≤ 255) : RowOf 4 Pat.cell W.heap.size W v l :=
  rowOf_own (C := patC) (cells := Pat.cell) (sz := 4) (fun _ => rfl) (fun x i hi => by
    have : i = 0 ∨ i = 1 ∨ i = 2 ∨ i = 3 := by omega
    rcases this with rfl | rfl | rfl | rfl <;> rfl) h hl

theorem piece_from (R : Nat) (s : ByteArray) (σ : (Nat × Bool)) (hs : s.size ≤ 140737488351232) (ha : σ.1 ≤ s.size) (X : Int) (h0 : 0 ≤ X) (h1 : X < 65536) (w W : World) (h : RdAt 68 w R s σ) (hB : Below w.heap.size w W) :
    Calls Try.prog 66 #[.pointer (some ⟨R, 0, none⟩), .int .i64 X] W fun e w1 => e = .returned (.string (rdPiece false s X.toNat σ).1) ∧ RdAt 68 w1 R s (rdPiece false s X.toNat σ).2 ∧ w.grownBy w1 (some R) := by
  obtain ⟨n, rfl⟩ := Int.eq_ofNat_of_zero_le h0
  exact (piece_any R s σ n (by omega) W (CellsAt.below h hB (CellsAt.lt h)) hs ha).mono fun _ _ ⟨h1, h2, h3⟩ => ⟨h1, h2, ((grown_of_below hB).but _).trans h3⟩

end Go.Proofs.Ytaklbnabgcglhaa
