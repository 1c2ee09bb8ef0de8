/- Rows that a call made, and that are appended to. -/
import Derived.Test.YtnomapbiklfciafResM
import Derived.Test.YtnomapbiklfciafCells
import Derived.Deep.AppendLies
namespace Go.Proofs.Ytnomapbiklfciaf
open Go.RowKit Go.PlainAid

set_option maxRecDepth 100000

def intCell (x : Int) (_ : Nat) : Value := .int .i64 x
def intC (x : Int) : List Value := [.int .i64 x]

theorem own_below {W W' : World} {base : Nat} {e : TypeId} {size : Nat} {v : Value} {n : Nat} {xs : List Value} (h : W.ownsRow base e size v n xs) (hb : Below W.heap.size W W') : W'.ownsRow base e size v n xs := by
  obtain ⟨h1, ⟨rfl, rfl⟩ | ⟨g, cap, cur, rfl, hg, hc, hr⟩⟩ := h
  · exact ⟨h1, .inl ⟨rfl, rfl⟩⟩
  · exact ⟨h1, .inr ⟨g, cap, cur, rfl, hg, (hb.block g (Array.getElem?_eq_some_iff.1 hc).1).trans hc, hr⟩⟩
theorem own_block {W : World} {base : Nat} {e : TypeId} {size : Nat} {v : Value} {n : Nat} {xs : List Value} (h : W.ownsRow base e size v n xs) : ∀ k, v.ownBlock = some k → base ≤ k := by
  intro k hk
  rcases h.2 with ⟨rfl, _⟩ | ⟨g, cap, cur, rfl, hg, _⟩
  · cases hk
  · simp [Value.ownBlock] at hk
    omega
theorem own_form {W : World} {base : Nat} {e : TypeId} {size : Nat} {v : Value} {n : Nat} {xs : List Value} (h : W.ownsRow base e size v n xs) : ∃ a cap, v = .slice a n cap := by
  rcases h.2 with ⟨rfl, rfl⟩ | ⟨g, cap, cur, rfl, _⟩
  · exact ⟨none, 0, rfl⟩
  · exact ⟨_, cap, rfl⟩
theorem own_ints {W : World} {base : Nat} {v : Value} {l : List Int} (h : W.ownsRow base 3 1 v l.length (l.flatMap intC)) (hl : l.length ≤ 255) : RowOf 1 intCell W.heap.size W v l := by
  rcases h.2 with ⟨rfl, hn⟩ | ⟨g, cap, cur, rfl, hg, hb, hcap, hm, hsz, htk⟩
  · obtain rfl : l = [] := List.length_eq_zero_iff.1 hn
    exact ⟨none, 0, rfl, by simp, .inl rfl⟩
  · refine ⟨_, cap, rfl, by omega, .inr ⟨g, 0, rfl, (Array.getElem?_eq_some_iff.1 hb).1, fun j x hj i hi => ?_⟩⟩
    have h1 := flat_at (C := intC) (sz := 1) (fun _ => rfl) l j x i hj hi
    obtain rfl : i = 0 := by omega
    have h2 : (l.flatMap intC)[j * 1 + 0]? = some (.int .i64 x) := h1
    have := h.cells (g := g) rfl (j * 1 + 0) _ h2
    have hadd : (⟨g, 0, none⟩ : Addr).add (j * 1 + 0) = ⟨g, j * 1 + 0, none⟩ := by unfold Addr.add; split <;> simp_all
    rw [hadd] at this
    rw [Nat.zero_add]
    exact this

theorem infoInt : (Try.prog.info? 3).map (fun i => (i.zero, i.size, i.bytes)) = some (some (.int .i64 0), 1, 8) := by kernel_rfl
theorem infoInt_parts : ∃ i, Try.prog.info? 3 = some i ∧ i.zero = some (.int .i64 0) ∧ i.size = 1 ∧ i.bytes = 8 := by
  have h := infoInt
  cases hi : Try.prog.info? 3 with
  | none => rw [hi] at h; cases h
  | some i =>
    rw [hi] at h
    simp at h
    exact ⟨i, rfl, h.1, h.2.1, h.2.2⟩

theorem intC_at (x : Int) (i : Nat) (hi : i < 1) : (intC x)[i]? = some (intCell x i) := by
  obtain rfl : i = 0 := by omega
  rfl

theorem own_rows {α : Type} {C : α → List Value} {cells : α → Nat → Value} {sz : Nat} (hC : ∀ x, (C x).length = sz) (hc : ∀ x i, i < sz → (C x)[i]? = some (cells x i)) {W : World} {base : Nat} {e : TypeId} {v : Value} {l : List α}
    (h : W.ownsRow base e sz v l.length (l.flatMap C)) (hl : l.length ≤ 9223372036854775807) : RowOf sz cells W.heap.size W v l := by
  rcases h.2 with ⟨rfl, hn⟩ | ⟨g, cap, cur, rfl, hg, hb, hcap, hm, hsz, htk⟩
  · obtain rfl : l = [] := List.length_eq_zero_iff.1 hn
    exact ⟨none, 0, rfl, by simp, .inl rfl⟩
  · refine ⟨_, cap, rfl, hl, .inr ⟨g, 0, rfl, (Array.getElem?_eq_some_iff.1 hb).1, fun j x hj i hi => ?_⟩⟩
    have h1 := flat_at hC l j x i hj hi
    rw [hc x i hi] at h1
    have := h.cells (g := g) rfl (j * sz + i) _ h1
    have hadd : (⟨g, 0, none⟩ : Addr).add (j * sz + i) = ⟨g, j * sz + i, none⟩ := by unfold Addr.add; split <;> simp_all
    rw [hadd] at this
    rw [Nat.zero_add]
    exact this

theorem flat_len {α : Type} {C : α → List Value} {sz : Nat} (hC : ∀ x, (C x).length = sz) : ∀ l : List α, (l.flatMap C).length = l.length * sz
  | [] => by simp
  | x :: l => by rw [List.flatMap_cons, List.length_append, flat_len hC l, hC, List.length_cons, Nat.succ_mul]; omega

theorem news_row {α : Type} {C : α → List Value} {cells : α → Nat → Value} {sz : Nat} (h0 : 0 < sz) (hC : ∀ x, (C x).length = sz) (hc : ∀ x i, i < sz → (C x)[i]? = some (cells x i)) {W : World} {b off : Nat} {l : List α}
    (h : ∀ j x, l[j]? = some x → ∀ i, i < sz → W.cell? ⟨b, off + j * sz + i, none⟩ = some (cells x i)) : ∀ j u, (l.flatMap C)[j]? = some u → W.cell? ((⟨b, off, none⟩ : Addr).add j) = some u := by
  intro j u hu
  have hj : j < l.length * sz := by
    have := (List.getElem?_eq_some_iff.1 hu).1
    rwa [flat_len hC] at this
  have hq : j / sz < l.length := (Nat.div_lt_iff_lt_mul h0).2 hj
  obtain ⟨x, hx⟩ : ∃ x, l[j / sz]? = some x := ⟨_, List.getElem?_eq_getElem hq⟩
  have hr : j % sz < sz := Nat.mod_lt _ h0
  have e : j / sz * sz + j % sz = j := by rw [Nat.mul_comm]; exact Nat.div_add_mod j sz
  have h1 := flat_at hC l (j / sz) x (j % sz) hx hr
  rw [hc x _ hr, e, hu] at h1
  have h2 := h (j / sz) x hx (j % sz) hr
  rw [Nat.add_assoc, e, ← h1] at h2
  have hadd : (⟨b, off, none⟩ : Addr).add j = ⟨b, off + j, none⟩ := by unfold Addr.add; split <;> simp_all
  rw [hadd]
  exact h2

theorem keep_own {W W' : World} {B base n : Nat} {t e : TypeId} {cs : Array Value} {v : Value} {xs : List Value} {sz : Nat} (h : CellsAt W B t cs) (O : W.ownsRow base e sz v n xs) (hg : W.grownBy W' v.ownBlock) (hB : B < base) : CellsAt W' B t cs :=
  h.kept hg (fun e => by have := own_block O B e.symm; omega)
theorem own_empty {W : World} {base : Nat} {e : TypeId} (hb : base ≤ W.heap.size) {sz : Nat} : (W.alloc (.cells #[] e)).ownsRow base e sz (.slice (some ⟨W.heap.size, 0, none⟩) 0 0) 0 [] :=
  ⟨by simp, .inr ⟨W.heap.size, 0, #[], rfl, hb, CellsAt.new W e #[], Nat.le_refl _, Nat.zero_le _, by simp, by simp⟩⟩
theorem own_lt {W : World} {base n c g sz : Nat} {e : TypeId} {xs : List Value} (h : W.ownsRow base e sz (.slice (some ⟨g, 0, none⟩) n c) n xs) : g < W.heap.size := by
  rcases h.2 with ⟨e, _⟩ | ⟨g', cap, cur, e, _, hb, _⟩
  · cases e
  · injection e with e _ _
    injection e with e
    injection e with e
    subst e
    exact (Array.getElem?_eq_some_iff.1 hb).1

end Go.Proofs.Ytnomapbiklfciaf
