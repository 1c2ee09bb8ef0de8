/- The document's table of who needs whom, in memory. -/
import Derived.Test.YtaklbnabgcglhabRfB
import Derived.Test.YtaklbnabgcglhabOwnA
import Derived.BigRegion
namespace Go.Proofs.Ytaklbnabgcglhab
open Go.RowKit Go.PlainAid

set_option maxRecDepth 100000

def dirB (l : List PV) (i k : Nat) : Bool := match l[i]?, l[k]? with | some x, some y => asksM x.mod y.mod.name | _, _ => false
theorem dirB_at {l : List PV} {i k : Nat} {x y : PV} (hx : l[i]? = some x) (hy : l[k]? = some y) : dirB l i k = asksM x.mod y.mod.name := by unfold dirB; rw [hx, hy]
theorem dirB_next {l : List PV} {i k : Nat} (hi : i < l.length) (hk : k < l.length) : dirB l i k = true ↔ Next nxNeed (l.map (·.mod)) i k := by
  rw [dirB_at (List.getElem?_eq_getElem hi) (List.getElem?_eq_getElem hk)]
  exact (Next.iff (nx := nxNeed) (x := l[i].mod) (y := l[k].mod) (by rw [List.getElem?_map, List.getElem?_eq_getElem hi]; rfl) (by rw [List.getElem?_map, List.getElem?_eq_getElem hk]; rfl)).symm

def boolsTo (f : Nat → Bool) (k : Nat) : List Value := (List.range k).map fun j => .bool (f j)
theorem boolsTo_succ (f : Nat → Bool) (k : Nat) : boolsTo f (k + 1) = boolsTo f k ++ [.bool (f k)] := by unfold boolsTo; rw [List.range_succ, List.map_append]; rfl
theorem boolsTo_at (f : Nat → Bool) {k j : Nat} (h : j < k) : (boolsTo f k)[j]? = some (.bool (f j)) := by unfold boolsTo; rw [List.getElem?_map, List.getElem?_range h]; rfl

theorem own_type_ne {W : World} {base : Nat} {e t : TypeId} {size : Nat} {v : Value} {n : Nat} {xs : List Value} (h : W.ownsRow base e size v n xs) {g : Nat} {cs : Array Value} (hc : CellsAt W g t cs) (hne : t ≠ e) : some g ≠ v.ownBlock := by
  rcases h.2 with ⟨rfl, _⟩ | ⟨g', cap, cur, rfl, _, hb, _⟩
  · intro h2; cases h2
  · intro h2
    have h3 : g = g' := by simpa [Value.ownBlock] using h2
    subst h3
    have h4 : W.heap[g]? = some (.cells cs t (0, 0)) := hc
    rw [hb] at h4
    injection h4 with h4
    injection h4 with _ h5
    exact hne h5.symm

/-- Rows of truths, each in a block of its own. -/
structure PartAt (W : World) (lim base n : Nat) (D : Nat → Nat → Bool) (vs : List Value) : Prop where
  row : ∀ (j : Nat) (v : Value), vs[j]? = some v → ∃ g c cs, v = .slice (some ⟨g, 0, none⟩) n c ∧ base ≤ g ∧ g < lim ∧ CellsAt W g 4 cs ∧ ∀ k, k < n → cs[k]? = some (.bool (D j k))
  apart : ∀ (j k : Nat) (v v' : Value), vs[j]? = some v → vs[k]? = some v' → v.ownBlock = v'.ownBlock → j = k
theorem PartAt.below {W W' : World} {lim base n m : Nat} {D : Nat → Nat → Bool} {vs : List Value} (h : PartAt W lim base n D vs) (hb : Below m W W') (hm : lim ≤ m) : PartAt W' lim base n D vs :=
  ⟨fun j v hj => by
    obtain ⟨g, c, cs, h1, h2, h3, h4, h5⟩ := h.row j v hj
    exact ⟨g, c, cs, h1, h2, h3, h4.below hb (by omega), h5⟩, h.apart⟩
theorem PartAt.more {W : World} {lim lim' base n : Nat} {D : Nat → Nat → Bool} {vs : List Value} (h : PartAt W lim base n D vs) (hm : lim ≤ lim') : PartAt W lim' base n D vs :=
  ⟨fun j v hj => by
    obtain ⟨g, c, cs, h1, h2, h3, h4, h5⟩ := h.row j v hj
    exact ⟨g, c, cs, h1, h2, by omega, h4, h5⟩, h.apart⟩
theorem PartAt.kept {W W' : World} {lim base n b0 m : Nat} {D : Nat → Nat → Bool} {vs : List Value} {f : Value} {xs : List Value} (h : PartAt W lim base n D vs) (ho : W.ownsRow b0 100 1 f m xs) (hg : W.grownBy W' f.ownBlock) : PartAt W' lim base n D vs :=
  ⟨fun j v hj => by
    obtain ⟨g, c, cs, h1, h2, h3, h4, h5⟩ := h.row j v hj
    exact ⟨g, c, cs, h1, h2, h3, h4.kept hg (own_type_ne ho h4 (by decide)), h5⟩, h.apart⟩
theorem PartAt.snoc {W : World} {lim lim' base n : Nat} {D : Nat → Nat → Bool} {vs : List Value} (h : PartAt W lim base n D vs) {g c : Nat} {cs : Array Value} (hb : base ≤ g) (hl : lim ≤ g) (hg : g < lim') (hc : CellsAt W g 4 cs) (hD : ∀ k, k < n → cs[k]? = some (.bool (D vs.length k))) : PartAt W lim' base n D (vs ++ [.slice (some ⟨g, 0, none⟩) n c]) := by
  have key : ∀ (j : Nat) (v : Value), (vs ++ [Value.slice (some ⟨g, 0, none⟩) n c])[j]? = some v → (j < vs.length ∧ vs[j]? = some v) ∨ (j = vs.length ∧ v = .slice (some ⟨g, 0, none⟩) n c) := fun j v hj => by
    by_cases h1 : j < vs.length
    · rw [List.getElem?_append_left h1] at hj
      exact .inl ⟨h1, hj⟩
    · have h2 := (List.getElem?_eq_some_iff.1 hj).1
      simp at h2
      have h3 : j = vs.length := by omega
      subst h3
      refine .inr ⟨rfl, ?_⟩
      simpa using hj.symm
  have lt : ∀ (j : Nat) (v : Value), vs[j]? = some v → v.ownBlock ≠ some g := fun j v hj e => by
    obtain ⟨g', c', cs', rfl, _, h3, _⟩ := h.row j v hj
    have : g' = g := by simpa [Value.ownBlock] using e
    omega
  refine ⟨fun j v hj => ?_, fun j k v v' hj hk he => ?_⟩
  · rcases key j v hj with ⟨_, h1⟩ | ⟨rfl, rfl⟩
    · obtain ⟨g', c', cs', h1, h2, h3, h4, h5⟩ := h.row j v h1
      exact ⟨g', c', cs', h1, h2, by omega, h4, h5⟩
    · exact ⟨g, c, cs, rfl, hb, hg, hc, hD⟩
  · rcases key j v hj with ⟨h1, h2⟩ | ⟨rfl, rfl⟩
    · rcases key k v' hk with ⟨h3, h4⟩ | ⟨rfl, rfl⟩
      · exact h.apart j k v v' h2 h4 he
      · exact absurd he (lt j v h2)
    · rcases key k v' hk with ⟨h3, h4⟩ | ⟨rfl, _⟩
      · exact absurd he.symm (lt k v' h4)
      · rfl

/-- The whole table. -/
def MatAt (W : World) (base n : Nat) (v : Value) (T : Nat → Nat → Bool) : Prop := ∃ vs : List Value, vs.length = n ∧ W.ownsRow base 100 1 v n vs ∧ PartAt W W.heap.size base n T vs
theorem MatAt.below {W W' : World} {base n : Nat} {v : Value} {T : Nat → Nat → Bool} (h : MatAt W base n v T) (hb : Below W.heap.size W W') : MatAt W' base n v T := by
  obtain ⟨vs, h1, h2, h3⟩ := h
  exact ⟨vs, h1, own_below h2 hb, (h3.below hb (Nat.le_refl _)).more hb.size⟩
theorem addr_add0 (g j : Nat) : (⟨g, 0, none⟩ : Addr).add j = ⟨g, j, none⟩ := by unfold Addr.add; split <;> simp_all
/-- Where the i-th row lies. -/
theorem MatAt.at {W : World} {base n : Nat} {v : Value} {T : Nat → Nat → Bool} (h : MatAt W base n v T) (hn : 0 < n) : ∃ go co, v = .slice (some ⟨go, 0, none⟩) n co ∧ base ≤ go ∧ go < W.heap.size ∧
    ∃ (gs cs : Nat → Nat), ∀ i, i < n → W.cell? ⟨go, i, none⟩ = some (.slice (some ⟨gs i, 0, none⟩) n (cs i)) ∧ base ≤ gs i ∧ gs i < W.heap.size ∧ ∀ k, k < n → W.cell? ⟨gs i, k, none⟩ = some (.bool (T i k)) ∧ W.frozen? ⟨gs i, k, none⟩ = false := by
  obtain ⟨vs, h1, h2, h3⟩ := h
  rcases h2.2 with ⟨_, h0⟩ | ⟨go, co, cur, rfl, hb, hc, _⟩
  · omega
  refine ⟨go, co, rfl, hb, (Array.getElem?_eq_some_iff.1 hc).1, ?_⟩
  have each : ∀ i, ∃ g c, i < n → W.cell? ⟨go, i, none⟩ = some (.slice (some ⟨g, 0, none⟩) n c) ∧ base ≤ g ∧ g < W.heap.size ∧ ∀ k, k < n → W.cell? ⟨g, k, none⟩ = some (.bool (T i k)) ∧ W.frozen? ⟨g, k, none⟩ = false := by
    intro i
    by_cases hi : i < n
    · have hv : vs[i]? = some vs[i] := List.getElem?_eq_getElem (by omega)
      obtain ⟨g, c, cs, e1, e2, e3, e4, e5⟩ := h3.row i _ hv
      refine ⟨g, c, fun _ => ⟨?_, e2, e3, fun k hk => ⟨(e4.cell k).trans (e5 k hk), e4.frozen k⟩⟩⟩
      have := h2.cells (g := go) rfl i _ hv
      rw [addr_add0, e1] at this
      exact this
    · exact ⟨0, 0, fun h => absurd h hi⟩
  refine ⟨fun i => (each i).choose, fun i => (each i).choose_spec.choose, fun i hi => (each i).choose_spec.choose_spec hi⟩
theorem MatAt.set {W : World} {base n : Nat} {v : Value} {T : Nat → Nat → Bool} (h : MatAt W base n v T) {go co g c i k : Nat} (hi : i < n) (hk : k < n) (hv : v = .slice (some ⟨go, 0, none⟩) n co) (hg : W.cell? ⟨go, i, none⟩ = some (.slice (some ⟨g, 0, none⟩) n c)) (b : Bool) : MatAt (W.setCell ⟨g, k, none⟩ (.bool b)) base n v (setT T i k b) := by
  obtain ⟨vs, h1, h2, h3⟩ := h
  have hvi : vs[i]? = some vs[i] := List.getElem?_eq_getElem (by omega)
  obtain ⟨g', c', cs, e1, e2, e3, e4, e5⟩ := h3.row i _ hvi
  have hgg : g = g' := by
    have := h2.cells (g := go) (by rw [hv]; rfl) i _ hvi
    rw [addr_add0, e1, hg] at this
    injection this with this
    injection this with t1 _ _
    injection t1 with t1
    injection t1
  subst hgg
  have hgr := grown_set W g k (.bool b)
  refine ⟨vs, h1, h2.kept hgr (.inr fun e => own_type_ne h2 e4 (by decide) e.symm), ⟨fun j v' hj => ?_, h3.apart⟩⟩
  obtain ⟨g2, c2, cs2, f1, f2, f3, f4, f5⟩ := h3.row j v' hj
  by_cases hji : j = i
  · subst hji
    rw [hvi] at hj
    injection hj with hj
    subst hj
    rw [e1] at f1
    injection f1 with t1 _ t3
    injection t1 with t1
    injection t1 with t1
    subst t1 t3
    refine ⟨g, c', cs.setIfInBounds k (.bool b), e1, e2, Nat.lt_of_lt_of_le e3 hgr.size, e4.set k _, fun q hq => ?_⟩
    rw [Array.getElem?_setIfInBounds]
    by_cases hqk : k = q
    · subst hqk
      have hsz : k < cs.size := by
        have := e5 k hk
        exact (Array.getElem?_eq_some_iff.1 this).1
      rw [if_pos rfl, if_pos hsz, setT_at]
    · rw [if_neg hqk, setT_ne (fun h => hqk h.2.symm)]
      exact e5 q hq
  · have hne : some g2 ≠ some g := fun e => by
      injection e with e
      subst e
      exact hji (h3.apart j i v' _ hj hvi (by rw [f1, e1]; rfl))
    exact ⟨g2, c2, cs2, f1, f2, Nat.lt_of_lt_of_le f3 hgr.size, f4.kept hgr hne, fun q hq => by rw [setT_ne (fun h => hji h.1)]; exact f5 q hq⟩

theorem infoBool : (Try.prog.info? 4).map (fun i => (i.zero, i.size, i.bytes)) = some (some (.bool false), 1, 1) := by kernel_rfl
theorem infoBool_parts : ∃ i, Try.prog.info? 4 = some i ∧ i.zero = some (.bool false) ∧ i.size = 1 ∧ i.bytes = 1 := by
  have h := infoBool
  cases hi : Try.prog.info? 4 with
  | none => rw [hi] at h; cases h
  | some i =>
    rw [hi] at h
    simp at h
    exact ⟨i, rfl, h.1, h.2.1, h.2.2⟩
theorem infoBools : (Try.prog.info? 100).map (fun i => (i.zero, i.size, i.bytes)) = some (some (.slice none 0 0), 1, 24) := by kernel_rfl
theorem infoBools_parts : ∃ i, Try.prog.info? 100 = some i ∧ i.zero = some (.slice none 0 0) ∧ i.size = 1 ∧ i.bytes = 24 := by
  have h := infoBools
  cases hi : Try.prog.info? 100 with
  | none => rw [hi] at h; cases h
  | some i =>
    rw [hi] at h
    simp at h
    exact ⟨i, rfl, h.1, h.2.1, h.2.2⟩

end Go.Proofs.Ytaklbnabgcglhab
