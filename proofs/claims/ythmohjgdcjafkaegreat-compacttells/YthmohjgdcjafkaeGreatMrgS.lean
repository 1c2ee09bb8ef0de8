/- Texts that are laid together. -/
import Derived.Test.YthmohjgdcjafkaeGreatMrgC
import Derived.Test.YthmohjgdcjafkaeGreatMrgH
import Derived.Deep.QuietTactic
import Derived.BigQuiet
import Derived.Test.YthmohjgdcjafkaeGreatMrgF
import Derived.BigRegion
import Derived.Test.YthmohjgdcjafkaeGreatMrgB
import Derived.Test.YthmohjgdcjafkaeGreatMrgD
import Derived.Test.YthmohjgdcjafkaeGreatMrgI

/- The contracts of the document's Direct and textLess. -/
namespace Go.Proofs.YthmohjgdcjafkaeGreat
open Go.RowKit Go.PlainAid

set_option maxRecDepth 100000

set_option maxHeartbeats 2000000 in
theorem direct_any (l : List PV) (v : Value) (i k : Nat) (x y : PV) (hx : l[i]? = some x) (hy : l[k]? = some y) (w : World) (hrow : IsPlcs w.heap.size w v l) :
    Calls Tryz.prog 49 #[v, .int .i64 i, .int .i64 k] w fun e w' => e = .returned (.bool (asksM x.mod y.mod.name)) ∧ Below w.heap.size w w' := by
  have hat := (hrow.2 x (List.mem_of_getElem? hx)).2.1
  obtain ⟨⟨a, cap, rfl, hz, hrow⟩, _⟩ := hrow
  have hil : i < l.length := (List.getElem?_eq_some_iff.1 hx).1
  have hkl : k < l.length := (List.getElem?_eq_some_iff.1 hy).1
  rcases hrow with h | ⟨b, off, rfl, hbn, hcells⟩
  · subst h; simp at hil
  have c5 := hcells i x hx 5 (by omega)
  have d0 := hcells k y hy 0 (by omega)
  dsimp only [PV.cell] at c5 d0
  rw [Nat.add_zero] at d0
  obtain ⟨pi, ki, e5, hzi, hri⟩ := hat
  rw [e5] at c5
  have HC0 : Hid (asksM x.mod y.mod.name = (x.mod.imps.drop 0).any fun i => i.mod == y.mod.name) := (rfl : _ = _)
  clear hcells hx hy e5
  generalize asksM x.mod y.mod.name = R at *
  generalize y.mod.name = yn at *
  generalize x.mod.imps = is at *
  have hil' : (i : Int) < (l.length : Int) := by omega
  have hkl' : (k : Int) < (l.length : Int) := by omega
  go_enter Tryz.func49, Tryz.ntmps49
  go_wp2_with fail
  go_loopw [7] (fun q wr => ∃ (n : Nat), n ≤ is.length ∧ q = .int .i64 n ∧ Hid (R = (is.drop n).any fun i => i.mod == yn) ∧ Below w.heap.size w wr) (fun q _ => is.length - (intOf q).toNat)
  case atStart => exact ⟨0, Nat.zero_le _, rfl, HC0.out, Below.refl _ _⟩
  case round =>
    obtain ⟨n, hn, rfl, HC, B⟩ := hrel
    clear HC0
    have c5' := (B.cell (p := ⟨b, off + i * 8 + 5, none⟩) hbn).trans c5
    have d0' := (B.cell (p := ⟨b, off + k * 8, none⟩) hbn).trans d0
    have hbw : b < wr.heap.size := Nat.lt_of_lt_of_le hbn B.size
    by_cases hlt : n < is.length
    · obtain ⟨z, hz2⟩ : ∃ z, is[n]? = some z := ⟨_, List.getElem?_eq_getElem hlt⟩
      rcases hri with h | ⟨bi, offi, rfl, hbi, hci⟩
      · subst h; simp at hlt
      have e0 := (B.cell (p := ⟨bi, offi + n * 4 + 0, none⟩) hbi).trans (hci n z hz2 0 (by omega))
      dsimp only [Imp.cell] at e0
      rw [Nat.add_zero] at e0
      have HR : Hid (R = ((z.mod.toList == yn.toList) || (is.drop (n + 1)).any fun i => i.mod == yn)) := by
        show R = _
        rw [HC.out, drop_at hz2, List.any_cons, ← toList_beq2]
      have hbi2 : bi < wr.heap.size := Nat.lt_of_lt_of_le hbi B.size
      have hlt' : (n : Int) < (is.length : Int) := by omega
      clear hci HC hz2
      generalize z.mod = zm at *
      cases ht : (zm.toList == yn.toList)
      · rw [ht] at HR
        have HR2 : Hid (R = (is.drop (n + 1)).any fun i => i.mod == yn) := by
          show R = _
          rw [HR.out, Bool.false_or]
        clear HR
        go_wp2_with fail
        go_quiet (fail)
        have BQ := below_drewN B
        go_wp2
        exact ⟨⟨n + 1, by omega, by go_num, HR2.out, BQ _⟩, by simp [intOf]; omega⟩
      · rw [ht] at HR
        have HR2 : Hid (R = true) := by
          show R = _
          rw [HR.out, Bool.true_or]
        clear HR
        go_wp2_with fail
        go_quiet (fail)
        have BQ := below_drewN B
        go_wp2
        go_ret
        exact ⟨by rw [HR2.out]; rfl, BQ _⟩
    · obtain rfl : n = is.length := by omega
      have HZ : Hid (R = false) := by
        show R = false
        rw [HC.out, List.drop_length]; rfl
      go_wp2
      go_ret
      exact ⟨by rw [HZ.out]; rfl, B⟩

theorem lt_drop (a b : List UInt8) (k : Nat) (x y : UInt8) (hx : a[k]? = some x) (hy : b[k]? = some y) (h : x ≠ y) : a.drop k < b.drop k ↔ x < y := by
  rw [drop_at hx, drop_at hy, List.cons_lt_cons_iff]
  constructor
  · rintro (h1 | ⟨h1, _⟩)
    · exact h1
    · exact absurd h1 h
  · exact fun h1 => .inl h1
theorem lt_drop_eq (a b : List UInt8) (k : Nat) (x : UInt8) (hx : a[k]? = some x) (hy : b[k]? = some x) : a.drop k < b.drop k ↔ a.drop (k + 1) < b.drop (k + 1) := by
  rw [drop_at hx, drop_at hy, List.cons_lt_cons_iff]
  constructor
  · rintro (h1 | ⟨_, h1⟩)
    · exact absurd h1 (UInt8.lt_irrefl x)
    · exact h1
  · exact fun h1 => .inr ⟨rfl, h1⟩
theorem lt_drop_end (a b : List UInt8) (k : Nat) (h : a.length ≤ k ∨ b.length ≤ k) (ha : k ≤ a.length) (hb : k ≤ b.length) : a.drop k < b.drop k ↔ a.length < b.length := by
  by_cases h1 : a.length ≤ k
  · rw [List.drop_of_length_le h1]
    by_cases h2 : b.length ≤ k
    · rw [List.drop_of_length_le h2]
      constructor
      · intro h3; exact absurd h3 (List.lt_irrefl _)
      · intro h3; omega
    · have hk : k < b.length := by omega
      rw [drop_at (List.getElem?_eq_getElem hk)]
      constructor
      · intro _; omega
      · intro _; exact List.nil_lt_cons _ _
  · have hk : k < a.length := by omega
    have h2 : b.length ≤ k := by omega
    rw [List.drop_of_length_le h2, drop_at (List.getElem?_eq_getElem hk)]
    constructor
    · intro h3; exact absurd h3 (List.not_lt_nil _)
    · intro h3; omega

end Go.Proofs.YthmohjgdcjafkaeGreat

/- The document's table of who needs whom, in memory. -/
namespace Go.Proofs.YthmohjgdcjafkaeGreat
open Go.RowKit Go.PlainAid

set_option maxRecDepth 100000

def dirB (l : List PV) (i k : Nat) : Bool := match l[i]?, l[k]? with | some x, some y => asksM x.mod y.mod.name | _, _ => false
theorem dirB_at {l : List PV} {i k : Nat} {x y : PV} (hx : l[i]? = some x) (hy : l[k]? = some y) : dirB l i k = asksM x.mod y.mod.name := by unfold dirB; rw [hx, hy]
theorem dirB_next {l : List PV} {i k : Nat} (hi : i < l.length) (hk : k < l.length) : dirB l i k = true ↔ Next nxNeed (l.map (·.mod)) i k := by
  rw [dirB_at (List.getElem?_eq_getElem hi) (List.getElem?_eq_getElem hk)]
  exact (Next.iff (nx := nxNeed) (x := l[i].mod) (y := l[k].mod) (by rw [List.getElem?_map, List.getElem?_eq_getElem hi]; rfl) (by rw [List.getElem?_map, List.getElem?_eq_getElem hk]; rfl)).symm

def boolsTo (f : Nat → Bool) (k : Nat) : List Value := (List.range k).map fun j => .bool (f j)
theorem boolsTo_succ (f : Nat → Bool) (k : Nat) : boolsTo f (k + 1) = boolsTo f k ++ [.bool (f k)] := by unfold boolsTo; rw [List.range_succ, List.map_append]; rfl
theorem boolsTo_at (f : Nat → Bool) {k j : Nat} (h : j < k) : (boolsTo f k)[j]? = some (.bool (f j)) := by unfold boolsTo; rw [List.getElem?_map, List.getElem?_range h]; rfl

theorem own_type_ne {W : World} {base : Nat} {e t : TypeId} {size : Nat} {v : Value} {n : Nat} {xs : List Value} (h : W.ownsRow base e size v n xs) {g : Nat} {cs : Array Value} (hc : CellsAt W g t cs) (hne : t ≠ e) : some g ≠ v.ownBlock := by
  rcases h.2 with ⟨rfl, _⟩ | ⟨g', cap, cur, rfl, _, hb, _⟩
  · intro h2; cases h2
  · intro h2
    have h3 : g = g' := by simpa [Value.ownBlock] using h2
    subst h3
    have h4 : W.heap[g]? = some (.cells cs t (0, 0)) := hc
    rw [hb] at h4
    injection h4 with h4
    injection h4 with _ h5
    exact hne h5.symm

/-- Rows of truths, each in a block of its own. -/
structure PartAt (W : World) (lim base n : Nat) (D : Nat → Nat → Bool) (vs : List Value) : Prop where
  row : ∀ (j : Nat) (v : Value), vs[j]? = some v → ∃ g c cs, v = .slice (some ⟨g, 0, none⟩) n c ∧ base ≤ g ∧ g < lim ∧ CellsAt W g 4 cs ∧ ∀ k, k < n → cs[k]? = some (.bool (D j k))
  apart : ∀ (j k : Nat) (v v' : Value), vs[j]? = some v → vs[k]? = some v' → v.ownBlock = v'.ownBlock → j = k
theorem PartAt.below {W W' : World} {lim base n m : Nat} {D : Nat → Nat → Bool} {vs : List Value} (h : PartAt W lim base n D vs) (hb : Below m W W') (hm : lim ≤ m) : PartAt W' lim base n D vs :=
  ⟨fun j v hj => by
    obtain ⟨g, c, cs, h1, h2, h3, h4, h5⟩ := h.row j v hj
    exact ⟨g, c, cs, h1, h2, h3, h4.below hb (by omega), h5⟩, h.apart⟩
theorem PartAt.more {W : World} {lim lim' base n : Nat} {D : Nat → Nat → Bool} {vs : List Value} (h : PartAt W lim base n D vs) (hm : lim ≤ lim') : PartAt W lim' base n D vs :=
  ⟨fun j v hj => by
    obtain ⟨g, c, cs, h1, h2, h3, h4, h5⟩ := h.row j v hj
    exact ⟨g, c, cs, h1, h2, by omega, h4, h5⟩, h.apart⟩
theorem PartAt.kept {W W' : World} {lim base n b0 m : Nat} {D : Nat → Nat → Bool} {vs : List Value} {f : Value} {xs : List Value} (h : PartAt W lim base n D vs) (ho : W.ownsRow b0 118 1 f m xs) (hg : W.grownBy W' f.ownBlock) : PartAt W' lim base n D vs :=
  ⟨fun j v hj => by
    obtain ⟨g, c, cs, h1, h2, h3, h4, h5⟩ := h.row j v hj
    exact ⟨g, c, cs, h1, h2, h3, h4.kept hg (own_type_ne ho h4 (by decide)), h5⟩, h.apart⟩
theorem PartAt.snoc {W : World} {lim lim' base n : Nat} {D : Nat → Nat → Bool} {vs : List Value} (h : PartAt W lim base n D vs) {g c : Nat} {cs : Array Value} (hb : base ≤ g) (hl : lim ≤ g) (hg : g < lim') (hc : CellsAt W g 4 cs) (hD : ∀ k, k < n → cs[k]? = some (.bool (D vs.length k))) : PartAt W lim' base n D (vs ++ [.slice (some ⟨g, 0, none⟩) n c]) := by
  have key : ∀ (j : Nat) (v : Value), (vs ++ [Value.slice (some ⟨g, 0, none⟩) n c])[j]? = some v → (j < vs.length ∧ vs[j]? = some v) ∨ (j = vs.length ∧ v = .slice (some ⟨g, 0, none⟩) n c) := fun j v hj => by
    by_cases h1 : j < vs.length
    · rw [List.getElem?_append_left h1] at hj
      exact .inl ⟨h1, hj⟩
    · have h2 := (List.getElem?_eq_some_iff.1 hj).1
      simp at h2
      have h3 : j = vs.length := by omega
      subst h3
      refine .inr ⟨rfl, ?_⟩
      simpa using hj.symm
  have lt : ∀ (j : Nat) (v : Value), vs[j]? = some v → v.ownBlock ≠ some g := fun j v hj e => by
    obtain ⟨g', c', cs', rfl, _, h3, _⟩ := h.row j v hj
    have : g' = g := by simpa [Value.ownBlock] using e
    omega
  refine ⟨fun j v hj => ?_, fun j k v v' hj hk he => ?_⟩
  · rcases key j v hj with ⟨_, h1⟩ | ⟨rfl, rfl⟩
    · obtain ⟨g', c', cs', h1, h2, h3, h4, h5⟩ := h.row j v h1
      exact ⟨g', c', cs', h1, h2, by omega, h4, h5⟩
    · exact ⟨g, c, cs, rfl, hb, hg, hc, hD⟩
  · rcases key j v hj with ⟨h1, h2⟩ | ⟨rfl, rfl⟩
    · rcases key k v' hk with ⟨h3, h4⟩ | ⟨rfl, rfl⟩
      · exact h.apart j k v v' h2 h4 he
      · exact absurd he (lt j v h2)
    · rcases key k v' hk with ⟨h3, h4⟩ | ⟨rfl, _⟩
      · exact absurd he.symm (lt k v' h4)
      · rfl

/-- The whole table. -/
def MatAt (W : World) (base n : Nat) (v : Value) (T : Nat → Nat → Bool) : Prop := ∃ vs : List Value, vs.length = n ∧ W.ownsRow base 118 1 v n vs ∧ PartAt W W.heap.size base n T vs
theorem MatAt.below {W W' : World} {base n : Nat} {v : Value} {T : Nat → Nat → Bool} (h : MatAt W base n v T) (hb : Below W.heap.size W W') : MatAt W' base n v T := by
  obtain ⟨vs, h1, h2, h3⟩ := h
  exact ⟨vs, h1, own_below h2 hb, (h3.below hb (Nat.le_refl _)).more hb.size⟩
theorem addr_add0 (g j : Nat) : (⟨g, 0, none⟩ : Addr).add j = ⟨g, j, none⟩ := by unfold Addr.add; split <;> simp_all
/-- Where the i-th row lies. -/
theorem MatAt.at {W : World} {base n : Nat} {v : Value} {T : Nat → Nat → Bool} (h : MatAt W base n v T) (hn : 0 < n) : ∃ go co, v = .slice (some ⟨go, 0, none⟩) n co ∧ base ≤ go ∧ go < W.heap.size ∧
    ∃ (gs cs : Nat → Nat), ∀ i, i < n → W.cell? ⟨go, i, none⟩ = some (.slice (some ⟨gs i, 0, none⟩) n (cs i)) ∧ base ≤ gs i ∧ gs i < W.heap.size ∧ ∀ k, k < n → W.cell? ⟨gs i, k, none⟩ = some (.bool (T i k)) ∧ W.frozen? ⟨gs i, k, none⟩ = false := by
  obtain ⟨vs, h1, h2, h3⟩ := h
  rcases h2.2 with ⟨_, h0⟩ | ⟨go, co, cur, rfl, hb, hc, _⟩
  · omega
  refine ⟨go, co, rfl, hb, (Array.getElem?_eq_some_iff.1 hc).1, ?_⟩
  have each : ∀ i, ∃ g c, i < n → W.cell? ⟨go, i, none⟩ = some (.slice (some ⟨g, 0, none⟩) n c) ∧ base ≤ g ∧ g < W.heap.size ∧ ∀ k, k < n → W.cell? ⟨g, k, none⟩ = some (.bool (T i k)) ∧ W.frozen? ⟨g, k, none⟩ = false := by
    intro i
    by_cases hi : i < n
    · have hv : vs[i]? = some vs[i] := List.getElem?_eq_getElem (by omega)
      obtain ⟨g, c, cs, e1, e2, e3, e4, e5⟩ := h3.row i _ hv
      refine ⟨g, c, fun _ => ⟨?_, e2, e3, fun k hk => ⟨(e4.cell k).trans (e5 k hk), e4.frozen k⟩⟩⟩
      have := h2.cells (g := go) rfl i _ hv
      rw [addr_add0, e1] at this
      exact this
    · exact ⟨0, 0, fun h => absurd h hi⟩
  refine ⟨fun i => (each i).choose, fun i => (each i).choose_spec.choose, fun i hi => (each i).choose_spec.choose_spec hi⟩
theorem MatAt.set {W : World} {base n : Nat} {v : Value} {T : Nat → Nat → Bool} (h : MatAt W base n v T) {go co g c i k : Nat} (hi : i < n) (hk : k < n) (hv : v = .slice (some ⟨go, 0, none⟩) n co) (hg : W.cell? ⟨go, i, none⟩ = some (.slice (some ⟨g, 0, none⟩) n c)) (b : Bool) : MatAt (W.setCell ⟨g, k, none⟩ (.bool b)) base n v (setT T i k b) := by
  obtain ⟨vs, h1, h2, h3⟩ := h
  have hvi : vs[i]? = some vs[i] := List.getElem?_eq_getElem (by omega)
  obtain ⟨g', c', cs, e1, e2, e3, e4, e5⟩ := h3.row i _ hvi
  have hgg : g = g' := by
    have := h2.cells (g := go) (by rw [hv]; rfl) i _ hvi
    rw [addr_add0, e1, hg] at this
    injection this with this
    injection this with t1 _ _
    injection t1 with t1
    injection t1
  subst hgg
  have hgr := grown_set W g k (.bool b)
  refine ⟨vs, h1, h2.kept hgr (.inr fun e => own_type_ne h2 e4 (by decide) e.symm), ⟨fun j v' hj => ?_, h3.apart⟩⟩
  obtain ⟨g2, c2, cs2, f1, f2, f3, f4, f5⟩ := h3.row j v' hj
  by_cases hji : j = i
  · subst hji
    rw [hvi] at hj
    injection hj with hj
    subst hj
    rw [e1] at f1
    injection f1 with t1 _ t3
    injection t1 with t1
    injection t1 with t1
    subst t1 t3
    refine ⟨g, c', cs.setIfInBounds k (.bool b), e1, e2, Nat.lt_of_lt_of_le e3 hgr.size, e4.set k _, fun q hq => ?_⟩
    rw [Array.getElem?_setIfInBounds]
    by_cases hqk : k = q
    · subst hqk
      have hsz : k < cs.size := by
        have := e5 k hk
        exact (Array.getElem?_eq_some_iff.1 this).1
      rw [if_pos rfl, if_pos hsz, setT_at]
    · rw [if_neg hqk, setT_ne (fun h => hqk h.2.symm)]
      exact e5 q hq
  · have hne : some g2 ≠ some g := fun e => by
      injection e with e
      subst e
      exact hji (h3.apart j i v' _ hj hvi (by rw [f1, e1]; rfl))
    exact ⟨g2, c2, cs2, f1, f2, Nat.lt_of_lt_of_le f3 hgr.size, f4.kept hgr hne, fun q hq => by rw [setT_ne (fun h => hji h.1)]; exact f5 q hq⟩

theorem infoBool : (Tryz.prog.info? 4).map (fun i => (i.zero, i.size, i.bytes)) = some (some (.bool false), 1, 1) := by kernel_rfl
theorem infoBool_parts : ∃ i, Tryz.prog.info? 4 = some i ∧ i.zero = some (.bool false) ∧ i.size = 1 ∧ i.bytes = 1 := by
  have h := infoBool
  cases hi : Tryz.prog.info? 4 with
  | none => rw [hi] at h; cases h
  | some i =>
    rw [hi] at h
    simp at h
    exact ⟨i, rfl, h.1, h.2.1, h.2.2⟩
theorem infoBools : (Tryz.prog.info? 118).map (fun i => (i.zero, i.size, i.bytes)) = some (some (.slice none 0 0), 1, 24) := by kernel_rfl
theorem infoBools_parts : ∃ i, Tryz.prog.info? 118 = some i ∧ i.zero = some (.slice none 0 0) ∧ i.size = 1 ∧ i.bytes = 24 := by
  have h := infoBools
  cases hi : Tryz.prog.info? 118 with
  | none => rw [hi] at h; cases h
  | some i =>
    rw [hi] at h
    simp at h
    exact ⟨i, rfl, h.1, h.2.1, h.2.2⟩

end Go.Proofs.YthmohjgdcjafkaeGreat

/- The contract of the document's Reach. -/
namespace Go.Proofs.YthmohjgdcjafkaeGreat
open Go.RowKit Go.PlainAid

set_option maxRecDepth 100000

set_option maxHeartbeats 8000000 in
theorem reach_any (l : List PV) (v : Value) (w : World) (hrow : IsPlcs w.heap.size w v l) (h8 : l.length ≤ 8) :
    Calls Tryz.prog 87 #[v] w fun e w' => (∃ r T, e = .returned r ∧ MatAt w' w.heap.size l.length r T ∧ ∀ a b, a < l.length → b < l.length → (T a b = true ↔ Via (Next nxNeed (l.map (·.mod))) a b)) ∧ Below w.heap.size w w' := by
  have HD : Hid (∀ (i k : Nat) W, i < l.length → k < l.length → Below w.heap.size w W → Calls Tryz.prog 49 #[v, .int .i64 i, .int .i64 k] W fun e w' => e = .returned (.bool (dirB l i k)) ∧ Below W.heap.size W w') := fun i k W hi hk hb => by
    rw [dirB_at (List.getElem?_eq_getElem hi) (List.getElem?_eq_getElem hk)]
    exact direct_any l v i k _ _ (List.getElem?_eq_getElem hi) (List.getElem?_eq_getElem hk) W ((hrow.below hb).more hb.size)
  have HST : Hid (∀ a b, a < l.length → b < l.length → (dirB l a b = true ↔ Next nxNeed (l.map (·.mod)) a b)) := fun a b ha hb => dirB_next ha hb
  have HEL : Hid (∀ i k, Next nxNeed (l.map (·.mod)) i k → i < l.length) := fun i k h => by simpa using h.lt.1
  generalize Next nxNeed (l.map (·.mod)) = E at *
  generalize dirB l = DD at *
  obtain ⟨⟨a, cap, rfl, hmax, _⟩, _⟩ := hrow
  generalize l.length = n at *
  obtain ⟨ib, hib, hb0, hb1, hb2⟩ := infoBool_parts
  obtain ⟨is, his, hs0, hs1, hs2⟩ := infoBools_parts
  go_enter Tryz.func87, Tryz.ntmps87
  go_wp2_with fail
  go_loopw [3, 4] (fun f q wr => ∃ (i : Nat) (vs : List Value), i ≤ n ∧ q = .int .i64 i ∧ Hid (vs.length = i) ∧ wr.ownsRow w.heap.size 118 1 f i vs ∧ PartAt wr wr.heap.size w.heap.size n DD vs ∧ Below w.heap.size w wr) (fun _ q _ => n - (intOf q).toNat)
  case atStart => exact ⟨0, [], Nat.zero_le _, rfl, (rfl : ([] : List Value).length = 0), ⟨rfl, .inl ⟨rfl, rfl⟩⟩, ⟨fun j v hj => by simp at hj, fun j k v v' hj => by simp at hj⟩, Below.refl _ _⟩
  case round =>
    obtain ⟨i, vs, hi, rfl, HL, hown, hpart, B⟩ := hrel
    obtain ⟨wo, hwo⟩ : ∃ wo, wo = wr := ⟨_, rfl⟩
    subst hwo
    obtain ⟨av, kv, rfl⟩ := own_form hown
    have HOW : Hid (wo.ownsRow w.heap.size 118 1 (.slice av i kv) i vs) := hown
    have HPA : Hid (PartAt wo wo.heap.size w.heap.size n DD vs) := hpart
    have HB0 : Hid (Below w.heap.size w wo) := B
    clear hown hpart B
    by_cases hlt : i < n
    · have HDI : Hid (∀ (k : Nat) W, k < n → Below w.heap.size w W → Calls Tryz.prog 49 #[.slice a n cap, .int .i64 i, .int .i64 k] W fun e w' => e = .returned (.bool (DD i k)) ∧ Below W.heap.size W w') := fun k W hk hb => HD.out i k W hlt hk hb
      go_wp2_with fail
      go_loopw [5, 6] (fun f q wi => ∃ (k : Nat), k ≤ n ∧ q = .int .i64 k ∧ wi.ownsRow wo.heap.size 4 1 f k (boolsTo (DD i) k) ∧ Below wo.heap.size wo wi) (fun _ q _ => n - (intOf q).toNat)
      case atStart => exact ⟨0, Nat.zero_le _, rfl, ⟨rfl, .inl ⟨rfl, rfl⟩⟩, Below.refl _ _⟩
      case round =>
        obtain ⟨k, hk, rfl, hrowk, BI⟩ := hrel
        have BW : Below w.heap.size w wr := HB0.out.trans (BI.mono HB0.out.size)
        have HSZ : Hid (wo.heap.size ≤ wr.heap.size) := BI.size
        by_cases hltk : k < n
        · obtain ⟨ar, kr, rfl⟩ := own_form hrowk
          have HBS : Hid (boolsTo (DD i) (k + 1) = boolsTo (DD i) k ++ [.bool (DD i k)]) := boolsTo_succ (DD i) k
          have HDK : Hid (Calls Tryz.prog 49 #[.slice a n cap, .int .i64 i, .int .i64 k] wr fun e w' => e = .returned (.bool (DD i k)) ∧ Below wr.heap.size wr w') := HDI.out k wr hltk BW
          generalize boolsTo (DD i) k = acc at *
          generalize DD i k = t at *
          go_wp2_with fail
          refine HDK.out.mono ?_
          rintro e w3 ⟨rfl, b3⟩
          have row3 := own_below hrowk b3
          have B3 : Below wo.heap.size wo w3 := BI.trans (b3.mono HSZ.out)
          have HB3 : Hid (Below wo.heap.size wo w3) := B3
          have HS3 : Hid (wo.heap.size ≤ w3.heap.size) := B3.size
          clear HDK b3 BI BW B3 hrowk
          go_wp2_with (at_builtin; refine wpList_append_lies _ rfl _ _ _ rfl wo.heap.size 4 ib _ 1 1 Tryz.underlying118 hib hb0 hb1 hb2 rfl (by omega) (.slice ar k kr) k acc rfl (row3.alloc _) ⟨w3.heap.size, 0, none⟩ 1 1 [.bool t] rfl rfl (World.news_of_block (cs := #[.bool t]) (t := 4) (fr := (0, 0)) (CellsAt.new w3 4 #[.bool t])) (by simp [Value.oneCell']) (by omega) (by unfold maxLen; omega) (by omega) (by have := HS3.out; simp; omega) (w3.heap.size + 1) (by simp) ?_; intro g gc w8 hown8 hgrow hat hltg)
          have BA := HB3.out.alloc HB3.out.size (.cells #[.bool t] 4)
          exact ⟨⟨k + 1, by omega, by go_num, by rw [HBS.out]; exact hown8, BA.grown hgrow BA.size (fun i hi => own_block row3 i hi)⟩, by simp [intOf]; omega⟩
        · obtain rfl : k = n := by omega
          rcases hrowk.2 with ⟨_, h0⟩ | ⟨gr, cr, cur, rfl, hgr, hcr, hcap, _, hsz, htk⟩
          · omega
          have hrw := hrowk
          have own3 : wr.ownsRow w.heap.size 118 1 (.slice av i kv) i vs := own_below HOW.out BI
          have part3 : PartAt wr wo.heap.size w.heap.size k DD vs := HPA.out.below BI (Nat.le_refl _)
          have HP3 : Hid (PartAt wr wo.heap.size w.heap.size k DD vs) := part3
          have HCR : Hid (CellsAt wr gr 4 cur ∧ wo.heap.size ≤ gr ∧ ∀ q, q < k → cur[q]? = some (.bool (DD i q))) := by
            refine ⟨hcr, hgr, fun q hq => ?_⟩
            have h1 := boolsTo_at (DD i) hq
            have h2 := hrw.cells (g := gr) rfl q _ h1
            rw [addr_add0] at h2
            exact ((CellsAt.cell (t := 4) (cs := cur) hcr q).symm.trans h2)
          have HBW : Hid (Below w.heap.size w wr) := BW
          have HS3 : Hid (w.heap.size ≤ wr.heap.size) := BW.size
          clear hcr hgr hcap hsz htk hrw hrowk part3 BI BW HDI HPA HOW
          go_wp2_with (at_builtin; refine wpList_append_lies _ rfl _ _ _ rfl w.heap.size 118 is _ 1 24 Tryz.underlying116 his hs0 hs1 hs2 rfl (by omega) (.slice av i kv) i vs rfl (own3.alloc _) ⟨wr.heap.size, 0, none⟩ 1 1 [.slice (some ⟨gr, 0, none⟩) k cr] rfl rfl (World.news_of_block (cs := #[.slice (some ⟨gr, 0, none⟩) k cr]) (t := 118) (fr := (0, 0)) (CellsAt.new wr 118 #[.slice (some ⟨gr, 0, none⟩) k cr])) (by simp [Value.oneCell']) (by omega) (by unfold maxLen; omega) (by omega) (by have := HS3.out; simp; omega) (wr.heap.size + 1) (by simp) ?_; intro g gc w8 hown8 hgrow hat hltg)
          obtain ⟨q1, q2, q3⟩ := HCR.out
          have ga := World.grownBy_alloc wr (.cells #[.slice (some ⟨gr, 0, none⟩) k cr] 118) none
          have BA := HBW.out.alloc HBW.out.size (.cells #[.slice (some ⟨gr, 0, none⟩) k cr] 118)
          have ba : Below wr.heap.size wr (wr.alloc (.cells #[.slice (some ⟨gr, 0, none⟩) k cr] 118)) := (Below.refl _ _).alloc (Nat.le_refl _) _
          have oa := own3.alloc (.cells #[.slice (some ⟨gr, 0, none⟩) k cr] 118)
          have p4 := (HP3.out.below ba HSZ.out).kept oa hgrow
          have c4 := (q1.kept ga (by simp)).kept hgrow (own_type_ne oa (q1.kept ga (by simp)) (by decide))
          have p5 := p4.snoc (c := cr) (Nat.le_trans HB0.out.size q2) q2 (Nat.lt_of_lt_of_le q1.lt (Nat.le_trans ga.size hgrow.size)) c4 (fun q hq => by rw [HL.out]; exact q3 q hq)
          have hln : Hid ((vs ++ [Value.slice (some ⟨gr, 0, none⟩) k cr]).length = i + 1) := by
            show (vs ++ [Value.slice (some ⟨gr, 0, none⟩) k cr]).length = i + 1
            rw [List.length_append, HL.out]; rfl
          exact ⟨⟨i + 1, vs ++ [.slice (some ⟨gr, 0, none⟩) k cr], by omega, by go_num, hln, hown8, p5, BA.grown hgrow BA.size (fun i hi => own_block own3 i hi)⟩, by simp [intOf]; omega⟩
    · obtain rfl : n = i := by omega
      have HM0 : Hid (MatAt wo w.heap.size n (.slice av n kv) DD) := ⟨vs, HL.out, HOW.out, HPA.out⟩
      have HF0 : Hid (Fill E n 0 0 0 DD) := Fill.start HST.out
      clear HOW HPA HL HD HST
      go_wp2_with fail
      go_loopw [7] (fun q wr => ∃ (m : Nat) (T : Nat → Nat → Bool), m ≤ n ∧ q = .int .i64 m ∧ Hid (MatAt wr w.heap.size n (.slice av n kv) T) ∧ Hid (Fill E n m 0 0 T) ∧ Below w.heap.size w wr) (fun q _ => n - (intOf q).toNat)
      case atStart => exact ⟨0, DD, Nat.zero_le _, rfl, HM0.out, HF0.out, HB0.out⟩
      case round =>
        obtain ⟨m, T, hm, rfl, HM, HF, B⟩ := hrel
        clear HM0 HF0 HB0
        by_cases hltm : m < n
        · go_wp2_with fail
          go_loopw [8] (fun q wr => ∃ (i : Nat) (T : Nat → Nat → Bool), i ≤ n ∧ q = .int .i64 i ∧ Hid (MatAt wr w.heap.size n (.slice av n kv) T) ∧ Hid (Fill E n m i 0 T) ∧ Below w.heap.size w wr) (fun q _ => n - (intOf q).toNat)
          case atStart => exact ⟨0, T, Nat.zero_le _, rfl, HM.out, HF.out, B⟩
          case round =>
            obtain ⟨i, T2, hi2, rfl, HM2, HF2, B2⟩ := hrel
            clear HM HF B
            by_cases hlti : i < n
            · go_wp2_with fail
              go_loopw [9] (fun q wr => ∃ (k : Nat) (T : Nat → Nat → Bool), k ≤ n ∧ q = .int .i64 k ∧ Hid (MatAt wr w.heap.size n (.slice av n kv) T) ∧ Hid (Fill E n m i k T) ∧ Below w.heap.size w wr) (fun q _ => n - (intOf q).toNat)
              case atStart => exact ⟨0, T2, Nat.zero_le _, rfl, HM2.out, HF2.out, B2⟩
              case round =>
                obtain ⟨k, T3, hk3, rfl, HM3, HF3, B3⟩ := hrel
                clear HM2 HF2 B2
                by_cases hltk : k < n
                · obtain ⟨go, co, hv, hbg, hgl, gs, cs, hall⟩ := HM3.out.at (by omega)
                  injection hv with e1 _ e3
                  subst e1 e3
                  obtain ⟨ri, bi, li, ri4⟩ := hall i hlti
                  obtain ⟨rm, bm, lm, rm4⟩ := hall m hltm
                  obtain ⟨cik, fik⟩ := ri4 k hltk
                  have cim := (ri4 m hltm).1
                  have cmk := (rm4 k hltk).1
                  have HSET : Hid (∀ b, MatAt (wr.setCell ⟨gs i, k, none⟩ (.bool b)) w.heap.size n (.slice (some ⟨go, 0, none⟩) n kv) (setT T3 i k b)) := fun b => HM3.out.set hlti hltk rfl ri b
                  have HFS : Hid (Fill E n m i (k + 1) (setT T3 i k (T3 i k || (T3 i m && T3 m k)))) := HF3.out.step hltm hlti hltk
                  have q1 : (m : Int) < (n : Int) := by omega
                  have q2 : (i : Int) < (n : Int) := by omega
                  have q3 : (k : Int) < (n : Int) := by omega
                  clear hall ri4 rm4 HM3 HF3
                  generalize gs i = gi at *
                  generalize gs m = gm at *
                  generalize cs i = ci at *
                  generalize cs m = cm at *
                  generalize setT T3 i k = ST at *
                  generalize T3 i k = t1 at *
                  generalize T3 i m = t2 at *
                  generalize T3 m k = t3 at *
                  have BS : ∀ b, Below w.heap.size w (wr.setCell ⟨gi, k, none⟩ (.bool b)) := fun b => B3.setCell bi (.bool b)
                  have HBS : Hid (∀ b, Below w.heap.size w (wr.setCell ⟨gi, k, none⟩ (.bool b))) := BS
                  clear BS
                  cases t1
                  · cases t2
                    · go_wp2_with fail
                      go_region
                      go_wp2
                      exact ⟨⟨k + 1, ST false, by omega, by go_num, ((HSET.out false).below (Below.refl _ _).drew : MatAt (wr.setCell ⟨gi, k, none⟩ (.bool false)).drew w.heap.size n (.slice (some ⟨go, 0, none⟩) n kv) (ST false)), HFS.out, (HBS.out false).drew⟩, by simp [intOf]; omega⟩
                    · cases t3
                      · go_wp2_with fail
                        go_region
                        go_wp2
                        exact ⟨⟨k + 1, ST false, by omega, by go_num, ((HSET.out false).below (Below.refl _ _).drew : MatAt (wr.setCell ⟨gi, k, none⟩ (.bool false)).drew w.heap.size n (.slice (some ⟨go, 0, none⟩) n kv) (ST false)), HFS.out, (HBS.out false).drew⟩, by simp [intOf]; omega⟩
                      · go_wp2_with fail
                        go_region
                        go_wp2
                        exact ⟨⟨k + 1, ST true, by omega, by go_num, ((HSET.out true).below (Below.refl _ _).drew : MatAt (wr.setCell ⟨gi, k, none⟩ (.bool true)).drew w.heap.size n (.slice (some ⟨go, 0, none⟩) n kv) (ST true)), HFS.out, (HBS.out true).drew⟩, by simp [intOf]; omega⟩
                  · go_wp2_with fail
                    go_region
                    go_wp2
                    exact ⟨⟨k + 1, ST true, by omega, by go_num, ((HSET.out true).below (Below.refl _ _).drew : MatAt (wr.setCell ⟨gi, k, none⟩ (.bool true)).drew w.heap.size n (.slice (some ⟨go, 0, none⟩) n kv) (ST true)), HFS.out, (HBS.out true).drew⟩, by simp [intOf]; omega⟩
                · obtain rfl : k = n := by omega
                  go_wp2
                  exact ⟨⟨i + 1, T3, by omega, by go_num, HM3.out, HF3.out.nextRow, B3⟩, by simp [intOf]; omega⟩
            · obtain rfl : i = n := by omega
              go_wp2
              exact ⟨⟨m + 1, T2, by omega, by go_num, HM2.out, HF2.out.nextNum, B2⟩, by simp [intOf]; omega⟩
        · obtain rfl : m = n := by omega
          go_wp2
          go_ret
          exact ⟨⟨_, T, rfl, HM.out, fun a b ha hb => HF.out.all HEL.out ha hb⟩, B⟩

end Go.Proofs.YthmohjgdcjafkaeGreat

/- The contract of the document's textLess. -/
namespace Go.Proofs.YthmohjgdcjafkaeGreat
open Go.RowKit Go.PlainAid

set_option maxRecDepth 100000

def lessT (a b : ByteArray) : Bool := decide (a.data.toList < b.data.toList)
theorem bt_byte {s : ByteArray} {k : Nat} (h : k < s.size) : ∃ x : UInt8, s.data.toList[k]? = some x ∧ bt s k = (x.toNat : Int) := by
  refine ⟨s[k], ?_, by unfold bt; rw [dif_pos h]⟩
  have h1 : k < s.data.toList.length := by simpa using h
  rw [List.getElem?_eq_getElem h1]
  rfl

end Go.Proofs.YthmohjgdcjafkaeGreat

/- The contract of the document's sortTexts. -/
namespace Go.Proofs.YthmohjgdcjafkaeGreat
open Go.RowKit Go.PlainAid

set_option maxRecDepth 100000

/-- One does not stand behind another one. -/
def NotBehind (a b : ByteArray) : Prop := ¬ Ahead b a
theorem NotBehind.trans {a b c : ByteArray} (h : NotBehind a b) (g : NotBehind b c) : NotBehind a c := fun e => by
  rcases Ahead.total b c with h1 | h1 | h1
  · exact h (h1.trans e)
  · subst h1; exact h e
  · exact g h1
theorem Ahead.notBehind {a b : ByteArray} (h : Ahead a b) : NotBehind a b := fun e => h.asymm e
theorem lessT_false {a b : ByteArray} (h : lessT a b = false) : ¬ Ahead a b := of_decide_eq_false (p := a.data.toList < b.data.toList) h
theorem lessT_true {a b : ByteArray} (h : lessT a b = true) : Ahead a b := of_decide_eq_true (p := a.data.toList < b.data.toList) h
/-- A row in which one is being put where it belongs. -/
structure Puts (pre : List ByteArray) (x : ByteArray) (mid : List ByteArray) : Prop where
  up : (pre ++ mid).Pairwise NotBehind
  mid : ∀ y ∈ mid, Ahead x y
theorem Puts.step {pre : List ByteArray} {p x : ByteArray} {mid : List ByteArray} (h : Puts (pre ++ [p]) x mid) (hx : Ahead x p) : Puts pre x (p :: mid) :=
  ⟨by have := h.up; rw [List.append_assoc] at this; exact this, fun y hy => by
    rcases List.mem_cons.1 hy with rfl | hy
    · exact hx
    · exact h.mid y hy⟩
theorem Puts.stop {pre : List ByteArray} {p x : ByteArray} {mid : List ByteArray} (h : Puts (pre ++ [p]) x mid) (hx : ¬ Ahead x p) : (pre ++ [p] ++ x :: mid).Pairwise NotBehind := by
  have h1 := List.pairwise_append.1 h.up
  refine List.pairwise_append.2 ⟨h1.1, List.pairwise_cons.2 ⟨fun y hy => (h.mid y hy).notBehind, h1.2.1⟩, fun a ha b hb => ?_⟩
  rcases List.mem_cons.1 hb with rfl | hb
  · rcases List.mem_append.1 ha with ha | ha
    · have h2 := List.pairwise_append.1 h1.1
      exact (h2.2.2 a ha p (by simp)).trans hx
    · rw [List.mem_singleton.1 ha]; exact hx
  · exact h1.2.2 a ha b hb
theorem Puts.first {x : ByteArray} {mid : List ByteArray} (h : Puts [] x mid) : (x :: mid).Pairwise NotBehind := List.pairwise_cons.2 ⟨fun y hy => (h.mid y hy).notBehind, h.up⟩

def TxtAt (W : World) (g : Nat) (ss : List ByteArray) : Prop := ∃ cs, CellsAt W g 9 cs ∧ ∀ (j : Nat) (x : ByteArray), ss[j]? = some x → cs[j]? = some (.string x)
theorem TxtAt.cell {W : World} {g : Nat} {ss : List ByteArray} (h : TxtAt W g ss) {j : Nat} {x : ByteArray} (hj : ss[j]? = some x) : W.cell? ⟨g, j, none⟩ = some (.string x) ∧ W.frozen? ⟨g, j, none⟩ = false := by
  obtain ⟨cs, h1, h2⟩ := h
  exact ⟨(h1.cell j).trans (h2 j x hj), h1.frozen j⟩
theorem TxtAt.lt {W : World} {g : Nat} {ss : List ByteArray} (h : TxtAt W g ss) : g < W.heap.size := by
  obtain ⟨cs, h1, _⟩ := h
  exact h1.lt
theorem swap_at {α : Type} (pre : List α) (p x : α) (rest : List α) (j : Nat) : (pre ++ x :: p :: rest)[j]? = if j = pre.length then some x else if j = pre.length + 1 then some p else (pre ++ p :: x :: rest)[j]? := by
  by_cases h1 : j < pre.length
  · rw [if_neg (by omega), if_neg (by omega), List.getElem?_append_left h1, List.getElem?_append_left h1]
  · rw [List.getElem?_append_right (by omega)]
    by_cases h2 : j = pre.length
    · rw [if_pos h2, h2, Nat.sub_self]; rfl
    · rw [if_neg h2]
      by_cases h3 : j = pre.length + 1
      · rw [if_pos h3, h3, Nat.add_sub_cancel_left]; rfl
      · rw [if_neg h3, List.getElem?_append_right (by omega)]
        obtain ⟨q, hq⟩ : ∃ q, j - pre.length = q + 2 := ⟨j - pre.length - 2, by omega⟩
        rw [hq]
        rfl
theorem TxtAt.swap {W : World} {g : Nat} {pre : List ByteArray} {p x : ByteArray} {rest : List ByteArray} (h : TxtAt W g (pre ++ p :: x :: rest)) : TxtAt ((W.setCell ⟨g, pre.length + 1, none⟩ (.string p)).setCell ⟨g, pre.length, none⟩ (.string x)) g (pre ++ x :: p :: rest) := by
  obtain ⟨cs, h1, h2⟩ := h
  refine ⟨_, (h1.set (pre.length + 1) (.string p)).set pre.length (.string x), fun j y hj => ?_⟩
  have b0 : pre.length < cs.size := by
    have := h2 pre.length p (by simp)
    exact (Array.getElem?_eq_some_iff.1 this).1
  have b1 : pre.length + 1 < cs.size := by
    have := h2 (pre.length + 1) x (by rw [List.getElem?_append_right (by omega)]; simp)
    exact (Array.getElem?_eq_some_iff.1 this).1
  rw [swap_at] at hj
  rw [Array.getElem?_setIfInBounds]
  by_cases e0 : j = pre.length
  · rw [if_pos e0] at hj
    injection hj with hj
    rw [if_pos e0.symm, hj, if_pos (by simpa using b0)]
  · rw [if_neg e0] at hj
    rw [if_neg (fun e => e0 e.symm), Array.getElem?_setIfInBounds]
    by_cases e1 : j = pre.length + 1
    · rw [if_pos e1] at hj
      injection hj with hj
      rw [if_pos e1.symm, hj, if_pos b1]
    · rw [if_neg e1] at hj
      rw [if_neg (fun e => e1 e.symm)]
      exact h2 j y hj
theorem TxtAt.below {W W' : World} {g m : Nat} {ss : List ByteArray} (h : TxtAt W g ss) (hb : Below m W W') (hg : g < m) : TxtAt W' g ss := by
  obtain ⟨cs, h1, h2⟩ := h
  exact ⟨cs, h1.below hb hg, h2⟩

theorem TxtAt.other {W : World} {g k m : Nat} {ss : List ByteArray} (h : TxtAt W g ss) (v : Value) (hkm : k ≠ m) : (W.setCell ⟨g, k, none⟩ v).cell? ⟨g, m, none⟩ = W.cell? ⟨g, m, none⟩ ∧ (W.setCell ⟨g, k, none⟩ v).frozen? ⟨g, m, none⟩ = false := by
  obtain ⟨cs, h1, _⟩ := h
  have h3 := h1.set k v
  refine ⟨?_, h3.frozen m⟩
  rw [h3.cell, h1.cell, Array.getElem?_setIfInBounds, if_neg hkm]
theorem grown_drewN {W W' : World} {row : Option Nat} (h : W.grownBy W' row) (q : Nat) : W.grownBy (W'.drewN q) row := by
  have b := below_drewN (Below.refl W'.heap.size W') q
  exact ⟨b.os.trans h.os, b.tape.trans h.tape, b.output.trans h.output, Nat.le_trans h.size b.size, fun k hk hne => (b.block k (Nat.lt_of_lt_of_le hk h.size)).trans (h.block k hk hne)⟩

end Go.Proofs.YthmohjgdcjafkaeGreat

/- What is come to, both ways. -/
namespace Go.Proofs.YthmohjgdcjafkaeGreat
open Go.RowKit Go.PlainAid

theorem comeErr_zero {L : List Plc} {name : ByteArray} (h : comeErr L name = 0) : chkGraph L = 0 := by
  unfold comeErr at h
  split at h
  · exact absurd h ‹_›
  · omega
theorem chk_nodup {L : List Plc} (h : chkGraph L = 0) : ((L.map (·.mod)).map (·.name)).Nodup := by
  have := (chkGraph_zero.1 h).2.2
  rw [List.map_map]
  exact this
theorem ComeRes.err {nx : Mod → Mod → Bool} {L : List Plc} {name : ByteArray} {ss : List ByteArray} (h : ComeRes nx L name ss) (he : comeErr L name ≠ 0) : ss = [] := by
  rcases h with ⟨_, h⟩ | ⟨h, _⟩
  · exact h
  · exact absurd h he
theorem ComeRes.ok {nx : Mod → Mod → Bool} {L : List Plc} {name : ByteArray} {ss : List ByteArray} (h : ComeRes nx L name ss) (he : comeErr L name = 0) : ∃ f, f < L.length ∧ nameAt (L.map (·.mod)) f = name ∧ Comes nx (L.map (·.mod)) f ss := by
  rcases h with ⟨h, _⟩ | ⟨_, h⟩
  · exact absurd he h
  · exact h
theorem Comes.has {nx : Mod → Mod → Bool} {Ms : List Mod} (hd : (Ms.map (·.name)).Nodup) {f k : Nat} {ss : List ByteArray} (h : Comes nx Ms f ss) (hk : k < Ms.length) : nameAt Ms k ∈ ss ↔ Via (Next nx Ms) f k := by
  rw [h.2]
  constructor
  · rintro ⟨j, hj, he⟩
    rw [← nameAt_inj hd hj.lt_of.2 hk he]
    exact hj
  · exact fun hv => ⟨k, hv, rfl⟩
theorem turned_has {L : List Plc} {a b : ByteArray} {xs ys : List ByteArray} (ha : comeErr L a = 0) (hb : comeErr L b = 0) (hx : ComeRes nxNeed L a xs) (hy : ComeRes nxUse L b ys) : (xs.any fun y => y == b) = (ys.any fun y => y == a) := by
  have hd := chk_nodup (comeErr_zero ha)
  obtain ⟨fa, la, na, ca⟩ := hx.ok ha
  obtain ⟨fb, lb, nb, cb⟩ := hy.ok hb
  have la' : fa < (L.map (·.mod)).length := by simpa using la
  have lb' : fb < (L.map (·.mod)).length := by simpa using lb
  rw [Bool.eq_iff_iff, any_mem, any_mem, ← na, ← nb, ca.has hd lb', cb.has hd la', via_turn]
theorem turned_more {L : List Plc} {a b : ByteArray} {xs zs : List ByteArray} (ha : comeErr L a = 0) (hb : comeErr L b = 0) (hx : ComeRes nxNeed L a xs) (hz : ComeRes nxNeed L b zs) (h : (xs.any fun y => y == b) = true) : ∀ z ∈ zs, (xs.any fun y => y == z) = true := by
  have hd := chk_nodup (comeErr_zero ha)
  obtain ⟨fa, la, na, ca⟩ := hx.ok ha
  obtain ⟨fb, lb, nb, cb⟩ := hz.ok hb
  have lb' : fb < (L.map (·.mod)).length := by simpa using lb
  rw [any_mem, ← nb, ca.has hd lb'] at h
  intro z hz2
  rw [any_mem]
  obtain ⟨k, hk, rfl⟩ := (cb.2 z).1 hz2
  exact (ca.has hd hk.lt_of.2).2 (h.trans hk)

end Go.Proofs.YthmohjgdcjafkaeGreat
