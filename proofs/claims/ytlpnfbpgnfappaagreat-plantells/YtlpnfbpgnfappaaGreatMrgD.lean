/- Texts that are laid together. -/
import Derived.Test.YtlpnfbpgnfappaaGreatMrgC
import Derived.Laws.IdiomCopy
import Derived.Lib.AppendZerosOnto
import Derived.Shelf.RegionOpenPlain
import Derived.Deep.RegionLaw
import Derived.Lib.SliceRun
import Derived.Test.YtlpnfbpgnfappaaGreatProg
import Derived.RangeFuncNested
import Derived.RangeFuncBound
import Derived.RangeFuncCalls
import Derived.RangeFuncLeaves
import Derived.RangeFuncBox
import Derived.Shelf.Abstract
import Derived.Shelf.RegionOpen
import Derived.WalkKit
import Derived.OwnWalkIn
import Derived.TacticsInMore
import Derived.LoopNIn
import Derived.LoopIn
import Derived.Test.YtlpnfbpgnfappaaGreatMrgA
import Derived.Laws.IdiomStrings

/- Rows of one's own: rows of other types, and cells, lie apart from them. -/
namespace Go.Proofs.YtlpnfbpgnfappaaGreat
open Go.RowKit Go.PlainAid

theorem own_kind {W : World} {base : Nat} {e : TypeId} {size : Nat} {v : Value} {n : Nat} {xs : List Value} (h : W.ownsRow base e size v n xs) : ∀ k, v.ownBlock = some k → ∃ cur fr, W.heap[k]? = some (.cells cur e fr) := by
  intro k hk
  rcases h.2 with ⟨rfl, _⟩ | ⟨g, cap, cur, rfl, _, hc, _⟩
  · cases hk
  · simp [Value.ownBlock] at hk
    subst hk
    exact ⟨cur, _, hc⟩
theorem own_ne_own {W : World} {b1 b2 : Nat} {e1 e2 : TypeId} {s1 s2 : Nat} {v1 v2 : Value} {n1 n2 : Nat} {x1 x2 : List Value} (h1 : W.ownsRow b1 e1 s1 v1 n1 x1) (h2 : W.ownsRow b2 e2 s2 v2 n2 x2) (he : e1 ≠ e2) : v1.ownBlock = none ∨ v1.ownBlock ≠ v2.ownBlock := by
  cases hv : v1.ownBlock with
  | none => exact .inl rfl
  | some k =>
    refine .inr fun e => ?_
    obtain ⟨c1, f1, hc1⟩ := own_kind h1 k hv
    obtain ⟨c2, f2, hc2⟩ := own_kind h2 k e.symm
    rw [hc1] at hc2
    injection hc2 with hc2
    injection hc2 with _ h
    exact he h
theorem own_ne_cells {W : World} {b B : Nat} {e t : TypeId} {s : Nat} {v : Value} {n : Nat} {xs : List Value} {cs : Array Value} (h1 : W.ownsRow b e s v n xs) (hc : CellsAt W B t cs) (he : e ≠ t) : v.ownBlock ≠ some B := by
  intro hv
  obtain ⟨c1, f1, hc1⟩ := own_kind h1 B hv
  rw [show W.heap[B]? = _ from hc] at hc1
  injection hc1 with hc1
  injection hc1 with _ h
  exact he h.symm
/-- What a growth of another type's row leaves as it was. -/
theorem own_beside {W W' : World} {b1 b2 : Nat} {e1 e2 : TypeId} {s1 s2 : Nat} {v1 v2 : Value} {n1 n2 : Nat} {x1 x2 : List Value} (h1 : W.ownsRow b1 e1 s1 v1 n1 x1) (h2 : W.ownsRow b2 e2 s2 v2 n2 x2) (he : e1 ≠ e2) (hg : W.grownBy W' v2.ownBlock) : W'.ownsRow b1 e1 s1 v1 n1 x1 :=
  h1.kept hg (own_ne_own h1 h2 he)
theorem cells_beside {W W' : World} {b B : Nat} {e t : TypeId} {s : Nat} {v : Value} {n : Nat} {xs : List Value} {cs : Array Value} (hc : CellsAt W B t cs) (h : W.ownsRow b e s v n xs) (he : e ≠ t) (hg : W.grownBy W' v.ownBlock) : CellsAt W' B t cs :=
  hc.kept hg (fun e' => own_ne_cells h hc he e'.symm)
theorem own_down {W : World} {base b : Nat} {e : TypeId} {size : Nat} {v : Value} {n : Nat} {xs : List Value} (h : W.ownsRow base e size v n xs) (hb : b ≤ base) : W.ownsRow b e size v n xs :=
  ⟨h.1, h.2.imp id (fun ⟨g, cap, cur, h1, h2, h3⟩ => ⟨g, cap, cur, h1, Nat.le_trans hb h2, h3⟩)⟩

end Go.Proofs.YtlpnfbpgnfappaaGreat

/- An element of a row of one's own, stored anew. -/
namespace Go.Proofs.YtlpnfbpgnfappaaGreat
open Go.RowKit Go.PlainAid Go.Lib

theorem flat_put {α : Type} {C : α → List Value} {sz : Nat} (hC : ∀ x, (C x).length = sz) : ∀ (l : List α) (k : Nat) (x y : α) (i : Nat) (u : Value), l[k]? = some x → i < sz → (C x).set i u = C y → (l.flatMap C).set (k * sz + i) u = (l.set k y).flatMap C
  | [], k, x, y, i, u, h, _, _ => by simp at h
  | z :: l, 0, x, y, i, u, h, hi, he => by
    obtain rfl : z = x := by simpa using h
    rw [List.flatMap_cons, Nat.zero_mul, Nat.zero_add, List.set_append_left _ _ (by rw [hC]; exact hi), he]
    rfl
  | z :: l, k + 1, x, y, i, u, h, hi, he => by
    have h' : l[k]? = some x := by simpa using h
    have hz := hC z
    rw [List.flatMap_cons, List.set_append_right _ _ (by rw [hz, Nat.succ_mul]; omega), hz, show (k + 1) * sz + i - sz = k * sz + i by rw [Nat.succ_mul]; omega, flat_put hC l k x y i u h' hi he]
    rfl
theorem set_at {l : List PV} {j : Nat} {x : PV} (hx : l[j]? = some x) (y : PV) : (l.set j y)[j]? = some y := by
  rw [List.getElem?_set_self (List.getElem?_eq_some_iff.1 hx).1]
/-- A placed module where another one lay. -/
theorem own_put {W : World} {base g n cap : Nat} {l : List PV} {j : Nat} {x : PV} (h : W.ownsRow base 57 8 (.slice (some ⟨g, 0, none⟩) n cap) n (l.flatMap pvC)) (hx : l[j]? = some x) (y : PV) :
    ((((((((W.setCell ⟨g, j * 8, none⟩ (.string y.mod.name)).setCell ⟨g, j * 8 + 1, none⟩ (.int .i64 y.mod.major)).setCell ⟨g, j * 8 + 2, none⟩ (.int .i64 y.mod.minor)).setCell ⟨g, j * 8 + 3, none⟩ (.string y.mod.text)).setCell ⟨g, j * 8 + 4, none⟩ y.ve).setCell ⟨g, j * 8 + 5, none⟩ y.vi).setCell ⟨g, j * 8 + 6, none⟩ y.vp).setCell ⟨g, j * 8 + 7, none⟩ (.int .i64 y.first)).ownsRow base 57 8 (.slice (some ⟨g, 0, none⟩) n cap) n ((l.set j y).flatMap pvC) ∧
    W.grownBy ((((((((W.setCell ⟨g, j * 8, none⟩ (.string y.mod.name)).setCell ⟨g, j * 8 + 1, none⟩ (.int .i64 y.mod.major)).setCell ⟨g, j * 8 + 2, none⟩ (.int .i64 y.mod.minor)).setCell ⟨g, j * 8 + 3, none⟩ (.string y.mod.text)).setCell ⟨g, j * 8 + 4, none⟩ y.ve).setCell ⟨g, j * 8 + 5, none⟩ y.vi).setCell ⟨g, j * 8 + 6, none⟩ y.vp).setCell ⟨g, j * 8 + 7, none⟩ (.int .i64 y.first)) (some g) := by
  obtain ⟨⟨N, a, b, T, es, is, ps⟩, ve, vi, vp, fi⟩ := y
  have F := fun (l : List PV) (x y : PV) (i : Nat) (u : Value) => flat_put (C := pvC) (sz := 8) (fun _ => rfl) l j x y i u
  obtain ⟨o0, g0⟩ := h.stored (j * 8) (.string N)
  obtain ⟨o1, g1⟩ := o0.stored (j * 8 + 1) (.int .i64 a)
  obtain ⟨o2, g2⟩ := o1.stored (j * 8 + 2) (.int .i64 b)
  obtain ⟨o3, g3⟩ := o2.stored (j * 8 + 3) (.string T)
  obtain ⟨o4, g4⟩ := o3.stored (j * 8 + 4) ve
  obtain ⟨o5, g5⟩ := o4.stored (j * 8 + 5) vi
  obtain ⟨o6, g6⟩ := o5.stored (j * 8 + 6) vp
  obtain ⟨o7, g7⟩ := o6.stored (j * 8 + 7) (.int .i64 fi)
  refine ⟨?_, (((((((g0.trans g1).trans g2).trans g3).trans g4).trans g5).trans g6).trans g7)⟩
  have e : ((((((((l.flatMap pvC).set (j * 8) (.string N)).set (j * 8 + 1) (.int .i64 a)).set (j * 8 + 2) (.int .i64 b)).set (j * 8 + 3) (.string T)).set (j * 8 + 4) ve).set (j * 8 + 5) vi).set (j * 8 + 6) vp).set (j * 8 + 7) (.int .i64 fi) = (l.set j ⟨⟨N, a, b, T, es, is, ps⟩, ve, vi, vp, fi⟩).flatMap pvC := by
    obtain ⟨⟨N', a', b', T', es', is', ps'⟩, ve', vi', vp', fi'⟩ := x
    have G : ∀ (x y : PV) (z : PV) (i : Nat) (u : Value), l[j]? = some x → i < 8 → (pvC z).set i u = pvC y → ((l.set j z).flatMap pvC).set (j * 8 + i) u = (l.set j y).flatMap pvC := fun x y z i u hx hi he => by
      rw [F (l.set j z) z y i u (set_at hx z) hi he, List.set_set]
    have s0 := F l _ ⟨⟨N, a', b', T', es', is', ps'⟩, ve', vi', vp', fi'⟩ 0 (.string N) hx (by omega) rfl
    rw [Nat.add_zero] at s0
    have s1 := G _ ⟨⟨N, a, b', T', es', is', ps'⟩, ve', vi', vp', fi'⟩ ⟨⟨N, a', b', T', es', is', ps'⟩, ve', vi', vp', fi'⟩ 1 (.int .i64 a) hx (by omega) rfl
    have s2 := G _ ⟨⟨N, a, b, T', es', is', ps'⟩, ve', vi', vp', fi'⟩ ⟨⟨N, a, b', T', es', is', ps'⟩, ve', vi', vp', fi'⟩ 2 (.int .i64 b) hx (by omega) rfl
    have s3 := G _ ⟨⟨N, a, b, T, es', is', ps'⟩, ve', vi', vp', fi'⟩ ⟨⟨N, a, b, T', es', is', ps'⟩, ve', vi', vp', fi'⟩ 3 (.string T) hx (by omega) rfl
    have s4 := G _ ⟨⟨N, a, b, T, es', is', ps'⟩, ve, vi', vp', fi'⟩ ⟨⟨N, a, b, T, es', is', ps'⟩, ve', vi', vp', fi'⟩ 4 ve hx (by omega) rfl
    have s5 := G _ ⟨⟨N, a, b, T, es', is', ps'⟩, ve, vi, vp', fi'⟩ ⟨⟨N, a, b, T, es', is', ps'⟩, ve, vi', vp', fi'⟩ 5 vi hx (by omega) rfl
    have s6 := G _ ⟨⟨N, a, b, T, es', is', ps'⟩, ve, vi, vp, fi'⟩ ⟨⟨N, a, b, T, es', is', ps'⟩, ve, vi, vp', fi'⟩ 6 vp hx (by omega) rfl
    have s7 := G _ ⟨⟨N, a, b, T, es, is, ps⟩, ve, vi, vp, fi⟩ ⟨⟨N, a, b, T, es', is', ps'⟩, ve, vi, vp, fi'⟩ 7 (.int .i64 fi) hx (by omega) rfl
    rw [s0, s1, s2, s3, s4, s5, s6, s7]
  rw [e] at o7
  exact o7

end Go.Proofs.YtlpnfbpgnfappaaGreat

/- Rows of one's own that are cut, widened, and written into: within, and behind their end. -/
namespace Go.Proofs.YtlpnfbpgnfappaaGreat
open Go.RowKit Go.PlainAid Go.Lib

theorem grown_refl (W : World) (b : Option Nat) : W.grownBy W b := ⟨rfl, rfl, rfl, Nat.le_refl _, fun _ _ _ => rfl⟩
theorem grown_drew (W : World) (b : Option Nat) : W.grownBy W.drew b := ⟨rfl, rfl, rfl, Nat.le_refl _, fun _ _ _ => rfl⟩
theorem grown_up {W W' : World} {b : Option Nat} (h : W.grownBy W' none) : W.grownBy W' b := ⟨h.os, h.tape, h.output, h.size, fun k hk _ => h.block k hk (by simp)⟩
theorem own_beyond {base g n cap sz : Nat} {e : TypeId} {xs : List Value} : ∀ (vs : List Value) (o : Nat) (W : World), W.ownsRow base e sz (.slice (some ⟨g, 0, none⟩) n cap) n xs → n * sz ≤ o →
    (W.setCells g o vs).ownsRow base e sz (.slice (some ⟨g, 0, none⟩) n cap) n xs ∧ W.grownBy (W.setCells g o vs) (some g)
  | [], _, W, h, _ => ⟨h, grown_refl W _⟩
  | v :: r, o, W, h, ho => by
    obtain ⟨h1, g1⟩ := h.stored o v
    rw [List.set_eq_of_length_le (by rw [h.1]; exact ho)] at h1
    obtain ⟨h2, g2⟩ := own_beyond r (o + 1) _ h1 (by omega)
    exact ⟨h2, g1.trans g2⟩
/-- Some values laid over others, from a place on. -/
def layL : List Value → Nat → List Value → List Value
  | xs, _, [] => xs
  | xs, o, v :: r => layL (xs.set o v) (o + 1) r
theorem layL_eq : ∀ (vs : List Value) (xs : List Value) (o : Nat), o + vs.length ≤ xs.length → layL xs o vs = xs.take o ++ vs ++ xs.drop (o + vs.length)
  | [], xs, o, _ => by
    show xs = _
    simp
  | v :: r, xs, o, h => by
    rw [List.length_cons] at h
    show layL (xs.set o v) (o + 1) r = _
    rw [layL_eq r (xs.set o v) (o + 1) (by rw [List.length_set]; omega)]
    have h1 : (xs.set o v).take (o + 1) = xs.take o ++ [v] := by
      rw [List.take_add_one, List.take_set_of_le (Nat.le_refl _), List.getElem?_set_self (by omega)]
      rfl
    have h2 : (xs.set o v).drop (o + 1 + r.length) = xs.drop (o + (v :: r).length) := by
      rw [List.drop_set_of_lt (by omega), List.length_cons]
      congr 1; omega
    rw [h1, h2]
    simp
theorem own_lay {base g n cap sz : Nat} {e : TypeId} : ∀ (vs : List Value) (xs : List Value) (o : Nat) (W : World), W.ownsRow base e sz (.slice (some ⟨g, 0, none⟩) n cap) n xs →
    (W.setCells g o vs).ownsRow base e sz (.slice (some ⟨g, 0, none⟩) n cap) n (layL xs o vs) ∧ W.grownBy (W.setCells g o vs) (some g)
  | [], _, _, W, h => ⟨h, grown_refl W _⟩
  | v :: r, xs, o, W, h => by
    obtain ⟨h1, g1⟩ := h.stored o v
    obtain ⟨h2, g2⟩ := own_lay r (xs.set o v) (o + 1) _ h1
    exact ⟨h2, g1.trans g2⟩
theorem own_block_of {W : World} {base g n cap sz : Nat} {e : TypeId} {xs : List Value} (h : W.ownsRow base e sz (.slice (some ⟨g, 0, none⟩) n cap) n xs) :
    ∃ cur, base ≤ g ∧ W.heap[g]? = some (.cells cur e (0, 0)) ∧ n ≤ cap ∧ cap ≤ maxLen ∧ cur.size = cap * sz ∧ cur.toList.take (n * sz) = xs := by
  rcases h.2 with ⟨h', _⟩ | ⟨g', cap', cur, h', h1, h2, h3, h4, h5, h6⟩
  · simp at h'
  · simp only [Value.slice.injEq, Option.some.injEq, Addr.mk.injEq, and_true, true_and] at h'
    obtain ⟨rfl, rfl⟩ := h'
    exact ⟨cur, h1, h2, h3, h4, h5, h6⟩
theorem own_cut {W : World} {base g n cap sz i : Nat} {e : TypeId} {xs : List Value} (h : W.ownsRow base e sz (.slice (some ⟨g, 0, none⟩) n cap) n xs) (hi : i ≤ n) :
    W.ownsRow base e sz (.slice (some ⟨g, 0, none⟩) i cap) i (xs.take (i * sz)) := by
  obtain ⟨cur, h1, h2, h3, h4, h5, h6⟩ := own_block_of h
  have hm : i * sz ≤ n * sz := Nat.mul_le_mul_right _ hi
  refine ⟨by rw [List.length_take, h.1]; omega, .inr ⟨g, cap, cur, rfl, h1, h2, Nat.le_trans hi h3, h4, h5, ?_⟩⟩
  rw [← h6, List.take_take, Nat.min_eq_left hm]
theorem own_widen {W : World} {base g n cap sz : Nat} {e : TypeId} {xs : List Value} (h : W.ownsRow base e sz (.slice (some ⟨g, 0, none⟩) n cap) n xs) (hi : n + 1 ≤ cap) :
    ∃ sp : List Value, sp.length = sz ∧ W.ownsRow base e sz (.slice (some ⟨g, 0, none⟩) (n + 1) cap) (n + 1) (xs ++ sp) := by
  obtain ⟨cur, h1, h2, h3, h4, h5, h6⟩ := own_block_of h
  have hm : (n + 1) * sz ≤ cap * sz := Nat.mul_le_mul_right _ hi
  have hs : (n + 1) * sz = n * sz + sz := Nat.succ_mul n sz
  have hl : ((cur.toList.drop (n * sz)).take sz).length = sz := by rw [List.length_take, List.length_drop, Array.length_toList, h5]; omega
  refine ⟨(cur.toList.drop (n * sz)).take sz, hl, by rw [List.length_append, h.1, hl, hs], .inr ⟨g, cap, cur, rfl, h1, h2, hi, h4, h5, ?_⟩⟩
  rw [← h6, hs, List.take_add]
theorem own_spot {W : World} {base g n cap sz : Nat} {e : TypeId} {xs : List Value} (h : W.ownsRow base e sz (.slice (some ⟨g, 0, none⟩) n cap) n xs) (j : Nat) (hj : j < cap * sz) : (W.cell? ⟨g, j, none⟩).isSome = true ∧ W.frozen? ⟨g, j, none⟩ = false := by
  obtain ⟨cur, h1, h2, h3, h4, h5, h6⟩ := own_block_of h
  refine ⟨?_, h.frozenAt j⟩
  rw [cell_of_row W g j cur e (0, 0) h2]
  rw [Array.getElem?_eq_getElem (by omega)]
  rfl
theorem own_capB {W : World} {base g n cap sz : Nat} {e : TypeId} {xs : List Value} (h : W.ownsRow base e sz (.slice (some ⟨g, 0, none⟩) n cap) n xs) : n ≤ cap ∧ cap ≤ 9223372036854775807 := by
  obtain ⟨cur, h1, h2, h3, h4, h5, h6⟩ := own_block_of h
  exact ⟨h3, h4⟩
theorem own_cellAt {W : World} {base g n cap sz : Nat} {e : TypeId} {xs : List Value} (h : W.ownsRow base e sz (.slice (some ⟨g, 0, none⟩) n cap) n xs) {j : Nat} {u : Value} (hu : xs[j]? = some u) : W.cell? ⟨g, j, none⟩ = some u := by
  rw [h.cellAt j (by rw [← h.1]; exact (List.getElem?_eq_some_iff.1 hu).1)]
  exact hu
theorem own_shape {W : World} {base g n cap sz : Nat} {e : TypeId} {xs : List Value} (h : W.ownsRow base e sz (.slice (some ⟨g, 0, none⟩) n cap) n xs) : W.shape? g = some (e, cap * sz) := by
  obtain ⟨cur, h1, h2, h3, h4, h5, h6⟩ := own_block_of h
  unfold World.shape?
  rw [h2]
  simp [h5]
theorem cells_shape {W : World} {B : Nat} {t : TypeId} {cs : Array Value} (h : CellsAt W B t cs) : W.shape? B = some (t, cs.size) := by
  unfold World.shape?
  rw [show W.heap[B]? = _ from h]

theorem flat_take {α : Type} {C : α → List Value} {sz : Nat} (hC : ∀ x, (C x).length = sz) : ∀ (l : List α) (i : Nat), (l.flatMap C).take (i * sz) = (l.take i).flatMap C
  | [], i => by simp
  | x :: l, 0 => by simp
  | x :: l, i + 1 => by
    have hx := hC x
    rw [List.flatMap_cons, List.take_succ_cons, List.flatMap_cons, ← flat_take hC l i, Nat.succ_mul, List.take_append, List.take_of_length_le (by omega), show i * sz + sz - (C x).length = i * sz by omega]
theorem flat_drop {α : Type} {C : α → List Value} {sz : Nat} (hC : ∀ x, (C x).length = sz) : ∀ (l : List α) (i : Nat), (l.flatMap C).drop (i * sz) = (l.drop i).flatMap C
  | [], i => by simp
  | x :: l, 0 => by simp
  | x :: l, i + 1 => by
    have hx := hC x
    rw [List.flatMap_cons, List.drop_succ_cons, ← flat_drop hC l i, Nat.succ_mul, List.drop_append, List.drop_of_length_le (by omega), show i * sz + sz - (C x).length = i * sz by omega, List.nil_append]
/-- A copy into cells of one block, of elements of some size. -/
theorem run_copy_rows {P : Program} (w : World) (dT sT ty elem : TypeId) (i : TypeInfo) (sz : Nat) (b o dLen dCap : Nat) (a : Addr) (sLen sCap : Nat) (cs : List Value)
    (hu : P.underlying dT = some (.slice elem)) (hi : P.info? elem = some i) (hs : i.size = sz) (hn : cs.length = Nat.min sLen dLen * sz)
    (hsrc : ∀ j v, cs[j]? = some v → w.cell? (a.add j) = some v) (hc : ∀ j, j < cs.length → (w.cell? ⟨b, o + j, none⟩).isSome = true) (hf : ∀ j, j < cs.length → w.frozen? ⟨b, o + j, none⟩ = false) (h1 : ∀ v ∈ cs, v.oneCell' = true) :
    (Builtin.copy_ #[dT, sT] ty #[.slice (some ⟨b, o, none⟩) dLen dCap, .slice (some a) sLen sCap]).run P w = .ok (goInt (Nat.min sLen dLen)) (w.setCells b o cs) := by
  subst hs
  have hl := run_firstCells_some (P := P) w i.size (Nat.min sLen dLen) a sLen sCap cs hn hsrc
  have hst := run_storeCells_cells (P := P) b o cs 0 w (by simpa using hc) (by simpa using hf) h1
  simp only [Nat.add_zero] at hst
  simp [Builtin.copy_, run_underlying hu, Builtin.lenOf, sizeOf, typeInfo, hi, hl, hst]
/-- One element cleared. -/
theorem run_clear_one {P : Program} (w : World) (t e ty : TypeId) (z : Value) (zs : List Value) (ht : P.underlying t = some (.slice e)) (hv : ∀ w, (zeroValue e).run P w = .ok z w) (hz : (Builtin.zeroCells z.cells 1).toList = zs) (h1 : ∀ v ∈ zs, v.oneCell' = true) (b o c : Nat)
    (hc : ∀ j, j < zs.length → (w.cell? ⟨b, o + j, none⟩).isSome = true) (hf : ∀ j, j < zs.length → w.frozen? ⟨b, o + j, none⟩ = false) :
    (Builtin.clear_ #[t] ty #[.slice (some ⟨b, o, none⟩) 1 c]).run P w = .ok (.tuple #[]) (w.setCells b o zs) := by
  have hst := run_storeCells_cells (P := P) b o zs 0 w (by simpa using hc) (by simpa using hf) h1
  simp only [Nat.add_zero] at hst
  simp [Builtin.clear_, run_underlying ht, hv, hz, hst]
theorem step_copy_run2 {P : Program} {ops : Array Oper} {o : Oper} {a : Act} {w : World} {K : Act → World → Prop} {Q : Exit → Act → World → Prop} {E : Prop}
    (hg : o.guard = none) (d x : Operand) (dT sT : TypeId) (hop : o.op = Op.call { callee := Callee.builtin Builtin.copy, args := #[d, x], argTypes := #[dT, sT] })
    (v u : Value) (hd : a.eval d = v) (hx : a.eval x = u) {v' : Value} {w' : World} (hr : (Builtin.copy_ #[dT, sT] o.type #[v, u]).run P w = .ok v' w') (hK : K (a.put o.dst v') w') :
    if Region.wanted o (yielded ops a.tmps) = true then Oper.wp P o a w K Q else E := by
  have hw : Region.wanted o (yielded ops a.tmps) = true := by simp [Region.wanted, hg]
  rw [if_pos hw]
  unfold Oper.wp
  simp [execOp, hop, resolve, invoke, builtin, hd, hx, hr, Result.andThen]
  exact hK

end Go.Proofs.YtlpnfbpgnfappaaGreat

/- The contract of slices.Delete at placed modules: one of a row of one's own is taken out. -/
namespace Go.Proofs.YtlpnfbpgnfappaaGreat
open Go.RowKit Go.PlainAid Go.Lib

set_option maxRecDepth 100000

def zeros8 : List Value := [.string ⟨#[]⟩, .int .i64 0, .int .i64 0, .string ⟨#[]⟩, .slice none 0 0, .slice none 0 0, .slice none 0 0, .int .i64 0]
theorem zero_placed (w : World) : (zeroValue 57).run Tryz.prog w = .ok (.agg #[.string ⟨#[]⟩, .int .i64 0, .int .i64 0, .string ⟨#[]⟩, .slice none 0 0, .slice none 0 0, .slice none 0 0, .int .i64 0]) w := by
  obtain ⟨i0, hi0, hz0, _, _⟩ := infoPlc_parts
  simp [zeroValue, typeInfo, hi0, hz0]
theorem zeros8_cells : (Builtin.zeroCells (Value.agg #[.string ⟨#[]⟩, .int .i64 0, .int .i64 0, .string ⟨#[]⟩, .slice none 0 0, .slice none 0 0, .slice none 0 0, .int .i64 0]).cells 1).toList = zeros8 := by kernel_rfl
theorem zeros8_one : ∀ v ∈ zeros8, v.oneCell' = true := by
  intro v hv
  simp only [zeros8, List.mem_cons, List.not_mem_nil, or_false] at hv
  rcases hv with rfl | rfl | rfl | rfl | rfl | rfl | rfl | rfl <;> rfl

set_option maxHeartbeats 4000000 in
theorem delPlc_any (g n cap i base : Nat) (l : List PV) (w : World) (hown : w.ownsRow base 57 8 (.slice (some ⟨g, 0, none⟩) n cap) n (l.flatMap pvC)) (hn : l.length = n) (hi : i < n) (hone : ∀ u ∈ l.flatMap pvC, u.oneCell' = true) (h255 : n ≤ 255) :
    Calls Tryz.prog 100 #[.slice (some ⟨g, 0, none⟩) n cap, .int .i64 i, .int .i64 ((i : Int) + 1)] w fun e w' => e = .returned (.slice (some ⟨g, 0, none⟩) (n - 1) cap) ∧ w'.ownsRow base 57 8 (.slice (some ⟨g, 0, none⟩) (n - 1) cap) (n - 1) ((l.eraseIdx i).flatMap pvC) ∧ w.grownBy w' (some g) := by
  obtain ⟨i0, hi0, hz0, hz1, hz2⟩ := infoPlc_parts
  have hcap := own_capB hown
  obtain ⟨m, hm⟩ : ∃ m, n = i + (m + 1) := ⟨n - i - 1, by omega⟩
  have hfl : (l.flatMap pvC).length = n * 8 := by rw [flat_len (C := pvC) (sz := 8) (fun _ => rfl), hn]
  have htake : (l.flatMap pvC).take (i * 8) = (l.take i).flatMap pvC := by rw [← flat_take (C := pvC) (sz := 8) (fun _ => rfl)]
  have hdrop : (l.flatMap pvC).drop ((i + 1) * 8) = (l.drop (i + 1)).flatMap pvC := by rw [← flat_drop (C := pvC) (sz := 8) (fun _ => rfl)]
  obtain ⟨A, hA, hsrc⟩ : ∃ A : Addr, (if cap = i + 1 then some (⟨g, 0, none⟩ : Addr) else some ⟨g, (i + 1) * 8, none⟩) = some A ∧ Hid (∀ t u, ((l.drop (i + 1)).flatMap pvC)[t]? = some u → w.drew.cell? (A.add t) = some u) := by
    by_cases h : cap = i + 1
    · refine ⟨⟨g, 0, none⟩, by simp [h], fun t u hu => ?_⟩
      have h0 : l.drop (i + 1) = [] := List.drop_eq_nil_iff.2 (by omega)
      rw [h0] at hu
      simp at hu
    · refine ⟨⟨g, (i + 1) * 8, none⟩, by simp [h], fun t u hu => ?_⟩
      rw [add_none]
      refine own_cellAt hown ?_
      rw [← hdrop, List.getElem?_drop] at hu
      exact hu
  have hlen : ((l.drop (i + 1)).flatMap pvC).length = m * 8 := by rw [flat_len (C := pvC) (sz := 8) (fun _ => rfl), List.length_drop, hn]; congr 1; omega
  have hoc : Hid (∀ u ∈ (l.drop (i + 1)).flatMap pvC, u.oneCell' = true) := fun u hu => by
    rw [← hdrop] at hu
    exact hone u (List.mem_of_mem_drop hu)
  obtain ⟨news, hnews⟩ : ∃ news, (l.drop (i + 1)).flatMap pvC = news := ⟨_, rfl⟩
  rw [hnews] at hlen hoc hsrc
  have hsp : Hid (∀ t, t < news.length → (w.drew.cell? ⟨g, 0 + i * 8 + t, none⟩).isSome = true ∧ w.drew.frozen? ⟨g, 0 + i * 8 + t, none⟩ = false) := by
    intro t ht
    rw [hlen] at ht
    rw [Nat.zero_add]
    exact own_spot hown _ (by omega)
  obtain ⟨W1, hW1⟩ : ∃ W1, W1 = w.drew.setCells g (0 + i * 8) news := ⟨_, rfl⟩
  have hlay := own_lay news (l.flatMap pvC) (i * 8) w.drew hown.drew
  rw [layL_eq _ _ _ (by rw [hlen, hfl]; omega), htake] at hlay
  rw [Nat.zero_add] at hW1
  rw [← hW1] at hlay
  have ho1 : W1.ownsRow base 57 8 (.slice (some ⟨g, 0, none⟩) (n - 1) cap) (n - 1) ((l.eraseIdx i).flatMap pvC) := by
    have := own_cut (i := n - 1) hlay.1 (by omega)
    rw [List.append_assoc, ← List.append_assoc, List.take_append_of_le_length (by rw [List.length_append, hlen, flat_len (C := pvC) (sz := 8) (fun _ => rfl), List.length_take, hn]; omega), List.take_of_length_le (by rw [List.length_append, hlen, flat_len (C := pvC) (sz := 8) (fun _ => rfl), List.length_take, hn]; omega), ← hnews, ← List.flatMap_append, ← List.eraseIdx_eq_take_drop_succ] at this
    exact this
  have hg1 := hlay.2
  have hcl : ∀ ty c, (Builtin.clear_ #[25] ty #[.slice (some ⟨g, (n - 1) * 8, none⟩) 1 c]).run Tryz.prog W1 = .ok (.tuple #[]) (W1.setCells g ((n - 1) * 8) zeros8) := fun ty c =>
    run_clear_one W1 _ _ ty _ zeros8 Tryz.underlying25 zero_placed zeros8_cells zeros8_one g ((n - 1) * 8) c (fun j hj => (own_spot ho1 _ (by have : zeros8.length = 8 := rfl; omega)).1) (fun j hj => (own_spot ho1 _ (by have : zeros8.length = 8 := rfl; omega)).2)
  have hb2 := own_beyond zeros8 ((n - 1) * 8) W1 ho1 (Nat.le_refl _)
  have HO2 : Hid _ := hb2.1
  have HG2 : Hid (w.drew.grownBy (W1.setCells g ((n - 1) * 8) zeros8) (some g)) := hg1.trans hb2.2
  have HW : Hid (W1 = w.drew.setCells g (0 + i * 8) news) := by rw [Nat.zero_add]; exact hW1
  have s1 : Hid (news.length = m * 8) := hlen
  have hle : Hid (i + m ≤ cap) := by show _ ≤ _; omega
  clear hb2 hg1 ho1 hlay hW1 hlen hown hone hfl htake hdrop hnews
  subst hm
  have e1 : i + (m + 1) - 1 = i + m := by omega
  rw [e1] at hcl HO2 HG2 ⊢
  clear e1
  have hij : ¬ ((i : Int) = (i : Int) + 1) := by omega
  have hw1 : IntKind.i64.wrap ((i : Int) + 1) = (i : Int) + 1 := by rw [IntKind.wrap_i64]; omega
  have hne : ¬ (cap = i + m) := by omega
  have hic : i ≤ cap := by omega
  have hk1 : (1 : Int) ≤ (m : Int) + 1 := by omega
  have hmm : i + (m + 1) - (i + 1) = m := by omega
  have mixed : Tryz.prog.follows Departure.mixedOrders = true := by kernel_rfl
  have hjc : i + 1 ≤ cap := by omega
  have hjn : ((i : Int) + 1).toNat = i + 1 := by omega
  have hj0 : (0 : Int) ≤ (i : Int) + 1 := by omega
  have h1e : i + (m + 1) - (i + m) = 1 := by omega
  go_enter Tryz.func100, Tryz.ntmps100
  go_wp2_with fail
  go_region_law_o (refine step_append_room rfl _ _ 25 rfl 57 i0 8 Tryz.underlying25 hi0 hz1 g 0 i cap (by simp [Act.eval, Act.put]) A m (cap - (i + 1)) news (by simp [Act.eval, Act.put]) s1.out hsrc.out hoc.out hle.out hsp.out ?_; rw [← HW.out])
  go_wp2
  go_ret
  exact ⟨rfl, HO2.out, (grown_drew w _).trans HG2.out⟩

end Go.Proofs.YtlpnfbpgnfappaaGreat

/- The contracts of word.wrongPlace, word.Signed, word.bytesOf and of the function that it hands back. -/
namespace Go.Proofs.YtlpnfbpgnfappaaGreat
open Go.RowKit Go.Shelf
attribute [local go_sem] Oper.semAt_some

/-- Why so many bytes from a place on are no number of a text of that length. -/
def wrongAt (len at' bytes : Int) : Int := if bytes < 1 ∨ 4 < bytes then 7 else if at' < 0 ∨ len - bytes < at' then 3 else 0

set_option maxHeartbeats 400000 in
theorem wrongPlace_any (len at' bytes : Int) (w : World) (h0 : 0 ≤ len) (h1 : len ≤ 140737488351232) :
    Calls Tryz.prog 187 #[.int .i64 len, .int .i64 at', .int .i64 bytes] w fun e w' => e = .returned (.int .i64 (wrongAt len at' bytes)) ∧ w' = w := by
  by_cases a : bytes < 1
  · go_enter Tryz.func187, Tryz.ntmps187
    go_wp2
    go_ret
    exact ⟨by simp [wrongAt, a], rfl⟩
  by_cases b : 4 < bytes
  · go_enter Tryz.func187, Tryz.ntmps187
    go_wp2
    go_ret
    exact ⟨by simp [wrongAt, b], rfl⟩
  by_cases c : at' < 0
  · go_enter Tryz.func187, Tryz.ntmps187
    go_wp2
    go_ret
    exact ⟨by simp [wrongAt, a, b, c], rfl⟩
  by_cases d : len - bytes < at'
  · go_enter Tryz.func187, Tryz.ntmps187
    go_wp2
    go_ret
    exact ⟨by simp [wrongAt, a, b, d], rfl⟩
  · go_enter Tryz.func187, Tryz.ntmps187
    go_wp2
    go_ret
    have e : wrongAt len at' bytes = 0 := by unfold wrongAt; rw [if_neg (by omega), if_neg (by omega)]
    exact ⟨by rw [e]; rfl, rfl⟩

set_option maxHeartbeats 400000 in
/-- bytesOf boxes its two numbers; what it hands back has captured the boxes. -/
theorem bytesOf_in (F : Fence) (n : Nat) (hF : F.fn 188) (hro : F.round = none) (at' bytes : Int) (w : World) :
    CallsIn F n Tryz.prog 188 #[.int .i64 at', .int .i64 bytes] w fun e w' =>
      e = .returned (.func (.func 214) #[] #[.pointer (some ⟨w.heap.size + 1, 0, none⟩), .pointer (some ⟨w.heap.size, 0, none⟩)]) ∧
      w' = (w.alloc (.cells #[.int .i64 at'] 3)).alloc (.cells #[.int .i64 bytes] 3) := by
  refine callsIn_of_wp Tryz.func188 rfl hF ?_ hro
  simp only [Tryz.ntmps188, List.size_toArray, List.length_cons, List.length_nil, Nat.reduceAdd, Nat.reduceSub, Array.replicate_succ, Array.replicate_zero, List.push_toArray, List.append_toArray, List.nil_append, List.cons_append]
  gi_wp2
  go_ret
  exact ⟨rfl, rfl⟩

/-- The two boxes hold what they held. -/
def KeepsTwo (Ba Bb : Nat) (W W' : World) : Prop := W'.cell? ⟨Ba, 0, none⟩ = W.cell? ⟨Ba, 0, none⟩ ∧ W'.cell? ⟨Bb, 0, none⟩ = W.cell? ⟨Bb, 0, none⟩
theorem KeepsTwo.refl (Ba Bb : Nat) (W : World) : KeepsTwo Ba Bb W W := ⟨rfl, rfl⟩
theorem KeepsTwo.trans {Ba Bb : Nat} {A B C : World} (h : KeepsTwo Ba Bb A B) (k : KeepsTwo Ba Bb B C) : KeepsTwo Ba Bb A C := ⟨k.1.trans h.1, k.2.trans h.2⟩

set_option maxRecDepth 100000 in
set_option maxHeartbeats 1000000 in
/-- bytesOf's function: for i := range bytes: yield(at+i, 8*i). -/
theorem bytesOf1_in (F : Fence) (n : Nat) (hF : F.fn 214) (hro : F.round = none) (hn : 1 ≤ n) (l Ba Bb at' m : Nat) (hm : m ≤ 4) (ha : at' ≤ 140737488351232) (J Jx : List (Fin m) → World → Prop)
    (hY : ∀ pre x W, J pre W → pre.length < m → YieldAt F (n - 1) Tryz.prog l #[.int .i64 ((at' : Int) + (x : Fin m).1), .int .i64 (8 * ((x : Fin m).1 : Int))] W fun e W' =>
      (e = .returned (.bool true) ∧ J (pre ++ [x]) W' ∧ KeepsTwo Ba Bb W W') ∨ (e = .returned (.bool false) ∧ Jx (pre ++ [x]) W'))
    (W : World) (hA : W.cell? ⟨Ba, 0, none⟩ = some (.int .i64 at')) (hB : W.cell? ⟨Bb, 0, none⟩ = some (.int .i64 m)) (h0 : J [] W) :
    CallsIn F n Tryz.prog 214 #[.func (.yield l) #[] #[], .pointer (some ⟨Bb, 0, none⟩), .pointer (some ⟨Ba, 0, none⟩)] W fun e W' => (∃ v, e = .returned v) ∧
      ((∃ ys : List (Fin m), ys.map (·.1) = List.range m ∧ J ys W') ∨ (∃ pre, Jx pre W')) := by
  refine callsIn_of_wp Tryz.func214 rfl hF ?_ hro
  simp only [Tryz.ntmps214, List.size_toArray, List.length_cons, List.length_nil, Nat.reduceAdd, Nat.reduceSub, Array.replicate_succ, Array.replicate_zero, List.push_toArray, List.append_toArray, List.nil_append, List.cons_append]
  gi_wp2
  gi_loopw [6] (fun i wr => ∃ k : Nat, k ≤ m ∧ i = .int .i64 k ∧ (∃ ys : List (Fin m), ys.map (·.1) = List.range k ∧ J ys wr) ∧ KeepsTwo Ba Bb W wr)
    (fun i _ => m - (intOf i).toNat)
  case atStart => exact ⟨0, Nat.zero_le _, rfl, ⟨[], rfl, h0⟩, KeepsTwo.refl _ _ _⟩
  case round =>
    obtain ⟨k, hk, rfl, ⟨ys, hys, hJs⟩, hnx⟩ := hrel
    have hcA : wr.cell? ⟨Ba, 0, none⟩ = some (.int .i64 at') := hnx.1.trans hA
    have hYS : Hid (ys.map (·.1) = List.range k) := hys
    have hylen : ys.length = k := by have := congrArg List.length hys; simpa using this
    clear hys
    by_cases hlt : k < m
    · obtain ⟨fn, tmps, assign, body, hy, hR⟩ := hY ys ⟨k, hlt⟩ wr hJs (by omega)
      dsimp only at hy
      clear hylen
      gi_wp2
      refine hR.mono ?_
      rintro e W3 (⟨rfl, hJ3, hk3⟩ | ⟨rfl, hJx3⟩)
      · gi_wp2
        go_roundw
        case rel => exact ⟨k + 1, by omega, by simp, ⟨ys ++ [⟨k, hlt⟩], by rw [List.map_append, hYS.out, List.range_succ]; rfl, hJ3⟩, hnx.trans hk3⟩
        case measure => simp [intOf]; omega
      · gi_wp2
        refine bodyPost_ret (results_none rfl _ _ _) rfl ?_
        exact ⟨⟨_, rfl⟩, .inr ⟨_, hJx3⟩⟩
    · obtain rfl : k = m := by omega
      clear hylen
      gi_wp2
      go_end0
      exact ⟨⟨_, rfl⟩, .inl ⟨ys, hYS.out, hJs⟩⟩

end Go.Proofs.YtlpnfbpgnfappaaGreat

/- The contract of word.Get. -/
namespace Go.Proofs.YtlpnfbpgnfappaaGreat
open Go.RowKit Go.Shelf Go.PlainAid
attribute [local go_sem] Oper.semAt_some

theorem bytesOf_stops (F : Fence) (n : Nat) (hF : F.fn 214) (hro : F.round = none) (hn : 1 ≤ n) (Ba Bb at' m : Nat) (hm : m ≤ 4) (ha : at' ≤ 140737488351232) (w : World) (hBa : Ba < w.heap.size) (hBb : Bb < w.heap.size)
    (hA : w.cell? ⟨Ba, 0, none⟩ = some (.int .i64 at')) (hB : w.cell? ⟨Bb, 0, none⟩ = some (.int .i64 m)) :
    SeqStopsK F n Tryz.prog 214 #[.pointer (some ⟨Bb, 0, none⟩), .pointer (some ⟨Ba, 0, none⟩)] (fun x : Fin m => #[Value.int .i64 ((at' : Int) + x.1), Value.int .i64 (8 * (x.1 : Int))]) (KeepsTwo Ba Bb)
      (fun ys => ys.map (·.1) = List.range m) (fun _ => True) m w := fun l J Jx W hW _ _ hY h0 => by
  refine (bytesOf1_in F n hF hro hn l Ba Bb at' m hm ha J Jx hY W ((hW.cell (p := ⟨Ba, 0, none⟩) hBa).trans hA) ((hW.cell (p := ⟨Bb, 0, none⟩) hBb).trans hB) h0).mono ?_
  rintro e W' ⟨he, ⟨ys, hy, hj⟩ | ⟨pre, hj⟩⟩
  · exact ⟨he, .inl ⟨ys, hy, hj⟩⟩
  · exact ⟨he, .inr ⟨pre, trivial, hj⟩⟩

theorem keepsTwo_b {Ba Bb : Nat} {w : World} (ha : Ba < w.heap.size) (hb : Bb < w.heap.size) (W : World) (l : Nat) (o o' : Obj) (hl : w.heap.size ≤ l) (h : W.heap[l]? = some o) (c : o.isCells = false) (d : o.isWalk = false) : KeepsTwo Ba Bb W (W.putObj l o') :=
  have hk := belowK_b (Nat.le_refl _) W l o o' hl h c d
  ⟨hk.cell (p := ⟨Ba, 0, none⟩) ha, hk.cell (p := ⟨Bb, 0, none⟩) hb⟩

theorem keepsTwo_set {Ba Bb B o : Nat} (ha : Ba ≠ B) (hb : Bb ≠ B) (W : World) (v : Value) : KeepsTwo Ba Bb W (W.setCell ⟨B, o, none⟩ v).drew :=
  ⟨World.cell?_of_block (w := W) (Below.heap_setCell _ _ _ _ ha), World.cell?_of_block (w := W) (Below.heap_setCell _ _ _ _ hb)⟩

end Go.Proofs.YtlpnfbpgnfappaaGreat

/- The contract of word.Put. -/
namespace Go.Proofs.YtlpnfbpgnfappaaGreat
open Go.RowKit Go.Shelf Go.PlainAid
attribute [local go_sem] Oper.semAt_some

/-- Block b holds these bytes, and they may be written. -/
def HoldsB (W : World) (b : Nat) (l : List UInt8) : Prop := ∀ j v, l[j]? = some v → W.cell? ⟨b, j, none⟩ = some (.int .u8 (v.toNat : Int)) ∧ W.frozen? ⟨b, j, none⟩ = false

theorem HoldsB.set {W : World} {b : Nat} {l : List UInt8} (h : HoldsB W b l) (i : Nat) (v : UInt8) (hi : i < l.length) : HoldsB (W.setCell ⟨b, i, none⟩ (.int .u8 (v.toNat : Int))).drew b (l.set i v) := by
  intro j u hj
  show (W.setCell ⟨b, i, none⟩ (.int .u8 (v.toNat : Int))).cell? ⟨b, j, none⟩ = _ ∧ (W.setCell ⟨b, i, none⟩ (.int .u8 (v.toNat : Int))).frozen? ⟨b, j, none⟩ = false
  rw [World.frozen?_setCell]
  by_cases e : i = j
  · subst e
    rw [List.getElem?_set_self hi] at hj
    cases hj
    obtain ⟨h1, h2⟩ := h i l[i] (List.getElem?_eq_getElem hi)
    exact ⟨World.cell?_setCell_same' _ _ _ (by rw [h1]; rfl), h2⟩
  · rw [List.getElem?_set_ne e] at hj
    obtain ⟨h1, h2⟩ := h j u hj
    exact ⟨(World.cell?_setCell_other _ _ _ _ (by intro h; cases h; exact e rfl)).trans h1, h2⟩

theorem HoldsB.alloc {W : World} {b : Nat} {l : List UInt8} (h : HoldsB W b l) (o : Obj) : HoldsB (W.alloc o) b l := fun j v hj =>
  ⟨cell_kept (h j v hj).1 (World.grownBy_alloc W o none) (fun r e => by cases e), (frozen_kept (h j v hj).1 (World.grownBy_alloc W o none) (fun r e => by cases e)).trans (h j v hj).2⟩

theorem holdsB_own {β : Type} (b : Nat) (f : β → List UInt8) : Own (fun s W => HoldsB W b (f s)) := fun _ _ _ _ hs hg hr j v hj =>
  ⟨cell_kept (hs j v hj).1 hg hr, (frozen_kept (hs j v hj).1 hg hr).trans (hs j v hj).2⟩

theorem boxed_otherAt {W : World} {B B' : Nat} {t : TypeId} {v : Value} (h : Boxed W B t v) (hne : B ≠ B') (o : Nat) (u : Value) : Boxed (W.setCell ⟨B', o, none⟩ u).drew B t v :=
  (Below.heap_setCell W ⟨B', o, none⟩ u B hne).trans h

theorem pow_256 (x : Nat) : (2 : Int) ^ (8 * x) = 256 ^ x := by rw [Int.pow_mul]; rfl

theorem bytes_of_string (w : World) (n : Int) (s : ByteArray) : ∃ cap W1, Sem.run Tryz.prog (convert 9 117 (Value.string s)) (w.alloc (.cells #[.int .i64 n] 3)) = .ok (.slice (some ⟨w.heap.size + 1, 0, none⟩) s.size cap) W1 ∧
    W1.heap.size = w.heap.size + 1 + 1 ∧ HoldsB W1 (w.heap.size + 1) s.data.toList ∧ Boxed W1 w.heap.size 3 (.int .i64 n) ∧ Below w.heap.size w W1 := by
  have h := run_bytes_of_string (P := Tryz.prog) (w.alloc (.cells #[.int .i64 n] 3)) 9 117 5 s Tryz.underlying9 Tryz.underlying117 Tryz.underlying5
  rw [World.size_alloc] at h
  refine ⟨_, _, h, by simp, ?_, ?_, ?_⟩
  · intro j v hj
    have hj' : j < s.data.size := by have := (List.getElem?_eq_some_iff.1 hj).1; simpa using this
    have h1 := World.cell?_alloc_mark (w.alloc (.cells #[.int .i64 n] 3)).drew (bytesRow s (grownCap (w.alloc (.cells #[.int .i64 n] 3)) s.size 0 5)) 5 ((bytesRow s (grownCap (w.alloc (.cells #[.int .i64 n] 3)) s.size 0 5)).size, (bytesRow s (grownCap (w.alloc (.cells #[.int .i64 n] 3)) s.size 0 5)).size + 1) j
    have h2 := World.frozen?_alloc_mark (w.alloc (.cells #[.int .i64 n] 3)).drew (bytesRow s (grownCap (w.alloc (.cells #[.int .i64 n] 3)) s.size 0 5)) 5 (bytesRow s (grownCap (w.alloc (.cells #[.int .i64 n] 3)) s.size 0 5)).size ((bytesRow s (grownCap (w.alloc (.cells #[.int .i64 n] 3)) s.size 0 5)).size + 1) j
    have e : (w.alloc (.cells #[.int .i64 n] 3)).drew.heap.size = w.heap.size + 1 := World.size_alloc _ _
    rw [e] at h1 h2
    refine ⟨h1.trans ?_, h2.trans ?_⟩
    · rw [bytesRow_at s _ j hj']
      have : s.data[j] = v := by
        have := (List.getElem?_eq_some_iff.1 hj).2
        simpa using this
      rw [this]
    · have : j < (bytesRow s (grownCap (w.alloc (.cells #[.int .i64 n] 3)) s.size 0 5)).size := by
        have : s.data.size = s.size := rfl
        simp [bytesRow]; omega
      rw [decide_eq_false (by omega)]; rfl
  · exact (show Boxed (w.alloc (.cells #[.int .i64 n] 3)).drew w.heap.size 3 (.int .i64 n) from Boxed.new w 3 (.int .i64 n)).alloc _
  · exact (((Below.refl _ w).alloc (Nat.le_refl _) _).drew).alloc (by simp) _

set_option maxRecDepth 100000 in
set_option maxHeartbeats 1000000 in
theorem put_ok_in (s : ByteArray) (at' m : Nat) (n : Int) (w : World)
    (hs : s.size ≤ 140737488351232) (hm1 : 1 ≤ m) (hm : m ≤ 4) (ha : at' + m ≤ s.size) :
    CallsIn Fence.wide 8 Tryz.prog 167 #[.string s, .int .i64 at', .int .i64 m, .int .i64 n] w fun e w' =>
      e = .returned (.tuple #[.string (putS s at' m n), .int .i64 0]) ∧ Below w.heap.size w w' := by
  have hwr : wrongAt s.size at' m = 0 := by unfold wrongAt; rw [if_neg (by omega), if_neg (by omega)]
  obtain ⟨cap, W1, hconv, hsz, hb1, bn1, hbl1⟩ := bytes_of_string w n s
  refine callsIn_of_wp_marks Tryz.func167 rfl trivial ?_ rfl
  simp only [Tryz.ntmps167, List.size_toArray, List.length_cons, List.length_nil, Nat.reduceAdd, Nat.reduceSub, Array.replicate_succ, Array.replicate_zero, List.push_toArray, List.append_toArray, List.nil_append, List.cons_append]
  gi_wp2_with (first
    | (refine ⟨trivial, ?_⟩; gi_at_call 187; refine (callsIn_wide.2 (wrongPlace_any _ _ _ _ (by omega) (by omega))).mono ?_; rw [hwr]; rintro e w' ⟨rfl, rfl⟩)
    | (refine ⟨trivial, ?_⟩; gi_at_call 188; refine (bytesOf_in Fence.wide _ trivial rfl _ _ _).mono ?_; rintro e w' ⟨rfl, rfl⟩))
  have bn := ((bn1.alloc (.cells #[.slice (some ⟨w.heap.size + 1, 0, none⟩) s.size cap] 117)).alloc (.cells #[.int .i64 at'] 3)).alloc (.cells #[.int .i64 m] 3)
  have bt0 := ((Boxed.new W1 117 (.slice (some ⟨w.heap.size + 1, 0, none⟩) s.size cap)).alloc (.cells #[.int .i64 at'] 3)).alloc (.cells #[.int .i64 m] 3)
  have ba := (Boxed.new (W1.alloc (.cells #[.slice (some ⟨w.heap.size + 1, 0, none⟩) s.size cap] 117)) 3 (.int .i64 at')).alloc (.cells #[.int .i64 m] 3)
  have bm := Boxed.new ((W1.alloc (.cells #[.slice (some ⟨w.heap.size + 1, 0, none⟩) s.size cap] 117)).alloc (.cells #[.int .i64 at'] 3)) 3 (.int .i64 m)
  simp only [World.size_alloc, hsz] at bt0 ba bm
  have hb0 : HoldsB (((W1.alloc (.cells #[.slice (some ⟨w.heap.size + 1, 0, none⟩) s.size cap] 117)).alloc (.cells #[.int .i64 at'] 3)).alloc (.cells #[.int .i64 m] 3)) (w.heap.size + 1) s.data.toList :=
    ((hb1.alloc _).alloc _).alloc _
  have hB0 : Below w.heap.size w (((W1.alloc (.cells #[.slice (some ⟨w.heap.size + 1, 0, none⟩) s.size cap] 117)).alloc (.cells #[.int .i64 at'] 3)).alloc (.cells #[.int .i64 m] 3)) :=
    ((hbl1.alloc (by omega) _).alloc (by simp; omega) _).alloc (by simp; omega) _
  refine wpIn_rangeFunc_ownF rfl (by omega) (gf := 214) (lb := #[.pointer (some ⟨w.heap.size + 1 + 1 + 1 + 1, 0, none⟩), .pointer (some ⟨w.heap.size + 1 + 1 + 1, 0, none⟩)]) rfl trivial (enters_of Tryz.func214 (by kernel_rfl) rfl)
    (bytesOf_stops Fence.wide _ trivial rfl (by omega) (w.heap.size + 1 + 1 + 1) (w.heap.size + 1 + 1 + 1 + 1) at' m hm (by omega) _ (by simp; omega) (by simp; omega) ba.cell bm.cell) KeepsTwo.trans (keepsTwo_b (by simp; omega) (by simp; omega)) (Below.refl _ _) (fun _ => rfl)
    (fun pre W => ((Boxed W w.heap.size 3 (.int .i64 n) ∧ Boxed W (w.heap.size + 1 + 1) 117 (.slice (some ⟨w.heap.size + 1, 0, none⟩) s.size cap)) ∧ HoldsB W (w.heap.size + 1) (putFold s at' n (pre.map (·.1)))) ∧ Below w.heap.size w W)
    (fun _ _ _ => False)
    (OwnFrom.and (OwnFrom.and (OwnFrom.and (Own.from (boxed_own _ _ _) _) (Own.from (boxed_own _ _ _) _)) (Own.from (holdsB_own _ _) _)) (ownFrom_below (Nat.le_refl _) (by simp; omega)))
    (fun _ _ _ _ _ hs _ _ => hs)
    ⟨⟨⟨bn, bt0⟩, hb0⟩, hB0⟩
    (fun x => { tmps := #[.string s, .int .i64 at', .int .i64 m, .int .i64 n, undef, undef, undef, .pointer (some ⟨w.heap.size, 0, none⟩), .string ⟨#[]⟩, .int .i64 0, .int .i64 0, .pointer (some ⟨w.heap.size + 1 + 1, 0, none⟩),
        .int .i64 (at' + x.1), .int .i64 (8 * (x.1 : Int)), .string s, .int .i64 s.size, .int .i64 at', .int .i64 m, .int .i64 0, .int .i64 0, .bool false, undef, .string s, .slice (some ⟨w.heap.size + 1, 0, none⟩) s.size cap, .int .i64 at', .int .i64 m,
        .func (.func 214) #[] #[.pointer (some ⟨w.heap.size + 1 + 1 + 1 + 1, 0, none⟩), .pointer (some ⟨w.heap.size + 1 + 1 + 1, 0, none⟩)], .int .i64 (at' + x.1), .int .i64 (8 * (x.1 : Int)),
        undef, undef, undef, undef, undef, undef, undef, undef, undef], defers := [] }) ?assign ?body ?done ?stop
  case assign =>
    intro l x W K hK
    gi_wp2
    exact hK
  case body =>
    rintro l pre ⟨x, hx⟩ W ⟨⟨⟨hbn, hbt⟩, hbb⟩, hB⟩ _
    have hcn := hbn.cell
    have hct := hbt.cell
    have hlen := putFold_length s at' n (pre.map (·.1))
    obtain ⟨b0, hb0'⟩ : ∃ v, (putFold s at' n (pre.map (·.1)))[at' + x]? = some v := ⟨_, List.getElem?_eq_getElem (by omega)⟩
    obtain ⟨hcc, hfc⟩ := hbb (at' + x) b0 hb0'
    have hset := hbb.set (at' + x) (byteOf n x) (by omega)
    have HB := byteOf_toNat n x
    have HBN : Hid (HoldsB (W.setCell ⟨w.heap.size + 1, at' + x, none⟩ (.int .u8 (n / 2 ^ (8 * x) % 256))).drew (w.heap.size + 1) ((putFold s at' n (pre.map (·.1))).set (at' + x) (byteOf n x))) := by rw [pow_256, ← HB]; exact hset
    clear bn bt0 ba bm hB0 hwr hb0 hb1 bn1 hbl1 hconv hlen HB hset hb0'
    have hmx : Tryz.prog.follows .mixedOrders = true := by kernel_rfl
    have hx0 : (at' : Int) + x < s.size := by omega
    have hx1 : (x : Int) ≤ 3 := by omega
    gi_wp2
    gi_region_o
    all_goals gi_wp2
    all_goals (try go_bits)
    all_goals
      exact ⟨(KeepsOthers.setCell _ _ _).trans (KeepsOthers.drew _), keepsTwo_set (by omega) (by omega) _ _, ⟨⟨boxed_otherAt hbn (by omega) _ _, boxed_otherAt hbt (by omega) _ _⟩, by rw [List.map_append, List.map_cons, List.map_nil, putFold_snoc]; exact HBN.out⟩, (hB.setCell (p := ⟨w.heap.size + 1, at' + x, none⟩) (Nat.le_succ _) _).drew⟩
  case done =>
    rintro D ys W hD hys ⟨⟨⟨_, hbt⟩, hbb⟩, hB⟩ hK
    have hct := hbt.cell
    have hlen := putFold_length s at' n (List.range m)
    rw [hys] at hbb
    have hback := run_convert_bytes_back (P := Tryz.prog) W 117 9 5 ⟨w.heap.size + 1, 0, none⟩ cap (putFold s at' n (List.range m)) Tryz.underlying117 Tryz.underlying5 Tryz.underlying9
      (fun j hj => by
        have := (hbb j _ (List.getElem?_eq_getElem hj)).1
        by_cases e : j = 0
        · subst e; simpa [Addr.add] using this
        · simpa [Addr.add, e] using this)
    rw [hlen] at hback
    change _ = Result.ok (Value.string (putS s at' m n)) W at hback
    clear bn bt0 ba bm hB0 hwr hb0 hb1 bn1 hbl1 hconv hlen hbb hys hbt
    gi_wp2
    refine ⟨by simp, .inl ⟨_, _, rfl, run_takeDeferred hK, ?_⟩⟩
    exact ⟨_, by simp [results, Tryz.f167, go_sem], rfl, hB.trans (belowK_b (w := w) (Nat.le_refl _) W D _ _ (by simp at hD; omega) hK rfl rfl)⟩
  case stop =>
    rintro D c pre W _ _ h _
    exact h.elim

end Go.Proofs.YtlpnfbpgnfappaaGreat
