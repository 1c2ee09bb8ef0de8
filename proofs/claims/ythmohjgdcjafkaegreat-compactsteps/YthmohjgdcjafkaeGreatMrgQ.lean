/- Texts that are laid together. -/
import Derived.Test.YthmohjgdcjafkaeGreatMrgG
import Derived.Test.YthmohjgdcjafkaeGreatMrgP
import Derived.Deep.LoopGhost
import Derived.Test.YthmohjgdcjafkaeGreatMrgL

/- Rows of one's own: rows of other types, and cells, lie apart from them. -/
namespace Go.Proofs.YthmohjgdcjafkaeGreat
open Go.RowKit Go.PlainAid

theorem own_kind {W : World} {base : Nat} {e : TypeId} {size : Nat} {v : Value} {n : Nat} {xs : List Value} (h : W.ownsRow base e size v n xs) : ∀ k, v.ownBlock = some k → ∃ cur fr, W.heap[k]? = some (.cells cur e fr) := by
  intro k hk
  rcases h.2 with ⟨rfl, _⟩ | ⟨g, cap, cur, rfl, _, hc, _⟩
  · cases hk
  · simp [Value.ownBlock] at hk
    subst hk
    exact ⟨cur, _, hc⟩
theorem own_ne_own {W : World} {b1 b2 : Nat} {e1 e2 : TypeId} {s1 s2 : Nat} {v1 v2 : Value} {n1 n2 : Nat} {x1 x2 : List Value} (h1 : W.ownsRow b1 e1 s1 v1 n1 x1) (h2 : W.ownsRow b2 e2 s2 v2 n2 x2) (he : e1 ≠ e2) : v1.ownBlock = none ∨ v1.ownBlock ≠ v2.ownBlock := by
  cases hv : v1.ownBlock with
  | none => exact .inl rfl
  | some k =>
    refine .inr fun e => ?_
    obtain ⟨c1, f1, hc1⟩ := own_kind h1 k hv
    obtain ⟨c2, f2, hc2⟩ := own_kind h2 k e.symm
    rw [hc1] at hc2
    injection hc2 with hc2
    injection hc2 with _ h
    exact he h
theorem own_ne_cells {W : World} {b B : Nat} {e t : TypeId} {s : Nat} {v : Value} {n : Nat} {xs : List Value} {cs : Array Value} (h1 : W.ownsRow b e s v n xs) (hc : CellsAt W B t cs) (he : e ≠ t) : v.ownBlock ≠ some B := by
  intro hv
  obtain ⟨c1, f1, hc1⟩ := own_kind h1 B hv
  rw [show W.heap[B]? = _ from hc] at hc1
  injection hc1 with hc1
  injection hc1 with _ h
  exact he h.symm
theorem own_storeAt {W : World} {b B : Nat} {e t : TypeId} {s : Nat} {v : Value} {n : Nat} {xs : List Value} {cs : Array Value} (h : W.ownsRow b e s v n xs) (hc : CellsAt W B t cs) (he : e ≠ t) (i : Nat) (u : Value) : (W.setCell ⟨B, i, none⟩ u).ownsRow b e s v n xs :=
  h.kept (grown_set W B i u) (.inr (own_ne_cells h hc he))
theorem own_apart {v1 v2 : Value} (h : ∀ k, v1.ownBlock = some k → v2.ownBlock ≠ some k) : v2.ownBlock = none ∨ v2.ownBlock ≠ v1.ownBlock := by
  cases hv : v2.ownBlock with
  | none => exact .inl rfl
  | some k => exact .inr fun e => h k e.symm hv
/-- What a growth of another type's row leaves as it was. -/
theorem own_beside {W W' : World} {b1 b2 : Nat} {e1 e2 : TypeId} {s1 s2 : Nat} {v1 v2 : Value} {n1 n2 : Nat} {x1 x2 : List Value} (h1 : W.ownsRow b1 e1 s1 v1 n1 x1) (h2 : W.ownsRow b2 e2 s2 v2 n2 x2) (he : e1 ≠ e2) (hg : W.grownBy W' v2.ownBlock) : W'.ownsRow b1 e1 s1 v1 n1 x1 :=
  h1.kept hg (own_ne_own h1 h2 he)
theorem cells_beside {W W' : World} {b B : Nat} {e t : TypeId} {s : Nat} {v : Value} {n : Nat} {xs : List Value} {cs : Array Value} (hc : CellsAt W B t cs) (h : W.ownsRow b e s v n xs) (he : e ≠ t) (hg : W.grownBy W' v.ownBlock) : CellsAt W' B t cs :=
  hc.kept hg (fun e' => own_ne_cells h hc he e'.symm)
theorem own_down {W : World} {base b : Nat} {e : TypeId} {size : Nat} {v : Value} {n : Nat} {xs : List Value} (h : W.ownsRow base e size v n xs) (hb : b ≤ base) : W.ownsRow b e size v n xs :=
  ⟨h.1, h.2.imp id (fun ⟨g, cap, cur, h1, h2, h3⟩ => ⟨g, cap, cur, h1, Nat.le_trans hb h2, h3⟩)⟩

end Go.Proofs.YthmohjgdcjafkaeGreat

/- The contract of copies.Registry: rows of its own. -/
namespace Go.Proofs.YthmohjgdcjafkaeGreat
open Go.RowKit Go.PlainAid Go.Lib

set_option maxRecDepth 100000

/-- A registry whose rows are blocks of their own, none below base. -/
def OwnsReg (base : Nat) (W : World) (v : Value) (K : Ker) (l : List PV) : Prop :=
  ∃ ve vl, v = .agg #[.int .i64 K.major, .int .i64 K.minor, ve, vl] ∧ W.ownsRow base 128 2 ve K.exps.length (K.exps.flatMap expC) ∧ W.ownsRow base 54 8 vl l.length (l.flatMap pvC) ∧ ∀ x ∈ l, OwnsPlc base W x
theorem OwnsPlc.beside {base b n : Nat} {W W' : World} {y : PV} {v : Value} {xs : List Value} (h : OwnsPlc base W y) (hr : W.ownsRow b 54 8 v n xs) (hg : W.grownBy W' v.ownBlock) : OwnsPlc base W' y :=
  ⟨own_beside h.1 hr (by decide) hg, own_beside h.2.1 hr (by decide) hg, own_beside h.2.2 hr (by decide) hg⟩
theorem OwnsPlc.beCell {base B : Nat} {W : World} {y : PV} {t : TypeId} {cs : Array Value} (h : OwnsPlc base W y) (hc : CellsAt W B t cs) (h1 : 128 ≠ t) (h2 : 100 ≠ t) (h3 : 102 ≠ t) {W' : World} (hg : W.grownBy W' (some B)) : OwnsPlc base W' y :=
  ⟨h.1.kept hg (.inr (own_ne_cells h.1 hc h1)), h.2.1.kept hg (.inr (own_ne_cells h.2.1 hc h2)), h.2.2.kept hg (.inr (own_ne_cells h.2.2 hc h3))⟩
theorem OwnsPlc.lower {base b : Nat} {W : World} {y : PV} (h : OwnsPlc base W y) (hb : b ≤ base) : OwnsPlc b W y := ⟨own_down h.1 hb, own_down h.2.1 hb, own_down h.2.2 hb⟩

set_option maxHeartbeats 16000000 in
theorem copyReg_any (K : Ker) (l : List PV) (v : Value) (w : World) (h : IsReg w.heap.size w v K l) (hk : K.exps.length ≤ 255) (hl : l.length ≤ 255) (hm : ∀ x ∈ l, x.mod.exps.length ≤ 255 ∧ x.mod.imps.length ≤ 255 ∧ x.mod.pats.length ≤ 255) :
    Calls Tryz.prog 69 #[v] w fun e w' => (∃ v' l', e = .returned v' ∧ l'.map PV.plc = l.map PV.plc ∧ OwnsReg w.heap.size w' v' K l') ∧ Below w.heap.size w w' := by
  obtain ⟨ve, vl, rfl, hE, hL⟩ := h
  have HE : Hid (∀ W, Below w.heap.size w W → Calls Tryz.prog 109 #[ve] W fun e w' => (∃ r, e = .returned r ∧ w'.ownsRow W.heap.size 128 2 r K.exps.length (K.exps.flatMap expC)) ∧ Below W.heap.size W w') := fun W hb => cloneExp_any _ _ W ((hE.below hb).more hb.size) hk
  have HP : Hid (∀ W, Below w.heap.size w W → Calls Tryz.prog 110 #[vl] W fun e w' => (∃ r, e = .returned r ∧ w'.ownsRow W.heap.size 54 8 r l.length (l.flatMap pvC)) ∧ Below W.heap.size W w') := fun W hb => clonePlc_any _ _ W ((hL.1.below hb).more hb.size) hl (pvs_one hL.2)
  have HC : Hid (∀ x ∈ l, ∀ W, Below w.heap.size w W → Calls Tryz.prog 77 #[x.val] W fun e w' => (∃ y : PV, e = .returned y.val ∧ y.plc = x.plc ∧ OwnsPlc W.heap.size w' y) ∧ Below W.heap.size W w') := fun x hx W hb => copyPlc_any x W (((hL.2 x hx).below hb).more hb.size) (hm x hx).1 (hm x hx).2.1 (hm x hx).2.2
  have hat := hL.2
  obtain ⟨qe, je, rfl, -, -⟩ := hE
  obtain ⟨⟨a, cap, rfl, -, -⟩, -⟩ := hL
  obtain ⟨ma, mi, ks⟩ := K
  dsimp only at *
  generalize hxe : ks.flatMap expC = xe at *
  generalize hlk : ks.length = lk at *
  have B1 : Below w.heap.size w ((w.alloc (.cells #[.int .i64 ma, .int .i64 mi, .slice qe lk je, .slice a l.length cap] 27)).alloc (.cells #[.int .i64 0, .int .i64 0, .slice none 0 0, .slice none 0 0] 27)) := ((Below.refl _ _).alloc (Nat.le_refl _) _).alloc (by simp) _
  have C1 : CellsAt ((w.alloc (.cells #[.int .i64 ma, .int .i64 mi, .slice qe lk je, .slice a l.length cap] 27)).alloc (.cells #[.int .i64 0, .int .i64 0, .slice none 0 0, .slice none 0 0] 27)) w.heap.size 27 #[.int .i64 ma, .int .i64 mi, .slice qe lk je, .slice a l.length cap] := (CellsAt.new w 27 #[.int .i64 ma, .int .i64 mi, .slice qe lk je, .slice a l.length cap]).kept (World.grownBy_alloc _ _ none) (by simp)
  have Z1 : CellsAt ((w.alloc (.cells #[.int .i64 ma, .int .i64 mi, .slice qe lk je, .slice a l.length cap] 27)).alloc (.cells #[.int .i64 0, .int .i64 0, .slice none 0 0, .slice none 0 0] 27)) (w.heap.size + 1) 27 #[.int .i64 0, .int .i64 0, .slice none 0 0, .slice none 0 0] := by
    have := CellsAt.new (w.alloc (.cells #[.int .i64 ma, .int .i64 mi, .slice qe lk je, .slice a l.length cap] 27)) 27 #[.int .i64 0, .int .i64 0, .slice none 0 0, .slice none 0 0]
    rw [World.size_alloc] at this
    exact this
  go_enter Tryz.func69, Tryz.ntmps69
  go_wp2_with fail
  refine (HE.out _ B1).mono ?_
  generalize ((w.alloc (.cells #[.int .i64 ma, .int .i64 mi, .slice qe lk je, .slice a l.length cap] 27)).alloc (.cells #[.int .i64 0, .int .i64 0, .slice none 0 0, .slice none 0 0] 27)) = u1 at B1 C1 Z1
  clear HE
  rintro e w2 ⟨⟨r1, rfl, o1⟩, b1⟩
  obtain ⟨a1, c1, rfl⟩ := own_form o1
  have LU1 : w.heap.size ≤ u1.heap.size := B1.size
  have z1 : w.heap.size + 1 < u1.heap.size := CellsAt.lt Z1
  replace C1 := CellsAt.below C1 b1 (CellsAt.lt C1)
  replace Z1 := CellsAt.below Z1 b1 (CellsAt.lt Z1)
  replace B1 := B1.trans (b1.mono B1.size)
  have C2 : CellsAt (w2.setCell ⟨w.heap.size, 2, none⟩ (.slice a1 lk c1)) w.heap.size 27 #[.int .i64 ma, .int .i64 mi, .slice a1 lk c1, .slice a l.length cap] := CellsAt.set 2 (.slice a1 lk c1) C1
  have g1 := grown_set w2 w.heap.size 2 (.slice a1 lk c1)
  have Z2 := CellsAt.kept Z1 g1 (by simp)
  have B2 := B1.grown g1 B1.size (fun k e => by obtain rfl := Option.some.inj e; exact Nat.le_refl _)
  have O1 := own_kept o1 g1 (fun k e => by obtain rfl := Option.some.inj e; omega)
  have q2 := CellsAt.cell C1 2
  have q3 := CellsAt.cell C1 3
  have f2 := CellsAt.frozen C1 2
  have hl1 := CellsAt.lt C1
  simp at q2 q3
  have HC2 : Hid _ := C2
  have HZ2 : Hid _ := Z2
  have HB2 : Hid _ := B2
  have HO1 : Hid _ := O1
  clear C1 Z1 B1 o1 b1 C2 g1 Z2 B2 O1
  go_wp2_with fail
  refine (HP.out _ HB2.out).mono ?_
  have C2 := HC2.out
  have Z2 := HZ2.out
  have B2 := HB2.out
  have O1 := HO1.out
  clear HC2 HZ2 HB2 HO1 q2 q3 f2 hl1 HP
  generalize w2.setCell ⟨w.heap.size, 2, none⟩ (.slice a1 lk c1) = u2 at C2 Z2 B2 O1
  rintro e w3 ⟨⟨r2, rfl, o2⟩, b2⟩
  obtain ⟨a2, c2, rfl⟩ := own_form o2
  have LU2 : w.heap.size ≤ u2.heap.size := B2.size
  have z2 : w.heap.size + 1 < u2.heap.size := CellsAt.lt Z2
  replace C2 := CellsAt.below C2 b2 (CellsAt.lt C2)
  replace Z2 := CellsAt.below Z2 b2 (CellsAt.lt Z2)
  replace B2 := B2.trans (b2.mono B2.size)
  replace O1 := own_below O1 b2
  have C3 : CellsAt (w3.setCell ⟨w.heap.size, 3, none⟩ (.slice a2 l.length c2)) w.heap.size 27 #[.int .i64 ma, .int .i64 mi, .slice a1 lk c1, .slice a2 l.length c2] := CellsAt.set 3 (.slice a2 l.length c2) C2
  have g2 := grown_set w3 w.heap.size 3 (.slice a2 l.length c2)
  have Z3 := CellsAt.kept Z2 g2 (by simp)
  have B3 := B2.grown g2 B2.size (fun k e => by obtain rfl := Option.some.inj e; exact Nat.le_refl _)
  have O1' := own_kept O1 g2 (fun k e => by obtain rfl := Option.some.inj e; omega)
  have O2' := own_kept o2 g2 (fun k e => by obtain rfl := Option.some.inj e; omega)
  have q3 := CellsAt.cell C2 3
  have f3 := CellsAt.frozen C2 3
  have hl2 := CellsAt.lt C2
  have q3' := CellsAt.cell C3 3
  simp at q3 q3'
  have HC3 : Hid _ := C3
  have HZ3 : Hid _ := Z3
  have HB3 : Hid _ := B3
  have HO1 : Hid _ := O1'
  have HO2 : Hid _ := O2'
  clear C2 Z2 B2 O1 o2 b2 C3 g2 Z3 B3 O1' O2'
  go_wp2_with fail
  have C := HC3.out
  have Zz := HZ3.out
  have B := HB3.out
  have O1 := HO1.out
  have O2 := HO2.out
  clear HC3 HZ3 HB3 HO1 HO2 q3 f3 hl2 q3'
  generalize w3.setCell ⟨w.heap.size, 3, none⟩ (.slice a2 l.length c2) = wL at C Zz B O1 O2 ⊢
  go_loopg [18] l.length (fun gk i wr => ∃ (j : Nat) (dn : List PV), Hid (gk = l.length - j) ∧ j ≤ l.length ∧ i = .int .i64 j ∧ dn.length = j ∧ Hid (dn.map PV.plc = (l.take j).map PV.plc) ∧ Hid (wr.ownsRow w.heap.size 54 8 (.slice a2 l.length c2) l.length ((dn ++ l.drop j).flatMap pvC)) ∧ Hid (∀ y ∈ dn, OwnsPlc w.heap.size wr y) ∧ Hid (wr.ownsRow w.heap.size 128 2 (.slice a1 lk c1) lk xe) ∧ Hid (CellsAt wr w.heap.size 27 #[.int .i64 ma, .int .i64 mi, .slice a1 lk c1, .slice a2 l.length c2]) ∧ Hid (CellsAt wr (w.heap.size + 1) 27 #[.int .i64 0, .int .i64 0, .slice none 0 0, .slice none 0 0]) ∧ Hid (Below w.heap.size w wr))
  case atStart => exact ⟨0, [], (rfl : l.length = l.length - 0), Nat.zero_le _, rfl, rfl, (rfl : ([] : List PV).map PV.plc = (l.take 0).map PV.plc), (by show wL.ownsRow _ _ _ _ _ _; exact own_down O2 LU2), (by intro y hy; simp at hy), own_down O1 LU1, C, Zz, B⟩
  case round =>
    clear C Zz B O1 O2
    obtain ⟨j, dn, HGK, hj, rfl, hdn, HPL, HO2, HYS, HO1, HC2, HZ2, HB2⟩ := hrel
    have C := HC2.out
    have Zz := HZ2.out
    have B := HB2.out
    clear HC2 HZ2 HB2
    by_cases hlj : j < l.length
    · obtain ⟨x, hx⟩ : ∃ x, l[j]? = some x := ⟨_, List.getElem?_eq_getElem hlj⟩
      have hxm := List.mem_of_getElem? hx
      have hel : (dn ++ l.drop j)[j]? = some x := by
        rw [List.getElem?_append_right (by omega), hdn, Nat.sub_self, List.getElem?_drop, Nat.add_zero]
        exact hx
      have HXC := HC.out x hxm
      have HNX : Hid (∀ y : PV, y.plc = x.plc → ((dn ++ [y]).map PV.plc = (l.take (j + 1)).map PV.plc) ∧ (dn ++ l.drop j).set j y = (dn ++ [y]) ++ l.drop (j + 1)) := fun y hy => by
        refine ⟨?_, ?_⟩
        · rw [List.map_append, HPL.out, List.take_add_one, hx, List.map_append]
          simp [hy]
        · rw [drop_at hx, List.set_append_right _ _ (by omega), hdn, Nat.sub_self]
          simp
      obtain ⟨g, c9, cur, ea, hg, hcur, -⟩ : ∃ g c9 cur, Value.slice a2 l.length c2 = .slice (some ⟨g, 0, none⟩) l.length c9 ∧ w.heap.size ≤ g ∧ wr.heap[g]? = some cur ∧ True := by
        rcases HO2.out.2 with ⟨_, hn⟩ | ⟨g, c9, cur, e, hg, hcur, _⟩
        · omega
        · exact ⟨g, c9, _, e, hg, hcur, trivial⟩
      injection ea with ea1 ea2 ea3
      subst ea1 ea3
      have hgw : g < wr.heap.size := (Array.getElem?_eq_some_iff.1 hcur).1
      have fl := fun i (hi : i < 8) => flat_at (C := pvC) (sz := 8) (fun _ => rfl) (dn ++ l.drop j) j x i hel hi
      have cl := fun i (hi : i < 8) => (World.ownsRow.cellAt HO2.out (j * 8 + i) (by omega)).trans (fl i hi)
      obtain ⟨⟨pe, ke, e4, -⟩, ⟨pi, ki, e5, -⟩, ⟨pp, kp, e6, -⟩⟩ := hat x hxm
      have HPUT : Hid (∀ (W : World) (y : PV), W.ownsRow w.heap.size 54 8 (.slice (some ⟨g, 0, none⟩) l.length c2) l.length ((dn ++ l.drop j).flatMap pvC) → _) := fun W y ho => own_put (l := dn ++ l.drop j) (j := j) ho hel y
      have HY : Hid (∀ y : PV, y.plc = x.plc → ∃ r1 r2 r3, y = ⟨x.mod, r1, r2, r3, x.first⟩) := fun y hy => by
        obtain ⟨m, r1, r2, r3, f⟩ := y
        unfold PV.plc at hy
        injection hy with h1 h2
        dsimp only at h1 h2
        exact ⟨r1, r2, r3, by rw [h1, h2]⟩
      obtain ⟨⟨N, xa, xi, T, es, is, ps⟩, ve, vi, vp, fi⟩ := x
      dsimp only [pvC, PV.val] at *
      subst e4 e5 e6
      have c0 : wr.cell? ⟨g, j * 8, none⟩ = some (.string N) := cl 0 (by omega)
      have d1 : wr.cell? ⟨g, j * 8 + 1, none⟩ = some (.int .i64 xa) := cl 1 (by omega)
      have d2 : wr.cell? ⟨g, j * 8 + 2, none⟩ = some (.int .i64 xi) := cl 2 (by omega)
      have d3 : wr.cell? ⟨g, j * 8 + 3, none⟩ = some (.string T) := cl 3 (by omega)
      have d4 : wr.cell? ⟨g, j * 8 + 4, none⟩ = some (.slice pe es.length ke) := cl 4 (by omega)
      have d5 : wr.cell? ⟨g, j * 8 + 5, none⟩ = some (.slice pi is.length ki) := cl 5 (by omega)
      have d6 : wr.cell? ⟨g, j * 8 + 6, none⟩ = some (.slice pp ps.length kp) := cl 6 (by omega)
      have d7 : wr.cell? ⟨g, j * 8 + 7, none⟩ = some (.int .i64 fi) := cl 7 (by omega)
      have hjl : (j : Int) < (l.length : Int) := by omega
      have hj0 : ¬ ((j : Int) < 0) := by omega
      have HXX : Hid (∀ W, Below w.heap.size w W → Calls Tryz.prog 77 #[.agg #[.string N, .int .i64 xa, .int .i64 xi, .string T, .slice pe es.length ke, .slice pi is.length ki, .slice pp ps.length kp, .int .i64 fi]] W fun e w' => (∃ y : PV, e = .returned y.val ∧ y.plc = _ ∧ OwnsPlc W.heap.size w' y) ∧ Below W.heap.size W w') := HXC
      have ga := World.grownBy_alloc wr (.cells #[.string N, .int .i64 xa, .int .i64 xi, .string T, .slice pe es.length ke, .slice pi is.length ki, .slice pp ps.length kp, .int .i64 fi] 54) none
      have HBP : Hid (Below w.heap.size w (wr.alloc (.cells #[.string N, .int .i64 xa, .int .i64 xi, .string T, .slice pe es.length ke, .slice pi is.length ki, .slice pp ps.length kp, .int .i64 fi] 54)).drew) := (B.alloc B.size _).drew
      have HCP : Hid (CellsAt (wr.alloc (.cells #[.string N, .int .i64 xa, .int .i64 xi, .string T, .slice pe es.length ke, .slice pi is.length ki, .slice pp ps.length kp, .int .i64 fi] 54)).drew w.heap.size 27 #[.int .i64 ma, .int .i64 mi, .slice a1 lk c1, .slice (some ⟨g, 0, none⟩) l.length c2]) := (CellsAt.kept (W' := wr.alloc _) C ga (by simp) : _)
      have HZP : Hid (CellsAt (wr.alloc (.cells #[.string N, .int .i64 xa, .int .i64 xi, .string T, .slice pe es.length ke, .slice pi is.length ki, .slice pp ps.length kp, .int .i64 fi] 54)).drew (w.heap.size + 1) 27 #[.int .i64 0, .int .i64 0, .slice none 0 0, .slice none 0 0]) := (CellsAt.kept (W' := wr.alloc _) Zz ga (by simp) : _)
      have HPP : Hid (CellsAt (wr.alloc (.cells #[.string N, .int .i64 xa, .int .i64 xi, .string T, .slice pe es.length ke, .slice pi is.length ki, .slice pp ps.length kp, .int .i64 fi] 54)).drew wr.heap.size 54 #[.string N, .int .i64 xa, .int .i64 xi, .string T, .slice pe es.length ke, .slice pi is.length ki, .slice pp ps.length kp, .int .i64 fi]) := CellsAt.new wr 54 #[.string N, .int .i64 xa, .int .i64 xi, .string T, .slice pe es.length ke, .slice pi is.length ki, .slice pp ps.length kp, .int .i64 fi]
      have HOP : Hid ((wr.alloc (.cells #[.string N, .int .i64 xa, .int .i64 xi, .string T, .slice pe es.length ke, .slice pi is.length ki, .slice pp ps.length kp, .int .i64 fi] 54)).drew.ownsRow w.heap.size 54 8 (.slice (some ⟨g, 0, none⟩) l.length c2) l.length ((dn ++ l.drop j).flatMap pvC)) := (HO2.out.alloc _).drew
      have HOE : Hid ((wr.alloc (.cells #[.string N, .int .i64 xa, .int .i64 xi, .string T, .slice pe es.length ke, .slice pi is.length ki, .slice pp ps.length kp, .int .i64 fi] 54)).drew.ownsRow w.heap.size 128 2 (.slice a1 lk c1) lk xe) := (HO1.out.alloc _).drew
      have HYP : Hid (∀ y ∈ dn, OwnsPlc w.heap.size (wr.alloc (.cells #[.string N, .int .i64 xa, .int .i64 xi, .string T, .slice pe es.length ke, .slice pi is.length ki, .slice pp ps.length kp, .int .i64 fi] 54)).drew y) := fun y hy => (HYS.out y hy).below (((Below.refl _ _).alloc (Nat.le_refl _) _).drew)
      have LWX : w.heap.size + 1 < wr.heap.size := CellsAt.lt Zz
      clear B C Zz HXC HC hx hxm hel fl cl hcur hat hm ga HO2 HO1 HYS
      go_wp2_with fail
      refine wp_region_noPanic ?_
      refine wp_region_L (S := fun w' => CellsAt w' w.heap.size 27 #[.int .i64 ma, .int .i64 mi, .slice a1 lk c1, .slice (some ⟨g, 0, none⟩) l.length c2] ∧ CellsAt w' wr.heap.size 54 #[.string N, .int .i64 xa, .int .i64 xi, .string T, .slice pe es.length ke, .slice pi is.length ki, .slice pp ps.length kp, .int .i64 fi]) (x := 6) (by kernel_rfl) ?_
      generalize (wr.alloc (.cells #[.string N, .int .i64 xa, .int .i64 xi, .string T, .slice pe es.length ke, .slice pi is.length ki, .slice pp ps.length kp, .int .i64 fi] 54)).drew = wd at *
      generalize wr.heap.size = BX at *
      have hS0 : CellsAt wd w.heap.size 27 #[.int .i64 ma, .int .i64 mi, .slice a1 lk c1, .slice (some ⟨g, 0, none⟩) l.length c2] ∧ CellsAt wd BX 54 #[.string N, .int .i64 xa, .int .i64 xi, .string T, .slice pe es.length ke, .slice pi is.length ki, .slice pp ps.length kp, .int .i64 fi] := ⟨HCP.out, HPP.out⟩
      refine wpL_take 0 23 (.pointer (some ⟨w.heap.size, 3, none⟩)) rfl (by kernel_rfl) (fun _ _ _ h => h) hS0 rfl rfl (fun w' hSw => by clear hSw; go_simp) ?_
      simp only [List.setIfInBounds_toArray, List.set_cons_zero, List.set_cons_succ]
      refine wpL_take 1 24 (.slice (some ⟨g, 0, none⟩) l.length c2) rfl (by kernel_rfl) (fun _ _ _ h => h) hS0 rfl rfl (fun w' hSw => by have q := CellsAt.cell hSw.1 3; simp at q; clear hSw; go_simp) ?_
      simp only [List.setIfInBounds_toArray, List.set_cons_zero, List.set_cons_succ]
      refine wpL_take 2 25 (.int .i64 (j : Int)) rfl (by kernel_rfl) (fun _ _ _ h => h) hS0 rfl rfl (fun w' hSw => by clear hSw; go_simp) ?_
      simp only [List.setIfInBounds_toArray, List.set_cons_zero, List.set_cons_succ]
      refine wpL_take 3 26 (.agg #[.string N, .int .i64 xa, .int .i64 xi, .string T, .slice pe es.length ke, .slice pi is.length ki, .slice pp ps.length kp, .int .i64 fi]) rfl (by kernel_rfl) (fun _ _ _ h => h) hS0 rfl rfl (fun w' hSw => by have q0 := CellsAt.cell hSw.2 0; have q1 := CellsAt.cell hSw.2 1; have q2 := CellsAt.cell hSw.2 2; have q3 := CellsAt.cell hSw.2 3; have q4 := CellsAt.cell hSw.2 4; have q5 := CellsAt.cell hSw.2 5; have q6 := CellsAt.cell hSw.2 6; have q7 := CellsAt.cell hSw.2 7; simp at q0 q1 q2 q3 q4 q5 q6 q7; clear hSw; go_simp) ?_
      simp only [List.setIfInBounds_toArray, List.set_cons_zero, List.set_cons_succ]
      clear hS0
      refine wpL_step (i := 4) rfl (by kernel_rfl) (fun K hK => ?_)
      go_simp
      refine (HXX.out _ HBP.out).mono ?_
      rintro e wc ⟨⟨y, rfl, hyp, hoy⟩, bb⟩
      obtain ⟨r1, r2, r3, rfl⟩ := HY.out y hyp
      obtain ⟨s1, k1, e1⟩ := own_form hoy.1
      obtain ⟨s2, k2, e2⟩ := own_form hoy.2.1
      obtain ⟨s3, k3, e3⟩ := own_form hoy.2.2
      dsimp only at e1 e2 e3
      subst e1 e2 e3
      have HBC : Hid (Below w.heap.size w wc) := HBP.out.trans (bb.mono HBP.out.size)
      have HCC : Hid (CellsAt wc w.heap.size 27 #[.int .i64 ma, .int .i64 mi, .slice a1 lk c1, .slice (some ⟨g, 0, none⟩) l.length c2]) := HCP.out.below bb HCP.out.lt
      have HZC : Hid (CellsAt wc (w.heap.size + 1) 27 #[.int .i64 0, .int .i64 0, .slice none 0 0, .slice none 0 0]) := HZP.out.below bb HZP.out.lt
      have HPC : Hid (CellsAt wc BX 54 #[.string N, .int .i64 xa, .int .i64 xi, .string T, .slice pe es.length ke, .slice pi is.length ki, .slice pp ps.length kp, .int .i64 fi]) := HPP.out.below bb HPP.out.lt
      have HOC : Hid (wc.ownsRow w.heap.size 54 8 (.slice (some ⟨g, 0, none⟩) l.length c2) l.length ((dn ++ l.drop j).flatMap pvC)) := own_below HOP.out bb
      have HEC : Hid (wc.ownsRow w.heap.size 128 2 (.slice a1 lk c1) lk xe) := own_below HOE.out bb
      have HYC : Hid (∀ y ∈ dn, OwnsPlc w.heap.size wc y) := fun y hy => (HYP.out y hy).below bb
      have HY1 : Hid (OwnsPlc w.heap.size wc ⟨⟨N, xa, xi, T, es, is, ps⟩, (.slice s1 es.length k1), (.slice s2 is.length k2), (.slice s3 ps.length k3), fi⟩) := hoy.lower HBP.out.size
      have HNN := HNX.out _ hyp
      have HN1 : Hid ((dn ++ [(⟨⟨N, xa, xi, T, es, is, ps⟩, (.slice s1 es.length k1), (.slice s2 is.length k2), (.slice s3 ps.length k3), fi⟩ : PV)]).map PV.plc = (l.take (j + 1)).map PV.plc) := HNN.1
      have HN2 : Hid ((dn ++ l.drop j).set j ⟨⟨N, xa, xi, T, es, is, ps⟩, (.slice s1 es.length k1), (.slice s2 is.length k2), (.slice s3 ps.length k3), fi⟩ = (dn ++ [(⟨⟨N, xa, xi, T, es, is, ps⟩, (.slice s1 es.length k1), (.slice s2 is.length k2), (.slice s3 ps.length k3), fi⟩ : PV)]) ++ l.drop (j + 1)) := HNN.2
      clear bb HBP HCP HZP HPP HOP HOE HYP hoy hyp HNN HNX HXX HY
      dsimp only [PV.val] at *
      go_simp
      refine hK.out _ _ ⟨HCC.out, HPC.out⟩ (fun _ => ?_)
      clear hK K
      refine wpL_take 5 28 (.pointer (some ⟨g, j * 8, none⟩)) rfl (by kernel_rfl) (fun _ _ _ h => h) (show _ ∧ _ from ⟨HCC.out, HPC.out⟩) rfl rfl (fun w' hSw => by clear hSw; go_simp) ?_
      simp only [List.setIfInBounds_toArray, List.set_cons_zero, List.set_cons_succ]
      refine wpL_last (x := 6) rfl (by kernel_rfl) (by kernel_rfl) (fun K hK => ?_)
      obtain ⟨hop, hgp⟩ := HPUT.out wc ⟨⟨N, xa, xi, T, es, is, ps⟩, (.slice s1 es.length k1), (.slice s2 is.length k2), (.slice s3 ps.length k3), fi⟩ HOC.out
      rw [HN2.out] at hop
      dsimp only at hop hgp
      have HOPP : Hid _ := hop
      have HGPP : Hid _ := hgp
      have hln : (l.length * 8 : Nat) = l.length * 8 := rfl
      have hat2 : ∀ i, i < 8 → ∃ u, wc.cell? ⟨g, j * 8 + i, none⟩ = some u := fun i hi => by
        have h1 := HOC.out.cellAt (j * 8 + i) (by omega)
        have h2 : j * 8 + i < ((dn ++ l.drop j).flatMap pvC).length := by rw [HOC.out.1]; omega
        exact ⟨_, h1.trans (List.getElem?_eq_getElem h2)⟩
      obtain ⟨u0, e0⟩ := hat2 0 (by omega)
      rw [Nat.add_zero] at e0
      obtain ⟨u1', e1⟩ := hat2 1 (by omega)
      obtain ⟨u2', e2⟩ := hat2 2 (by omega)
      obtain ⟨u3', e3⟩ := hat2 3 (by omega)
      obtain ⟨u4', e4⟩ := hat2 4 (by omega)
      obtain ⟨u5', e5⟩ := hat2 5 (by omega)
      obtain ⟨u6', e6⟩ := hat2 6 (by omega)
      obtain ⟨u7', e7⟩ := hat2 7 (by omega)
      have f0 := HOC.out.frozenAt (j * 8)
      have f1 := HOC.out.frozenAt (j * 8 + 1)
      have f2 := HOC.out.frozenAt (j * 8 + 2)
      have f3 := HOC.out.frozenAt (j * 8 + 3)
      have f4 := HOC.out.frozenAt (j * 8 + 4)
      have f5 := HOC.out.frozenAt (j * 8 + 5)
      have f6 := HOC.out.frozenAt (j * 8 + 6)
      have f7 := HOC.out.frozenAt (j * 8 + 7)
      clear hat2 hop hgp hln
      go_simp
      refine hK.out _ _ ?_
      refine NoPanic.normal ?_
      clear hK K
      clear e0 e1 e2 e3 e4 e5 e6 e7 f0 f1 f2 f3 f4 f5 f6 f7
      have HB9 : Hid (Below w.heap.size w ((((((((wc.setCell ⟨g, j * 8, none⟩ (.string N)).setCell ⟨g, j * 8 + 1, none⟩ (.int .i64 xa)).setCell ⟨g, j * 8 + 2, none⟩ (.int .i64 xi)).setCell ⟨g, j * 8 + 3, none⟩ (.string T)).setCell ⟨g, j * 8 + 4, none⟩ (.slice s1 es.length k1)).setCell ⟨g, j * 8 + 5, none⟩ (.slice s2 is.length k2)).setCell ⟨g, j * 8 + 6, none⟩ (.slice s3 ps.length k3)).setCell ⟨g, j * 8 + 7, none⟩ (.int .i64 fi))) := HBC.out.grown HGPP.out HBC.out.size (fun q hq => by obtain rfl := Option.some.inj hq; exact hg)
      have HC9 : Hid (CellsAt ((((((((wc.setCell ⟨g, j * 8, none⟩ (.string N)).setCell ⟨g, j * 8 + 1, none⟩ (.int .i64 xa)).setCell ⟨g, j * 8 + 2, none⟩ (.int .i64 xi)).setCell ⟨g, j * 8 + 3, none⟩ (.string T)).setCell ⟨g, j * 8 + 4, none⟩ (.slice s1 es.length k1)).setCell ⟨g, j * 8 + 5, none⟩ (.slice s2 is.length k2)).setCell ⟨g, j * 8 + 6, none⟩ (.slice s3 ps.length k3)).setCell ⟨g, j * 8 + 7, none⟩ (.int .i64 fi)) w.heap.size 27 #[.int .i64 ma, .int .i64 mi, .slice a1 lk c1, .slice (some ⟨g, 0, none⟩) l.length c2]) := HCC.out.kept HGPP.out (fun e => own_ne_cells HOC.out HCC.out (by decide) (by rw [Option.some.inj e]; rfl))
      have HZ9 : Hid (CellsAt ((((((((wc.setCell ⟨g, j * 8, none⟩ (.string N)).setCell ⟨g, j * 8 + 1, none⟩ (.int .i64 xa)).setCell ⟨g, j * 8 + 2, none⟩ (.int .i64 xi)).setCell ⟨g, j * 8 + 3, none⟩ (.string T)).setCell ⟨g, j * 8 + 4, none⟩ (.slice s1 es.length k1)).setCell ⟨g, j * 8 + 5, none⟩ (.slice s2 is.length k2)).setCell ⟨g, j * 8 + 6, none⟩ (.slice s3 ps.length k3)).setCell ⟨g, j * 8 + 7, none⟩ (.int .i64 fi)) (w.heap.size + 1) 27 #[.int .i64 0, .int .i64 0, .slice none 0 0, .slice none 0 0]) := HZC.out.kept HGPP.out (fun e => own_ne_cells HOC.out HZC.out (by decide) (by rw [Option.some.inj e]; rfl))
      have HE9 : Hid (((((((((wc.setCell ⟨g, j * 8, none⟩ (.string N)).setCell ⟨g, j * 8 + 1, none⟩ (.int .i64 xa)).setCell ⟨g, j * 8 + 2, none⟩ (.int .i64 xi)).setCell ⟨g, j * 8 + 3, none⟩ (.string T)).setCell ⟨g, j * 8 + 4, none⟩ (.slice s1 es.length k1)).setCell ⟨g, j * 8 + 5, none⟩ (.slice s2 is.length k2)).setCell ⟨g, j * 8 + 6, none⟩ (.slice s3 ps.length k3)).setCell ⟨g, j * 8 + 7, none⟩ (.int .i64 fi)).ownsRow w.heap.size 128 2 (.slice a1 lk c1) lk xe) := own_beside HEC.out HOC.out (by decide) HGPP.out
      have HY9 : Hid (∀ y ∈ dn ++ [(⟨⟨N, xa, xi, T, es, is, ps⟩, (.slice s1 es.length k1), (.slice s2 is.length k2), (.slice s3 ps.length k3), fi⟩ : PV)], OwnsPlc w.heap.size ((((((((wc.setCell ⟨g, j * 8, none⟩ (.string N)).setCell ⟨g, j * 8 + 1, none⟩ (.int .i64 xa)).setCell ⟨g, j * 8 + 2, none⟩ (.int .i64 xi)).setCell ⟨g, j * 8 + 3, none⟩ (.string T)).setCell ⟨g, j * 8 + 4, none⟩ (.slice s1 es.length k1)).setCell ⟨g, j * 8 + 5, none⟩ (.slice s2 is.length k2)).setCell ⟨g, j * 8 + 6, none⟩ (.slice s3 ps.length k3)).setCell ⟨g, j * 8 + 7, none⟩ (.int .i64 fi)) y) := fun y hy => by
        rcases List.mem_append.1 hy with hy | hy
        · exact (HYC.out y hy).beside HOC.out HGPP.out
        · obtain rfl := List.mem_singleton.1 hy
          exact HY1.out.beside HOC.out HGPP.out
      go_wp2_with fail
      go_roundg (l.length - (j + 1))
      case measure =>
        have := HGK.out
        omega
      case rel => exact ⟨j + 1, dn ++ [(⟨⟨N, xa, xi, T, es, is, ps⟩, (.slice s1 es.length k1), (.slice s2 is.length k2), (.slice s3 ps.length k3), fi⟩ : PV)], (rfl : l.length - (j + 1) = l.length - (j + 1)), by omega, by go_num, by rw [List.length_append, hdn]; rfl, HN1, HOPP, HY9, HE9, HC9, HZ9, HB9⟩
    · obtain rfl : j = l.length := by omega
      have hdr : dn ++ l.drop l.length = dn := by rw [List.drop_length, List.append_nil]
      rw [hdr] at HO2
      rw [List.take_length] at HPL
      clear HC HGK hdr
      have HCq : Hid _ := C
      have HZq : Hid _ := Zz
      have HBq : Hid _ := B
      have q0 := CellsAt.cell C 0
      have q1 := CellsAt.cell C 1
      have q2 := CellsAt.cell C 2
      have q3 := CellsAt.cell C 3
      have z0 := CellsAt.cell Zz 0
      have z1 := CellsAt.cell Zz 1
      have z2 := CellsAt.cell Zz 2
      have z3 := CellsAt.cell Zz 3
      have f0 := CellsAt.frozen Zz 0
      have f1 := CellsAt.frozen Zz 1
      have f2 := CellsAt.frozen Zz 2
      have f3 := CellsAt.frozen Zz 3
      have lz := CellsAt.lt Zz
      simp at q0 q1 q2 q3 z0 z1 z2 z3
      clear C Zz B
      go_wp2
      have hZ9 := sets4 HZq.out (.int .i64 ma) (.int .i64 mi) (.slice a1 lk c1) (.slice a2 l.length c2)
      have hG9 := sets4_grown wr (w.heap.size + 1) (.int .i64 ma) (.int .i64 mi) (.slice a1 lk c1) (.slice a2 l.length c2)
      refine bodyPost_ret (results_cell_row rfl _ _ _ _ _ _ _ rfl hZ9 Tryz.underlying27 rfl (by kernel_rfl)) rfl ?_
      refine ⟨⟨_, dn, rfl, HPL.out, _, _, rfl, ?_, ?_, fun x hx => (HYS.out x hx).beCell HZq.out (by decide) (by decide) (by decide) hG9⟩, HBq.out.grown hG9 HBq.out.size (fun q hq => by obtain rfl := Option.some.inj hq; exact Nat.le_succ _)⟩
      · have := HO1.out.kept hG9 (.inr (own_ne_cells HO1.out HZq.out (by decide)))
        dsimp only
        rw [hlk, hxe]
        exact this
      · have := HO2.out.kept hG9 (.inr (own_ne_cells HO2.out HZq.out (by decide)))
        rw [hdn]
        exact this

end Go.Proofs.YthmohjgdcjafkaeGreat

/- Side by side, as data: a step, and all of them. -/
namespace Go.Proofs.YthmohjgdcjafkaeGreat
open Go.RowKit Go.PlainAid

/-- The first module that does not begin where the one ahead ends, moved there. -/
def stepFrom : Int → List Plc → Option (List Plc)
  | _, [] => none
  | e, p :: r => if p.first = e then (stepFrom (e + szM p.mod) r).map (p :: ·) else some (⟨p.mod, e⟩ :: r)
/-- All modules side by side. -/
def packFrom : Int → List Plc → List Plc
  | _, [] => []
  | e, p :: r => ⟨p.mod, e⟩ :: packFrom (e + szM p.mod) r
/-- How many are to be moved. -/
def offFrom : Int → List Plc → Nat
  | _, [] => 0
  | e, p :: r => (if p.first = e then 0 else 1) + offFrom (e + szM p.mod) r
theorem step_some : ∀ {L L' : List Plc} {e : Int}, stepFrom e L = some L' → packFrom e L' = packFrom e L ∧ offFrom e L = offFrom e L' + 1 ∧ L'.map (·.mod) = L.map (·.mod)
  | [], _, _, h => by cases h
  | p :: r, L', e, h => by
    unfold stepFrom at h
    by_cases hp : p.first = e
    · rw [if_pos hp] at h
      obtain ⟨r', hr, rfl⟩ := Option.map_eq_some_iff.1 h
      obtain ⟨h1, h2, h3⟩ := step_some hr
      refine ⟨?_, ?_, ?_⟩
      · show _ :: packFrom _ r' = _ :: packFrom _ r
        rw [h1]
      · show _ + offFrom _ r = _ + offFrom _ r' + 1
        rw [h2]
        omega
      · rw [List.map_cons, List.map_cons, h3]
    · rw [if_neg hp] at h
      obtain rfl := Option.some.inj h
      refine ⟨rfl, ?_, rfl⟩
      show (if p.first = e then 0 else 1) + offFrom (e + szM p.mod) r = (if e = e then 0 else 1) + offFrom (e + szM p.mod) r + 1
      rw [if_neg hp, if_pos rfl]
      omega
theorem step_none : ∀ {L : List Plc} {e : Int}, stepFrom e L = none → packFrom e L = L ∧ offFrom e L = 0
  | [], _, _ => ⟨rfl, rfl⟩
  | p :: r, e, h => by
    unfold stepFrom at h
    by_cases hp : p.first = e
    · rw [if_pos hp] at h
      have hr : stepFrom (e + szM p.mod) r = none := by
        cases hs : stepFrom (e + szM p.mod) r with
        | none => rfl
        | some x => rw [hs] at h; cases h
      obtain ⟨h1, h2⟩ := step_none hr
      refine ⟨?_, ?_⟩
      · show (⟨p.mod, e⟩ : Plc) :: packFrom _ r = p :: r
        rw [h1, ← hp]
      · show (if p.first = e then 0 else 1) + offFrom _ r = 0
        rw [h2, if_pos hp]
    · rw [if_neg hp] at h
      cases h
theorem off_step : ∀ {L : List Plc} {e : Int}, offFrom e L ≠ 0 → ∃ L', stepFrom e L = some L' := by
  intro L e h
  cases hs : stepFrom e L with
  | none => exact absurd (step_none hs).2 h
  | some L' => exact ⟨L', rfl⟩
theorem off_le : ∀ (L : List Plc) (e : Int), offFrom e L ≤ L.length
  | [], _ => Nat.le_refl _
  | p :: r, e => by
    have := off_le r (e + szM p.mod)
    show (if p.first = e then 0 else 1) + offFrom _ r ≤ r.length + 1
    split <;> omega
theorem okPl_less : ∀ {L : List Plc} {e e' : Int}, e' ≤ e → okPl e L → okPl e' L
  | [], _, _, h, ho => Int.le_trans h ho
  | _ :: _, _, _, h, ⟨h1, h2, h3, h4⟩ => ⟨Int.le_trans h h1, h2, h3, h4⟩
/-- Behind a step modules still lie behind one another. -/
theorem step_ok : ∀ {L L' : List Plc} {e : Int}, okPl e L → stepFrom e L = some L' → okPl e L'
  | [], _, _, _, h => by cases h
  | p :: r, L', e, ⟨h1, h2, h3, h4⟩, h => by
    unfold stepFrom at h
    by_cases hp : p.first = e
    · rw [if_pos hp] at h
      obtain ⟨r', hr, rfl⟩ := Option.map_eq_some_iff.1 h
      refine ⟨h1, h2, h3, ?_⟩
      rw [hp] at h4 ⊢
      exact step_ok h4 hr
    · rw [if_neg hp] at h
      obtain rfl := Option.some.inj h
      exact ⟨Int.le_refl _, h2, by show e + (szM p.mod : Int) ≤ 16; omega, okPl_less (by show e + (szM p.mod : Int) ≤ _; omega) h4⟩

/-- What hangs on the modules alone. -/
theorem twice_mods : ∀ (L L' : List Plc) (met : List ByteArray), L'.map (·.mod) = L.map (·.mod) → twiceFrom met L' = twiceFrom met L
  | [], [], _, _ => rfl
  | [], _ :: _, _, h => by cases h
  | _ :: _, [], _, h => by cases h
  | p :: l, q :: l', met, h => by
    rw [List.map_cons, List.map_cons] at h
    injection h with h1 h2
    have hs : ∀ (p : Plc) l met, twiceFrom met (p :: l) = ((met.any fun y => y == p.mod.name) || twiceFrom (met ++ [p.mod.name]) l) := fun _ _ _ => rfl
    rw [hs, hs, h1, twice_mods l l' _ h2]
theorem chkBy_mods (L L' : List Plc) (h : L'.map (·.mod) = L.map (·.mod)) : chkBy (fun _ => 0) L' = chkBy (fun _ => 0) L := by
  have key : ∀ L : List Plc, chkBy (fun _ => 0) L = ((L.map (·.mod)).foldr (fun m a => if chkMod m ≠ 0 then chkMod m else a) 0) := by
    intro L
    induction L with
    | nil => rfl
    | cons p l ih =>
      have hs : chkBy (fun _ => 0) (p :: l) = if chkMod p.mod ≠ 0 then chkMod p.mod else if (0 : Int) ≠ 0 then 0 else chkBy (fun _ => 0) l := rfl
      rw [hs, ih]
      simp
  rw [key, key, h]
theorem ord_mods (L L' : List Plc) (h : L'.map (·.mod) = L.map (·.mod)) : ordOf L' = ordOf L := by
  have hl : L'.length = L.length := by have := congrArg List.length h; simpa using this
  unfold ordOf chkGraph plainErr risen
  rw [hl, chkBy_mods L L' h, twice_mods L L' [] h, h]

end Go.Proofs.YthmohjgdcjafkaeGreat

/- What the first free run and the first module behind it say of a step, as data. -/
namespace Go.Proofs.YthmohjgdcjafkaeGreat
open Go.RowKit Go.PlainAid

theorem step_run : ∀ {L : List Plc} {e : Int}, okPl e L →
    (stepFrom e L = none ∧ (runsFrom e L = [] ∨ ∃ r rs, runsFrom e L = r :: rs ∧ e ≤ r.1 ∧ ∀ p ∈ L, p.first ≤ r.1)) ∨
    (∃ r rs j p, runsFrom e L = r :: rs ∧ e ≤ r.1 ∧ L[j]? = some p ∧ r.1 < p.first ∧ (∀ i q, i < j → L[i]? = some q → q.first ≤ r.1) ∧ stepFrom e L = some (L.set j ⟨p.mod, r.1⟩))
  | [], e, _ => by
    refine .inl ⟨rfl, ?_⟩
    have hr : runsFrom e [] = gapOf e 16 := rfl
    rw [hr]
    unfold gapOf
    split
    · first | exact .inl rfl | exact .inr ⟨_, _, rfl, Int.le_refl _, fun p hp => by simp at hp⟩
    · first | exact .inl rfl | exact .inr ⟨_, _, rfl, Int.le_refl _, fun p hp => by simp at hp⟩
  | p :: l, e, ⟨h1, h2, h3, h4⟩ => by
    have hst : stepFrom e (p :: l) = if p.first = e then (stepFrom (e + szM p.mod) l).map (p :: ·) else some (⟨p.mod, e⟩ :: l) := rfl
    by_cases hp : p.first = e
    · have hr : runsFrom e (p :: l) = runsFrom (e + szM p.mod) l := by
        have h0 : runsFrom e (p :: l) = gapOf e p.first ++ runsFrom (p.first + szM p.mod) l := rfl
        have hg : gapOf e e = [] := by
          unfold gapOf
          first | rw [if_neg (by omega)] | rw [if_pos rfl]
        rw [h0, hp, hg]
        rfl
      rw [hst, if_pos hp, hr]
      rw [hp] at h4
      rcases step_run h4 with ⟨n1, n2⟩ | ⟨r, rs, j, q, e1, e2, e3, e4, e5, e6⟩
      · refine .inl ⟨by rw [n1]; rfl, ?_⟩
        rcases n2 with n2 | ⟨r, rs, e1, e2, e3⟩
        · exact .inl n2
        · refine .inr ⟨r, rs, e1, by omega, fun x hx => ?_⟩
          rcases List.mem_cons.1 hx with rfl | hx
          · omega
          · exact e3 x hx
      · refine .inr ⟨r, rs, j + 1, q, e1, by omega, e3, e4, fun i x hi hx => ?_, by rw [e6]; rfl⟩
        cases i with
        | zero =>
          have : p = x := by simpa using hx
          rw [← this]
          omega
        | succ i => exact e5 i x (by omega) (by simpa using hx)
    · have hlt : e < p.first := by omega
      refine .inr ⟨(e, p.first - e), runsFrom (p.first + szM p.mod) l, 0, p, ?_, Int.le_refl _, rfl, hlt, fun i x hi _ => by omega, ?_⟩
      · have h0 : runsFrom e (p :: l) = gapOf e p.first ++ runsFrom (p.first + szM p.mod) l := rfl
        have hg : gapOf e p.first = [(e, p.first - e)] := by
          unfold gapOf
          first | rw [if_pos hlt] | rw [if_neg (by omega)]
        rw [h0, hg]
        rfl
      · rw [hst, if_neg hp]
        rfl

end Go.Proofs.YthmohjgdcjafkaeGreat

/- The contract of package compact's step. -/
namespace Go.Proofs.YthmohjgdcjafkaeGreat
open Go.RowKit Go.PlainAid Go.Lib

set_option maxRecDepth 100000

theorem ix_at {α : Type} (p : α → Bool) : ∀ (l : List α) (k j : Nat) (x : α), l[j]? = some x → p x = true → (∀ i y, i < j → l[i]? = some y → p y = false) → ixFrom p k l = ((k + j : Nat) : Int)
  | [], _, _, _, h, _, _ => by simp at h
  | y :: l, k, 0, x, h, hx, _ => by
    obtain rfl : y = x := by simpa using h
    unfold ixFrom
    rw [if_pos hx]
    rfl
  | y :: l, k, j + 1, x, h, hx, hi => by
    unfold ixFrom
    rw [if_neg (by rw [hi 0 y (by omega) rfl]; decide), ix_at p l (k + 1) j x (by simpa using h) hx (fun i z h1 h2 => hi (i + 1) z (by omega) (by simpa using h2))]
    congr 1; omega
theorem ix_none {α : Type} (p : α → Bool) (l : List α) (k : Nat) (h : ∀ y ∈ l, p y = false) : ixFrom p k l = -1 := by
  rcases ix_find p l k with ⟨_, h2⟩ | ⟨j, x, _, h2, _⟩
  · exact h2
  · rcases ix_find p l k with ⟨_, h3⟩ | ⟨j', x', h3, _, _⟩
    · exact h3
    · have := List.find?_some h3
      rw [h x' (List.mem_of_find?_eq_some h3)] at this
      cases this

theorem cpFirst1_any (B : Nat) (f : Int) (x : PV) (w : World) (hlt : B < w.heap.size) (hB : w.cell? ⟨B, 0, none⟩ = some (.int .i64 f)) (hat : PlcAt w.heap.size w x) :
    Calls Tryz.prog 106 #[x.val, .pointer (some ⟨B, 0, none⟩)] w fun e w' => e = .returned (.bool (decide (f < x.first))) ∧ Below w.heap.size w w' := by
  obtain ⟨⟨pe, ke, e4, _⟩, ⟨pi, ki, e5, _⟩, ⟨pp, kp, e6, _⟩⟩ := hat
  obtain ⟨⟨N, ma, mi, T, es, is, ps⟩, ve, vi, vp, fi⟩ := x
  dsimp only at e4 e5 e6
  subst e4 e5 e6
  dsimp only [PV.val]
  generalize es.length = le at *
  generalize is.length = li at *
  generalize ps.length = lp at *
  go_enter Tryz.func106, Tryz.ntmps106
  go_wp2
  go_ret
  exact ⟨rfl, (Below.refl _ _).alloc (Nat.le_refl _) _⟩

/-- A placed module moved. -/
def PV.at (x : PV) (f : Int) : PV := ⟨x.mod, x.ve, x.vi, x.vp, f⟩
theorem own_first {W : World} {base g n cap : Nat} {l : List PV} {j : Nat} {x : PV} (h : W.ownsRow base 54 8 (.slice (some ⟨g, 0, none⟩) n cap) n (l.flatMap pvC)) (hx : l[j]? = some x) (f : Int) :
    (W.setCell ⟨g, j * 8 + 7, none⟩ (.int .i64 f)).ownsRow base 54 8 (.slice (some ⟨g, 0, none⟩) n cap) n ((l.set j (x.at f)).flatMap pvC) ∧ W.grownBy (W.setCell ⟨g, j * 8 + 7, none⟩ (.int .i64 f)) (some g) := by
  obtain ⟨o, gr⟩ := h.stored (j * 8 + 7) (.int .i64 f)
  rw [flat_put (C := pvC) (sz := 8) (fun _ => rfl) l j x (x.at f) 7 (.int .i64 f) hx (by omega) rfl] at o
  exact ⟨o, gr⟩
theorem plc_rows {base : Nat} {W : World} {l : List PV} (hP : ∀ x ∈ l, OwnsPlc base W x) (h : ∀ x ∈ l, x.mod.exps.length ≤ 255 ∧ x.mod.imps.length ≤ 255 ∧ x.mod.pats.length ≤ 255) : ∀ x ∈ l, PlcAt W.heap.size W x := fun x hx => (hP x hx).plcAt (h x hx).1 (h x hx).2.1 (h x hx).2.2
theorem reg_lens {l : List PV} (h0 : chkReg (l.map PV.plc) = 0) : l.length ≤ 8 ∧ ∀ x ∈ l, x.mod.exps.length ≤ 255 ∧ x.mod.imps.length ≤ 255 ∧ x.mod.pats.length ≤ 255 := by
  obtain ⟨h1, h2, _⟩ := chkReg_zero.1 h0
  rw [List.length_map] at h1
  refine ⟨h1, fun x hx => ?_⟩
  have := chkMod_exps (h2 x.plc (List.mem_map_of_mem hx))
  have e : x.plc.mod = x.mod := rfl
  rw [e] at this
  omega

/-- What a growth of the row of modules leaves. -/
def Moved (w : World) (vl : Value) (w' : World) : Prop := ∃ w1, Below w.heap.size w w1 ∧ w1.grownBy w' vl.ownBlock

set_option maxHeartbeats 16000000 in
theorem cpStep_any (K : Ker) (l : List PV) (ve vl : Value) (base Bp : Nat) (w : World) (hc : CellsAt w Bp 135 #[.int .i64 K.major, .int .i64 K.minor, ve, vl]) (hL : w.ownsRow base 54 8 vl l.length (l.flatMap pvC)) (hP : ∀ x ∈ l, OwnsPlc base w x) (hfit : ∀ x ∈ l, x.mod.fits) (h0 : chkReg (l.map PV.plc) = 0) :
    Calls Tryz.prog 63 #[.pointer (some ⟨Bp, 0, none⟩)] w fun e w' =>
      (stepFrom 0 (l.map PV.plc) = none ∧ e = .returned (.bool false) ∧ Below w.heap.size w w') ∨
      (∃ l' : List PV, stepFrom 0 (l.map PV.plc) = some (l'.map PV.plc) ∧ l'.map (·.mod) = l.map (·.mod) ∧ e = .returned (.bool true) ∧ CellsAt w' Bp 135 #[.int .i64 K.major, .int .i64 K.minor, ve, vl] ∧ w'.ownsRow base 54 8 vl l'.length (l'.flatMap pvC) ∧ (∀ x ∈ l', OwnsPlc base w' x) ∧ Moved w vl w') := by
  obtain ⟨h8, hlens⟩ := reg_lens h0
  have hrows : IsPlcs w.heap.size w vl l := ⟨own_rows (C := pvC) (cells := PV.cell) (sz := 8) (fun _ => rfl) pvC_at hL (by omega), plc_rows hP hlens⟩
  have HFR : Hid (Calls Tryz.prog 29 #[vl] w fun e w' => (∃ r, e = .returned (.tuple #[r, .int .i64 0]) ∧ RowOf 2 runCell w'.heap.size w' r (runsFrom 0 (l.map PV.plc))) ∧ Below w.heap.size w w') := by
    have := free_any l vl w hrows hfit
    rw [h0, show freeRes (l.map PV.plc) = runsFrom 0 (l.map PV.plc) from if_pos h0] at this
    exact this
  have HIX : Hid (∀ W B f, Below w.heap.size w W → B < W.heap.size → W.cell? ⟨B, 0, none⟩ = some (.int .i64 f) → Calls Tryz.prog 71 #[vl, .func (.func 106) #[] #[.pointer (some ⟨B, 0, none⟩)]] W fun e w' => e = .returned (.int .i64 (ixFrom (fun x : PV => decide (f < x.first)) 0 l)) ∧ Below W.heap.size W w') := by
    intro W B f hb hlt hB
    exact ixPlc_any l vl 106 (.pointer (some ⟨B, 0, none⟩)) (fun w x => enters_of Tryz.func106 (by kernel_rfl) rfl _ w) _ W ((hrows.1.below hb).more hb.size) (fun x hx W' hb' => cpFirst1_any B f x W' (Nat.lt_of_lt_of_le hlt hb'.size) ((hb'.cell (p := ⟨B, 0, none⟩) hlt).trans hB) ((((((hrows.2 x hx).below hb).more hb.size)).below hb').more hb'.size))
  have hok := (chkReg_zero.1 h0).2.2
  obtain ⟨va, vc, rfl⟩ := own_form hL
  have HL : Hid (w.ownsRow base 54 8 (.slice va l.length vc) l.length (l.flatMap pvC)) := hL
  have HP : Hid (∀ x ∈ l, OwnsPlc base w x) := hP
  have HC : Hid (CellsAt w Bp 135 #[.int .i64 K.major, .int .i64 K.minor, ve, .slice va l.length vc]) := hc
  have q3 := CellsAt.cell hc 3
  have ql := CellsAt.lt hc
  simp at q3
  rcases step_run hok with ⟨hs, hr⟩ | ⟨r, rs, j, p, hr, hr0, hj, hlt, hbef, hs⟩
  · have HS : Hid (stepFrom 0 (l.map PV.plc) = none) := hs
    rcases hr with hr | ⟨r, rs, hr, hr0, hall⟩
    · rw [hr] at HFR
      clear hr hs hrows hL hP hc hok h0 HIX
      go_enter Tryz.func63, Tryz.ntmps63
      go_wp2_with fail
      refine HFR.out.mono ?_
      rintro e w2 ⟨⟨rv, rfl, hrun⟩, b2⟩
      obtain ⟨ra, rc, rfl, _, _⟩ := hrun
      have HB2 : Hid (Below w.heap.size w w2) := b2
      clear b2 HFR q3 ql
      rw [show ([] : List (Int × Int)).length = 0 from rfl]
      go_wp2
      go_ret
      exact .inl ⟨HS.out, rfl, HB2.out⟩
    · rw [hr] at HFR
      have HIN : Hid (ixFrom (fun x : PV => decide (r.1 < x.first)) 0 l = -1) := ix_none _ _ _ fun y hy => decide_eq_false (by
        have := hall y.plc (List.mem_map_of_mem hy)
        have e : y.plc.first = y.first := rfl
        omega)
      clear hr hs hrows hL hP hc hok h0 hall
      go_enter Tryz.func63, Tryz.ntmps63
      go_wp2_with fail
      refine HFR.out.mono ?_
      rintro e w2 ⟨⟨rv, rfl, hrun⟩, b2⟩
      obtain ⟨ra, rc, rfl, _, hrow⟩ := hrun
      have HB2 : Hid (Below w.heap.size w w2) := b2
      have HC2 : Hid (CellsAt w2 Bp 135 #[.int .i64 K.major, .int .i64 K.minor, ve, .slice va l.length vc]) := HC.out.below b2 HC.out.lt
      rcases hrow with h | ⟨rb, roff, rfl, hrb, hrc⟩
      · cases h
      have c0 : w2.cell? ⟨rb, roff, none⟩ = some (.int .i64 r.1) := hrc 0 r rfl 0 (by omega)
      have hrl : (0 : Int) < ((r :: rs).length : Int) := by simp
      have hrl2 : ¬ ((r :: rs).length = 0) := by simp
      generalize (r :: rs).length = nr at *
      clear b2 HFR q3 ql hrc hrb
      go_upto_region 5 with fail
      have HB3 : Hid (Below w.heap.size w (w2.alloc (.cells #[.int .i64 r.1] 3))) := HB2.out.alloc HB2.out.size _
      have HC3 : Hid (CellsAt (w2.alloc (.cells #[.int .i64 r.1] 3)) Bp 135 #[.int .i64 K.major, .int .i64 K.minor, ve, .slice va l.length vc]) := HC2.out.kept (World.grownBy_alloc _ _ none) (by simp)
      have HF3 : Hid (CellsAt (w2.alloc (.cells #[.int .i64 r.1] 3)) w2.heap.size 3 #[.int .i64 r.1]) := CellsAt.new _ _ _
      generalize (w2.alloc (.cells #[.int .i64 r.1] 3)) = w3 at *
      have q3 := CellsAt.cell HC3.out 3
      have ql := CellsAt.lt HC3.out
      simp at q3
      go_wp2_with fail
      refine (HIX.out _ _ _ HB3.out HF3.out.lt (HF3.out.cell 0)).mono ?_
      rintro e w4 ⟨rfl, b4⟩
      rw [HIN.out]
      have HB4 : Hid (Below w.heap.size w w4) := HB3.out.trans (b4.mono HB3.out.size)
      clear b4 HIX HF3 HC3 HC2 HB3 HB2 q3 ql c0 hrl hrl2
      go_wp2
      go_ret
      exact .inl ⟨HS.out, rfl, HB4.out⟩
  · obtain ⟨x, hx, rfl⟩ : ∃ x, l[j]? = some x ∧ x.plc = p := by
      rw [List.getElem?_map] at hj
      cases hlj : l[j]? with
      | none => rw [hlj] at hj; cases hj
      | some x => rw [hlj] at hj; exact ⟨x, rfl, by simpa using hj⟩
    have HS : Hid (stepFrom 0 (l.map PV.plc) = some ((l.set j (x.at r.1)).map PV.plc)) := by
      show stepFrom _ _ = _
      rw [hs, List.map_set]
      rfl
    have HMM : Hid ((l.set j (x.at r.1)).map (·.mod) = l.map (·.mod)) := by
      show _ = _
      rw [List.map_set]
      apply List.ext_getElem?
      intro i
      rw [List.getElem?_set]
      by_cases hij : j = i
      · subst hij
        rw [if_pos rfl, if_pos (by rw [List.length_map]; exact (List.getElem?_eq_some_iff.1 hx).1), List.getElem?_map, hx]
        rfl
      · rw [if_neg hij]
    have HIN : Hid (ixFrom (fun x : PV => decide (r.1 < x.first)) 0 l = (j : Int)) := by
      have := ix_at (fun x : PV => decide (r.1 < x.first)) l 0 j x hx (decide_eq_true hlt) (fun i y hi hy => decide_eq_false (by
        have := hbef i y.plc hi (by rw [List.getElem?_map, hy]; rfl)
        have e : y.plc.first = y.first := rfl
        omega))
      rw [Nat.zero_add] at this
      exact this
    have hjl : j < l.length := (List.getElem?_eq_some_iff.1 hx).1
    have HX : Hid (l[j]? = some x) := hx
    rw [hr] at HFR
    clear hr hs hrows hL hP hc hok h0 hbef hlt hj hx
    go_enter Tryz.func63, Tryz.ntmps63
    go_wp2_with fail
    refine HFR.out.mono ?_
    rintro e w2 ⟨⟨rv, rfl, hrun⟩, b2⟩
    obtain ⟨ra, rc, rfl, _, hrow⟩ := hrun
    have HB2 : Hid (Below w.heap.size w w2) := b2
    have HC2 : Hid (CellsAt w2 Bp 135 #[.int .i64 K.major, .int .i64 K.minor, ve, .slice va l.length vc]) := HC.out.below b2 HC.out.lt
    rcases hrow with h | ⟨rb, roff, rfl, hrb, hrc⟩
    · cases h
    have c0 : w2.cell? ⟨rb, roff, none⟩ = some (.int .i64 r.1) := hrc 0 r rfl 0 (by omega)
    have hrl : (0 : Int) < ((r :: rs).length : Int) := by simp
    have hrl2 : ¬ ((r :: rs).length = 0) := by simp
    generalize (r :: rs).length = nr at *
    clear b2 HFR q3 ql hrc hrb
    go_upto_region 5 with fail
    have HB3 : Hid (Below w.heap.size w (w2.alloc (.cells #[.int .i64 r.1] 3))) := HB2.out.alloc HB2.out.size _
    have HC3 : Hid (CellsAt (w2.alloc (.cells #[.int .i64 r.1] 3)) Bp 135 #[.int .i64 K.major, .int .i64 K.minor, ve, .slice va l.length vc]) := HC2.out.kept (World.grownBy_alloc _ _ none) (by simp)
    have HF3 : Hid (CellsAt (w2.alloc (.cells #[.int .i64 r.1] 3)) w2.heap.size 3 #[.int .i64 r.1]) := CellsAt.new _ _ _
    generalize (w2.alloc (.cells #[.int .i64 r.1] 3)) = w3 at *
    generalize w2.heap.size = BF at *
    have q3 := CellsAt.cell HC3.out 3
    have ql := CellsAt.lt HC3.out
    simp at q3
    go_wp2_with fail
    refine (HIX.out _ _ _ HB3.out HF3.out.lt (HF3.out.cell 0)).mono ?_
    rintro e w4 ⟨rfl, b4⟩
    rw [HIN.out]
    have HB4 : Hid (Below w.heap.size w w4.drew) := (HB3.out.trans (b4.mono HB3.out.size)).drew
    have HC4 : Hid (CellsAt w4.drew Bp 135 #[.int .i64 K.major, .int .i64 K.minor, ve, .slice va l.length vc]) := (HC3.out.below b4 HC3.out.lt : CellsAt w4 _ _ _)
    have HF4 : Hid (CellsAt w4.drew BF 3 #[.int .i64 r.1]) := (HF3.out.below b4 HF3.out.lt : CellsAt w4 _ _ _)
    clear b4 HIX HF3 HC3 HC2 HB3 HB2 q3 ql c0 hrl hrl2
    obtain ⟨g, gc, ea, -⟩ : ∃ g c9, Value.slice va l.length vc = .slice (some ⟨g, 0, none⟩) l.length c9 ∧ True := by
      rcases HL.out.2 with ⟨_, hn⟩ | ⟨g, c9, cur, e, _⟩
      · omega
      · exact ⟨g, c9, e, trivial⟩
    injection ea with ea1 ea2 ea3
    subst ea1 ea3
    have hjn : (j : Int) < (l.length : Int) := by omega
    have hj0 : ¬ ((j : Int) < 0) := by omega
    go_upto_region 8 with fail
    refine wp_region_noPanic ?_
    refine wp_region_L (S := fun w' => CellsAt w' Bp 135 #[.int .i64 K.major, .int .i64 K.minor, ve, .slice (some ⟨g, 0, none⟩) l.length vc] ∧ CellsAt w' BF 3 #[.int .i64 r.1]) (x := 9) (by kernel_rfl) ?_
    generalize w4.drew = w5 at *
    have hS0 : CellsAt w5 Bp 135 #[.int .i64 K.major, .int .i64 K.minor, ve, .slice (some ⟨g, 0, none⟩) l.length vc] ∧ CellsAt w5 BF 3 #[.int .i64 r.1] := ⟨HC4.out, HF4.out⟩
    refine wpL_take 0 32 (.pointer (some ⟨Bp, 0, none⟩)) rfl (by kernel_rfl) (fun _ _ _ h => h) hS0 rfl rfl (fun w' hSw => by clear hSw; go_simp) ?_
    simp only [List.setIfInBounds_toArray, List.set_cons_zero, List.set_cons_succ]
    refine wpL_take 1 33 (.pointer (some ⟨Bp, 0, none⟩)) rfl (by kernel_rfl) (fun _ _ _ h => h) hS0 rfl rfl (fun w' hSw => by clear hSw; go_simp) ?_
    simp only [List.setIfInBounds_toArray, List.set_cons_zero, List.set_cons_succ]
    refine wpL_take 2 34 (.pointer (some ⟨Bp, 0, none⟩)) rfl (by kernel_rfl) (fun _ _ _ h => h) hS0 rfl rfl (fun w' hSw => by clear hSw; go_simp) ?_
    simp only [List.setIfInBounds_toArray, List.set_cons_zero, List.set_cons_succ]
    refine wpL_take 3 35 (.pointer (some ⟨Bp, 3, none⟩)) rfl (by kernel_rfl) (fun _ _ _ h => h) hS0 rfl rfl (fun w' hSw => by clear hSw; go_simp) ?_
    simp only [List.setIfInBounds_toArray, List.set_cons_zero, List.set_cons_succ]
    refine wpL_take 4 36 (.slice (some ⟨g, 0, none⟩) l.length vc) rfl (by kernel_rfl) (fun _ _ _ h => h) hS0 rfl rfl (fun w' hSw => by have q := CellsAt.cell hSw.1 3; simp at q; clear hSw; go_simp) ?_
    simp only [List.setIfInBounds_toArray, List.set_cons_zero, List.set_cons_succ]
    refine wpL_take 5 37 (.int .i64 (j : Int)) rfl (by kernel_rfl) (fun _ _ _ h => h) hS0 rfl rfl (fun w' hSw => by clear hSw; go_simp) ?_
    simp only [List.setIfInBounds_toArray, List.set_cons_zero, List.set_cons_succ]
    refine wpL_take 6 38 (.int .i64 r.1) rfl (by kernel_rfl) (fun _ _ _ h => h) hS0 rfl rfl (fun w' hSw => by have q := CellsAt.cell hSw.2 0; simp at q; clear hSw; go_simp) ?_
    simp only [List.setIfInBounds_toArray, List.set_cons_zero, List.set_cons_succ]
    refine wpL_take 7 39 (.pointer (some ⟨g, j * 8, none⟩)) rfl (by kernel_rfl) (fun _ _ _ h => h) hS0 rfl rfl (fun w' hSw => by clear hSw; go_simp) ?_
    simp only [List.setIfInBounds_toArray, List.set_cons_zero, List.set_cons_succ]
    refine wpL_take 8 40 (.pointer (some ⟨g, j * 8 + 7, none⟩)) rfl (by kernel_rfl) (fun _ _ _ h => h) hS0 rfl rfl (fun w' hSw => by clear hSw; go_simp) ?_
    simp only [List.setIfInBounds_toArray, List.set_cons_zero, List.set_cons_succ]
    clear hS0
    have hL5 := own_below HL.out HB4.out
    have HL5 : Hid (w5.ownsRow base 54 8 (.slice (some ⟨g, 0, none⟩) l.length vc) l.length (l.flatMap pvC)) := hL5
    have HP5 : Hid (∀ x ∈ l, OwnsPlc base w5 x) := fun x hx => (HP.out x hx).below HB4.out
    have e7 := hL5.cellAt (j * 8 + 7) (by omega)
    have f7 := hL5.frozenAt (j * 8 + 7)
    have e7' : ∃ u, w5.cell? ⟨g, j * 8 + 7, none⟩ = some u := ⟨_, e7.trans (List.getElem?_eq_getElem (by rw [hL5.1]; omega))⟩
    obtain ⟨u7, e8⟩ := e7'
    clear e7 hL5
    refine wpL_last (x := 9) rfl (by kernel_rfl) (by kernel_rfl) (fun K hK => ?_)
    go_simp
    refine hK.out _ _ ?_
    refine NoPanic.normal ?_
    clear hK K e8 f7
    obtain ⟨hO9, hG9⟩ := own_first HL5.out HX.out r.1
    have HO9 : Hid _ := hO9
    have HG9 : Hid _ := hG9
    clear hO9 hG9
    have HC9 : Hid (CellsAt (w5.setCell ⟨g, j * 8 + 7, none⟩ (.int .i64 r.1)) Bp 135 #[.int .i64 K.major, .int .i64 K.minor, ve, .slice (some ⟨g, 0, none⟩) l.length vc]) := cells_beside HC4.out HL5.out (by decide) HG9.out
    have HP9 : Hid (∀ y ∈ l.set j (x.at r.1), OwnsPlc base (w5.setCell ⟨g, j * 8 + 7, none⟩ (.int .i64 r.1)) y) := fun y hy => by
      rcases List.mem_or_eq_of_mem_set hy with hy | rfl
      · exact (HP5.out y hy).beside HL5.out HG9.out
      · have := (HP5.out x (List.mem_of_getElem? HX.out)).beside HL5.out HG9.out
        exact ⟨this.1, this.2.1, this.2.2⟩
    go_wp2
    go_ret
    refine .inr ⟨l.set j (x.at r.1), HS.out, HMM.out, rfl, HC9.out, ?_, HP9.out, w5, HB4.out, HG9.out⟩
    rw [List.length_set]
    exact HO9.out

end Go.Proofs.YthmohjgdcjafkaeGreat
