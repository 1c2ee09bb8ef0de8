/- Texts that are laid together. -/
import Derived.Test.YtlpnfbpgnfappaaGreatMrgT
import Derived.Test.YtlpnfbpgnfappaaGreatMrgS
import Derived.Test.YtlpnfbpgnfappaaGreatMrgO
import Derived.Test.YtlpnfbpgnfappaaGreatMrgP

/- The contract of the document's RemoveOf, of a registry that is right. Printed by genpte.py. -/
namespace Go.Proofs.YtlpnfbpgnfappaaGreat
open Go.RowKit Go.PlainAid Go.Lib Go.Sort Go.BigFrame

set_option maxRecDepth 100000

theorem map_erase {α β : Type} (f : α → β) : ∀ (l : List α) (j : Nat), (l.eraseIdx j).map f = (l.map f).eraseIdx j
  | [], _ => rfl
  | _ :: _, 0 => rfl
  | x :: l, j + 1 => by
    show f x :: (l.eraseIdx j).map f = f x :: (l.map f).eraseIdx j
    rw [map_erase f l j]
/-- What comes of taking out, said by what the document asks. -/
theorem rem_doc (l : List PV) (name : ByteArray) :
    (ixFrom (fun x : PV => x.mod.name == name) 0 l = -1 ∧ remDo (l.map PV.plc) name = ([], 5)) ∨
    ∃ (j : Nat) (x : PV), ixFrom (fun x : PV => x.mod.name == name) 0 l = (j : Int) ∧ l[j]? = some x ∧ x.mod.name = name ∧
      (((∃ y ∈ l, asksM y.mod name = true) ∧ remDo (l.map PV.plc) name = ([], 4)) ∨ ((∀ y ∈ l, asksM y.mod name = false) ∧ remDo (l.map PV.plc) name = ((l.eraseIdx j).map PV.plc, 0))) := by
  have hix := nameIx_pv l name
  rcases ix_spec (fun x : PV => x.mod.name == name) l 0 with ⟨h1, _⟩ | ⟨j, x, h1, h2, h3, _⟩
  · exact .inl ⟨h1, remDo_none (by rw [hix]; exact h1)⟩
  · rw [Nat.zero_add] at h1
    have hd := remDo_at (n := j) (L := l.map PV.plc) (name := name) (by rw [hix]; exact h1)
    have hany : ((l.map PV.plc).any fun p => asksM p.mod name) = l.any fun y : PV => asksM y.mod name := by rw [List.any_map]; rfl
    unfold remAt at hd
    rw [hany] at hd
    refine .inr ⟨j, x, h1, h2, (Go.MapKept.bytes_beq _ _).1 h3, ?_⟩
    cases ha : l.any fun y : PV => asksM y.mod name with
    | true =>
      rw [ha, if_pos rfl] at hd
      obtain ⟨y, hy, hy2⟩ := List.any_eq_true.1 ha
      exact .inl ⟨⟨y, hy, hy2⟩, hd⟩
    | false =>
      rw [ha, if_neg (by decide)] at hd
      refine .inr ⟨fun y hy => ?_, by rw [map_erase]; exact hd⟩
      have := List.any_eq_false.1 ha y hy
      simpa using this

set_option maxHeartbeats 64000000 in
theorem remOf_any (K : Ker) (l : List PV) (v : Value) (name : ByteArray) (w : World) (h : IsReg w.heap.size w v K l) (hf : K.fits) (hfit : ∀ x ∈ l, x.mod.fits) (h0 : chkRg K (l.map PV.plc) = 0) :
    Calls Tryz.prog 11 #[v, .string name] w fun e w' => (∃ (v' : Value) (l' : List PV), e = .returned (.tuple #[v', .int .i64 (planRes K (l.map PV.plc) (remDo (l.map PV.plc) name)).2]) ∧ l'.map PV.plc = (planRes K (l.map PV.plc) (remDo (l.map PV.plc) name)).1.2 ∧ IsReg w'.heap.size w' v' (planRes K (l.map PV.plc) (remDo (l.map PV.plc) name)).1.1 l') ∧ Below w.heap.size w w' := by
  have hr0 := rg_reg h0
  have hl8 : l.length ≤ 8 := by
    rcases freeRes_cases (l.map PV.plc) with ⟨g, _⟩ | ⟨_, g, _⟩
    · exact absurd hr0 g
    · simpa using g
  have hpr := planRes_zero (D := remDo (l.map PV.plc) name) h0
  have key := rem_doc l name
  have HRG : Hid (∀ (l2 : List PV) v2 W, IsReg W.heap.size W v2 K l2 → (∀ x ∈ l2, x.mod.fits) → Calls Tryz.prog 9 #[v2] W fun e w' => e = .returned (.int .i64 (chkRg K (l2.map PV.plc))) ∧ Below W.heap.size W w') := fun l2 v2 W hr hft => checkRegistry_any K l2 v2 W hr hf hft
  have HFITS : Hid (∀ j : Nat, ∀ y ∈ l.eraseIdx j, y.mod.fits) := fun j y hy => hfit y (List.mem_of_mem_eraseIdx hy)
  obtain ⟨ve, vl, rfl, hE, hL⟩ := h
  have HEX : Hid (RowOf 2 Exp.cell w.heap.size w ve K.exps) := hE
  have HPO : Hid (∀ W, Below w.heap.size w W → Calls Tryz.prog 50 #[vl, .string name] W fun e w' => e = .returned (.int .i64 (ixFrom (fun z : PV => z.mod.name == name) 0 l)) ∧ Below W.heap.size W w') := fun W hb => by
    have := placeOf_any l vl name W ((hL.1.below hb).more hb.size)
    rw [idx_ix] at this
    exact this
  have HDI : Hid (∀ (i k : Nat) (x y : PV), l[i]? = some x → l[k]? = some y → ∀ W, Below w.heap.size w W → Calls Tryz.prog 54 #[vl, .int .i64 i, .int .i64 k] W fun e w' => e = .returned (.bool (asksM x.mod y.mod.name)) ∧ Below W.heap.size W w') := fun i k x y hx hy W hb => direct_any l vl i k x y hx hy W ((hL.below hb).more hb.size)
  have HWO : Hid (∀ (n : Nat) W, Below w.heap.size w W → Calls Tryz.prog 55 #[vl, .int .i64 n] W fun e w' => (∃ v', e = .returned v' ∧ IsPlcs w'.heap.size w' v' (l.eraseIdx n)) ∧ Below W.heap.size W w') := fun n W hb => without_any l vl n W ((hL.below hb).more hb.size) (by omega)
  obtain ⟨qe, je, rfl, -, -⟩ := hE
  obtain ⟨⟨a, cap, rfl, -, -⟩, -⟩ := hL
  clear hf hfit h0 hr0
  generalize hlk : K.exps.length = lk at *
  have HLK : Hid (K.exps.length = lk) := hlk
  clear hlk
  generalize planRes K (l.map PV.plc) (remDo (l.map PV.plc) name) = PR at *
  have HB0 : Hid (Below w.heap.size w w) := Below.refl _ _
  rcases key with ⟨hix, hd⟩ | ⟨j, x, hix, hjx, hxn, hk⟩
  · have HPR : Hid (PR = ((emptyK, []), 5)) := by
      show PR = _
      rw [hpr, hd]
      exact if_pos (by decide)
    clear hpr hd
    go_enter Tryz.func11, Tryz.ntmps11
    have ba : Below w.heap.size w (w.alloc (.cells #[.int .i64 K.major, .int .i64 K.minor, .slice qe lk je, .slice a l.length cap] 27)) := (Below.refl _ _).alloc (Nat.le_refl _) _
    have olw_g1 : w.heap.size ≤ w.heap.size := HB0.out.size
    have HB1 : Hid (Below w.heap.size w (w.alloc (.cells #[.int .i64 K.major, .int .i64 K.minor, .slice qe lk je, .slice a l.length cap] 27))) := HB0.out.trans (ba.mono HB0.out.size)
    clear HB0
    clear ba
    have HC2_g1 : Hid (CellsAt (w.alloc (.cells #[.int .i64 K.major, .int .i64 K.minor, .slice qe lk je, .slice a l.length cap] 27)) w.heap.size 27 #[.int .i64 K.major, .int .i64 K.minor, .slice qe lk je, .slice a l.length cap]) := CellsAt.new _ _ _
    have ba : Below (w.alloc (.cells #[.int .i64 K.major, .int .i64 K.minor, .slice qe lk je, .slice a l.length cap] 27)).heap.size (w.alloc (.cells #[.int .i64 K.major, .int .i64 K.minor, .slice qe lk je, .slice a l.length cap] 27)) ((w.alloc (.cells #[.int .i64 K.major, .int .i64 K.minor, .slice qe lk je, .slice a l.length cap] 27)).alloc (.cells #[.int .i64 0, .int .i64 0, .slice none 0 0, .slice none 0 0] 27)) := (Below.refl _ _).alloc (Nat.le_refl _) _
    have ol_g1_g3 : w.heap.size < (w.alloc (.cells #[.int .i64 K.major, .int .i64 K.minor, .slice qe lk je, .slice a l.length cap] 27)).heap.size := CellsAt.lt HC2_g1.out
    have olw_g3 : w.heap.size ≤ (w.alloc (.cells #[.int .i64 K.major, .int .i64 K.minor, .slice qe lk je, .slice a l.length cap] 27)).heap.size := HB1.out.size
    have HB3 : Hid (Below w.heap.size w ((w.alloc (.cells #[.int .i64 K.major, .int .i64 K.minor, .slice qe lk je, .slice a l.length cap] 27)).alloc (.cells #[.int .i64 0, .int .i64 0, .slice none 0 0, .slice none 0 0] 27))) := HB1.out.trans (ba.mono HB1.out.size)
    have HC3_g1 : Hid (CellsAt ((w.alloc (.cells #[.int .i64 K.major, .int .i64 K.minor, .slice qe lk je, .slice a l.length cap] 27)).alloc (.cells #[.int .i64 0, .int .i64 0, .slice none 0 0, .slice none 0 0] 27)) w.heap.size 27 #[.int .i64 K.major, .int .i64 K.minor, .slice qe lk je, .slice a l.length cap]) := HC2_g1.out.below ba HC2_g1.out.lt
    clear HB1 HC2_g1
    clear ba
    have HC4_g3 : Hid (CellsAt ((w.alloc (.cells #[.int .i64 K.major, .int .i64 K.minor, .slice qe lk je, .slice a l.length cap] 27)).alloc (.cells #[.int .i64 0, .int .i64 0, .slice none 0 0, .slice none 0 0] 27)) (w.alloc (.cells #[.int .i64 K.major, .int .i64 K.minor, .slice qe lk je, .slice a l.length cap] 27)).heap.size 27 #[.int .i64 0, .int .i64 0, .slice none 0 0, .slice none 0 0]) := CellsAt.new _ _ _
    rw [World.size_alloc] at HC4_g3
    clear ol_g1_g3 olw_g3 olw_g1
    go_upto_region 1 with fail
    generalize ((w.alloc (.cells #[.int .i64 K.major, .int .i64 K.minor, .slice qe lk je, .slice a l.length cap] 27)).alloc (.cells #[.int .i64 0, .int .i64 0, .slice none 0 0, .slice none 0 0] 27)) = w1 at *
    have rg10 := CellsAt.cell HC3_g1.out 0
    have rg11 := CellsAt.cell HC3_g1.out 1
    have rg12 := CellsAt.cell HC3_g1.out 2
    have rg13 := CellsAt.cell HC3_g1.out 3
    have rg1l := CellsAt.lt HC3_g1.out
    simp at rg10 rg11 rg12 rg13
    go_wp2_with fail
    clear rg10 rg11 rg12 rg13 rg1l
    refine (HPO.out _ HB3.out).mono ?_
    rw [hix]
    rintro e w2 ⟨rfl, b2⟩
    have HB5 : Hid (Below w.heap.size w w2) := HB3.out.trans (b2.mono HB3.out.size)
    have HC5_g1 : Hid (CellsAt w2 w.heap.size 27 #[.int .i64 K.major, .int .i64 K.minor, .slice qe lk je, .slice a l.length cap]) := HC3_g1.out.below b2 HC3_g1.out.lt
    have HC5_g3 : Hid (CellsAt w2 (w.heap.size + 1) 27 #[.int .i64 0, .int .i64 0, .slice none 0 0, .slice none 0 0]) := HC4_g3.out.below b2 HC4_g3.out.lt
    clear HB3 HC3_g1 HC4_g3
    clear b2 HPO
    have rg30 := CellsAt.cell HC5_g3.out 0
    have rg31 := CellsAt.cell HC5_g3.out 1
    have rg32 := CellsAt.cell HC5_g3.out 2
    have rg33 := CellsAt.cell HC5_g3.out 3
    have fg30 := CellsAt.frozen HC5_g3.out 0
    have fg31 := CellsAt.frozen HC5_g3.out 1
    have fg32 := CellsAt.frozen HC5_g3.out 2
    have fg33 := CellsAt.frozen HC5_g3.out 3
    have rg3l := CellsAt.lt HC5_g3.out
    simp at rg30 rg31 rg32 rg33
    have rg10 := CellsAt.cell HC5_g1.out 0
    have rg11 := CellsAt.cell HC5_g1.out 1
    have rg12 := CellsAt.cell HC5_g1.out 2
    have rg13 := CellsAt.cell HC5_g1.out 3
    have rg1l := CellsAt.lt HC5_g1.out
    simp at rg10 rg11 rg12 rg13
    have hgl := HB5.out.size
    go_wp2
    have hZ9 := sets4 HC5_g3.out (.int .i64 0) (.int .i64 0) (.slice none 0 0) (.slice none 0 0)
    have hG9 := sets4_grown w2 (w.heap.size + 1) (.int .i64 0) (.int .i64 0) (.slice none 0 0) (.slice none 0 0)
    have hB9 := HB5.out.grown hG9 HB5.out.size (fun q hq => by obtain rfl := Option.some.inj hq; omega)
    refine bodyPost_ret (results_cell_tmp_row rfl _ _ _ _ _ _ _ rfl hZ9 Tryz.underlying27 rfl (by kernel_rfl)) rfl ?_
    rw [HPR.out]
    exact ⟨⟨_, [], rfl, rfl, zero_isReg _ _⟩, hB9⟩
  · have HJX : Hid (l[j]? = some x) := hjx
    have HXN : Hid (x.mod.name = name) := hxn
    have hjl : j < l.length := (List.getElem?_eq_some_iff.1 hjx).1
    have HK : Hid _ := hk
    clear hjx hxn hk
    have hj0 : decide ((j : Int) < 0) = false := decide_eq_false (by omega)
    go_enter Tryz.func11, Tryz.ntmps11
    have ba : Below w.heap.size w (w.alloc (.cells #[.int .i64 K.major, .int .i64 K.minor, .slice qe lk je, .slice a l.length cap] 27)) := (Below.refl _ _).alloc (Nat.le_refl _) _
    have olw_g1 : w.heap.size ≤ w.heap.size := HB0.out.size
    have HB1 : Hid (Below w.heap.size w (w.alloc (.cells #[.int .i64 K.major, .int .i64 K.minor, .slice qe lk je, .slice a l.length cap] 27))) := HB0.out.trans (ba.mono HB0.out.size)
    clear HB0
    clear ba
    have HC2_g1 : Hid (CellsAt (w.alloc (.cells #[.int .i64 K.major, .int .i64 K.minor, .slice qe lk je, .slice a l.length cap] 27)) w.heap.size 27 #[.int .i64 K.major, .int .i64 K.minor, .slice qe lk je, .slice a l.length cap]) := CellsAt.new _ _ _
    have ba : Below (w.alloc (.cells #[.int .i64 K.major, .int .i64 K.minor, .slice qe lk je, .slice a l.length cap] 27)).heap.size (w.alloc (.cells #[.int .i64 K.major, .int .i64 K.minor, .slice qe lk je, .slice a l.length cap] 27)) ((w.alloc (.cells #[.int .i64 K.major, .int .i64 K.minor, .slice qe lk je, .slice a l.length cap] 27)).alloc (.cells #[.int .i64 0, .int .i64 0, .slice none 0 0, .slice none 0 0] 27)) := (Below.refl _ _).alloc (Nat.le_refl _) _
    have ol_g1_g3 : w.heap.size < (w.alloc (.cells #[.int .i64 K.major, .int .i64 K.minor, .slice qe lk je, .slice a l.length cap] 27)).heap.size := CellsAt.lt HC2_g1.out
    have olw_g3 : w.heap.size ≤ (w.alloc (.cells #[.int .i64 K.major, .int .i64 K.minor, .slice qe lk je, .slice a l.length cap] 27)).heap.size := HB1.out.size
    have HB3 : Hid (Below w.heap.size w ((w.alloc (.cells #[.int .i64 K.major, .int .i64 K.minor, .slice qe lk je, .slice a l.length cap] 27)).alloc (.cells #[.int .i64 0, .int .i64 0, .slice none 0 0, .slice none 0 0] 27))) := HB1.out.trans (ba.mono HB1.out.size)
    have HC3_g1 : Hid (CellsAt ((w.alloc (.cells #[.int .i64 K.major, .int .i64 K.minor, .slice qe lk je, .slice a l.length cap] 27)).alloc (.cells #[.int .i64 0, .int .i64 0, .slice none 0 0, .slice none 0 0] 27)) w.heap.size 27 #[.int .i64 K.major, .int .i64 K.minor, .slice qe lk je, .slice a l.length cap]) := HC2_g1.out.below ba HC2_g1.out.lt
    clear HB1 HC2_g1
    clear ba
    have HC4_g3 : Hid (CellsAt ((w.alloc (.cells #[.int .i64 K.major, .int .i64 K.minor, .slice qe lk je, .slice a l.length cap] 27)).alloc (.cells #[.int .i64 0, .int .i64 0, .slice none 0 0, .slice none 0 0] 27)) (w.alloc (.cells #[.int .i64 K.major, .int .i64 K.minor, .slice qe lk je, .slice a l.length cap] 27)).heap.size 27 #[.int .i64 0, .int .i64 0, .slice none 0 0, .slice none 0 0]) := CellsAt.new _ _ _
    rw [World.size_alloc] at HC4_g3
    clear ol_g1_g3 olw_g3 olw_g1
    go_upto_region 1 with fail
    generalize ((w.alloc (.cells #[.int .i64 K.major, .int .i64 K.minor, .slice qe lk je, .slice a l.length cap] 27)).alloc (.cells #[.int .i64 0, .int .i64 0, .slice none 0 0, .slice none 0 0] 27)) = w1 at *
    have rg10 := CellsAt.cell HC3_g1.out 0
    have rg11 := CellsAt.cell HC3_g1.out 1
    have rg12 := CellsAt.cell HC3_g1.out 2
    have rg13 := CellsAt.cell HC3_g1.out 3
    have rg1l := CellsAt.lt HC3_g1.out
    simp at rg10 rg11 rg12 rg13
    go_wp2_with fail
    clear rg10 rg11 rg12 rg13 rg1l
    refine (HPO.out _ HB3.out).mono ?_
    rw [hix]
    rintro e w2 ⟨rfl, b2⟩
    have HB5 : Hid (Below w.heap.size w w2) := HB3.out.trans (b2.mono HB3.out.size)
    have HC5_g1 : Hid (CellsAt w2 w.heap.size 27 #[.int .i64 K.major, .int .i64 K.minor, .slice qe lk je, .slice a l.length cap]) := HC3_g1.out.below b2 HC3_g1.out.lt
    have HC5_g3 : Hid (CellsAt w2 (w.heap.size + 1) 27 #[.int .i64 0, .int .i64 0, .slice none 0 0, .slice none 0 0]) := HC4_g3.out.below b2 HC4_g3.out.lt
    clear HB3 HC3_g1 HC4_g3
    clear b2 HPO
    have rg10 := CellsAt.cell HC5_g1.out 0
    have rg11 := CellsAt.cell HC5_g1.out 1
    have rg12 := CellsAt.cell HC5_g1.out 2
    have rg13 := CellsAt.cell HC5_g1.out 3
    have rg1l := CellsAt.lt HC5_g1.out
    simp at rg10 rg11 rg12 rg13
    go_upto_region 5 with fail
    clear rg10 rg11 rg12 rg13 rg1l
    go_loopw [7] (fun i wr => ∃ (k : Nat), k ≤ l.length ∧ i = .int .i64 k ∧ Hid (∀ (q : Nat) (y : PV), q < k → l[q]? = some y → asksM y.mod name = false) ∧ Hid (Below w.heap.size w wr) ∧ Hid (CellsAt wr w.heap.size 27 #[.int .i64 K.major, .int .i64 K.minor, .slice qe lk je, .slice a l.length cap]) ∧ Hid (CellsAt wr (w.heap.size + 1) 27 #[.int .i64 0, .int .i64 0, .slice none 0 0, .slice none 0 0])) (fun i _ => l.length - (intOf i).toNat)
    case atStart => exact ⟨0, Nat.zero_le _, rfl, fun q y hq _ => absurd hq (by omega), HB5, HC5_g1, HC5_g3⟩
    case round =>
      clear HB5 HC5_g1 HC5_g3
      obtain ⟨k, hk, rfl, HNO, HBr, HCr1, HCr3⟩ := hrel
      by_cases hlt : k < l.length
      · obtain ⟨y, hy⟩ : ∃ y, l[k]? = some y := ⟨_, List.getElem?_eq_getElem hlt⟩
        have HDY : Hid _ := HDI.out k j y x hy HJX.out
        have HY : Hid (l[k]? = some y) := hy
        clear hy
        have hkl : (k : Int) < (l.length : Int) := by omega
        have rg10 := CellsAt.cell HCr1.out 0
        have rg11 := CellsAt.cell HCr1.out 1
        have rg12 := CellsAt.cell HCr1.out 2
        have rg13 := CellsAt.cell HCr1.out 3
        have rg1l := CellsAt.lt HCr1.out
        simp at rg10 rg11 rg12 rg13
        go_wp2_with fail
        clear rg10 rg11 rg12 rg13 rg1l
        refine Calls.mono (HDY.out _ HBr.out) ?_
        rw [HXN.out]
        rintro e w3 ⟨rfl, b3⟩
        have HB6 : Hid (Below w.heap.size w w3) := HBr.out.trans (b3.mono HBr.out.size)
        have HC6_g1 : Hid (CellsAt w3 w.heap.size 27 #[.int .i64 K.major, .int .i64 K.minor, .slice qe lk je, .slice a l.length cap]) := HCr1.out.below b3 HCr1.out.lt
        have HC6_g3 : Hid (CellsAt w3 (w.heap.size + 1) 27 #[.int .i64 0, .int .i64 0, .slice none 0 0, .slice none 0 0]) := HCr3.out.below b3 HCr3.out.lt
        clear HBr HCr1 HCr3
        clear b3 HDY
        cases hask : asksM y.mod name
        · have HN2 : Hid (∀ (q : Nat) (z : PV), q < k + 1 → l[q]? = some z → asksM z.mod name = false) := fun q z hq hz => by
            by_cases hqk : q = k
            · subst hqk
              rw [HY.out] at hz
              obtain rfl := Option.some.inj hz
              exact hask
            · exact HNO.out q z (by omega) hz
          have rg10 := CellsAt.cell HC6_g1.out 0
          have rg11 := CellsAt.cell HC6_g1.out 1
          have rg12 := CellsAt.cell HC6_g1.out 2
          have rg13 := CellsAt.cell HC6_g1.out 3
          have rg1l := CellsAt.lt HC6_g1.out
          simp at rg10 rg11 rg12 rg13
          go_wp2_with fail
          clear rg10 rg11 rg12 rg13 rg1l
          exact ⟨⟨k + 1, by omega, by go_num, HN2, HB6, HC6_g1, HC6_g3⟩, by simp [intOf]; omega⟩
        · have HPR : Hid (PR = ((emptyK, []), 4)) := by
            show PR = _
            rcases HK.out with ⟨_, hd⟩ | ⟨hn, _⟩
            · rw [hpr, hd]
              exact if_pos (by decide)
            · rw [hn y (List.mem_of_getElem? HY.out)] at hask
              cases hask
          have rg30 := CellsAt.cell HC6_g3.out 0
          have rg31 := CellsAt.cell HC6_g3.out 1
          have rg32 := CellsAt.cell HC6_g3.out 2
          have rg33 := CellsAt.cell HC6_g3.out 3
          have fg30 := CellsAt.frozen HC6_g3.out 0
          have fg31 := CellsAt.frozen HC6_g3.out 1
          have fg32 := CellsAt.frozen HC6_g3.out 2
          have fg33 := CellsAt.frozen HC6_g3.out 3
          have rg3l := CellsAt.lt HC6_g3.out
          simp at rg30 rg31 rg32 rg33
          have rg10 := CellsAt.cell HC6_g1.out 0
          have rg11 := CellsAt.cell HC6_g1.out 1
          have rg12 := CellsAt.cell HC6_g1.out 2
          have rg13 := CellsAt.cell HC6_g1.out 3
          have rg1l := CellsAt.lt HC6_g1.out
          simp at rg10 rg11 rg12 rg13
          have hgl := HB6.out.size
          go_wp2
          have hZ9 := sets4 HC6_g3.out (.int .i64 0) (.int .i64 0) (.slice none 0 0) (.slice none 0 0)
          have hG9 := sets4_grown w3 (w.heap.size + 1) (.int .i64 0) (.int .i64 0) (.slice none 0 0) (.slice none 0 0)
          have hB9 := HB6.out.grown hG9 HB6.out.size (fun q hq => by obtain rfl := Option.some.inj hq; omega)
          refine bodyPost_ret (results_cell_tmp_row rfl _ _ _ _ _ _ _ rfl hZ9 Tryz.underlying27 rfl (by kernel_rfl)) rfl ?_
          rw [HPR.out]
          exact ⟨⟨_, [], rfl, rfl, zero_isReg _ _⟩, hB9⟩
      · obtain rfl : k = l.length := by omega
        have HALL : Hid (∀ y ∈ l, asksM y.mod name = false) := fun y hy => by
          obtain ⟨q, hq, rfl⟩ := List.getElem_of_mem hy
          exact HNO.out q _ hq (List.getElem?_eq_getElem hq)
        have HPR : Hid (PR = if chkRg K ((l.eraseIdx j).map PV.plc) ≠ 0 then ((emptyK, []), chkRg K ((l.eraseIdx j).map PV.plc)) else ((K, (l.eraseIdx j).map PV.plc), 0)) := by
          show PR = _
          rcases HK.out with ⟨⟨y, hy, hy2⟩, _⟩ | ⟨_, hd⟩
          · rw [HALL.out y hy] at hy2
            cases hy2
          · rw [hpr, hd, if_neg (fun h => h rfl)]
        have HFX := HFITS.out j
        have HFX : Hid (∀ y ∈ l.eraseIdx j, y.mod.fits) := HFX
        have HWF : Hid _ := HWO.out j
        clear HWO HFITS HALL HNO hpr HK HDI HJX HXN hk
        generalize hl2 : l.eraseIdx j = l2 at *
        clear hl2
        have rg10 := CellsAt.cell HCr1.out 0
        have rg11 := CellsAt.cell HCr1.out 1
        have rg12 := CellsAt.cell HCr1.out 2
        have rg13 := CellsAt.cell HCr1.out 3
        have fg10 := CellsAt.frozen HCr1.out 0
        have fg11 := CellsAt.frozen HCr1.out 1
        have fg12 := CellsAt.frozen HCr1.out 2
        have fg13 := CellsAt.frozen HCr1.out 3
        have rg1l := CellsAt.lt HCr1.out
        simp at rg10 rg11 rg12 rg13
        have hlt2 : ¬ ((l.length : Int) < (l.length : Int)) := by omega
        go_wp2_with fail
        clear rg10 rg11 rg12 rg13 rg1l fg10 fg11 fg12 fg13
        refine Calls.mono (HWF.out _ HBr.out) ?_
        rintro e w5 ⟨⟨v5, rfl, hp5⟩, b5⟩
        have HB6 : Hid (Below w.heap.size w w5) := HBr.out.trans (b5.mono HBr.out.size)
        have HC6_g1 : Hid (CellsAt w5 w.heap.size 27 #[.int .i64 K.major, .int .i64 K.minor, .slice qe lk je, .slice a l.length cap]) := HCr1.out.below b5 HCr1.out.lt
        have HC6_g3 : Hid (CellsAt w5 (w.heap.size + 1) 27 #[.int .i64 0, .int .i64 0, .slice none 0 0, .slice none 0 0]) := HCr3.out.below b5 HCr3.out.lt
        clear HBr HCr1 HCr3
        clear b5 HWF
        obtain ⟨a5, c5, rfl⟩ : ∃ a5 c5, v5 = .slice a5 l2.length c5 := by obtain ⟨⟨a5, c5, h, _⟩, _⟩ := hp5; exact ⟨a5, c5, h⟩
        have hbw := HB6.out.size
        have HIN5 : Hid (IsReg w5.heap.size w5 (.agg #[.int .i64 K.major, .int .i64 K.minor, .slice qe lk je, .slice a5 l2.length c5]) K l2) := ⟨_, _, rfl, (HEX.out.below HB6.out).more HB6.out.size, hp5⟩
        have HIN6 : Hid (IsReg (w5.setCell ⟨w.heap.size, 3, none⟩ (.slice a5 l2.length c5)).heap.size (w5.setCell ⟨w.heap.size, 3, none⟩ (.slice a5 l2.length c5)) (.agg #[.int .i64 K.major, .int .i64 K.minor, .slice qe lk je, .slice a5 l2.length c5]) K l2) := reg_store HIN5.out HC6_g1.out
        have hG := grown_set w5 w.heap.size 3 (.slice a5 l2.length c5)
        have HCN_g1 : Hid (CellsAt (w5.setCell ⟨w.heap.size, 3, none⟩ (.slice a5 l2.length c5)) w.heap.size 27 #[.int .i64 K.major, .int .i64 K.minor, .slice qe lk je, .slice a5 l2.length c5]) := by
          have := CellsAt.set 3 (.slice a5 l2.length c5) HC6_g1.out
          simp only [List.setIfInBounds_toArray, List.set_cons_zero, List.set_cons_succ] at this
          exact this
        have HCN_g3 : Hid (CellsAt (w5.setCell ⟨w.heap.size, 3, none⟩ (.slice a5 l2.length c5)) (w.heap.size + 1) 27 #[.int .i64 0, .int .i64 0, .slice none 0 0, .slice none 0 0]) := HC6_g3.out.kept hG (by intro e; have := Option.some.inj e; omega)
        have HBN : Hid (Below w.heap.size w (w5.setCell ⟨w.heap.size, 3, none⟩ (.slice a5 l2.length c5))) := HB6.out.grown hG HB6.out.size (fun q hq => by obtain rfl := Option.some.inj hq; omega)
        have rg10 := CellsAt.cell HC6_g1.out 0
        have rg11 := CellsAt.cell HC6_g1.out 1
        have rg12 := CellsAt.cell HC6_g1.out 2
        have rg13 := CellsAt.cell HC6_g1.out 3
        have fg10 := CellsAt.frozen HC6_g1.out 0
        have fg11 := CellsAt.frozen HC6_g1.out 1
        have fg12 := CellsAt.frozen HC6_g1.out 2
        have fg13 := CellsAt.frozen HC6_g1.out 3
        have rg1l := CellsAt.lt HC6_g1.out
        simp at rg10 rg11 rg12 rg13
        have rq0 := CellsAt.cell HCN_g1.out 0
        have rq1 := CellsAt.cell HCN_g1.out 1
        have rq2 := CellsAt.cell HCN_g1.out 2
        have rq3 := CellsAt.cell HCN_g1.out 3
        simp at rq0 rq1 rq2 rq3
        go_wp2_with fail
        clear rg10 rg11 rg12 rg13 rg1l fg10 fg11 fg12 fg13
        clear rq0 rq1 rq2 rq3 hG
        generalize (w5.setCell ⟨w.heap.size, 3, none⟩ (.slice a5 l2.length c5)) = w6 at *
        clear HC6_g1 HC6_g3 HB6 HIN5
        refine (HRG.out l2 _ _ HIN6.out HFX.out).mono ?_
        rintro e w7 ⟨rfl, b7⟩
        have HB17 : Hid (Below w.heap.size w w7) := HBN.out.trans (b7.mono HBN.out.size)
        have HC17_g1 : Hid (CellsAt w7 w.heap.size 27 #[.int .i64 K.major, .int .i64 K.minor, .slice qe lk je, .slice a5 l2.length c5]) := HCN_g1.out.below b7 HCN_g1.out.lt
        have HC17_g3 : Hid (CellsAt w7 (w.heap.size + 1) 27 #[.int .i64 0, .int .i64 0, .slice none 0 0, .slice none 0 0]) := HCN_g3.out.below b7 HCN_g3.out.lt
        have HR17_x : Hid (IsReg w7.heap.size w7 (.agg #[.int .i64 K.major, .int .i64 K.minor, .slice qe lk je, .slice a5 l2.length c5]) K l2) := (HIN6.out.below b7).more b7.size
        clear HBN HCN_g1 HCN_g3 HIN6
        clear b7 HFX HRG
        generalize hcr : chkRg K (l2.map PV.plc) = cr at *
        by_cases hz : cr = 0
        · subst hz
          have rg30 := CellsAt.cell HC17_g3.out 0
          have rg31 := CellsAt.cell HC17_g3.out 1
          have rg32 := CellsAt.cell HC17_g3.out 2
          have rg33 := CellsAt.cell HC17_g3.out 3
          have fg30 := CellsAt.frozen HC17_g3.out 0
          have fg31 := CellsAt.frozen HC17_g3.out 1
          have fg32 := CellsAt.frozen HC17_g3.out 2
          have fg33 := CellsAt.frozen HC17_g3.out 3
          have rg3l := CellsAt.lt HC17_g3.out
          simp at rg30 rg31 rg32 rg33
          have rg10 := CellsAt.cell HC17_g1.out 0
          have rg11 := CellsAt.cell HC17_g1.out 1
          have rg12 := CellsAt.cell HC17_g1.out 2
          have rg13 := CellsAt.cell HC17_g1.out 3
          have rg1l := CellsAt.lt HC17_g1.out
          simp at rg10 rg11 rg12 rg13
          have hgl := HB17.out.size
          go_wp2
          have hZ9 := sets4 HC17_g3.out (.int .i64 K.major) (.int .i64 K.minor) (.slice qe lk je) (.slice a5 l2.length c5)
          have hG9 := sets4_grown w7 (w.heap.size + 1) (.int .i64 K.major) (.int .i64 K.minor) (.slice qe lk je) (.slice a5 l2.length c5)
          have hB9 := HB17.out.grown hG9 HB17.out.size (fun q hq => by obtain rfl := Option.some.inj hq; omega)
          refine bodyPost_ret (results_cell_tmp_row rfl _ _ _ _ _ _ _ rfl hZ9 Tryz.underlying27 rfl (by kernel_rfl)) rfl ?_
          rw [HPR.out]
          exact ⟨⟨_, l2, rfl, rfl, (HR17_x.out.apart4 hG9 (Nat.le_refl _) HC17_g3.out).more hG9.size⟩, hB9⟩
        · have hz' : (cr != 0) = true := by simpa using hz
          have rg30 := CellsAt.cell HC17_g3.out 0
          have rg31 := CellsAt.cell HC17_g3.out 1
          have rg32 := CellsAt.cell HC17_g3.out 2
          have rg33 := CellsAt.cell HC17_g3.out 3
          have fg30 := CellsAt.frozen HC17_g3.out 0
          have fg31 := CellsAt.frozen HC17_g3.out 1
          have fg32 := CellsAt.frozen HC17_g3.out 2
          have fg33 := CellsAt.frozen HC17_g3.out 3
          have rg3l := CellsAt.lt HC17_g3.out
          simp at rg30 rg31 rg32 rg33
          have rg10 := CellsAt.cell HC17_g1.out 0
          have rg11 := CellsAt.cell HC17_g1.out 1
          have rg12 := CellsAt.cell HC17_g1.out 2
          have rg13 := CellsAt.cell HC17_g1.out 3
          have rg1l := CellsAt.lt HC17_g1.out
          simp at rg10 rg11 rg12 rg13
          have hgl := HB17.out.size
          go_wp2
          have hZ9 := sets4 HC17_g3.out (.int .i64 0) (.int .i64 0) (.slice none 0 0) (.slice none 0 0)
          have hG9 := sets4_grown w7 (w.heap.size + 1) (.int .i64 0) (.int .i64 0) (.slice none 0 0) (.slice none 0 0)
          have hB9 := HB17.out.grown hG9 HB17.out.size (fun q hq => by obtain rfl := Option.some.inj hq; omega)
          refine bodyPost_ret (results_cell_tmp_row rfl _ _ _ _ _ _ _ rfl hZ9 Tryz.underlying27 rfl (by kernel_rfl)) rfl ?_
          rw [HPR.out, if_pos hz]
          exact ⟨⟨_, [], rfl, rfl, zero_isReg _ _⟩, hB9⟩

end Go.Proofs.YtlpnfbpgnfappaaGreat

/- What the document's UpgradeOf asks, as data. -/
namespace Go.Proofs.YtlpnfbpgnfappaaGreat
open Go.RowKit Go.PlainAid Go.Lib

/-- It fits where the old one was. -/
def FitsAt (R : List PV) (M : Mod) (fx : Int) : Prop := fx + (szM M : Int) ≤ 16 ∧ ∀ q ∈ R, ¬ (fx < q.first ∧ q.first < fx + (szM M : Int))
theorem up_doc (l : List PV) (M : Mod) (h0 : chkReg (l.map PV.plc) = 0) :
    (chkMod M ≠ 0 ∧ upDo (l.map PV.plc) M = ([], chkMod M)) ∨
    (chkMod M = 0 ∧ ixFrom (fun x : PV => x.mod.name == M.name) 0 l = -1 ∧ upDo (l.map PV.plc) M = ([], 5)) ∨
    (chkMod M = 0 ∧ ∃ (j : Nat) (x : PV), ixFrom (fun x : PV => x.mod.name == M.name) 0 l = (j : Int) ∧ l[j]? = some x ∧ 0 ≤ x.first ∧ x.first ≤ 16 ∧ chkReg ((l.eraseIdx j).map PV.plc) = 0 ∧
      ((FitsAt (l.eraseIdx j) M x.first ∧ upDo (l.map PV.plc) M = (putAt ((l.eraseIdx j).map PV.plc) ⟨M, x.first⟩, 0)) ∨
       (¬ FitsAt (l.eraseIdx j) M x.first ∧ fitRes (fitOf (szM M) (runsFrom 0 ((l.eraseIdx j).map PV.plc))) = -1 ∧ upDo (l.map PV.plc) M = ([], 8)) ∨
       (¬ FitsAt (l.eraseIdx j) M x.first ∧ ∃ f, 0 ≤ f ∧ fitRes (fitOf (szM M) (runsFrom 0 ((l.eraseIdx j).map PV.plc))) = f ∧ upDo (l.map PV.plc) M = (putAt ((l.eraseIdx j).map PV.plc) ⟨M, f⟩, 0)))) := by
  rcases up_cases l M h0 with h | h | ⟨hc, j, x, h1, h2, h3, h4, h5, _⟩
  · exact .inl h
  · exact .inr (.inl h)
  · have hp : (l.map PV.plc)[j]? = some x.plc := by rw [List.getElem?_map, h2]; rfl
    have hd := upDo_at hc (n := j) (by rw [nameIx_pv]; exact h1) hp
    have hs := szM_bd hc
    have hr := room_doc (many := (szM M : Int)) h0 hp (by omega)
    rw [← map_erase] at hd hr
    have hfit : (((runsFrom 0 ((l.eraseIdx j).map PV.plc)).any fun r => decide (r.1 ≤ x.plc.first) && decide (x.plc.first + (szM M : Int) ≤ r.1 + r.2)) = true) ↔ FitsAt (l.eraseIdx j) M x.first := by
      rw [hr]
      refine ⟨fun ⟨g1, g2⟩ => ⟨g1, fun q hq => g2 q.plc (List.mem_map_of_mem hq)⟩, fun ⟨g1, g2⟩ => ⟨g1, fun q hq => ?_⟩⟩
      obtain ⟨y, hy, rfl⟩ := List.mem_map.1 hq
      exact g2 y hy
    refine .inr (.inr ⟨hc, j, x, h1, h2, h3, h4, h5, ?_⟩)
    unfold roomOf at hd
    by_cases hF : FitsAt (l.eraseIdx j) M x.first
    · rw [if_pos (hfit.2 hF)] at hd
      exact .inl ⟨hF, hd⟩
    · rw [if_neg (fun g => hF (hfit.1 g))] at hd
      right
      cases hq : fitOf (szM M : Int) (runsFrom 0 ((l.eraseIdx j).map PV.plc)) with
      | none =>
        rw [hq] at hd
        exact .inl ⟨hF, rfl, hd⟩
      | some r =>
        rw [hq] at hd
        exact .inr ⟨hF, r.1, (fit_ge h5 hq).1, rfl, hd⟩

end Go.Proofs.YtlpnfbpgnfappaaGreat

/- The contract of the document's UpgradeOf, of a registry that is right. Printed by genptg.py. -/
namespace Go.Proofs.YtlpnfbpgnfappaaGreat
open Go.RowKit Go.PlainAid Go.Lib Go.Sort Go.BigFrame

set_option maxRecDepth 100000

set_option maxHeartbeats 64000000 in
theorem upOf_any (K : Ker) (l : List PV) (v : Value) (M : Mod) (vm : Value) (w : World) (h : IsReg w.heap.size w v K l) (hf : K.fits) (hfit : ∀ x ∈ l, x.mod.fits) (hm : IsMod w.heap.size w vm M) (hmf : M.fits) (h0 : chkRg K (l.map PV.plc) = 0) :
    Calls Tryz.prog 12 #[v, vm] w fun e w' => (∃ (v' : Value) (l' : List PV), e = .returned (.tuple #[v', .int .i64 (planRes K (l.map PV.plc) (upDo (l.map PV.plc) M)).2]) ∧ l'.map PV.plc = (planRes K (l.map PV.plc) (upDo (l.map PV.plc) M)).1.2 ∧ IsReg w'.heap.size w' v' (planRes K (l.map PV.plc) (upDo (l.map PV.plc) M)).1.1 l') ∧ Below w.heap.size w w' := by
  have hr0 := rg_reg h0
  have hl8 : l.length ≤ 8 := by
    rcases freeRes_cases (l.map PV.plc) with ⟨g, _⟩ | ⟨_, g, _⟩
    · exact absurd hr0 g
    · simpa using g
  have hpr := planRes_zero (D := upDo (l.map PV.plc) M) h0
  have key := up_doc l M hr0
  have HCM : Hid (∀ W, Below w.heap.size w W → Calls Tryz.prog 49 #[vm] W fun e w' => e = .returned (.int .i64 (chkMod M)) ∧ Below W.heap.size W w') := fun W hb => checkModule_any M vm W ((hm.below hb).more hb.size) hmf
  have HRG : Hid (∀ (l2 : List PV) v2 W, IsReg W.heap.size W v2 K l2 → (∀ x ∈ l2, x.mod.fits) → Calls Tryz.prog 9 #[v2] W fun e w' => e = .returned (.int .i64 (chkRg K (l2.map PV.plc))) ∧ Below W.heap.size W w') := fun l2 v2 W hr hft => checkRegistry_any K l2 v2 W hr hf hft
  have HFITS : Hid (∀ (n : Nat) (X : PV), X.mod = M → ∀ y ∈ putV (l.eraseIdx n) X, y.mod.fits) := fun n X hX => putV_fits (fun y hy => hfit y (List.mem_of_mem_eraseIdx hy)) (by rw [hX]; exact hmf)
  obtain ⟨vxe, vxi, vxp, rfl, hxE, hxI, hxP⟩ := hm
  have HPX : Hid (∀ f, PlcAt w.heap.size w ⟨M, vxe, vxi, vxp, f⟩) := fun f => ⟨hxE, hxI, hxP⟩
  obtain ⟨ve, vl, rfl, hE, hL⟩ := h
  have HEX : Hid (RowOf 2 Exp.cell w.heap.size w ve K.exps) := hE
  have HPO : Hid (∀ W, Below w.heap.size w W → Calls Tryz.prog 50 #[vl, .string M.name] W fun e w' => e = .returned (.int .i64 (ixFrom (fun z : PV => z.mod.name == M.name) 0 l)) ∧ Below W.heap.size W w') := fun W hb => by
    have := placeOf_any l vl M.name W ((hL.1.below hb).more hb.size)
    rw [idx_ix] at this
    exact this
  have HFT : Hid (∀ (R : List PV) v2 W, IsPlcs W.heap.size W v2 R → chkReg (R.map PV.plc) = 0 → Calls Tryz.prog 51 #[v2, .int .i64 (szM M : Int)] W fun e w' => e = .returned (.int .i64 (fitRes (fitOf (szM M) (runsFrom 0 (R.map PV.plc))))) ∧ Below W.heap.size W w') := fun R v2 W hp hr => fitOf_any R v2 (szM M) W hp hr
  have HWI : Hid (∀ (R : List PV) v2 f W, R.length ≤ 8 → IsPlcs W.heap.size W v2 R → Below w.heap.size w W → Calls Tryz.prog 53 #[v2, .agg #[.string M.name, .int .i64 M.major, .int .i64 M.minor, .string M.text, vxe, vxi, vxp], .int .i64 f] W fun e w' => (∃ v', e = .returned v' ∧ IsPlcs w'.heap.size w' v' (putV R ⟨M, vxe, vxi, vxp, f⟩)) ∧ Below W.heap.size W w') := fun R v2 f W hR hp hb =>
    with_any R v2 M vxe vxi vxp f W hp (by omega) ⟨(hxE.below hb).more hb.size, (hxI.below hb).more hb.size, (hxP.below hb).more hb.size⟩
  have HWO : Hid (∀ (n : Nat) W, Below w.heap.size w W → Calls Tryz.prog 55 #[vl, .int .i64 n] W fun e w' => (∃ v', e = .returned v' ∧ IsPlcs w'.heap.size w' v' (l.eraseIdx n)) ∧ Below W.heap.size W w') := fun n W hb => without_any l vl n W ((hL.below hb).more hb.size) (by omega)
  obtain ⟨qe, je, rfl, -, -⟩ := hE
  obtain ⟨⟨a, cap, rfl, -, hrow⟩, -⟩ := hL
  obtain ⟨pe, ke, e4, -⟩ := hxE
  obtain ⟨pi, ki, e5, -⟩ := hxI
  obtain ⟨pp, kp, e6, -⟩ := hxP
  subst e4 e5 e6
  have HSZ : Hid (chkMod M = 0 → ∀ W, Calls Tryz.prog 52 #[.agg #[.string M.name, .int .i64 M.major, .int .i64 M.minor, .string M.text, .slice pe M.exps.length ke, .slice pi M.imps.length ki, .slice pp M.pats.length kp]] W fun e w' => e = .returned (.int .i64 (szM M : Int)) ∧ Below W.heap.size W w') := fun hc W =>
    sizeOf_any M.name M.text M.major M.minor pe pi pp M.exps.length ke M.imps.length ki M.pats.length kp W (szM_bd hc).2.2.1
  clear hf hfit hmf h0 hr0
  generalize hlk : K.exps.length = lk at *
  have HLK : Hid (K.exps.length = lk) := hlk
  clear hlk
  generalize M.exps.length = le at *
  generalize M.imps.length = li at *
  generalize M.pats.length = lp at *
  generalize planRes K (l.map PV.plc) (upDo (l.map PV.plc) M) = PR at *
  have HB0 : Hid (Below w.heap.size w w) := Below.refl _ _
  rcases key with ⟨hc, hd⟩ | ⟨hc, hix, hd⟩ | ⟨hc, j, x, hix, hjx, hx0, hx1, hreg, hk⟩
  · have HPR : Hid (PR = ((emptyK, []), chkMod M)) := by
      show PR = _
      rw [hpr, hd]
      exact if_pos hc
    clear hpr hd
    generalize chkMod M = cm at *
    go_enter Tryz.func12, Tryz.ntmps12
    have ba : Below w.heap.size w (w.alloc (.cells #[.int .i64 K.major, .int .i64 K.minor, .slice qe lk je, .slice a l.length cap] 27)) := (Below.refl _ _).alloc (Nat.le_refl _) _
    have olw_g1 : w.heap.size ≤ w.heap.size := HB0.out.size
    have HB1 : Hid (Below w.heap.size w (w.alloc (.cells #[.int .i64 K.major, .int .i64 K.minor, .slice qe lk je, .slice a l.length cap] 27))) := HB0.out.trans (ba.mono HB0.out.size)
    clear HB0
    clear ba
    have HC2_g1 : Hid (CellsAt (w.alloc (.cells #[.int .i64 K.major, .int .i64 K.minor, .slice qe lk je, .slice a l.length cap] 27)) w.heap.size 27 #[.int .i64 K.major, .int .i64 K.minor, .slice qe lk je, .slice a l.length cap]) := CellsAt.new _ _ _
    have ba : Below (w.alloc (.cells #[.int .i64 K.major, .int .i64 K.minor, .slice qe lk je, .slice a l.length cap] 27)).heap.size (w.alloc (.cells #[.int .i64 K.major, .int .i64 K.minor, .slice qe lk je, .slice a l.length cap] 27)) ((w.alloc (.cells #[.int .i64 K.major, .int .i64 K.minor, .slice qe lk je, .slice a l.length cap] 27)).alloc (.cells #[.string M.name, .int .i64 M.major, .int .i64 M.minor, .string M.text, .slice pe le ke, .slice pi li ki, .slice pp lp kp] 31)) := (Below.refl _ _).alloc (Nat.le_refl _) _
    have ol_g1_g2 : w.heap.size < (w.alloc (.cells #[.int .i64 K.major, .int .i64 K.minor, .slice qe lk je, .slice a l.length cap] 27)).heap.size := CellsAt.lt HC2_g1.out
    have olw_g2 : w.heap.size ≤ (w.alloc (.cells #[.int .i64 K.major, .int .i64 K.minor, .slice qe lk je, .slice a l.length cap] 27)).heap.size := HB1.out.size
    have HB3 : Hid (Below w.heap.size w ((w.alloc (.cells #[.int .i64 K.major, .int .i64 K.minor, .slice qe lk je, .slice a l.length cap] 27)).alloc (.cells #[.string M.name, .int .i64 M.major, .int .i64 M.minor, .string M.text, .slice pe le ke, .slice pi li ki, .slice pp lp kp] 31))) := HB1.out.trans (ba.mono HB1.out.size)
    have HC3_g1 : Hid (CellsAt ((w.alloc (.cells #[.int .i64 K.major, .int .i64 K.minor, .slice qe lk je, .slice a l.length cap] 27)).alloc (.cells #[.string M.name, .int .i64 M.major, .int .i64 M.minor, .string M.text, .slice pe le ke, .slice pi li ki, .slice pp lp kp] 31)) w.heap.size 27 #[.int .i64 K.major, .int .i64 K.minor, .slice qe lk je, .slice a l.length cap]) := HC2_g1.out.below ba HC2_g1.out.lt
    clear HB1 HC2_g1
    clear ba
    have HC4_g2 : Hid (CellsAt ((w.alloc (.cells #[.int .i64 K.major, .int .i64 K.minor, .slice qe lk je, .slice a l.length cap] 27)).alloc (.cells #[.string M.name, .int .i64 M.major, .int .i64 M.minor, .string M.text, .slice pe le ke, .slice pi li ki, .slice pp lp kp] 31)) (w.alloc (.cells #[.int .i64 K.major, .int .i64 K.minor, .slice qe lk je, .slice a l.length cap] 27)).heap.size 31 #[.string M.name, .int .i64 M.major, .int .i64 M.minor, .string M.text, .slice pe le ke, .slice pi li ki, .slice pp lp kp]) := CellsAt.new _ _ _
    rw [World.size_alloc] at HC4_g2
    clear ol_g1_g2 olw_g2 olw_g1
    have ba : Below ((w.alloc (.cells #[.int .i64 K.major, .int .i64 K.minor, .slice qe lk je, .slice a l.length cap] 27)).alloc (.cells #[.string M.name, .int .i64 M.major, .int .i64 M.minor, .string M.text, .slice pe le ke, .slice pi li ki, .slice pp lp kp] 31)).heap.size ((w.alloc (.cells #[.int .i64 K.major, .int .i64 K.minor, .slice qe lk je, .slice a l.length cap] 27)).alloc (.cells #[.string M.name, .int .i64 M.major, .int .i64 M.minor, .string M.text, .slice pe le ke, .slice pi li ki, .slice pp lp kp] 31)) (((w.alloc (.cells #[.int .i64 K.major, .int .i64 K.minor, .slice qe lk je, .slice a l.length cap] 27)).alloc (.cells #[.string M.name, .int .i64 M.major, .int .i64 M.minor, .string M.text, .slice pe le ke, .slice pi li ki, .slice pp lp kp] 31)).alloc (.cells #[.int .i64 0, .int .i64 0, .slice none 0 0, .slice none 0 0] 27)) := (Below.refl _ _).alloc (Nat.le_refl _) _
    have ol_g1_g3 : w.heap.size < ((w.alloc (.cells #[.int .i64 K.major, .int .i64 K.minor, .slice qe lk je, .slice a l.length cap] 27)).alloc (.cells #[.string M.name, .int .i64 M.major, .int .i64 M.minor, .string M.text, .slice pe le ke, .slice pi li ki, .slice pp lp kp] 31)).heap.size := CellsAt.lt HC3_g1.out
    have ol_g2_g3 : (w.heap.size + 1) < ((w.alloc (.cells #[.int .i64 K.major, .int .i64 K.minor, .slice qe lk je, .slice a l.length cap] 27)).alloc (.cells #[.string M.name, .int .i64 M.major, .int .i64 M.minor, .string M.text, .slice pe le ke, .slice pi li ki, .slice pp lp kp] 31)).heap.size := CellsAt.lt HC4_g2.out
    have olw_g3 : w.heap.size ≤ ((w.alloc (.cells #[.int .i64 K.major, .int .i64 K.minor, .slice qe lk je, .slice a l.length cap] 27)).alloc (.cells #[.string M.name, .int .i64 M.major, .int .i64 M.minor, .string M.text, .slice pe le ke, .slice pi li ki, .slice pp lp kp] 31)).heap.size := HB3.out.size
    have HB5 : Hid (Below w.heap.size w (((w.alloc (.cells #[.int .i64 K.major, .int .i64 K.minor, .slice qe lk je, .slice a l.length cap] 27)).alloc (.cells #[.string M.name, .int .i64 M.major, .int .i64 M.minor, .string M.text, .slice pe le ke, .slice pi li ki, .slice pp lp kp] 31)).alloc (.cells #[.int .i64 0, .int .i64 0, .slice none 0 0, .slice none 0 0] 27))) := HB3.out.trans (ba.mono HB3.out.size)
    have HC5_g1 : Hid (CellsAt (((w.alloc (.cells #[.int .i64 K.major, .int .i64 K.minor, .slice qe lk je, .slice a l.length cap] 27)).alloc (.cells #[.string M.name, .int .i64 M.major, .int .i64 M.minor, .string M.text, .slice pe le ke, .slice pi li ki, .slice pp lp kp] 31)).alloc (.cells #[.int .i64 0, .int .i64 0, .slice none 0 0, .slice none 0 0] 27)) w.heap.size 27 #[.int .i64 K.major, .int .i64 K.minor, .slice qe lk je, .slice a l.length cap]) := HC3_g1.out.below ba HC3_g1.out.lt
    have HC5_g2 : Hid (CellsAt (((w.alloc (.cells #[.int .i64 K.major, .int .i64 K.minor, .slice qe lk je, .slice a l.length cap] 27)).alloc (.cells #[.string M.name, .int .i64 M.major, .int .i64 M.minor, .string M.text, .slice pe le ke, .slice pi li ki, .slice pp lp kp] 31)).alloc (.cells #[.int .i64 0, .int .i64 0, .slice none 0 0, .slice none 0 0] 27)) (w.heap.size + 1) 31 #[.string M.name, .int .i64 M.major, .int .i64 M.minor, .string M.text, .slice pe le ke, .slice pi li ki, .slice pp lp kp]) := HC4_g2.out.below ba HC4_g2.out.lt
    clear HB3 HC3_g1 HC4_g2
    clear ba
    have HC6_g3 : Hid (CellsAt (((w.alloc (.cells #[.int .i64 K.major, .int .i64 K.minor, .slice qe lk je, .slice a l.length cap] 27)).alloc (.cells #[.string M.name, .int .i64 M.major, .int .i64 M.minor, .string M.text, .slice pe le ke, .slice pi li ki, .slice pp lp kp] 31)).alloc (.cells #[.int .i64 0, .int .i64 0, .slice none 0 0, .slice none 0 0] 27)) ((w.alloc (.cells #[.int .i64 K.major, .int .i64 K.minor, .slice qe lk je, .slice a l.length cap] 27)).alloc (.cells #[.string M.name, .int .i64 M.major, .int .i64 M.minor, .string M.text, .slice pe le ke, .slice pi li ki, .slice pp lp kp] 31)).heap.size 27 #[.int .i64 0, .int .i64 0, .slice none 0 0, .slice none 0 0]) := CellsAt.new _ _ _
    rw [World.size_alloc, World.size_alloc] at HC6_g3
    clear ol_g1_g3 ol_g2_g3 olw_g3
    go_upto_region 1 with fail
    generalize (((w.alloc (.cells #[.int .i64 K.major, .int .i64 K.minor, .slice qe lk je, .slice a l.length cap] 27)).alloc (.cells #[.string M.name, .int .i64 M.major, .int .i64 M.minor, .string M.text, .slice pe le ke, .slice pi li ki, .slice pp lp kp] 31)).alloc (.cells #[.int .i64 0, .int .i64 0, .slice none 0 0, .slice none 0 0] 27)) = w1 at *
    have rg20 := CellsAt.cell HC5_g2.out 0
    have rg21 := CellsAt.cell HC5_g2.out 1
    have rg22 := CellsAt.cell HC5_g2.out 2
    have rg23 := CellsAt.cell HC5_g2.out 3
    have rg24 := CellsAt.cell HC5_g2.out 4
    have rg25 := CellsAt.cell HC5_g2.out 5
    have rg26 := CellsAt.cell HC5_g2.out 6
    have rg2l := CellsAt.lt HC5_g2.out
    simp at rg20 rg21 rg22 rg23 rg24 rg25 rg26
    go_wp2_with fail
    clear rg20 rg21 rg22 rg23 rg24 rg25 rg26 rg2l
    refine (HCM.out _ HB5.out).mono ?_
    rintro e w2 ⟨rfl, b2⟩
    have HB7 : Hid (Below w.heap.size w w2) := HB5.out.trans (b2.mono HB5.out.size)
    have HC7_g1 : Hid (CellsAt w2 w.heap.size 27 #[.int .i64 K.major, .int .i64 K.minor, .slice qe lk je, .slice a l.length cap]) := HC5_g1.out.below b2 HC5_g1.out.lt
    have HC7_g2 : Hid (CellsAt w2 (w.heap.size + 1) 31 #[.string M.name, .int .i64 M.major, .int .i64 M.minor, .string M.text, .slice pe le ke, .slice pi li ki, .slice pp lp kp]) := HC5_g2.out.below b2 HC5_g2.out.lt
    have HC7_g3 : Hid (CellsAt w2 (w.heap.size + 2) 27 #[.int .i64 0, .int .i64 0, .slice none 0 0, .slice none 0 0]) := HC6_g3.out.below b2 HC6_g3.out.lt
    clear HB5 HC5_g1 HC5_g2 HC6_g3
    clear b2
    have hc' : (cm != 0) = true := by simpa using hc
    have rg30 := CellsAt.cell HC7_g3.out 0
    have rg31 := CellsAt.cell HC7_g3.out 1
    have rg32 := CellsAt.cell HC7_g3.out 2
    have rg33 := CellsAt.cell HC7_g3.out 3
    have fg30 := CellsAt.frozen HC7_g3.out 0
    have fg31 := CellsAt.frozen HC7_g3.out 1
    have fg32 := CellsAt.frozen HC7_g3.out 2
    have fg33 := CellsAt.frozen HC7_g3.out 3
    have rg3l := CellsAt.lt HC7_g3.out
    simp at rg30 rg31 rg32 rg33
    have rg10 := CellsAt.cell HC7_g1.out 0
    have rg11 := CellsAt.cell HC7_g1.out 1
    have rg12 := CellsAt.cell HC7_g1.out 2
    have rg13 := CellsAt.cell HC7_g1.out 3
    have rg1l := CellsAt.lt HC7_g1.out
    simp at rg10 rg11 rg12 rg13
    have rg20 := CellsAt.cell HC7_g2.out 0
    have rg21 := CellsAt.cell HC7_g2.out 1
    have rg22 := CellsAt.cell HC7_g2.out 2
    have rg23 := CellsAt.cell HC7_g2.out 3
    have rg24 := CellsAt.cell HC7_g2.out 4
    have rg25 := CellsAt.cell HC7_g2.out 5
    have rg26 := CellsAt.cell HC7_g2.out 6
    have rg2l := CellsAt.lt HC7_g2.out
    simp at rg20 rg21 rg22 rg23 rg24 rg25 rg26
    have hgl := HB7.out.size
    go_wp2
    have hZ9 := sets4 HC7_g3.out (.int .i64 0) (.int .i64 0) (.slice none 0 0) (.slice none 0 0)
    have hG9 := sets4_grown w2 (w.heap.size + 2) (.int .i64 0) (.int .i64 0) (.slice none 0 0) (.slice none 0 0)
    have hB9 := HB7.out.grown hG9 HB7.out.size (fun q hq => by obtain rfl := Option.some.inj hq; omega)
    refine bodyPost_ret (results_cell_tmp_row rfl _ _ _ _ _ _ _ rfl hZ9 Tryz.underlying27 rfl (by kernel_rfl)) rfl ?_
    rw [HPR.out]
    exact ⟨⟨_, [], rfl, rfl, zero_isReg _ _⟩, hB9⟩
  · have HPR : Hid (PR = ((emptyK, []), 5)) := by
      show PR = _
      rw [hpr, hd]
      exact if_pos (by decide)
    clear hpr hd
    go_enter Tryz.func12, Tryz.ntmps12
    have ba : Below w.heap.size w (w.alloc (.cells #[.int .i64 K.major, .int .i64 K.minor, .slice qe lk je, .slice a l.length cap] 27)) := (Below.refl _ _).alloc (Nat.le_refl _) _
    have olw_g1 : w.heap.size ≤ w.heap.size := HB0.out.size
    have HB1 : Hid (Below w.heap.size w (w.alloc (.cells #[.int .i64 K.major, .int .i64 K.minor, .slice qe lk je, .slice a l.length cap] 27))) := HB0.out.trans (ba.mono HB0.out.size)
    clear HB0
    clear ba
    have HC2_g1 : Hid (CellsAt (w.alloc (.cells #[.int .i64 K.major, .int .i64 K.minor, .slice qe lk je, .slice a l.length cap] 27)) w.heap.size 27 #[.int .i64 K.major, .int .i64 K.minor, .slice qe lk je, .slice a l.length cap]) := CellsAt.new _ _ _
    have ba : Below (w.alloc (.cells #[.int .i64 K.major, .int .i64 K.minor, .slice qe lk je, .slice a l.length cap] 27)).heap.size (w.alloc (.cells #[.int .i64 K.major, .int .i64 K.minor, .slice qe lk je, .slice a l.length cap] 27)) ((w.alloc (.cells #[.int .i64 K.major, .int .i64 K.minor, .slice qe lk je, .slice a l.length cap] 27)).alloc (.cells #[.string M.name, .int .i64 M.major, .int .i64 M.minor, .string M.text, .slice pe le ke, .slice pi li ki, .slice pp lp kp] 31)) := (Below.refl _ _).alloc (Nat.le_refl _) _
    have ol_g1_g2 : w.heap.size < (w.alloc (.cells #[.int .i64 K.major, .int .i64 K.minor, .slice qe lk je, .slice a l.length cap] 27)).heap.size := CellsAt.lt HC2_g1.out
    have olw_g2 : w.heap.size ≤ (w.alloc (.cells #[.int .i64 K.major, .int .i64 K.minor, .slice qe lk je, .slice a l.length cap] 27)).heap.size := HB1.out.size
    have HB3 : Hid (Below w.heap.size w ((w.alloc (.cells #[.int .i64 K.major, .int .i64 K.minor, .slice qe lk je, .slice a l.length cap] 27)).alloc (.cells #[.string M.name, .int .i64 M.major, .int .i64 M.minor, .string M.text, .slice pe le ke, .slice pi li ki, .slice pp lp kp] 31))) := HB1.out.trans (ba.mono HB1.out.size)
    have HC3_g1 : Hid (CellsAt ((w.alloc (.cells #[.int .i64 K.major, .int .i64 K.minor, .slice qe lk je, .slice a l.length cap] 27)).alloc (.cells #[.string M.name, .int .i64 M.major, .int .i64 M.minor, .string M.text, .slice pe le ke, .slice pi li ki, .slice pp lp kp] 31)) w.heap.size 27 #[.int .i64 K.major, .int .i64 K.minor, .slice qe lk je, .slice a l.length cap]) := HC2_g1.out.below ba HC2_g1.out.lt
    clear HB1 HC2_g1
    clear ba
    have HC4_g2 : Hid (CellsAt ((w.alloc (.cells #[.int .i64 K.major, .int .i64 K.minor, .slice qe lk je, .slice a l.length cap] 27)).alloc (.cells #[.string M.name, .int .i64 M.major, .int .i64 M.minor, .string M.text, .slice pe le ke, .slice pi li ki, .slice pp lp kp] 31)) (w.alloc (.cells #[.int .i64 K.major, .int .i64 K.minor, .slice qe lk je, .slice a l.length cap] 27)).heap.size 31 #[.string M.name, .int .i64 M.major, .int .i64 M.minor, .string M.text, .slice pe le ke, .slice pi li ki, .slice pp lp kp]) := CellsAt.new _ _ _
    rw [World.size_alloc] at HC4_g2
    clear ol_g1_g2 olw_g2 olw_g1
    have ba : Below ((w.alloc (.cells #[.int .i64 K.major, .int .i64 K.minor, .slice qe lk je, .slice a l.length cap] 27)).alloc (.cells #[.string M.name, .int .i64 M.major, .int .i64 M.minor, .string M.text, .slice pe le ke, .slice pi li ki, .slice pp lp kp] 31)).heap.size ((w.alloc (.cells #[.int .i64 K.major, .int .i64 K.minor, .slice qe lk je, .slice a l.length cap] 27)).alloc (.cells #[.string M.name, .int .i64 M.major, .int .i64 M.minor, .string M.text, .slice pe le ke, .slice pi li ki, .slice pp lp kp] 31)) (((w.alloc (.cells #[.int .i64 K.major, .int .i64 K.minor, .slice qe lk je, .slice a l.length cap] 27)).alloc (.cells #[.string M.name, .int .i64 M.major, .int .i64 M.minor, .string M.text, .slice pe le ke, .slice pi li ki, .slice pp lp kp] 31)).alloc (.cells #[.int .i64 0, .int .i64 0, .slice none 0 0, .slice none 0 0] 27)) := (Below.refl _ _).alloc (Nat.le_refl _) _
    have ol_g1_g3 : w.heap.size < ((w.alloc (.cells #[.int .i64 K.major, .int .i64 K.minor, .slice qe lk je, .slice a l.length cap] 27)).alloc (.cells #[.string M.name, .int .i64 M.major, .int .i64 M.minor, .string M.text, .slice pe le ke, .slice pi li ki, .slice pp lp kp] 31)).heap.size := CellsAt.lt HC3_g1.out
    have ol_g2_g3 : (w.heap.size + 1) < ((w.alloc (.cells #[.int .i64 K.major, .int .i64 K.minor, .slice qe lk je, .slice a l.length cap] 27)).alloc (.cells #[.string M.name, .int .i64 M.major, .int .i64 M.minor, .string M.text, .slice pe le ke, .slice pi li ki, .slice pp lp kp] 31)).heap.size := CellsAt.lt HC4_g2.out
    have olw_g3 : w.heap.size ≤ ((w.alloc (.cells #[.int .i64 K.major, .int .i64 K.minor, .slice qe lk je, .slice a l.length cap] 27)).alloc (.cells #[.string M.name, .int .i64 M.major, .int .i64 M.minor, .string M.text, .slice pe le ke, .slice pi li ki, .slice pp lp kp] 31)).heap.size := HB3.out.size
    have HB5 : Hid (Below w.heap.size w (((w.alloc (.cells #[.int .i64 K.major, .int .i64 K.minor, .slice qe lk je, .slice a l.length cap] 27)).alloc (.cells #[.string M.name, .int .i64 M.major, .int .i64 M.minor, .string M.text, .slice pe le ke, .slice pi li ki, .slice pp lp kp] 31)).alloc (.cells #[.int .i64 0, .int .i64 0, .slice none 0 0, .slice none 0 0] 27))) := HB3.out.trans (ba.mono HB3.out.size)
    have HC5_g1 : Hid (CellsAt (((w.alloc (.cells #[.int .i64 K.major, .int .i64 K.minor, .slice qe lk je, .slice a l.length cap] 27)).alloc (.cells #[.string M.name, .int .i64 M.major, .int .i64 M.minor, .string M.text, .slice pe le ke, .slice pi li ki, .slice pp lp kp] 31)).alloc (.cells #[.int .i64 0, .int .i64 0, .slice none 0 0, .slice none 0 0] 27)) w.heap.size 27 #[.int .i64 K.major, .int .i64 K.minor, .slice qe lk je, .slice a l.length cap]) := HC3_g1.out.below ba HC3_g1.out.lt
    have HC5_g2 : Hid (CellsAt (((w.alloc (.cells #[.int .i64 K.major, .int .i64 K.minor, .slice qe lk je, .slice a l.length cap] 27)).alloc (.cells #[.string M.name, .int .i64 M.major, .int .i64 M.minor, .string M.text, .slice pe le ke, .slice pi li ki, .slice pp lp kp] 31)).alloc (.cells #[.int .i64 0, .int .i64 0, .slice none 0 0, .slice none 0 0] 27)) (w.heap.size + 1) 31 #[.string M.name, .int .i64 M.major, .int .i64 M.minor, .string M.text, .slice pe le ke, .slice pi li ki, .slice pp lp kp]) := HC4_g2.out.below ba HC4_g2.out.lt
    clear HB3 HC3_g1 HC4_g2
    clear ba
    have HC6_g3 : Hid (CellsAt (((w.alloc (.cells #[.int .i64 K.major, .int .i64 K.minor, .slice qe lk je, .slice a l.length cap] 27)).alloc (.cells #[.string M.name, .int .i64 M.major, .int .i64 M.minor, .string M.text, .slice pe le ke, .slice pi li ki, .slice pp lp kp] 31)).alloc (.cells #[.int .i64 0, .int .i64 0, .slice none 0 0, .slice none 0 0] 27)) ((w.alloc (.cells #[.int .i64 K.major, .int .i64 K.minor, .slice qe lk je, .slice a l.length cap] 27)).alloc (.cells #[.string M.name, .int .i64 M.major, .int .i64 M.minor, .string M.text, .slice pe le ke, .slice pi li ki, .slice pp lp kp] 31)).heap.size 27 #[.int .i64 0, .int .i64 0, .slice none 0 0, .slice none 0 0]) := CellsAt.new _ _ _
    rw [World.size_alloc, World.size_alloc] at HC6_g3
    clear ol_g1_g3 ol_g2_g3 olw_g3
    go_upto_region 1 with fail
    generalize (((w.alloc (.cells #[.int .i64 K.major, .int .i64 K.minor, .slice qe lk je, .slice a l.length cap] 27)).alloc (.cells #[.string M.name, .int .i64 M.major, .int .i64 M.minor, .string M.text, .slice pe le ke, .slice pi li ki, .slice pp lp kp] 31)).alloc (.cells #[.int .i64 0, .int .i64 0, .slice none 0 0, .slice none 0 0] 27)) = w1 at *
    have rg20 := CellsAt.cell HC5_g2.out 0
    have rg21 := CellsAt.cell HC5_g2.out 1
    have rg22 := CellsAt.cell HC5_g2.out 2
    have rg23 := CellsAt.cell HC5_g2.out 3
    have rg24 := CellsAt.cell HC5_g2.out 4
    have rg25 := CellsAt.cell HC5_g2.out 5
    have rg26 := CellsAt.cell HC5_g2.out 6
    have rg2l := CellsAt.lt HC5_g2.out
    simp at rg20 rg21 rg22 rg23 rg24 rg25 rg26
    go_wp2_with fail
    clear rg20 rg21 rg22 rg23 rg24 rg25 rg26 rg2l
    refine (HCM.out _ HB5.out).mono ?_
    rintro e w2 ⟨rfl, b2⟩
    have HB7 : Hid (Below w.heap.size w w2) := HB5.out.trans (b2.mono HB5.out.size)
    have HC7_g1 : Hid (CellsAt w2 w.heap.size 27 #[.int .i64 K.major, .int .i64 K.minor, .slice qe lk je, .slice a l.length cap]) := HC5_g1.out.below b2 HC5_g1.out.lt
    have HC7_g2 : Hid (CellsAt w2 (w.heap.size + 1) 31 #[.string M.name, .int .i64 M.major, .int .i64 M.minor, .string M.text, .slice pe le ke, .slice pi li ki, .slice pp lp kp]) := HC5_g2.out.below b2 HC5_g2.out.lt
    have HC7_g3 : Hid (CellsAt w2 (w.heap.size + 2) 27 #[.int .i64 0, .int .i64 0, .slice none 0 0, .slice none 0 0]) := HC6_g3.out.below b2 HC6_g3.out.lt
    clear HB5 HC5_g1 HC5_g2 HC6_g3
    clear b2
    rw [hc]
    have rg10 := CellsAt.cell HC7_g1.out 0
    have rg11 := CellsAt.cell HC7_g1.out 1
    have rg12 := CellsAt.cell HC7_g1.out 2
    have rg13 := CellsAt.cell HC7_g1.out 3
    have rg1l := CellsAt.lt HC7_g1.out
    simp at rg10 rg11 rg12 rg13
    have rg20 := CellsAt.cell HC7_g2.out 0
    have rg21 := CellsAt.cell HC7_g2.out 1
    have rg22 := CellsAt.cell HC7_g2.out 2
    have rg23 := CellsAt.cell HC7_g2.out 3
    have rg24 := CellsAt.cell HC7_g2.out 4
    have rg25 := CellsAt.cell HC7_g2.out 5
    have rg26 := CellsAt.cell HC7_g2.out 6
    have rg2l := CellsAt.lt HC7_g2.out
    simp at rg20 rg21 rg22 rg23 rg24 rg25 rg26
    go_wp2_with fail
    clear rg10 rg11 rg12 rg13 rg1l
    clear rg20 rg21 rg22 rg23 rg24 rg25 rg26 rg2l
    refine (HPO.out _ HB7.out).mono ?_
    rw [hix]
    rintro e w3 ⟨rfl, b3⟩
    have HB8 : Hid (Below w.heap.size w w3) := HB7.out.trans (b3.mono HB7.out.size)
    have HC8_g1 : Hid (CellsAt w3 w.heap.size 27 #[.int .i64 K.major, .int .i64 K.minor, .slice qe lk je, .slice a l.length cap]) := HC7_g1.out.below b3 HC7_g1.out.lt
    have HC8_g2 : Hid (CellsAt w3 (w.heap.size + 1) 31 #[.string M.name, .int .i64 M.major, .int .i64 M.minor, .string M.text, .slice pe le ke, .slice pi li ki, .slice pp lp kp]) := HC7_g2.out.below b3 HC7_g2.out.lt
    have HC8_g3 : Hid (CellsAt w3 (w.heap.size + 2) 27 #[.int .i64 0, .int .i64 0, .slice none 0 0, .slice none 0 0]) := HC7_g3.out.below b3 HC7_g3.out.lt
    clear HB7 HC7_g1 HC7_g2 HC7_g3
    clear b3 HPO
    have rg30 := CellsAt.cell HC8_g3.out 0
    have rg31 := CellsAt.cell HC8_g3.out 1
    have rg32 := CellsAt.cell HC8_g3.out 2
    have rg33 := CellsAt.cell HC8_g3.out 3
    have fg30 := CellsAt.frozen HC8_g3.out 0
    have fg31 := CellsAt.frozen HC8_g3.out 1
    have fg32 := CellsAt.frozen HC8_g3.out 2
    have fg33 := CellsAt.frozen HC8_g3.out 3
    have rg3l := CellsAt.lt HC8_g3.out
    simp at rg30 rg31 rg32 rg33
    have rg10 := CellsAt.cell HC8_g1.out 0
    have rg11 := CellsAt.cell HC8_g1.out 1
    have rg12 := CellsAt.cell HC8_g1.out 2
    have rg13 := CellsAt.cell HC8_g1.out 3
    have rg1l := CellsAt.lt HC8_g1.out
    simp at rg10 rg11 rg12 rg13
    have rg20 := CellsAt.cell HC8_g2.out 0
    have rg21 := CellsAt.cell HC8_g2.out 1
    have rg22 := CellsAt.cell HC8_g2.out 2
    have rg23 := CellsAt.cell HC8_g2.out 3
    have rg24 := CellsAt.cell HC8_g2.out 4
    have rg25 := CellsAt.cell HC8_g2.out 5
    have rg26 := CellsAt.cell HC8_g2.out 6
    have rg2l := CellsAt.lt HC8_g2.out
    simp at rg20 rg21 rg22 rg23 rg24 rg25 rg26
    have hgl := HB8.out.size
    go_wp2
    have hZ9 := sets4 HC8_g3.out (.int .i64 0) (.int .i64 0) (.slice none 0 0) (.slice none 0 0)
    have hG9 := sets4_grown w3 (w.heap.size + 2) (.int .i64 0) (.int .i64 0) (.slice none 0 0) (.slice none 0 0)
    have hB9 := HB8.out.grown hG9 HB8.out.size (fun q hq => by obtain rfl := Option.some.inj hq; omega)
    refine bodyPost_ret (results_cell_tmp_row rfl _ _ _ _ _ _ _ rfl hZ9 Tryz.underlying27 rfl (by kernel_rfl)) rfl ?_
    rw [HPR.out]
    exact ⟨⟨_, [], rfl, rfl, zero_isReg _ _⟩, hB9⟩
  · have HPRR : Hid _ := hpr
    clear hpr
    have hjl : j < l.length := (List.getElem?_eq_some_iff.1 hjx).1
    rcases hrow with h | ⟨b, off, rfl, hbn, hcells⟩
    · subst h; simp at hjl
    have HC7 : Hid (w.cell? ⟨b, off + j * 8 + 7, none⟩ = some (.int .i64 x.first) ∧ b < w.heap.size) := ⟨hcells j x hjx 7 (by omega), hbn⟩
    have hjk : (j : Int) < (l.length : Int) := by omega
    have hj0 : decide ((j : Int) < 0) = false := decide_eq_false (by omega)
    have HFX0 : Hid _ := HFITS.out j
    have HWOJ : Hid _ := HWO.out j
    have hR8 : (l.eraseIdx j).length ≤ 8 := Nat.le_trans (List.length_eraseIdx_le _ _) hl8
    clear hcells hbn hjx HFITS HWO
    generalize l.eraseIdx j = R at *
    generalize hfxe : x.first = fx at *
    clear hfxe x
    have hsb := szM_bd hc
    have HFTR : Hid (∀ v2 W, IsPlcs W.heap.size W v2 R → Calls Tryz.prog 51 #[v2, .int .i64 (szM M : Int)] W fun e w' => e = .returned (.int .i64 (fitRes (fitOf (szM M) (runsFrom 0 (R.map PV.plc))))) ∧ Below W.heap.size W w') := fun v2 W hp => HFT.out R v2 W hp hreg
    have HSM : Hid (∀ W, Calls Tryz.prog 52 #[.agg #[.string M.name, .int .i64 M.major, .int .i64 M.minor, .string M.text, .slice pe le ke, .slice pi li ki, .slice pp lp kp]] W fun e w' => e = .returned (.int .i64 (szM M : Int)) ∧ Below W.heap.size W w') := fun W => HSZ.out hc W
    have HFA : Hid (FitsAt R M fx ↔ (fx + (szM M : Int) ≤ 16 ∧ ∀ q ∈ R, ¬ (fx < q.first ∧ q.first < fx + (szM M : Int)))) := Iff.rfl
    clear HFT HSZ hreg
    generalize fitRes (fitOf (szM M : Int) (runsFrom 0 (R.map PV.plc))) = FR at *
    have hz4 : 1 ≤ (szM M : Int) ∧ (szM M : Int) ≤ 4 := by omega
    generalize (szM M : Int) = sz at *
    obtain ⟨en, hen⟩ : ∃ en, en = fx + sz := ⟨_, rfl⟩
    rw [← hen] at HFA
    have hw : wrap64 (fx + sz) = en := by unfold wrap64; omega
    have hw2 : IntKind.i64.wrap (fx + sz) = en := by rw [IntKind.wrap_i64]; omega
    have HK : Hid _ := hk
    clear hk hen hsb hx0 hx1 hz4
    go_enter Tryz.func12, Tryz.ntmps12
    have ba : Below w.heap.size w (w.alloc (.cells #[.int .i64 K.major, .int .i64 K.minor, .slice qe lk je, .slice (some ⟨b, off, none⟩) l.length cap] 27)) := (Below.refl _ _).alloc (Nat.le_refl _) _
    have olw_g1 : w.heap.size ≤ w.heap.size := HB0.out.size
    have HB1 : Hid (Below w.heap.size w (w.alloc (.cells #[.int .i64 K.major, .int .i64 K.minor, .slice qe lk je, .slice (some ⟨b, off, none⟩) l.length cap] 27))) := HB0.out.trans (ba.mono HB0.out.size)
    clear HB0
    clear ba
    have HC2_g1 : Hid (CellsAt (w.alloc (.cells #[.int .i64 K.major, .int .i64 K.minor, .slice qe lk je, .slice (some ⟨b, off, none⟩) l.length cap] 27)) w.heap.size 27 #[.int .i64 K.major, .int .i64 K.minor, .slice qe lk je, .slice (some ⟨b, off, none⟩) l.length cap]) := CellsAt.new _ _ _
    have ba : Below (w.alloc (.cells #[.int .i64 K.major, .int .i64 K.minor, .slice qe lk je, .slice (some ⟨b, off, none⟩) l.length cap] 27)).heap.size (w.alloc (.cells #[.int .i64 K.major, .int .i64 K.minor, .slice qe lk je, .slice (some ⟨b, off, none⟩) l.length cap] 27)) ((w.alloc (.cells #[.int .i64 K.major, .int .i64 K.minor, .slice qe lk je, .slice (some ⟨b, off, none⟩) l.length cap] 27)).alloc (.cells #[.string M.name, .int .i64 M.major, .int .i64 M.minor, .string M.text, .slice pe le ke, .slice pi li ki, .slice pp lp kp] 31)) := (Below.refl _ _).alloc (Nat.le_refl _) _
    have ol_g1_g2 : w.heap.size < (w.alloc (.cells #[.int .i64 K.major, .int .i64 K.minor, .slice qe lk je, .slice (some ⟨b, off, none⟩) l.length cap] 27)).heap.size := CellsAt.lt HC2_g1.out
    have olw_g2 : w.heap.size ≤ (w.alloc (.cells #[.int .i64 K.major, .int .i64 K.minor, .slice qe lk je, .slice (some ⟨b, off, none⟩) l.length cap] 27)).heap.size := HB1.out.size
    have HB3 : Hid (Below w.heap.size w ((w.alloc (.cells #[.int .i64 K.major, .int .i64 K.minor, .slice qe lk je, .slice (some ⟨b, off, none⟩) l.length cap] 27)).alloc (.cells #[.string M.name, .int .i64 M.major, .int .i64 M.minor, .string M.text, .slice pe le ke, .slice pi li ki, .slice pp lp kp] 31))) := HB1.out.trans (ba.mono HB1.out.size)
    have HC3_g1 : Hid (CellsAt ((w.alloc (.cells #[.int .i64 K.major, .int .i64 K.minor, .slice qe lk je, .slice (some ⟨b, off, none⟩) l.length cap] 27)).alloc (.cells #[.string M.name, .int .i64 M.major, .int .i64 M.minor, .string M.text, .slice pe le ke, .slice pi li ki, .slice pp lp kp] 31)) w.heap.size 27 #[.int .i64 K.major, .int .i64 K.minor, .slice qe lk je, .slice (some ⟨b, off, none⟩) l.length cap]) := HC2_g1.out.below ba HC2_g1.out.lt
    clear HB1 HC2_g1
    clear ba
    have HC4_g2 : Hid (CellsAt ((w.alloc (.cells #[.int .i64 K.major, .int .i64 K.minor, .slice qe lk je, .slice (some ⟨b, off, none⟩) l.length cap] 27)).alloc (.cells #[.string M.name, .int .i64 M.major, .int .i64 M.minor, .string M.text, .slice pe le ke, .slice pi li ki, .slice pp lp kp] 31)) (w.alloc (.cells #[.int .i64 K.major, .int .i64 K.minor, .slice qe lk je, .slice (some ⟨b, off, none⟩) l.length cap] 27)).heap.size 31 #[.string M.name, .int .i64 M.major, .int .i64 M.minor, .string M.text, .slice pe le ke, .slice pi li ki, .slice pp lp kp]) := CellsAt.new _ _ _
    rw [World.size_alloc] at HC4_g2
    clear ol_g1_g2 olw_g2 olw_g1
    have ba : Below ((w.alloc (.cells #[.int .i64 K.major, .int .i64 K.minor, .slice qe lk je, .slice (some ⟨b, off, none⟩) l.length cap] 27)).alloc (.cells #[.string M.name, .int .i64 M.major, .int .i64 M.minor, .string M.text, .slice pe le ke, .slice pi li ki, .slice pp lp kp] 31)).heap.size ((w.alloc (.cells #[.int .i64 K.major, .int .i64 K.minor, .slice qe lk je, .slice (some ⟨b, off, none⟩) l.length cap] 27)).alloc (.cells #[.string M.name, .int .i64 M.major, .int .i64 M.minor, .string M.text, .slice pe le ke, .slice pi li ki, .slice pp lp kp] 31)) (((w.alloc (.cells #[.int .i64 K.major, .int .i64 K.minor, .slice qe lk je, .slice (some ⟨b, off, none⟩) l.length cap] 27)).alloc (.cells #[.string M.name, .int .i64 M.major, .int .i64 M.minor, .string M.text, .slice pe le ke, .slice pi li ki, .slice pp lp kp] 31)).alloc (.cells #[.int .i64 0, .int .i64 0, .slice none 0 0, .slice none 0 0] 27)) := (Below.refl _ _).alloc (Nat.le_refl _) _
    have ol_g1_g3 : w.heap.size < ((w.alloc (.cells #[.int .i64 K.major, .int .i64 K.minor, .slice qe lk je, .slice (some ⟨b, off, none⟩) l.length cap] 27)).alloc (.cells #[.string M.name, .int .i64 M.major, .int .i64 M.minor, .string M.text, .slice pe le ke, .slice pi li ki, .slice pp lp kp] 31)).heap.size := CellsAt.lt HC3_g1.out
    have ol_g2_g3 : (w.heap.size + 1) < ((w.alloc (.cells #[.int .i64 K.major, .int .i64 K.minor, .slice qe lk je, .slice (some ⟨b, off, none⟩) l.length cap] 27)).alloc (.cells #[.string M.name, .int .i64 M.major, .int .i64 M.minor, .string M.text, .slice pe le ke, .slice pi li ki, .slice pp lp kp] 31)).heap.size := CellsAt.lt HC4_g2.out
    have olw_g3 : w.heap.size ≤ ((w.alloc (.cells #[.int .i64 K.major, .int .i64 K.minor, .slice qe lk je, .slice (some ⟨b, off, none⟩) l.length cap] 27)).alloc (.cells #[.string M.name, .int .i64 M.major, .int .i64 M.minor, .string M.text, .slice pe le ke, .slice pi li ki, .slice pp lp kp] 31)).heap.size := HB3.out.size
    have HB5 : Hid (Below w.heap.size w (((w.alloc (.cells #[.int .i64 K.major, .int .i64 K.minor, .slice qe lk je, .slice (some ⟨b, off, none⟩) l.length cap] 27)).alloc (.cells #[.string M.name, .int .i64 M.major, .int .i64 M.minor, .string M.text, .slice pe le ke, .slice pi li ki, .slice pp lp kp] 31)).alloc (.cells #[.int .i64 0, .int .i64 0, .slice none 0 0, .slice none 0 0] 27))) := HB3.out.trans (ba.mono HB3.out.size)
    have HC5_g1 : Hid (CellsAt (((w.alloc (.cells #[.int .i64 K.major, .int .i64 K.minor, .slice qe lk je, .slice (some ⟨b, off, none⟩) l.length cap] 27)).alloc (.cells #[.string M.name, .int .i64 M.major, .int .i64 M.minor, .string M.text, .slice pe le ke, .slice pi li ki, .slice pp lp kp] 31)).alloc (.cells #[.int .i64 0, .int .i64 0, .slice none 0 0, .slice none 0 0] 27)) w.heap.size 27 #[.int .i64 K.major, .int .i64 K.minor, .slice qe lk je, .slice (some ⟨b, off, none⟩) l.length cap]) := HC3_g1.out.below ba HC3_g1.out.lt
    have HC5_g2 : Hid (CellsAt (((w.alloc (.cells #[.int .i64 K.major, .int .i64 K.minor, .slice qe lk je, .slice (some ⟨b, off, none⟩) l.length cap] 27)).alloc (.cells #[.string M.name, .int .i64 M.major, .int .i64 M.minor, .string M.text, .slice pe le ke, .slice pi li ki, .slice pp lp kp] 31)).alloc (.cells #[.int .i64 0, .int .i64 0, .slice none 0 0, .slice none 0 0] 27)) (w.heap.size + 1) 31 #[.string M.name, .int .i64 M.major, .int .i64 M.minor, .string M.text, .slice pe le ke, .slice pi li ki, .slice pp lp kp]) := HC4_g2.out.below ba HC4_g2.out.lt
    clear HB3 HC3_g1 HC4_g2
    clear ba
    have HC6_g3 : Hid (CellsAt (((w.alloc (.cells #[.int .i64 K.major, .int .i64 K.minor, .slice qe lk je, .slice (some ⟨b, off, none⟩) l.length cap] 27)).alloc (.cells #[.string M.name, .int .i64 M.major, .int .i64 M.minor, .string M.text, .slice pe le ke, .slice pi li ki, .slice pp lp kp] 31)).alloc (.cells #[.int .i64 0, .int .i64 0, .slice none 0 0, .slice none 0 0] 27)) ((w.alloc (.cells #[.int .i64 K.major, .int .i64 K.minor, .slice qe lk je, .slice (some ⟨b, off, none⟩) l.length cap] 27)).alloc (.cells #[.string M.name, .int .i64 M.major, .int .i64 M.minor, .string M.text, .slice pe le ke, .slice pi li ki, .slice pp lp kp] 31)).heap.size 27 #[.int .i64 0, .int .i64 0, .slice none 0 0, .slice none 0 0]) := CellsAt.new _ _ _
    rw [World.size_alloc, World.size_alloc] at HC6_g3
    clear ol_g1_g3 ol_g2_g3 olw_g3
    go_upto_region 1 with fail
    generalize (((w.alloc (.cells #[.int .i64 K.major, .int .i64 K.minor, .slice qe lk je, .slice (some ⟨b, off, none⟩) l.length cap] 27)).alloc (.cells #[.string M.name, .int .i64 M.major, .int .i64 M.minor, .string M.text, .slice pe le ke, .slice pi li ki, .slice pp lp kp] 31)).alloc (.cells #[.int .i64 0, .int .i64 0, .slice none 0 0, .slice none 0 0] 27)) = w1 at *
    have rg20 := CellsAt.cell HC5_g2.out 0
    have rg21 := CellsAt.cell HC5_g2.out 1
    have rg22 := CellsAt.cell HC5_g2.out 2
    have rg23 := CellsAt.cell HC5_g2.out 3
    have rg24 := CellsAt.cell HC5_g2.out 4
    have rg25 := CellsAt.cell HC5_g2.out 5
    have rg26 := CellsAt.cell HC5_g2.out 6
    have rg2l := CellsAt.lt HC5_g2.out
    simp at rg20 rg21 rg22 rg23 rg24 rg25 rg26
    go_wp2_with fail
    clear rg20 rg21 rg22 rg23 rg24 rg25 rg26 rg2l
    refine (HCM.out _ HB5.out).mono ?_
    rintro e w2 ⟨rfl, b2⟩
    have HB7 : Hid (Below w.heap.size w w2) := HB5.out.trans (b2.mono HB5.out.size)
    have HC7_g1 : Hid (CellsAt w2 w.heap.size 27 #[.int .i64 K.major, .int .i64 K.minor, .slice qe lk je, .slice (some ⟨b, off, none⟩) l.length cap]) := HC5_g1.out.below b2 HC5_g1.out.lt
    have HC7_g2 : Hid (CellsAt w2 (w.heap.size + 1) 31 #[.string M.name, .int .i64 M.major, .int .i64 M.minor, .string M.text, .slice pe le ke, .slice pi li ki, .slice pp lp kp]) := HC5_g2.out.below b2 HC5_g2.out.lt
    have HC7_g3 : Hid (CellsAt w2 (w.heap.size + 2) 27 #[.int .i64 0, .int .i64 0, .slice none 0 0, .slice none 0 0]) := HC6_g3.out.below b2 HC6_g3.out.lt
    clear HB5 HC5_g1 HC5_g2 HC6_g3
    clear b2
    rw [hc]
    have rg10 := CellsAt.cell HC7_g1.out 0
    have rg11 := CellsAt.cell HC7_g1.out 1
    have rg12 := CellsAt.cell HC7_g1.out 2
    have rg13 := CellsAt.cell HC7_g1.out 3
    have rg1l := CellsAt.lt HC7_g1.out
    simp at rg10 rg11 rg12 rg13
    have rg20 := CellsAt.cell HC7_g2.out 0
    have rg21 := CellsAt.cell HC7_g2.out 1
    have rg22 := CellsAt.cell HC7_g2.out 2
    have rg23 := CellsAt.cell HC7_g2.out 3
    have rg24 := CellsAt.cell HC7_g2.out 4
    have rg25 := CellsAt.cell HC7_g2.out 5
    have rg26 := CellsAt.cell HC7_g2.out 6
    have rg2l := CellsAt.lt HC7_g2.out
    simp at rg20 rg21 rg22 rg23 rg24 rg25 rg26
    go_wp2_with fail
    clear rg10 rg11 rg12 rg13 rg1l
    clear rg20 rg21 rg22 rg23 rg24 rg25 rg26 rg2l
    refine (HPO.out _ HB7.out).mono ?_
    rw [hix]
    rintro e w3 ⟨rfl, b3⟩
    have HB8 : Hid (Below w.heap.size w w3) := HB7.out.trans (b3.mono HB7.out.size)
    have HC8_g1 : Hid (CellsAt w3 w.heap.size 27 #[.int .i64 K.major, .int .i64 K.minor, .slice qe lk je, .slice (some ⟨b, off, none⟩) l.length cap]) := HC7_g1.out.below b3 HC7_g1.out.lt
    have HC8_g2 : Hid (CellsAt w3 (w.heap.size + 1) 31 #[.string M.name, .int .i64 M.major, .int .i64 M.minor, .string M.text, .slice pe le ke, .slice pi li ki, .slice pp lp kp]) := HC7_g2.out.below b3 HC7_g2.out.lt
    have HC8_g3 : Hid (CellsAt w3 (w.heap.size + 2) 27 #[.int .i64 0, .int .i64 0, .slice none 0 0, .slice none 0 0]) := HC7_g3.out.below b3 HC7_g3.out.lt
    clear HB7 HC7_g1 HC7_g2 HC7_g3
    clear b3 HPO
    have ry7 := (HB8.out.cell (p := ⟨b, off + j * 8 + 7, none⟩) HC7.out.2).trans HC7.out.1
    have rg10 := CellsAt.cell HC8_g1.out 0
    have rg11 := CellsAt.cell HC8_g1.out 1
    have rg12 := CellsAt.cell HC8_g1.out 2
    have rg13 := CellsAt.cell HC8_g1.out 3
    have rg1l := CellsAt.lt HC8_g1.out
    simp at rg10 rg11 rg12 rg13
    have rg20 := CellsAt.cell HC8_g2.out 0
    have rg21 := CellsAt.cell HC8_g2.out 1
    have rg22 := CellsAt.cell HC8_g2.out 2
    have rg23 := CellsAt.cell HC8_g2.out 3
    have rg24 := CellsAt.cell HC8_g2.out 4
    have rg25 := CellsAt.cell HC8_g2.out 5
    have rg26 := CellsAt.cell HC8_g2.out 6
    have rg2l := CellsAt.lt HC8_g2.out
    simp at rg20 rg21 rg22 rg23 rg24 rg25 rg26
    go_wp2_with fail
    clear rg10 rg11 rg12 rg13 rg1l
    clear rg20 rg21 rg22 rg23 rg24 rg25 rg26 rg2l
    refine Calls.mono (HWOJ.out _ HB8.out) ?_
    rintro e w4 ⟨⟨v9, rfl, hp9⟩, b4⟩
    have HB9 : Hid (Below w.heap.size w w4) := HB8.out.trans (b4.mono HB8.out.size)
    have HC9_g1 : Hid (CellsAt w4 w.heap.size 27 #[.int .i64 K.major, .int .i64 K.minor, .slice qe lk je, .slice (some ⟨b, off, none⟩) l.length cap]) := HC8_g1.out.below b4 HC8_g1.out.lt
    have HC9_g2 : Hid (CellsAt w4 (w.heap.size + 1) 31 #[.string M.name, .int .i64 M.major, .int .i64 M.minor, .string M.text, .slice pe le ke, .slice pi li ki, .slice pp lp kp]) := HC8_g2.out.below b4 HC8_g2.out.lt
    have HC9_g3 : Hid (CellsAt w4 (w.heap.size + 2) 27 #[.int .i64 0, .int .i64 0, .slice none 0 0, .slice none 0 0]) := HC8_g3.out.below b4 HC8_g3.out.lt
    clear HB8 HC8_g1 HC8_g2 HC8_g3
    clear b4 HWOJ ry7 HC7
    obtain ⟨a9, c9, rfl⟩ : ∃ a9 c9, v9 = .slice a9 R.length c9 := by obtain ⟨⟨a9, c9, h, _⟩, _⟩ := hp9; exact ⟨a9, c9, h⟩
    have HP0_n : Hid (IsPlcs w4.heap.size w4 (.slice a9 R.length c9) R) := hp9
    clear hp9
    have rg10 := CellsAt.cell HC9_g1.out 0
    have rg11 := CellsAt.cell HC9_g1.out 1
    have rg12 := CellsAt.cell HC9_g1.out 2
    have rg13 := CellsAt.cell HC9_g1.out 3
    have rg1l := CellsAt.lt HC9_g1.out
    simp at rg10 rg11 rg12 rg13
    have rg20 := CellsAt.cell HC9_g2.out 0
    have rg21 := CellsAt.cell HC9_g2.out 1
    have rg22 := CellsAt.cell HC9_g2.out 2
    have rg23 := CellsAt.cell HC9_g2.out 3
    have rg24 := CellsAt.cell HC9_g2.out 4
    have rg25 := CellsAt.cell HC9_g2.out 5
    have rg26 := CellsAt.cell HC9_g2.out 6
    have rg2l := CellsAt.lt HC9_g2.out
    simp at rg20 rg21 rg22 rg23 rg24 rg25 rg26
    go_wp2_with fail
    clear rg10 rg11 rg12 rg13 rg1l
    clear rg20 rg21 rg22 rg23 rg24 rg25 rg26 rg2l
    refine (HSM.out _).mono ?_
    rintro e w5 ⟨rfl, b5⟩
    have HP10_n : Hid (IsPlcs w5.heap.size w5 (.slice a9 R.length c9) R) := (HP0_n.out.below b5).more b5.size
    clear HP0_n
    have HB10 : Hid (Below w.heap.size w w5) := HB9.out.trans (b5.mono HB9.out.size)
    have HC10_g1 : Hid (CellsAt w5 w.heap.size 27 #[.int .i64 K.major, .int .i64 K.minor, .slice qe lk je, .slice (some ⟨b, off, none⟩) l.length cap]) := HC9_g1.out.below b5 HC9_g1.out.lt
    have HC10_g2 : Hid (CellsAt w5 (w.heap.size + 1) 31 #[.string M.name, .int .i64 M.major, .int .i64 M.minor, .string M.text, .slice pe le ke, .slice pi li ki, .slice pp lp kp]) := HC9_g2.out.below b5 HC9_g2.out.lt
    have HC10_g3 : Hid (CellsAt w5 (w.heap.size + 2) 27 #[.int .i64 0, .int .i64 0, .slice none 0 0, .slice none 0 0]) := HC9_g3.out.below b5 HC9_g3.out.lt
    clear HB9 HC9_g1 HC9_g2 HC9_g3
    clear b5
    have rg10 := CellsAt.cell HC10_g1.out 0
    have rg11 := CellsAt.cell HC10_g1.out 1
    have rg12 := CellsAt.cell HC10_g1.out 2
    have rg13 := CellsAt.cell HC10_g1.out 3
    have rg1l := CellsAt.lt HC10_g1.out
    simp at rg10 rg11 rg12 rg13
    have rg20 := CellsAt.cell HC10_g2.out 0
    have rg21 := CellsAt.cell HC10_g2.out 1
    have rg22 := CellsAt.cell HC10_g2.out 2
    have rg23 := CellsAt.cell HC10_g2.out 3
    have rg24 := CellsAt.cell HC10_g2.out 4
    have rg25 := CellsAt.cell HC10_g2.out 5
    have rg26 := CellsAt.cell HC10_g2.out 6
    have rg2l := CellsAt.lt HC10_g2.out
    simp at rg20 rg21 rg22 rg23 rg24 rg25 rg26
    go_upto_region 11 with fail
    clear rg10 rg11 rg12 rg13 rg1l
    clear rg20 rg21 rg22 rg23 rg24 rg25 rg26 rg2l
    go_loopw [10, 11] (fun f i wr => ∃ (k : Nat) (bb : Bool), k ≤ R.length ∧ f = .bool bb ∧ i = .int .i64 k ∧ Hid (bb = true ↔ (en ≤ 16 ∧ ∀ (q : Nat) (y : PV), q < k → R[q]? = some y → ¬ (fx < y.first ∧ y.first < en))) ∧ Hid (Below w.heap.size w wr) ∧ Hid (CellsAt wr w.heap.size 27 #[.int .i64 K.major, .int .i64 K.minor, .slice qe lk je, .slice (some ⟨b, off, none⟩) l.length cap]) ∧ Hid (CellsAt wr (w.heap.size + 1) 31 #[.string M.name, .int .i64 M.major, .int .i64 M.minor, .string M.text, .slice pe le ke, .slice pi li ki, .slice pp lp kp]) ∧ Hid (CellsAt wr (w.heap.size + 2) 27 #[.int .i64 0, .int .i64 0, .slice none 0 0, .slice none 0 0]) ∧ Hid (IsPlcs wr.heap.size wr (.slice a9 R.length c9) R)) (fun _ i _ => R.length - (intOf i).toNat)
    case atStart => exact ⟨0, decide (en ≤ 16), Nat.zero_le _, rfl, rfl, ⟨fun h => ⟨of_decide_eq_true h, fun q y hq _ => absurd hq (by omega)⟩, fun h => decide_eq_true h.1⟩, HB10, HC10_g1, HC10_g2, HC10_g3, HP10_n⟩
    case round =>
      clear HB10 HC10_g1 HC10_g2 HC10_g3 HP10_n
      obtain ⟨k, bb, hk, rfl, rfl, HFB, HBr, HCr1, HCr2, HCr3, HPr⟩ := hrel
      by_cases hlt : k < R.length
      · obtain ⟨y, hy⟩ : ∃ y, R[k]? = some y := ⟨_, List.getElem?_eq_getElem hlt⟩
        have HPQ : Hid _ := HPr
        obtain ⟨⟨a8, c8, e8, -, hrw⟩, -⟩ := HPr.out
        injection e8 with e8 _ e9
        subst e8 e9
        rcases hrw with h | ⟨b9, o9, rfl, hbn, hcells⟩
        · subst h; simp at hlt
        have u7 := cell_regrown (hcells k y hy 7 (by omega))
        dsimp only [PV.cell] at u7
        have HY : Hid (R[k]? = some y) := hy
        generalize hyf : y.first = yf at *
        have HYF : Hid (y.first = yf) := hyf
        clear hyf hcells hy
        have hkl : (k : Int) < (R.length : Int) := by omega
        have HQ1 : Hid (∀ d os, Calls Tryz.prog 52 #[.agg #[.string M.name, .int .i64 M.major, .int .i64 M.minor, .string M.text, .slice pe le ke, .slice pi li ki, .slice pp lp kp]] (grow (redrawn wr d) os) fun e w' => e = .returned (.int .i64 sz) ∧ Below (grow (redrawn wr d) os).heap.size (grow (redrawn wr d) os) w') := fun d os => HSM.out _
        have rg20 := CellsAt.cell HCr2.out 0
        have rg21 := CellsAt.cell HCr2.out 1
        have rg22 := CellsAt.cell HCr2.out 2
        have rg23 := CellsAt.cell HCr2.out 3
        have rg24 := CellsAt.cell HCr2.out 4
        have rg25 := CellsAt.cell HCr2.out 5
        have rg26 := CellsAt.cell HCr2.out 6
        have rg2l := CellsAt.lt HCr2.out
        simp at rg20 rg21 rg22 rg23 rg24 rg25 rg26
        have y0 := cell_regrown rg20
        have y1 := cell_regrown rg21
        have y2 := cell_regrown rg22
        have y3 := cell_regrown rg23
        have y4 := cell_regrown rg24
        have y5 := cell_regrown rg25
        have y6 := cell_regrown rg26
        clear rg20 rg21 rg22 rg23 rg24 rg25 rg26 rg2l
        by_cases hq1 : fx < yf
        · by_cases hq2 : yf < en
          · have hd1 : decide (fx < yf) = true := decide_eq_true hq1
            have hd2 : decide (yf > fx) = true := decide_eq_true hq1
            have hd3 : decide (yf < en) = true := decide_eq_true hq2
            go_wp2_with fail
            refine wp_region_quiet_below (by kernel_rfl) (by kernel_rfl) ?_
            repeat (go_big_quiet_step ((go_at_call 52; go_must (exact Calls.regrown_of (HQ1.out _ _)))))
            refine wpQuiet_nil ?_
            intro w6 hw'
            obtain ⟨⟨dq, osq⟩, hw''⟩ := hw'
            have bq := below_regrown wr dq osq
            rw [← hw''] at bq
            clear hw'' HQ1 u7 y0 y1 y2 y3 y4 y5 y6
            have HP11_n : Hid (IsPlcs w6.heap.size w6 (.slice (some ⟨b9, o9, none⟩) R.length c9) R) := (HPQ.out.below bq).more bq.size
            clear HPQ
            have HB11 : Hid (Below w.heap.size w w6) := HBr.out.trans (bq.mono HBr.out.size)
            have HC11_g1 : Hid (CellsAt w6 w.heap.size 27 #[.int .i64 K.major, .int .i64 K.minor, .slice qe lk je, .slice (some ⟨b, off, none⟩) l.length cap]) := HCr1.out.below bq HCr1.out.lt
            have HC11_g2 : Hid (CellsAt w6 (w.heap.size + 1) 31 #[.string M.name, .int .i64 M.major, .int .i64 M.minor, .string M.text, .slice pe le ke, .slice pi li ki, .slice pp lp kp]) := HCr2.out.below bq HCr2.out.lt
            have HC11_g3 : Hid (CellsAt w6 (w.heap.size + 2) 27 #[.int .i64 0, .int .i64 0, .slice none 0 0, .slice none 0 0]) := HCr3.out.below bq HCr3.out.lt
            clear HBr HCr1 HCr2 HCr3
            clear bq
            have HFB2 : Hid (false = true ↔ (en ≤ 16 ∧ ∀ (q : Nat) (z : PV), q < k + 1 → R[q]? = some z → ¬ (fx < z.first ∧ z.first < en))) := by
              show _ ↔ _
              refine ⟨fun g => (by cases g), fun g => absurd (g.2 k y (by omega) HY.out) ?_⟩
              rw [HYF.out]
              omega
            go_wp2_with fail
            exact ⟨⟨k + 1, false, by omega, rfl, by go_num, HFB2, HB11, HC11_g1, HC11_g2, HC11_g3, HP11_n⟩, by simp [intOf]; omega⟩
          · have hd1 : decide (fx < yf) = true := decide_eq_true hq1
            have hd2 : decide (yf > fx) = true := decide_eq_true hq1
            have hd3 : decide (yf < en) = false := decide_eq_false hq2
            go_wp2_with fail
            refine wp_region_quiet_below (by kernel_rfl) (by kernel_rfl) ?_
            repeat (go_big_quiet_step ((go_at_call 52; go_must (exact Calls.regrown_of (HQ1.out _ _)))))
            refine wpQuiet_nil ?_
            intro w6 hw'
            obtain ⟨⟨dq, osq⟩, hw''⟩ := hw'
            have bq := below_regrown wr dq osq
            rw [← hw''] at bq
            clear hw'' HQ1 u7 y0 y1 y2 y3 y4 y5 y6
            have HP11_n : Hid (IsPlcs w6.heap.size w6 (.slice (some ⟨b9, o9, none⟩) R.length c9) R) := (HPQ.out.below bq).more bq.size
            clear HPQ
            have HB11 : Hid (Below w.heap.size w w6) := HBr.out.trans (bq.mono HBr.out.size)
            have HC11_g1 : Hid (CellsAt w6 w.heap.size 27 #[.int .i64 K.major, .int .i64 K.minor, .slice qe lk je, .slice (some ⟨b, off, none⟩) l.length cap]) := HCr1.out.below bq HCr1.out.lt
            have HC11_g2 : Hid (CellsAt w6 (w.heap.size + 1) 31 #[.string M.name, .int .i64 M.major, .int .i64 M.minor, .string M.text, .slice pe le ke, .slice pi li ki, .slice pp lp kp]) := HCr2.out.below bq HCr2.out.lt
            have HC11_g3 : Hid (CellsAt w6 (w.heap.size + 2) 27 #[.int .i64 0, .int .i64 0, .slice none 0 0, .slice none 0 0]) := HCr3.out.below bq HCr3.out.lt
            clear HBr HCr1 HCr2 HCr3
            clear bq
            have HFB2 : Hid (bb = true ↔ (en ≤ 16 ∧ ∀ (q : Nat) (z : PV), q < k + 1 → R[q]? = some z → ¬ (fx < z.first ∧ z.first < en))) := by
              show _ ↔ _
              refine HFB.out.trans ⟨fun g => ⟨g.1, fun q z hq hz => ?_⟩, fun g => ⟨g.1, fun q z hq hz => g.2 q z (by omega) hz⟩⟩
              by_cases hqk : q = k
              · subst hqk
                rw [HY.out] at hz
                obtain rfl := Option.some.inj hz
                rw [HYF.out]
                omega
              · exact g.2 q z (by omega) hz
            go_wp2_with fail
            exact ⟨⟨k + 1, bb, by omega, rfl, by go_num, HFB2, HB11, HC11_g1, HC11_g2, HC11_g3, HP11_n⟩, by simp [intOf]; omega⟩
        · have hd1 : decide (fx < yf) = false := decide_eq_false hq1
          have hd2 : decide (yf > fx) = false := decide_eq_false hq1
          go_wp2_with fail
          refine wp_region_quiet_below (by kernel_rfl) (by kernel_rfl) ?_
          repeat (go_big_quiet_step ((go_at_call 52; go_must (exact Calls.regrown_of (HQ1.out _ _)))))
          refine wpQuiet_nil ?_
          intro w6 hw'
          obtain ⟨⟨dq, osq⟩, hw''⟩ := hw'
          have bq := below_regrown wr dq osq
          rw [← hw''] at bq
          clear hw'' HQ1 u7 y0 y1 y2 y3 y4 y5 y6
          have HP11_n : Hid (IsPlcs w6.heap.size w6 (.slice (some ⟨b9, o9, none⟩) R.length c9) R) := (HPQ.out.below bq).more bq.size
          clear HPQ
          have HB11 : Hid (Below w.heap.size w w6) := HBr.out.trans (bq.mono HBr.out.size)
          have HC11_g1 : Hid (CellsAt w6 w.heap.size 27 #[.int .i64 K.major, .int .i64 K.minor, .slice qe lk je, .slice (some ⟨b, off, none⟩) l.length cap]) := HCr1.out.below bq HCr1.out.lt
          have HC11_g2 : Hid (CellsAt w6 (w.heap.size + 1) 31 #[.string M.name, .int .i64 M.major, .int .i64 M.minor, .string M.text, .slice pe le ke, .slice pi li ki, .slice pp lp kp]) := HCr2.out.below bq HCr2.out.lt
          have HC11_g3 : Hid (CellsAt w6 (w.heap.size + 2) 27 #[.int .i64 0, .int .i64 0, .slice none 0 0, .slice none 0 0]) := HCr3.out.below bq HCr3.out.lt
          clear HBr HCr1 HCr2 HCr3
          clear bq
          have HFB2 : Hid (bb = true ↔ (en ≤ 16 ∧ ∀ (q : Nat) (z : PV), q < k + 1 → R[q]? = some z → ¬ (fx < z.first ∧ z.first < en))) := by
            show _ ↔ _
            refine HFB.out.trans ⟨fun g => ⟨g.1, fun q z hq hz => ?_⟩, fun g => ⟨g.1, fun q z hq hz => g.2 q z (by omega) hz⟩⟩
            by_cases hqk : q = k
            · subst hqk
              rw [HY.out] at hz
              obtain rfl := Option.some.inj hz
              rw [HYF.out]
              omega
            · exact g.2 q z (by omega) hz
          go_wp2_with fail
          exact ⟨⟨k + 1, bb, by omega, rfl, by go_num, HFB2, HB11, HC11_g1, HC11_g2, HC11_g3, HP11_n⟩, by simp [intOf]; omega⟩
      · obtain rfl : k = R.length := by omega
        have hlt2 : ¬ ((R.length : Int) < (R.length : Int)) := by omega
        have HFF : Hid (bb = true ↔ FitsAt R M fx) := by
          show bb = true ↔ FitsAt R M fx
          rw [HFA.out]
          refine HFB.out.trans ⟨fun g => ⟨g.1, fun q hq => ?_⟩, fun g => ⟨g.1, fun q z _ hz => g.2 z (List.mem_of_getElem? hz)⟩⟩
          obtain ⟨i, hi, rfl⟩ := List.getElem_of_mem hq
          exact g.2 i _ hi (List.getElem?_eq_getElem hi)
        clear HFB HFA hlt
        cases bb
        · have hnf : ¬ FitsAt R M fx := fun h => by have := HFF.out.2 h; cases this
          clear HFF
          have rg10 := CellsAt.cell HCr1.out 0
          have rg11 := CellsAt.cell HCr1.out 1
          have rg12 := CellsAt.cell HCr1.out 2
          have rg13 := CellsAt.cell HCr1.out 3
          have rg1l := CellsAt.lt HCr1.out
          simp at rg10 rg11 rg12 rg13
          have rg20 := CellsAt.cell HCr2.out 0
          have rg21 := CellsAt.cell HCr2.out 1
          have rg22 := CellsAt.cell HCr2.out 2
          have rg23 := CellsAt.cell HCr2.out 3
          have rg24 := CellsAt.cell HCr2.out 4
          have rg25 := CellsAt.cell HCr2.out 5
          have rg26 := CellsAt.cell HCr2.out 6
          have rg2l := CellsAt.lt HCr2.out
          simp at rg20 rg21 rg22 rg23 rg24 rg25 rg26
          go_wp2_with fail
          clear rg10 rg11 rg12 rg13 rg1l
          clear rg20 rg21 rg22 rg23 rg24 rg25 rg26 rg2l
          refine (HSM.out _).mono ?_
          rintro e w6 ⟨rfl, b6⟩
          have HP11_n : Hid (IsPlcs w6.heap.size w6 (.slice a9 R.length c9) R) := (HPr.out.below b6).more b6.size
          clear HPr
          have HB11 : Hid (Below w.heap.size w w6) := HBr.out.trans (b6.mono HBr.out.size)
          have HC11_g1 : Hid (CellsAt w6 w.heap.size 27 #[.int .i64 K.major, .int .i64 K.minor, .slice qe lk je, .slice (some ⟨b, off, none⟩) l.length cap]) := HCr1.out.below b6 HCr1.out.lt
          have HC11_g2 : Hid (CellsAt w6 (w.heap.size + 1) 31 #[.string M.name, .int .i64 M.major, .int .i64 M.minor, .string M.text, .slice pe le ke, .slice pi li ki, .slice pp lp kp]) := HCr2.out.below b6 HCr2.out.lt
          have HC11_g3 : Hid (CellsAt w6 (w.heap.size + 2) 27 #[.int .i64 0, .int .i64 0, .slice none 0 0, .slice none 0 0]) := HCr3.out.below b6 HCr3.out.lt
          clear HBr HCr1 HCr2 HCr3
          clear b6
          have rg10 := CellsAt.cell HC11_g1.out 0
          have rg11 := CellsAt.cell HC11_g1.out 1
          have rg12 := CellsAt.cell HC11_g1.out 2
          have rg13 := CellsAt.cell HC11_g1.out 3
          have rg1l := CellsAt.lt HC11_g1.out
          simp at rg10 rg11 rg12 rg13
          have rg20 := CellsAt.cell HC11_g2.out 0
          have rg21 := CellsAt.cell HC11_g2.out 1
          have rg22 := CellsAt.cell HC11_g2.out 2
          have rg23 := CellsAt.cell HC11_g2.out 3
          have rg24 := CellsAt.cell HC11_g2.out 4
          have rg25 := CellsAt.cell HC11_g2.out 5
          have rg26 := CellsAt.cell HC11_g2.out 6
          have rg2l := CellsAt.lt HC11_g2.out
          simp at rg20 rg21 rg22 rg23 rg24 rg25 rg26
          go_wp2_with fail
          clear rg10 rg11 rg12 rg13 rg1l
          clear rg20 rg21 rg22 rg23 rg24 rg25 rg26 rg2l
          refine Calls.mono (HFTR.out _ _ HP11_n.out) ?_
          rintro e w7 ⟨rfl, b7⟩
          have HP12_n : Hid (IsPlcs w7.heap.size w7 (.slice a9 R.length c9) R) := (HP11_n.out.below b7).more b7.size
          clear HP11_n
          have HB12 : Hid (Below w.heap.size w w7) := HB11.out.trans (b7.mono HB11.out.size)
          have HC12_g1 : Hid (CellsAt w7 w.heap.size 27 #[.int .i64 K.major, .int .i64 K.minor, .slice qe lk je, .slice (some ⟨b, off, none⟩) l.length cap]) := HC11_g1.out.below b7 HC11_g1.out.lt
          have HC12_g2 : Hid (CellsAt w7 (w.heap.size + 1) 31 #[.string M.name, .int .i64 M.major, .int .i64 M.minor, .string M.text, .slice pe le ke, .slice pi li ki, .slice pp lp kp]) := HC11_g2.out.below b7 HC11_g2.out.lt
          have HC12_g3 : Hid (CellsAt w7 (w.heap.size + 2) 27 #[.int .i64 0, .int .i64 0, .slice none 0 0, .slice none 0 0]) := HC11_g3.out.below b7 HC11_g3.out.lt
          clear HB11 HC11_g1 HC11_g2 HC11_g3
          clear b7 HFTR HSM
          rcases HK.out with ⟨hF, _⟩ | ⟨_, hfr, hd⟩ | ⟨_, f, hf0, hfr, hd⟩
          · exact absurd hF hnf
          · have HPR : Hid (PR = ((emptyK, []), 8)) := by
              show PR = _
              rw [HPRR.out, hd]
              exact if_pos (by decide)
            subst hfr
            clear HK hnf hd
            have rg30 := CellsAt.cell HC12_g3.out 0
            have rg31 := CellsAt.cell HC12_g3.out 1
            have rg32 := CellsAt.cell HC12_g3.out 2
            have rg33 := CellsAt.cell HC12_g3.out 3
            have fg30 := CellsAt.frozen HC12_g3.out 0
            have fg31 := CellsAt.frozen HC12_g3.out 1
            have fg32 := CellsAt.frozen HC12_g3.out 2
            have fg33 := CellsAt.frozen HC12_g3.out 3
            have rg3l := CellsAt.lt HC12_g3.out
            simp at rg30 rg31 rg32 rg33
            have rg10 := CellsAt.cell HC12_g1.out 0
            have rg11 := CellsAt.cell HC12_g1.out 1
            have rg12 := CellsAt.cell HC12_g1.out 2
            have rg13 := CellsAt.cell HC12_g1.out 3
            have rg1l := CellsAt.lt HC12_g1.out
            simp at rg10 rg11 rg12 rg13
            have rg20 := CellsAt.cell HC12_g2.out 0
            have rg21 := CellsAt.cell HC12_g2.out 1
            have rg22 := CellsAt.cell HC12_g2.out 2
            have rg23 := CellsAt.cell HC12_g2.out 3
            have rg24 := CellsAt.cell HC12_g2.out 4
            have rg25 := CellsAt.cell HC12_g2.out 5
            have rg26 := CellsAt.cell HC12_g2.out 6
            have rg2l := CellsAt.lt HC12_g2.out
            simp at rg20 rg21 rg22 rg23 rg24 rg25 rg26
            have hgl := HB12.out.size
            go_wp2
            have hZ9 := sets4 HC12_g3.out (.int .i64 0) (.int .i64 0) (.slice none 0 0) (.slice none 0 0)
            have hG9 := sets4_grown w7 (w.heap.size + 2) (.int .i64 0) (.int .i64 0) (.slice none 0 0) (.slice none 0 0)
            have hB9 := HB12.out.grown hG9 HB12.out.size (fun q hq => by obtain rfl := Option.some.inj hq; omega)
            refine bodyPost_ret (results_cell_tmp_row rfl _ _ _ _ _ _ _ rfl hZ9 Tryz.underlying27 rfl (by kernel_rfl)) rfl ?_
            rw [HPR.out]
            exact ⟨⟨_, [], rfl, rfl, zero_isReg _ _⟩, hB9⟩
          · subst hfr
            clear HK hnf
            have hfn : decide (FR < 0) = false := decide_eq_false (by omega)
            have hmap := putV_map ⟨M, .slice pe le ke, .slice pi li ki, .slice pp lp kp, FR⟩ R
            dsimp only [PV.plc] at hmap
            have hprr := HPRR.out
            rw [hd, if_neg (fun h => h rfl)] at hprr
            have HFX : Hid (∀ y ∈ putV R ⟨M, .slice pe le ke, .slice pi li ki, .slice pp lp kp, FR⟩, y.mod.fits) := HFX0.out _ rfl
            have HWX : Hid _ := HWI.out R (.slice a9 R.length c9) FR
            clear HWI HFX0
            generalize putV R ⟨M, .slice pe le ke, .slice pi li ki, .slice pp lp kp, FR⟩ = l2 at *
            have HPR : Hid (PR = if chkRg K (l2.map PV.plc) ≠ 0 then ((emptyK, []), chkRg K (l2.map PV.plc)) else ((K, l2.map PV.plc), 0)) := by
              show PR = _
              rw [hprr, hmap]
            clear hprr hd hmap HPRR
            have rg10 := CellsAt.cell HC12_g1.out 0
            have rg11 := CellsAt.cell HC12_g1.out 1
            have rg12 := CellsAt.cell HC12_g1.out 2
            have rg13 := CellsAt.cell HC12_g1.out 3
            have fg10 := CellsAt.frozen HC12_g1.out 0
            have fg11 := CellsAt.frozen HC12_g1.out 1
            have fg12 := CellsAt.frozen HC12_g1.out 2
            have fg13 := CellsAt.frozen HC12_g1.out 3
            have rg1l := CellsAt.lt HC12_g1.out
            simp at rg10 rg11 rg12 rg13
            have rg20 := CellsAt.cell HC12_g2.out 0
            have rg21 := CellsAt.cell HC12_g2.out 1
            have rg22 := CellsAt.cell HC12_g2.out 2
            have rg23 := CellsAt.cell HC12_g2.out 3
            have rg24 := CellsAt.cell HC12_g2.out 4
            have rg25 := CellsAt.cell HC12_g2.out 5
            have rg26 := CellsAt.cell HC12_g2.out 6
            have rg2l := CellsAt.lt HC12_g2.out
            simp at rg20 rg21 rg22 rg23 rg24 rg25 rg26
            go_wp2_with fail
            clear rg10 rg11 rg12 rg13 rg1l fg10 fg11 fg12 fg13
            clear rg20 rg21 rg22 rg23 rg24 rg25 rg26 rg2l
            refine Calls.mono (HWX.out _ hR8 HP12_n.out HB12.out) ?_
            clear HP12_n
            rintro e w9 ⟨⟨v5, rfl, hp5⟩, b9⟩
            have HB13 : Hid (Below w.heap.size w w9) := HB12.out.trans (b9.mono HB12.out.size)
            have HC13_g1 : Hid (CellsAt w9 w.heap.size 27 #[.int .i64 K.major, .int .i64 K.minor, .slice qe lk je, .slice (some ⟨b, off, none⟩) l.length cap]) := HC12_g1.out.below b9 HC12_g1.out.lt
            have HC13_g2 : Hid (CellsAt w9 (w.heap.size + 1) 31 #[.string M.name, .int .i64 M.major, .int .i64 M.minor, .string M.text, .slice pe le ke, .slice pi li ki, .slice pp lp kp]) := HC12_g2.out.below b9 HC12_g2.out.lt
            have HC13_g3 : Hid (CellsAt w9 (w.heap.size + 2) 27 #[.int .i64 0, .int .i64 0, .slice none 0 0, .slice none 0 0]) := HC12_g3.out.below b9 HC12_g3.out.lt
            clear HB12 HC12_g1 HC12_g2 HC12_g3
            clear b9 HWX
            obtain ⟨a5, c5, rfl⟩ : ∃ a5 c5, v5 = .slice a5 l2.length c5 := by obtain ⟨⟨a5, c5, h, _⟩, _⟩ := hp5; exact ⟨a5, c5, h⟩
            have hbw := HB13.out.size
            have HIN5 : Hid (IsReg w9.heap.size w9 (.agg #[.int .i64 K.major, .int .i64 K.minor, .slice qe lk je, .slice a5 l2.length c5]) K l2) := ⟨_, _, rfl, (HEX.out.below HB13.out).more HB13.out.size, hp5⟩
            have HIN6 : Hid (IsReg (w9.setCell ⟨w.heap.size, 3, none⟩ (.slice a5 l2.length c5)).heap.size (w9.setCell ⟨w.heap.size, 3, none⟩ (.slice a5 l2.length c5)) (.agg #[.int .i64 K.major, .int .i64 K.minor, .slice qe lk je, .slice a5 l2.length c5]) K l2) := reg_store HIN5.out HC13_g1.out
            have hG := grown_set w9 w.heap.size 3 (.slice a5 l2.length c5)
            have HCN_g1 : Hid (CellsAt (w9.setCell ⟨w.heap.size, 3, none⟩ (.slice a5 l2.length c5)) w.heap.size 27 #[.int .i64 K.major, .int .i64 K.minor, .slice qe lk je, .slice a5 l2.length c5]) := by
              have := CellsAt.set 3 (.slice a5 l2.length c5) HC13_g1.out
              simp only [List.setIfInBounds_toArray, List.set_cons_zero, List.set_cons_succ] at this
              exact this
            have HCN_g2 : Hid (CellsAt (w9.setCell ⟨w.heap.size, 3, none⟩ (.slice a5 l2.length c5)) (w.heap.size + 1) 31 #[.string M.name, .int .i64 M.major, .int .i64 M.minor, .string M.text, .slice pe le ke, .slice pi li ki, .slice pp lp kp]) := HC13_g2.out.kept hG (by intro e; have := Option.some.inj e; omega)
            have HCN_g3 : Hid (CellsAt (w9.setCell ⟨w.heap.size, 3, none⟩ (.slice a5 l2.length c5)) (w.heap.size + 2) 27 #[.int .i64 0, .int .i64 0, .slice none 0 0, .slice none 0 0]) := HC13_g3.out.kept hG (by intro e; have := Option.some.inj e; omega)
            have HBN : Hid (Below w.heap.size w (w9.setCell ⟨w.heap.size, 3, none⟩ (.slice a5 l2.length c5))) := HB13.out.grown hG HB13.out.size (fun q hq => by obtain rfl := Option.some.inj hq; omega)
            have rg10 := CellsAt.cell HC13_g1.out 0
            have rg11 := CellsAt.cell HC13_g1.out 1
            have rg12 := CellsAt.cell HC13_g1.out 2
            have rg13 := CellsAt.cell HC13_g1.out 3
            have fg10 := CellsAt.frozen HC13_g1.out 0
            have fg11 := CellsAt.frozen HC13_g1.out 1
            have fg12 := CellsAt.frozen HC13_g1.out 2
            have fg13 := CellsAt.frozen HC13_g1.out 3
            have rg1l := CellsAt.lt HC13_g1.out
            simp at rg10 rg11 rg12 rg13
            have rg20 := CellsAt.cell HC13_g2.out 0
            have rg21 := CellsAt.cell HC13_g2.out 1
            have rg22 := CellsAt.cell HC13_g2.out 2
            have rg23 := CellsAt.cell HC13_g2.out 3
            have rg24 := CellsAt.cell HC13_g2.out 4
            have rg25 := CellsAt.cell HC13_g2.out 5
            have rg26 := CellsAt.cell HC13_g2.out 6
            have rg2l := CellsAt.lt HC13_g2.out
            simp at rg20 rg21 rg22 rg23 rg24 rg25 rg26
            have rq0 := CellsAt.cell HCN_g1.out 0
            have rq1 := CellsAt.cell HCN_g1.out 1
            have rq2 := CellsAt.cell HCN_g1.out 2
            have rq3 := CellsAt.cell HCN_g1.out 3
            simp at rq0 rq1 rq2 rq3
            go_wp2_with fail
            clear rg10 rg11 rg12 rg13 rg1l fg10 fg11 fg12 fg13
            clear rg20 rg21 rg22 rg23 rg24 rg25 rg26 rg2l
            clear rq0 rq1 rq2 rq3 hG
            generalize (w9.setCell ⟨w.heap.size, 3, none⟩ (.slice a5 l2.length c5)) = wx at *
            clear HC13_g1 HC13_g2 HC13_g3 HB13 HIN5
            refine (HRG.out l2 _ _ HIN6.out HFX.out).mono ?_
            rintro e wy ⟨rfl, b7⟩
            have HB24 : Hid (Below w.heap.size w wy) := HBN.out.trans (b7.mono HBN.out.size)
            have HC24_g1 : Hid (CellsAt wy w.heap.size 27 #[.int .i64 K.major, .int .i64 K.minor, .slice qe lk je, .slice a5 l2.length c5]) := HCN_g1.out.below b7 HCN_g1.out.lt
            have HC24_g2 : Hid (CellsAt wy (w.heap.size + 1) 31 #[.string M.name, .int .i64 M.major, .int .i64 M.minor, .string M.text, .slice pe le ke, .slice pi li ki, .slice pp lp kp]) := HCN_g2.out.below b7 HCN_g2.out.lt
            have HC24_g3 : Hid (CellsAt wy (w.heap.size + 2) 27 #[.int .i64 0, .int .i64 0, .slice none 0 0, .slice none 0 0]) := HCN_g3.out.below b7 HCN_g3.out.lt
            have HR24_x : Hid (IsReg wy.heap.size wy (.agg #[.int .i64 K.major, .int .i64 K.minor, .slice qe lk je, .slice a5 l2.length c5]) K l2) := (HIN6.out.below b7).more b7.size
            clear HBN HCN_g1 HCN_g2 HCN_g3 HIN6
            clear b7 HFX HRG
            generalize hcr : chkRg K (l2.map PV.plc) = cr at *
            by_cases hz : cr = 0
            · subst hz
              have rg30 := CellsAt.cell HC24_g3.out 0
              have rg31 := CellsAt.cell HC24_g3.out 1
              have rg32 := CellsAt.cell HC24_g3.out 2
              have rg33 := CellsAt.cell HC24_g3.out 3
              have fg30 := CellsAt.frozen HC24_g3.out 0
              have fg31 := CellsAt.frozen HC24_g3.out 1
              have fg32 := CellsAt.frozen HC24_g3.out 2
              have fg33 := CellsAt.frozen HC24_g3.out 3
              have rg3l := CellsAt.lt HC24_g3.out
              simp at rg30 rg31 rg32 rg33
              have rg10 := CellsAt.cell HC24_g1.out 0
              have rg11 := CellsAt.cell HC24_g1.out 1
              have rg12 := CellsAt.cell HC24_g1.out 2
              have rg13 := CellsAt.cell HC24_g1.out 3
              have rg1l := CellsAt.lt HC24_g1.out
              simp at rg10 rg11 rg12 rg13
              have rg20 := CellsAt.cell HC24_g2.out 0
              have rg21 := CellsAt.cell HC24_g2.out 1
              have rg22 := CellsAt.cell HC24_g2.out 2
              have rg23 := CellsAt.cell HC24_g2.out 3
              have rg24 := CellsAt.cell HC24_g2.out 4
              have rg25 := CellsAt.cell HC24_g2.out 5
              have rg26 := CellsAt.cell HC24_g2.out 6
              have rg2l := CellsAt.lt HC24_g2.out
              simp at rg20 rg21 rg22 rg23 rg24 rg25 rg26
              have hgl := HB24.out.size
              go_wp2
              have hZ9 := sets4 HC24_g3.out (.int .i64 K.major) (.int .i64 K.minor) (.slice qe lk je) (.slice a5 l2.length c5)
              have hG9 := sets4_grown wy (w.heap.size + 2) (.int .i64 K.major) (.int .i64 K.minor) (.slice qe lk je) (.slice a5 l2.length c5)
              have hB9 := HB24.out.grown hG9 HB24.out.size (fun q hq => by obtain rfl := Option.some.inj hq; omega)
              refine bodyPost_ret (results_cell_tmp_row rfl _ _ _ _ _ _ _ rfl hZ9 Tryz.underlying27 rfl (by kernel_rfl)) rfl ?_
              rw [HPR.out]
              exact ⟨⟨_, l2, rfl, rfl, (HR24_x.out.apart4 hG9 (Nat.le_refl _) HC24_g3.out).more hG9.size⟩, hB9⟩
            · have hz' : (cr != 0) = true := by simpa using hz
              have rg30 := CellsAt.cell HC24_g3.out 0
              have rg31 := CellsAt.cell HC24_g3.out 1
              have rg32 := CellsAt.cell HC24_g3.out 2
              have rg33 := CellsAt.cell HC24_g3.out 3
              have fg30 := CellsAt.frozen HC24_g3.out 0
              have fg31 := CellsAt.frozen HC24_g3.out 1
              have fg32 := CellsAt.frozen HC24_g3.out 2
              have fg33 := CellsAt.frozen HC24_g3.out 3
              have rg3l := CellsAt.lt HC24_g3.out
              simp at rg30 rg31 rg32 rg33
              have rg10 := CellsAt.cell HC24_g1.out 0
              have rg11 := CellsAt.cell HC24_g1.out 1
              have rg12 := CellsAt.cell HC24_g1.out 2
              have rg13 := CellsAt.cell HC24_g1.out 3
              have rg1l := CellsAt.lt HC24_g1.out
              simp at rg10 rg11 rg12 rg13
              have rg20 := CellsAt.cell HC24_g2.out 0
              have rg21 := CellsAt.cell HC24_g2.out 1
              have rg22 := CellsAt.cell HC24_g2.out 2
              have rg23 := CellsAt.cell HC24_g2.out 3
              have rg24 := CellsAt.cell HC24_g2.out 4
              have rg25 := CellsAt.cell HC24_g2.out 5
              have rg26 := CellsAt.cell HC24_g2.out 6
              have rg2l := CellsAt.lt HC24_g2.out
              simp at rg20 rg21 rg22 rg23 rg24 rg25 rg26
              have hgl := HB24.out.size
              go_wp2
              have hZ9 := sets4 HC24_g3.out (.int .i64 0) (.int .i64 0) (.slice none 0 0) (.slice none 0 0)
              have hG9 := sets4_grown wy (w.heap.size + 2) (.int .i64 0) (.int .i64 0) (.slice none 0 0) (.slice none 0 0)
              have hB9 := HB24.out.grown hG9 HB24.out.size (fun q hq => by obtain rfl := Option.some.inj hq; omega)
              refine bodyPost_ret (results_cell_tmp_row rfl _ _ _ _ _ _ _ rfl hZ9 Tryz.underlying27 rfl (by kernel_rfl)) rfl ?_
              rw [HPR.out, if_pos hz]
              exact ⟨⟨_, [], rfl, rfl, zero_isReg _ _⟩, hB9⟩
        · have hF : FitsAt R M fx := HFF.out.1 rfl
          clear HFF
          rcases HK.out with ⟨_, hd⟩ | ⟨hnf, _⟩ | ⟨hnf, _⟩
          · clear HK hF
            have hmap := putV_map ⟨M, .slice pe le ke, .slice pi li ki, .slice pp lp kp, fx⟩ R
            dsimp only [PV.plc] at hmap
            have hprr := HPRR.out
            rw [hd, if_neg (fun h => h rfl)] at hprr
            have HFX : Hid (∀ y ∈ putV R ⟨M, .slice pe le ke, .slice pi li ki, .slice pp lp kp, fx⟩, y.mod.fits) := HFX0.out _ rfl
            have HWX : Hid _ := HWI.out R (.slice a9 R.length c9) fx
            clear HWI HFX0
            generalize putV R ⟨M, .slice pe le ke, .slice pi li ki, .slice pp lp kp, fx⟩ = l2 at *
            have HPR : Hid (PR = if chkRg K (l2.map PV.plc) ≠ 0 then ((emptyK, []), chkRg K (l2.map PV.plc)) else ((K, l2.map PV.plc), 0)) := by
              show PR = _
              rw [hprr, hmap]
            clear hprr hd hmap HPRR
            have rg10 := CellsAt.cell HCr1.out 0
            have rg11 := CellsAt.cell HCr1.out 1
            have rg12 := CellsAt.cell HCr1.out 2
            have rg13 := CellsAt.cell HCr1.out 3
            have fg10 := CellsAt.frozen HCr1.out 0
            have fg11 := CellsAt.frozen HCr1.out 1
            have fg12 := CellsAt.frozen HCr1.out 2
            have fg13 := CellsAt.frozen HCr1.out 3
            have rg1l := CellsAt.lt HCr1.out
            simp at rg10 rg11 rg12 rg13
            have rg20 := CellsAt.cell HCr2.out 0
            have rg21 := CellsAt.cell HCr2.out 1
            have rg22 := CellsAt.cell HCr2.out 2
            have rg23 := CellsAt.cell HCr2.out 3
            have rg24 := CellsAt.cell HCr2.out 4
            have rg25 := CellsAt.cell HCr2.out 5
            have rg26 := CellsAt.cell HCr2.out 6
            have rg2l := CellsAt.lt HCr2.out
            simp at rg20 rg21 rg22 rg23 rg24 rg25 rg26
            go_wp2_with fail
            clear rg10 rg11 rg12 rg13 rg1l fg10 fg11 fg12 fg13
            clear rg20 rg21 rg22 rg23 rg24 rg25 rg26 rg2l
            refine Calls.mono (HWX.out _ hR8 HPr.out HBr.out) ?_
            clear HPr
            rintro e w9 ⟨⟨v5, rfl, hp5⟩, b9⟩
            have HB11 : Hid (Below w.heap.size w w9) := HBr.out.trans (b9.mono HBr.out.size)
            have HC11_g1 : Hid (CellsAt w9 w.heap.size 27 #[.int .i64 K.major, .int .i64 K.minor, .slice qe lk je, .slice (some ⟨b, off, none⟩) l.length cap]) := HCr1.out.below b9 HCr1.out.lt
            have HC11_g2 : Hid (CellsAt w9 (w.heap.size + 1) 31 #[.string M.name, .int .i64 M.major, .int .i64 M.minor, .string M.text, .slice pe le ke, .slice pi li ki, .slice pp lp kp]) := HCr2.out.below b9 HCr2.out.lt
            have HC11_g3 : Hid (CellsAt w9 (w.heap.size + 2) 27 #[.int .i64 0, .int .i64 0, .slice none 0 0, .slice none 0 0]) := HCr3.out.below b9 HCr3.out.lt
            clear HBr HCr1 HCr2 HCr3
            clear b9 HWX
            obtain ⟨a5, c5, rfl⟩ : ∃ a5 c5, v5 = .slice a5 l2.length c5 := by obtain ⟨⟨a5, c5, h, _⟩, _⟩ := hp5; exact ⟨a5, c5, h⟩
            have hbw := HB11.out.size
            have HIN5 : Hid (IsReg w9.heap.size w9 (.agg #[.int .i64 K.major, .int .i64 K.minor, .slice qe lk je, .slice a5 l2.length c5]) K l2) := ⟨_, _, rfl, (HEX.out.below HB11.out).more HB11.out.size, hp5⟩
            have HIN6 : Hid (IsReg (w9.setCell ⟨w.heap.size, 3, none⟩ (.slice a5 l2.length c5)).heap.size (w9.setCell ⟨w.heap.size, 3, none⟩ (.slice a5 l2.length c5)) (.agg #[.int .i64 K.major, .int .i64 K.minor, .slice qe lk je, .slice a5 l2.length c5]) K l2) := reg_store HIN5.out HC11_g1.out
            have hG := grown_set w9 w.heap.size 3 (.slice a5 l2.length c5)
            have HCN_g1 : Hid (CellsAt (w9.setCell ⟨w.heap.size, 3, none⟩ (.slice a5 l2.length c5)) w.heap.size 27 #[.int .i64 K.major, .int .i64 K.minor, .slice qe lk je, .slice a5 l2.length c5]) := by
              have := CellsAt.set 3 (.slice a5 l2.length c5) HC11_g1.out
              simp only [List.setIfInBounds_toArray, List.set_cons_zero, List.set_cons_succ] at this
              exact this
            have HCN_g2 : Hid (CellsAt (w9.setCell ⟨w.heap.size, 3, none⟩ (.slice a5 l2.length c5)) (w.heap.size + 1) 31 #[.string M.name, .int .i64 M.major, .int .i64 M.minor, .string M.text, .slice pe le ke, .slice pi li ki, .slice pp lp kp]) := HC11_g2.out.kept hG (by intro e; have := Option.some.inj e; omega)
            have HCN_g3 : Hid (CellsAt (w9.setCell ⟨w.heap.size, 3, none⟩ (.slice a5 l2.length c5)) (w.heap.size + 2) 27 #[.int .i64 0, .int .i64 0, .slice none 0 0, .slice none 0 0]) := HC11_g3.out.kept hG (by intro e; have := Option.some.inj e; omega)
            have HBN : Hid (Below w.heap.size w (w9.setCell ⟨w.heap.size, 3, none⟩ (.slice a5 l2.length c5))) := HB11.out.grown hG HB11.out.size (fun q hq => by obtain rfl := Option.some.inj hq; omega)
            have rg10 := CellsAt.cell HC11_g1.out 0
            have rg11 := CellsAt.cell HC11_g1.out 1
            have rg12 := CellsAt.cell HC11_g1.out 2
            have rg13 := CellsAt.cell HC11_g1.out 3
            have fg10 := CellsAt.frozen HC11_g1.out 0
            have fg11 := CellsAt.frozen HC11_g1.out 1
            have fg12 := CellsAt.frozen HC11_g1.out 2
            have fg13 := CellsAt.frozen HC11_g1.out 3
            have rg1l := CellsAt.lt HC11_g1.out
            simp at rg10 rg11 rg12 rg13
            have rg20 := CellsAt.cell HC11_g2.out 0
            have rg21 := CellsAt.cell HC11_g2.out 1
            have rg22 := CellsAt.cell HC11_g2.out 2
            have rg23 := CellsAt.cell HC11_g2.out 3
            have rg24 := CellsAt.cell HC11_g2.out 4
            have rg25 := CellsAt.cell HC11_g2.out 5
            have rg26 := CellsAt.cell HC11_g2.out 6
            have rg2l := CellsAt.lt HC11_g2.out
            simp at rg20 rg21 rg22 rg23 rg24 rg25 rg26
            have rq0 := CellsAt.cell HCN_g1.out 0
            have rq1 := CellsAt.cell HCN_g1.out 1
            have rq2 := CellsAt.cell HCN_g1.out 2
            have rq3 := CellsAt.cell HCN_g1.out 3
            simp at rq0 rq1 rq2 rq3
            go_wp2_with fail
            clear rg10 rg11 rg12 rg13 rg1l fg10 fg11 fg12 fg13
            clear rg20 rg21 rg22 rg23 rg24 rg25 rg26 rg2l
            clear rq0 rq1 rq2 rq3 hG
            generalize (w9.setCell ⟨w.heap.size, 3, none⟩ (.slice a5 l2.length c5)) = wx at *
            clear HC11_g1 HC11_g2 HC11_g3 HB11 HIN5
            refine (HRG.out l2 _ _ HIN6.out HFX.out).mono ?_
            rintro e wy ⟨rfl, b7⟩
            have HB22 : Hid (Below w.heap.size w wy) := HBN.out.trans (b7.mono HBN.out.size)
            have HC22_g1 : Hid (CellsAt wy w.heap.size 27 #[.int .i64 K.major, .int .i64 K.minor, .slice qe lk je, .slice a5 l2.length c5]) := HCN_g1.out.below b7 HCN_g1.out.lt
            have HC22_g2 : Hid (CellsAt wy (w.heap.size + 1) 31 #[.string M.name, .int .i64 M.major, .int .i64 M.minor, .string M.text, .slice pe le ke, .slice pi li ki, .slice pp lp kp]) := HCN_g2.out.below b7 HCN_g2.out.lt
            have HC22_g3 : Hid (CellsAt wy (w.heap.size + 2) 27 #[.int .i64 0, .int .i64 0, .slice none 0 0, .slice none 0 0]) := HCN_g3.out.below b7 HCN_g3.out.lt
            have HR22_x : Hid (IsReg wy.heap.size wy (.agg #[.int .i64 K.major, .int .i64 K.minor, .slice qe lk je, .slice a5 l2.length c5]) K l2) := (HIN6.out.below b7).more b7.size
            clear HBN HCN_g1 HCN_g2 HCN_g3 HIN6
            clear b7 HFX HRG
            generalize hcr : chkRg K (l2.map PV.plc) = cr at *
            by_cases hz : cr = 0
            · subst hz
              have rg30 := CellsAt.cell HC22_g3.out 0
              have rg31 := CellsAt.cell HC22_g3.out 1
              have rg32 := CellsAt.cell HC22_g3.out 2
              have rg33 := CellsAt.cell HC22_g3.out 3
              have fg30 := CellsAt.frozen HC22_g3.out 0
              have fg31 := CellsAt.frozen HC22_g3.out 1
              have fg32 := CellsAt.frozen HC22_g3.out 2
              have fg33 := CellsAt.frozen HC22_g3.out 3
              have rg3l := CellsAt.lt HC22_g3.out
              simp at rg30 rg31 rg32 rg33
              have rg10 := CellsAt.cell HC22_g1.out 0
              have rg11 := CellsAt.cell HC22_g1.out 1
              have rg12 := CellsAt.cell HC22_g1.out 2
              have rg13 := CellsAt.cell HC22_g1.out 3
              have rg1l := CellsAt.lt HC22_g1.out
              simp at rg10 rg11 rg12 rg13
              have rg20 := CellsAt.cell HC22_g2.out 0
              have rg21 := CellsAt.cell HC22_g2.out 1
              have rg22 := CellsAt.cell HC22_g2.out 2
              have rg23 := CellsAt.cell HC22_g2.out 3
              have rg24 := CellsAt.cell HC22_g2.out 4
              have rg25 := CellsAt.cell HC22_g2.out 5
              have rg26 := CellsAt.cell HC22_g2.out 6
              have rg2l := CellsAt.lt HC22_g2.out
              simp at rg20 rg21 rg22 rg23 rg24 rg25 rg26
              have hgl := HB22.out.size
              go_wp2
              have hZ9 := sets4 HC22_g3.out (.int .i64 K.major) (.int .i64 K.minor) (.slice qe lk je) (.slice a5 l2.length c5)
              have hG9 := sets4_grown wy (w.heap.size + 2) (.int .i64 K.major) (.int .i64 K.minor) (.slice qe lk je) (.slice a5 l2.length c5)
              have hB9 := HB22.out.grown hG9 HB22.out.size (fun q hq => by obtain rfl := Option.some.inj hq; omega)
              refine bodyPost_ret (results_cell_tmp_row rfl _ _ _ _ _ _ _ rfl hZ9 Tryz.underlying27 rfl (by kernel_rfl)) rfl ?_
              rw [HPR.out]
              exact ⟨⟨_, l2, rfl, rfl, (HR22_x.out.apart4 hG9 (Nat.le_refl _) HC22_g3.out).more hG9.size⟩, hB9⟩
            · have hz' : (cr != 0) = true := by simpa using hz
              have rg30 := CellsAt.cell HC22_g3.out 0
              have rg31 := CellsAt.cell HC22_g3.out 1
              have rg32 := CellsAt.cell HC22_g3.out 2
              have rg33 := CellsAt.cell HC22_g3.out 3
              have fg30 := CellsAt.frozen HC22_g3.out 0
              have fg31 := CellsAt.frozen HC22_g3.out 1
              have fg32 := CellsAt.frozen HC22_g3.out 2
              have fg33 := CellsAt.frozen HC22_g3.out 3
              have rg3l := CellsAt.lt HC22_g3.out
              simp at rg30 rg31 rg32 rg33
              have rg10 := CellsAt.cell HC22_g1.out 0
              have rg11 := CellsAt.cell HC22_g1.out 1
              have rg12 := CellsAt.cell HC22_g1.out 2
              have rg13 := CellsAt.cell HC22_g1.out 3
              have rg1l := CellsAt.lt HC22_g1.out
              simp at rg10 rg11 rg12 rg13
              have rg20 := CellsAt.cell HC22_g2.out 0
              have rg21 := CellsAt.cell HC22_g2.out 1
              have rg22 := CellsAt.cell HC22_g2.out 2
              have rg23 := CellsAt.cell HC22_g2.out 3
              have rg24 := CellsAt.cell HC22_g2.out 4
              have rg25 := CellsAt.cell HC22_g2.out 5
              have rg26 := CellsAt.cell HC22_g2.out 6
              have rg2l := CellsAt.lt HC22_g2.out
              simp at rg20 rg21 rg22 rg23 rg24 rg25 rg26
              have hgl := HB22.out.size
              go_wp2
              have hZ9 := sets4 HC22_g3.out (.int .i64 0) (.int .i64 0) (.slice none 0 0) (.slice none 0 0)
              have hG9 := sets4_grown wy (w.heap.size + 2) (.int .i64 0) (.int .i64 0) (.slice none 0 0) (.slice none 0 0)
              have hB9 := HB22.out.grown hG9 HB22.out.size (fun q hq => by obtain rfl := Option.some.inj hq; omega)
              refine bodyPost_ret (results_cell_tmp_row rfl _ _ _ _ _ _ _ rfl hZ9 Tryz.underlying27 rfl (by kernel_rfl)) rfl ?_
              rw [HPR.out, if_pos hz]
              exact ⟨⟨_, [], rfl, rfl, zero_isReg _ _⟩, hB9⟩
          · exact absurd hF hnf
          · exact absurd hF hnf

end Go.Proofs.YtlpnfbpgnfappaaGreat
