/- Texts that are laid together. -/
import Derived.Test.YthmohjgdcjafkadGreatMrgH
import Derived.Test.YthmohjgdcjafkadGreatMrgD
import Derived.Test.YthmohjgdcjafkadGreatMrgG

/- The contract of resolve.address. -/
namespace Go.Proofs.YthmohjgdcjafkadGreat
open Go.RowKit Go.PlainAid

set_option maxRecDepth 100000

theorem addrOf_cases (K : Ker) (l : List Plc) (i : Imp) : (tgtOf K l i.mod = none ∧ addrOf K l i = (0, 5)) ∨ ∃ t, tgtOf K l i.mod = some t ∧ ((t.major ≠ i.major ∧ addrOf K l i = (0, 4)) ∨ (t.major = i.major ∧ t.minor < i.minor ∧ addrOf K l i = (0, 4)) ∨
    (t.major = i.major ∧ i.minor ≤ t.minor ∧ (expOf t.exps i.name = none ∧ addrOf K l i = (0, 5) ∨ ∃ x, expOf t.exps i.name = some x ∧ addrOf K l i = (t.beg + x.pos, 0)))) := by
  unfold addrOf
  cases ht : tgtOf K l i.mod with
  | none => exact .inl ⟨rfl, rfl⟩
  | some t =>
    refine .inr ⟨t, rfl, ?_⟩
    dsimp only
    by_cases h1 : t.major = i.major
    · by_cases h2 : t.minor < i.minor
      · exact .inr (.inl ⟨h1, h2, by rw [if_pos (.inr h2)]⟩)
      · refine .inr (.inr ⟨h1, by omega, ?_⟩)
        rw [if_neg (by omega)]
        cases hx : expOf t.exps i.name with
        | none => exact .inl ⟨rfl, rfl⟩
        | some x => exact .inr ⟨x, rfl, rfl⟩
    · exact .inl ⟨h1, by rw [if_pos (.inl h1)]⟩

set_option maxHeartbeats 4000000 in
theorem address_any (K : Ker) (vk : Value) (l : List PV) (v : Value) (i : Imp) (w : World) (hK : IsKer w.heap.size w vk K) (hrow : IsPlcs w.heap.size w v l) (h0 : chkFind K (l.map PV.plc) = 0) :
    Calls Tryz.prog 67 #[vk, v, .agg #[.string i.mod, .string i.name, .int .i64 i.major, .int .i64 i.minor]] w fun e w' => e = .returned (.tuple #[.int .i64 (addrOf K (l.map PV.plc) i).1, .int .i64 (addrOf K (l.map PV.plc) i).2]) ∧ Below w.heap.size w w' := by
  have hfst : ∀ x ∈ l, 0 ≤ x.first ∧ x.first ≤ 15 := fun x hx => by
    have := (chkFind_zero h0).2.2 x.plc (List.mem_map_of_mem hx)
    exact ⟨this.2.1, this.2.2⟩
  have HM : Hid (∀ W, Below w.heap.size w W → Calls Tryz.prog 113 #[vk, v, .string i.mod] W fun e w' => (∃ r, e = .returned r ∧ TgtV W.heap.size W r (tgtOf K (l.map PV.plc) i.mod)) ∧ Below W.heap.size W w') :=
    fun W hb => meant_any K vk l v i.mod W ((hK.below hb).more hb.size) ((hrow.below hb).more hb.size) hfst
  obtain ⟨vke, rfl, hE⟩ := hK
  obtain ⟨pe, ke, rfl, _, _⟩ := hE
  obtain ⟨⟨a, cap, rfl, _, _⟩, _⟩ := hrow
  have key := addrOf_cases K (l.map PV.plc) i
  have hbd := fun t (ht : tgtOf K (l.map PV.plc) i.mod = some t) => tgt_bd h0 ht
  generalize addrOf K (l.map PV.plc) i = R at *
  generalize tgtOf K (l.map PV.plc) i.mod = TT at *
  obtain ⟨ma, mi, es⟩ := K
  obtain ⟨im, inm, ia, ib⟩ := i
  dsimp only at *
  clear h0 hfst
  generalize es.length = le at *
  generalize l.length = ll at *
  have HW2 : Hid (Below w.heap.size w ((w.alloc (.cells #[.int .i64 ma, .int .i64 mi, .slice pe le ke] 24)).alloc (.cells #[.string im, .string inm, .int .i64 ia, .int .i64 ib] 84))) := ((Below.refl _ _).alloc (Nat.le_refl _) _).alloc (by simp) _
  have HC2 : Hid (CellsAt ((w.alloc (.cells #[.int .i64 ma, .int .i64 mi, .slice pe le ke] 24)).alloc (.cells #[.string im, .string inm, .int .i64 ia, .int .i64 ib] 84)) (w.heap.size + 1) 84 #[.string im, .string inm, .int .i64 ia, .int .i64 ib]) := by
    have := CellsAt.new (w.alloc (.cells #[.int .i64 ma, .int .i64 mi, .slice pe le ke] 24)) 84 #[.string im, .string inm, .int .i64 ia, .int .i64 ib]
    rw [World.size_alloc] at this
    exact this
  go_enter Tryz.func67, Tryz.ntmps67
  go_wp2_with fail
  refine (HM.out _ HW2.out).mono ?_
  rintro e w3 ⟨⟨r, rfl, hT⟩, b3⟩
  have C3 := HC2.out.below b3 (by simp)
  have B3 := HW2.out.trans (b3.mono HW2.out.size)
  have hz3 := C3.lt
  rcases key with ⟨rfl, rfl⟩ | ⟨t, rfl, key⟩
  · have hT' : r = .tuple #[.agg #[.int .i64 0, .int .i64 0, .int .i64 0, .slice none 0 0], .bool false] := hT
    subst hT'
    clear HM HW2 HC2 hT b3 hbd
    go_wp2
    go_ret2
    exact ⟨rfl, B3.alloc B3.size _⟩
  · obtain ⟨vt, hr, hR⟩ : ∃ ve, r = .tuple #[.agg #[.int .i64 t.major, .int .i64 t.minor, .int .i64 t.beg, ve], .bool true] ∧ RowOf 2 Exp.cell _ _ ve t.exps := hT
    subst hr
    obtain ⟨q1, q2, q3, q4⟩ := hbd t rfl
    have hR3 := (hR.below b3).more b3.size
    obtain ⟨pt, kt, rfl, _, _⟩ := hR
    clear HM HW2 HC2 b3 hbd
    obtain ⟨ta, ti, tb, ts⟩ := t
    dsimp only at *
    have hW4 : Below w3.heap.size w3 (w3.alloc (.cells #[.int .i64 ta, .int .i64 ti, .int .i64 tb, .slice pt ts.length kt] 144)) := (Below.refl _ _).alloc (Nat.le_refl _) _
    have hR4 := (hR3.below hW4).more hW4.size
    have C4 := C3.below hW4 C3.lt
    have T4 := CellsAt.new w3 144 #[.int .i64 ta, .int .i64 ti, .int .i64 tb, .slice pt ts.length kt]
    have B4 := B3.trans (hW4.mono B3.size)
    have HF : Hid (Calls Tryz.prog 114 #[.slice pt ts.length kt, .func (.func 115) #[] #[.pointer (some ⟨w.heap.size + 1, 0, none⟩)]] (w3.alloc (.cells #[.int .i64 ta, .int .i64 ti, .int .i64 tb, .slice pt ts.length kt] 144)) fun e w' => e = .returned (optExp (expOf ts inm)) ∧ Below (w3.alloc (.cells #[.int .i64 ta, .int .i64 ti, .int .i64 tb, .slice pt ts.length kt] 144)).heap.size (w3.alloc (.cells #[.int .i64 ta, .int .i64 ti, .int .i64 tb, .slice pt ts.length kt] 144)) w') :=
      firstExp_any ts _ 115 (.pointer (some ⟨w.heap.size + 1, 0, none⟩)) (fun w x => enters_of Tryz.func115 (by kernel_rfl) rfl _ w) _ _ hR4 (fun x _ W' hb' => isCalled_any (w.heap.size + 1) inm x W' (Nat.lt_of_lt_of_le C4.lt hb'.size) ((hb'.cell (p := ⟨w.heap.size + 1, 1, none⟩) C4.lt).trans (C4.cell 1)))
    have HC4 : Hid (CellsAt (w3.alloc (.cells #[.int .i64 ta, .int .i64 ti, .int .i64 tb, .slice pt ts.length kt] 144)) (w.heap.size + 1) 84 #[.string im, .string inm, .int .i64 ia, .int .i64 ib]) := C4
    have HT4 : Hid (CellsAt (w3.alloc (.cells #[.int .i64 ta, .int .i64 ti, .int .i64 tb, .slice pt ts.length kt] 144)) w3.heap.size 144 #[.int .i64 ta, .int .i64 ti, .int .i64 tb, .slice pt ts.length kt]) := T4
    have HB4 : Hid (Below w.heap.size w (w3.alloc (.cells #[.int .i64 ta, .int .i64 ti, .int .i64 tb, .slice pt ts.length kt] 144))) := B4
    have c2 := C3.cell 2
    have c3 := C3.cell 3
    simp at c2 c3
    clear C4 T4 B4 hR3 hR4 hW4
    generalize hn : ts.length = lt at *
    rcases key with ⟨h1, rfl⟩ | ⟨rfl, h2, rfl⟩ | ⟨rfl, h2, ⟨h3, rfl⟩ | ⟨x, h3, rfl⟩⟩
    · have h1' : (ta != ia) = true := by simpa using h1
      go_wp2
      go_ret2
      exact ⟨rfl, HB4.out⟩
    · go_wp2
      go_ret2
      exact ⟨rfl, HB4.out⟩
    · rw [h3] at HF
      dsimp only [optExp] at HF
      go_wp2_with fail
      refine HF.out.mono ?_
      rintro e w5 ⟨rfl, b5⟩
      have B5 := HB4.out.trans (b5.mono HB4.out.size)
      go_wp2
      go_ret2
      exact ⟨rfl, B5.alloc B5.size _⟩
    · rw [h3] at HF
      dsimp only [optExp] at HF
      obtain ⟨g1, g2, g3⟩ := q4 x (List.mem_of_find?_eq_some h3)
      clear q4 h3
      go_wp2_with fail
      refine HF.out.mono ?_
      rintro e w5 ⟨rfl, b5⟩
      have B5 := HB4.out.trans (b5.mono HB4.out.size)
      have T5 := HT4.out.below b5 (by simp)
      have t2 := T5.cell 2
      have hz5 := T5.lt
      simp at t2
      clear b5 HF HT4 HC4 HB4
      go_wp2
      go_ret2
      exact ⟨rfl, B5.alloc B5.size _⟩

end Go.Proofs.YthmohjgdcjafkadGreat

/- The contract of resolve.Find. -/
namespace Go.Proofs.YthmohjgdcjafkadGreat
open Go.RowKit Go.PlainAid

set_option maxRecDepth 100000

/-- What Find answers. -/
def findRes (k : Ker) (l : List Plc) (i : Imp) : Int × Int := if chkFind k l ≠ 0 then (0, chkFind k l) else if impOwn i ≠ 0 then (0, impOwn i) else addrOf k l i

theorem chkImps_one (i : Imp) : chkImps [] [i] = impOwn i := by
  have h : chkImps [] [i] = if impErr [] i = 0 then 0 else impErr [] i := rfl
  have h2 : impErr [] i = impOwn i := by
    rw [impErr_own]
    by_cases h1 : impOwn i = 1
    · rw [if_pos h1, h1]
    · rw [if_neg h1, if_neg (by simp)]
  rw [h, h2]
  by_cases h3 : impOwn i = 0
  · rw [if_pos h3, h3]
  · rw [if_neg h3]

theorem findRes_cases (k : Ker) (l : List Plc) (i : Imp) : (chkFind k l ≠ 0 ∧ findRes k l i = (0, chkFind k l)) ∨ (chkFind k l = 0 ∧ impOwn i ≠ 0 ∧ findRes k l i = (0, impOwn i)) ∨ (chkFind k l = 0 ∧ impOwn i = 0 ∧ findRes k l i = addrOf k l i) := by
  unfold findRes
  by_cases h1 : chkFind k l = 0
  · by_cases h2 : impOwn i = 0
    · exact .inr (.inr ⟨h1, h2, by rw [if_neg (by omega), if_neg (by omega)]⟩)
    · exact .inr (.inl ⟨h1, h2, by rw [if_neg (by omega), if_pos h2]⟩)
  · exact .inl ⟨h1, by rw [if_pos h1]⟩

set_option maxHeartbeats 4000000 in
theorem find_any (K : Ker) (vk : Value) (l : List PV) (v : Value) (i : Imp) (w : World) (hK : IsKer w.heap.size w vk K) (hf : K.fits) (hrow : IsPlcs w.heap.size w v l) (hfit : ∀ x ∈ l, x.mod.fits) (hi : i.fits) :
    Calls Tryz.prog 51 #[vk, v, .agg #[.string i.mod, .string i.name, .int .i64 i.major, .int .i64 i.minor]] w fun e w' => e = .returned (.tuple #[.int .i64 (findRes K (l.map PV.plc) i).1, .int .i64 (findRes K (l.map PV.plc) i).2]) ∧ Below w.heap.size w w' := by
  have HP : Hid (∀ W, Below w.heap.size w W → Calls Tryz.prog 65 #[vk, v] W fun e w' => e = .returned (.int .i64 (chkFind K (l.map PV.plc))) ∧ Below W.heap.size W w') :=
    fun W hb => wrongPlaces_any K vk l v W ((hK.below hb).more hb.size) hf ((hrow.below hb).more hb.size) hfit
  have HA : Hid (chkFind K (l.map PV.plc) = 0 → ∀ W, Below w.heap.size w W → Calls Tryz.prog 67 #[vk, v, .agg #[.string i.mod, .string i.name, .int .i64 i.major, .int .i64 i.minor]] W fun e w' => e = .returned (.tuple #[.int .i64 (addrOf K (l.map PV.plc) i).1, .int .i64 (addrOf K (l.map PV.plc) i).2]) ∧ Below W.heap.size W w') :=
    fun h0 W hb => address_any K vk l v i W ((hK.below hb).more hb.size) ((hrow.below hb).more hb.size) h0
  have HI : Hid (∀ W B, CellsAt W B 84 #[.string i.mod, .string i.name, .int .i64 i.major, .int .i64 i.minor] → Calls Tryz.prog 94 #[.slice (some ⟨B, 0, none⟩) 1 1] W fun e w' => e = .returned (.int .i64 (impOwn i)) ∧ Below W.heap.size W w') := by
    intro W B hc
    have hr : RowOf 4 Imp.cell W.heap.size W (.slice (some ⟨B, 0, none⟩) 1 1) [i] := rowOf_cells (C := impC) (cells := Imp.cell) (sz := 4) (fun _ => rfl) impC_at hc [i] (by simp) 1 (by simp [impC])
    have := wrongImports_any [i] _ W hr (fun e he => by
      have e' : e = i := by simpa using he
      subst e'
      exact hi) (by simp)
    rwa [chkImps_one] at this
  obtain ⟨vke, rfl, hE⟩ := hK
  obtain ⟨pe, ke, rfl, _, _⟩ := hE
  obtain ⟨⟨a, cap, rfl, _, _⟩, _⟩ := hrow
  have key := findRes_cases K (l.map PV.plc) i
  generalize findRes K (l.map PV.plc) i = R at *
  generalize addrOf K (l.map PV.plc) i = A at *
  generalize chkFind K (l.map PV.plc) = cf at *
  generalize impOwn i = io at *
  obtain ⟨ma, mi, es⟩ := K
  obtain ⟨im, inm, ia, ib⟩ := i
  dsimp only at *
  clear hf hfit hi
  generalize es.length = le at *
  generalize l.length = ll at *
  have HW2 : Hid (Below w.heap.size w ((w.alloc (.cells #[.int .i64 ma, .int .i64 mi, .slice pe le ke] 24)).alloc (.cells #[.string im, .string inm, .int .i64 ia, .int .i64 ib] 84))) := ((Below.refl _ _).alloc (Nat.le_refl _) _).alloc (by simp) _
  have HK2 : Hid (CellsAt ((w.alloc (.cells #[.int .i64 ma, .int .i64 mi, .slice pe le ke] 24)).alloc (.cells #[.string im, .string inm, .int .i64 ia, .int .i64 ib] 84)) w.heap.size 24 #[.int .i64 ma, .int .i64 mi, .slice pe le ke]) := (CellsAt.new w 24 #[.int .i64 ma, .int .i64 mi, .slice pe le ke]).kept (World.grownBy_alloc _ _ none) (by simp)
  have HC2 : Hid (CellsAt ((w.alloc (.cells #[.int .i64 ma, .int .i64 mi, .slice pe le ke] 24)).alloc (.cells #[.string im, .string inm, .int .i64 ia, .int .i64 ib] 84)) (w.heap.size + 1) 84 #[.string im, .string inm, .int .i64 ia, .int .i64 ib]) := by
    have := CellsAt.new (w.alloc (.cells #[.int .i64 ma, .int .i64 mi, .slice pe le ke] 24)) 84 #[.string im, .string inm, .int .i64 ia, .int .i64 ib]
    rw [World.size_alloc] at this
    exact this
  go_enter Tryz.func51, Tryz.ntmps51
  go_wp2_with fail
  refine (HP.out _ HW2.out).mono ?_
  rintro e w3 ⟨rfl, b3⟩
  have C3 := HC2.out.below b3 (by simp)
  have K3 := HK2.out.below b3 (by simp; omega)
  have B3 := HW2.out.trans (b3.mono HW2.out.size)
  clear HC2 HK2 HW2 HP b3
  rcases key with ⟨h1, rfl⟩ | ⟨rfl, h2, rfl⟩ | ⟨rfl, rfl, rfl⟩
  · have h1' : (cf != 0) = true := by simpa using h1
    clear h1
    go_wp2
    go_ret2
    exact ⟨rfl, B3⟩
  all_goals
    have c0 := C3.cell 0
    have c1 := C3.cell 1
    have c2 := C3.cell 2
    have c3 := C3.cell 3
    simp at c0 c1 c2 c3
    have C4 := CellsAt.new w3 84 #[.string im, .string inm, .int .i64 ia, .int .i64 ib]
    have K4 := K3.kept (World.grownBy_alloc w3 (.cells #[.string im, .string inm, .int .i64 ia, .int .i64 ib] 84) none) (by simp)
    have D4 := C3.kept (World.grownBy_alloc w3 (.cells #[.string im, .string inm, .int .i64 ia, .int .i64 ib] 84) none) (by simp)
    have B4 := B3.alloc B3.size (.cells #[.string im, .string inm, .int .i64 ia, .int .i64 ib] 84)
    have HC4 : Hid (CellsAt (w3.alloc (.cells #[.string im, .string inm, .int .i64 ia, .int .i64 ib] 84)) w3.heap.size 84 #[.string im, .string inm, .int .i64 ia, .int .i64 ib]) := C4
    have HD4 : Hid (CellsAt (w3.alloc (.cells #[.string im, .string inm, .int .i64 ia, .int .i64 ib] 84)) (w.heap.size + 1) 84 #[.string im, .string inm, .int .i64 ia, .int .i64 ib]) := D4
    have HK4 : Hid (CellsAt (w3.alloc (.cells #[.string im, .string inm, .int .i64 ia, .int .i64 ib] 84)) w.heap.size 24 #[.int .i64 ma, .int .i64 mi, .slice pe le ke]) := K4
    have HB4 : Hid (Below w.heap.size w (w3.alloc (.cells #[.string im, .string inm, .int .i64 ia, .int .i64 ib] 84))) := B4
    clear C4 K4 D4 B4
    go_wp2_with fail
    refine (HI.out _ _ HC4.out).mono ?_
    rintro e w5 ⟨rfl, b5⟩
    have D5 := HD4.out.below b5 HD4.out.lt
    have K5 := HK4.out.below b5 HK4.out.lt
    have B5 := HB4.out.trans (b5.mono HB4.out.size)
    clear b5 HC4 HD4 HK4 HB4 HI c0 c1 c2 c3
  · have h2' : (io != 0) = true := by simpa using h2
    clear h2
    go_wp2
    go_ret2
    exact ⟨rfl, B5⟩
  · have c0 := D5.cell 0
    have c1 := D5.cell 1
    have c2 := D5.cell 2
    have c3 := D5.cell 3
    have d0 := K5.cell 0
    have d1 := K5.cell 1
    have d2 := K5.cell 2
    simp at c0 c1 c2 c3 d0 d1 d2
    go_wp2_with fail
    refine (HA.out (by first | rfl | trivial) _ B5).mono ?_
    rintro e w6 ⟨rfl, b6⟩
    go_wp2
    go_ret2
    exact ⟨rfl, B5.trans (b6.mono B5.size)⟩

end Go.Proofs.YthmohjgdcjafkadGreat

/- The contract of resolve.All. -/
namespace Go.Proofs.YthmohjgdcjafkadGreat
open Go.RowKit Go.PlainAid

set_option maxRecDepth 100000

/-- The addresses of all imports behind those of acc, or why not. -/
def addrsFrom (k : Ker) (l : List Plc) : List Int → List Imp → List Int × Int
  | acc, [] => (acc, 0)
  | acc, i :: r => if (addrOf k l i).2 ≠ 0 then ([], (addrOf k l i).2) else addrsFrom k l (acc ++ [(addrOf k l i).1]) r
/-- What All answers. -/
def allRes (k : Ker) (l : List Plc) (m : Mod) : List Int × Int := if chkFind k l ≠ 0 then ([], chkFind k l) else if chkMod m ≠ 0 then ([], chkMod m) else addrsFrom k l [] m.imps
theorem allRes_cases (k : Ker) (l : List Plc) (m : Mod) : (chkFind k l ≠ 0 ∧ allRes k l m = ([], chkFind k l)) ∨ (chkFind k l = 0 ∧ chkMod m ≠ 0 ∧ allRes k l m = ([], chkMod m)) ∨ (chkFind k l = 0 ∧ chkMod m = 0 ∧ allRes k l m = addrsFrom k l [] m.imps) := by
  unfold allRes
  by_cases h1 : chkFind k l = 0
  · by_cases h2 : chkMod m = 0
    · exact .inr (.inr ⟨h1, h2, by rw [if_neg (by omega), if_neg (by omega)]⟩)
    · exact .inr (.inl ⟨h1, h2, by rw [if_neg (by omega), if_pos h2]⟩)
  · exact .inl ⟨h1, by rw [if_pos h1]⟩

set_option maxHeartbeats 4000000 in
theorem all_any (K : Ker) (vk : Value) (l : List PV) (v : Value) (M : Mod) (vm : Value) (w : World) (hK : IsKer w.heap.size w vk K) (hf : K.fits) (hrow : IsPlcs w.heap.size w v l) (hfit : ∀ x ∈ l, x.mod.fits) (hM : IsMod w.heap.size w vm M) (hMf : M.fits) :
    Calls Tryz.prog 27 #[vk, v, vm] w fun e w' => (∃ r, e = .returned (.tuple #[r, .int .i64 (allRes K (l.map PV.plc) M).2]) ∧ RowOf 1 intCell w'.heap.size w' r (allRes K (l.map PV.plc) M).1) ∧ Below w.heap.size w w' := by
  have HP : Hid (∀ W, Below w.heap.size w W → Calls Tryz.prog 65 #[vk, v] W fun e w' => e = .returned (.int .i64 (chkFind K (l.map PV.plc))) ∧ Below W.heap.size W w') :=
    fun W hb => wrongPlaces_any K vk l v W ((hK.below hb).more hb.size) hf ((hrow.below hb).more hb.size) hfit
  have HA : Hid (chkFind K (l.map PV.plc) = 0 → ∀ (i : Imp) W, Below w.heap.size w W → Calls Tryz.prog 67 #[vk, v, .agg #[.string i.mod, .string i.name, .int .i64 i.major, .int .i64 i.minor]] W fun e w' => e = .returned (.tuple #[.int .i64 (addrOf K (l.map PV.plc) i).1, .int .i64 (addrOf K (l.map PV.plc) i).2]) ∧ Below W.heap.size W w') :=
    fun h0 i W hb => address_any K vk l v i W ((hK.below hb).more hb.size) ((hrow.below hb).more hb.size) h0
  have HC : Hid (∀ W, Below w.heap.size w W → Calls Tryz.prog 66 #[vm] W fun e w' => e = .returned (.int .i64 (chkMod M)) ∧ Below W.heap.size W w') :=
    fun W hb => check_any M vm W ((hM.below hb).more hb.size) hMf
  obtain ⟨vke, rfl, hE⟩ := hK
  obtain ⟨pe, ke, rfl, _, _⟩ := hE
  obtain ⟨⟨a, cap, rfl, _, _⟩, _⟩ := hrow
  obtain ⟨me, mi', mp, rfl, hme, hmi, hmp⟩ := hM
  obtain ⟨qe, je, rfl, _, _⟩ := hme
  obtain ⟨qi, ji, rfl, _, hrowI⟩ := hmi
  obtain ⟨qp, jp, rfl, _, _⟩ := hmp
  have key := allRes_cases K (l.map PV.plc) M
  have hm6 : chkMod M = 0 → M.imps.length ≤ 6 := fun h => (chkMod_exps h).2.2.2.1
  generalize hL : l.map PV.plc = L at *
  generalize allRes K L M = R at *
  generalize chkFind K L = cf at *
  generalize chkMod M = cm at *
  have HAD : Hid (∀ acc x r, addrsFrom K L acc (x :: r) = if (addrOf K L x).2 ≠ 0 then ([], (addrOf K L x).2) else addrsFrom K L (acc ++ [(addrOf K L x).1]) r) := fun _ _ _ => rfl
  have HAN : Hid (∀ acc, addrsFrom K L acc [] = (acc, 0)) := fun _ => rfl
  generalize addrsFrom K L = AF at *
  generalize addrOf K L = AO at *
  obtain ⟨ma, mi, es⟩ := K
  obtain ⟨N, xa, xi, T, xs, is, ps⟩ := M
  dsimp only at *
  clear hf hfit hMf hL L
  generalize es.length = le at *
  generalize xs.length = lx at *
  generalize ps.length = lp at *
  generalize l.length = ll at *
  have HW2 : Hid (Below w.heap.size w ((w.alloc (.cells #[.int .i64 ma, .int .i64 mi, .slice pe le ke] 24)).alloc (.cells #[.string N, .int .i64 xa, .int .i64 xi, .string T, .slice qe lx je, .slice qi is.length ji, .slice qp lp jp] 39))) := ((Below.refl _ _).alloc (Nat.le_refl _) _).alloc (by simp) _
  have HK2 : Hid (CellsAt ((w.alloc (.cells #[.int .i64 ma, .int .i64 mi, .slice pe le ke] 24)).alloc (.cells #[.string N, .int .i64 xa, .int .i64 xi, .string T, .slice qe lx je, .slice qi is.length ji, .slice qp lp jp] 39)) w.heap.size 24 #[.int .i64 ma, .int .i64 mi, .slice pe le ke]) := (CellsAt.new w 24 #[.int .i64 ma, .int .i64 mi, .slice pe le ke]).kept (World.grownBy_alloc _ _ none) (by simp)
  have HC2 : Hid (CellsAt ((w.alloc (.cells #[.int .i64 ma, .int .i64 mi, .slice pe le ke] 24)).alloc (.cells #[.string N, .int .i64 xa, .int .i64 xi, .string T, .slice qe lx je, .slice qi is.length ji, .slice qp lp jp] 39)) (w.heap.size + 1) 39 #[.string N, .int .i64 xa, .int .i64 xi, .string T, .slice qe lx je, .slice qi is.length ji, .slice qp lp jp]) := by
    have := CellsAt.new (w.alloc (.cells #[.int .i64 ma, .int .i64 mi, .slice pe le ke] 24)) 39 #[.string N, .int .i64 xa, .int .i64 xi, .string T, .slice qe lx je, .slice qi is.length ji, .slice qp lp jp]
    rw [World.size_alloc] at this
    exact this
  go_enter Tryz.func27, Tryz.ntmps27
  go_wp2_with fail
  refine (HP.out _ HW2.out).mono ?_
  rintro e w3 ⟨rfl, b3⟩
  have C3 := HC2.out.below b3 (by simp)
  have K3 := HK2.out.below b3 (by simp; omega)
  have B3 := HW2.out.trans (b3.mono HW2.out.size)
  clear HC2 HK2 HW2 HP b3
  rcases key with ⟨h1, rfl⟩ | ⟨rfl, h2, rfl⟩ | ⟨rfl, rfl, rfl⟩
  · have h1' : (cf != 0) = true := by simpa using h1
    clear h1
    go_wp2
    go_ret2
    exact ⟨⟨_, rfl, ⟨none, 0, rfl, by simp, .inl rfl⟩⟩, B3⟩
  all_goals
    have c0 := C3.cell 0
    have c1 := C3.cell 1
    have c2 := C3.cell 2
    have c3 := C3.cell 3
    have c4 := C3.cell 4
    have c5 := C3.cell 5
    have c6 := C3.cell 6
    simp at c0 c1 c2 c3 c4 c5 c6
    go_wp2_with fail
    refine (HC.out _ B3).mono ?_
    rintro e w5 ⟨rfl, b5⟩
    have D5 := C3.below b5 C3.lt
    have K5 := K3.below b5 K3.lt
    have B5 := B3.trans (b5.mono B3.size)
    clear b5 HC c0 c1 c2 c3 c4 c5 c6 C3 K3
  · have h2' : (cm != 0) = true := by simpa using h2
    clear h2
    go_wp2
    go_ret2
    exact ⟨⟨_, rfl, ⟨none, 0, rfl, by simp, .inl rfl⟩⟩, B5⟩
  · have hA := fun (i : Imp) W hb => HA.out (by first | rfl | trivial) i W hb
    have HA' : Hid (∀ (i : Imp) W, Below w.heap.size w W → Calls Tryz.prog 67 #[.agg #[.int .i64 ma, .int .i64 mi, .slice pe le ke], .slice a ll cap, .agg #[.string i.mod, .string i.name, .int .i64 i.major, .int .i64 i.minor]] W fun e w' => e = .returned (.tuple #[.int .i64 (AO i).1, .int .i64 (AO i).2]) ∧ Below W.heap.size W w') := hA
    have h6 : is.length ≤ 6 := by first | exact hm6 rfl | exact hm6 trivial | exact hm6
    clear hA HA hm6
    have d5 := D5.cell 5
    simp at d5
    obtain ⟨ii, hii, hz0, hz1, hz2⟩ := infoInt_parts
    go_wp2_with fail
    go_loopw [10, 29] (fun f i wr => ∃ (k : Nat) (acc : List Int), k ≤ is.length ∧ i = .int .i64 k ∧ acc.length = k ∧ wr.ownsRow w5.heap.size 3 1 f acc.length (acc.flatMap intC) ∧ Hid (AF [] is = AF acc (is.drop k)) ∧ Below w5.heap.size w5 wr) (fun _ i _ => is.length - (intOf i).toNat)
    case atStart => exact ⟨0, [], Nat.zero_le _, rfl, rfl, ⟨rfl, .inl ⟨rfl, rfl⟩⟩, by show AF [] is = AF [] (is.drop 0); rfl, Below.refl _ _⟩
    case round =>
      obtain ⟨k, acc, hk, rfl, hacc, hown, HCC, B⟩ := hrel
      have B' : Below w.heap.size w wr := B5.trans (B.mono B5.size)
      have HLK : Hid (acc.length = k) := hacc
      rw [hacc] at hown
      clear hacc
      obtain ⟨av, kv, rfl⟩ := own_form hown
      by_cases hlt : k < is.length
      · obtain ⟨x, hx⟩ : ∃ x, is[k]? = some x := ⟨_, List.getElem?_eq_getElem hlt⟩
        rcases hrowI with h | ⟨b, off, rfl, hbn, hcells⟩
        · subst h; simp at hlt
        have c0 := (B'.cell (p := ⟨b, off + k * 4 + 0, none⟩) hbn).trans (hcells k _ hx 0 (by omega))
        have c1 := (B'.cell (p := ⟨b, off + k * 4 + 1, none⟩) hbn).trans (hcells k _ hx 1 (by omega))
        have c2 := (B'.cell (p := ⟨b, off + k * 4 + 2, none⟩) hbn).trans (hcells k _ hx 2 (by omega))
        have c3 := (B'.cell (p := ⟨b, off + k * 4 + 3, none⟩) hbn).trans (hcells k _ hx 3 (by omega))
        have HR : Hid (AF [] is = if (AO x).2 ≠ 0 then ([], (AO x).2) else AF (acc ++ [(AO x).1]) (is.drop (k + 1))) := by
          show AF [] is = _
          rw [HCC.out, drop_at hx, HAD.out]
        have HAx := HA'.out x
        obtain ⟨xm, xn, xma, xmi⟩ := x
        dsimp only [Imp.cell] at c0 c1 c2 c3
        dsimp only at HAx
        rw [Nat.add_zero] at c0
        generalize AO ⟨xm, xn, xma, xmi⟩ = q at HR HAx
        obtain ⟨p, q⟩ := q
        dsimp only at HR HAx
        have HAX : Hid (∀ W, Below w.heap.size w W → Calls Tryz.prog 67 #[.agg #[.int .i64 ma, .int .i64 mi, .slice pe le ke], .slice a ll cap, .agg #[.string xm, .string xn, .int .i64 xma, .int .i64 xmi]] W fun e w' => e = .returned (.tuple #[.int .i64 p, .int .i64 q]) ∧ Below W.heap.size W w') := HAx
        clear HCC hcells hx HAx HA' HAD HAN
        have KB := K5.below B K5.lt
        have d0 := KB.cell 0
        have d1 := KB.cell 1
        have d2 := KB.cell 2
        have zz := KB.lt
        simp at d0 d1 d2
        have HB6 : Hid (Below w.heap.size w (wr.alloc (.cells #[.string xm, .string xn, .int .i64 xma, .int .i64 xmi] 84))) := B'.alloc B'.size _
        have HB5 : Hid (Below w5.heap.size w5 (wr.alloc (.cells #[.string xm, .string xn, .int .i64 xma, .int .i64 xmi] 84))) := B.alloc B.size _
        have HO6 : Hid ((wr.alloc (.cells #[.string xm, .string xn, .int .i64 xma, .int .i64 xmi] 84)).ownsRow w5.heap.size 3 1 (.slice av k kv) k (acc.flatMap intC)) := hown.alloc _
        clear hown KB
        go_wp2_with fail
        refine (HAX.out _ HB6.out).mono ?_
        rintro e w7 ⟨rfl, b7⟩
        have O7 := own_below HO6.out b7
        have B7 := HB6.out.trans (b7.mono HB6.out.size)
        have E7 := HB5.out.trans (b7.mono HB5.out.size)
        clear b7 HO6 HB6 HB5 HAX c0 c1 c2 c3 d0 d1 d2
        by_cases hq : q = 0
        · subst hq
          have HR' : Hid (AF [] is = AF (acc ++ [p]) (is.drop (k + 1))) := by
            show AF [] is = _
            rw [HR.out]; rfl
          have hb5 : w5.heap.size ≤ w7.heap.size := E7.size
          have ha7 : k < 7 := by omega
          clear HR
          go_wp2_with (at_builtin; refine wpList_append_lies _ rfl _ _ _ rfl w5.heap.size 3 ii _ 1 8 Tryz.underlying60 hii hz0 hz1 hz2 rfl (by omega) (.slice av k kv) k (acc.flatMap intC) rfl (O7.alloc _) ⟨w7.heap.size, 0, none⟩ 1 1 [.int .i64 p] rfl rfl (World.news_of_block (cs := #[.int .i64 p]) (t := 3) (fr := (0, 0)) (CellsAt.new w7 3 #[.int .i64 p])) (by simp [Value.oneCell']) (by omega) (by unfold maxLen; omega) (by omega) (by simp; omega) (w7.heap.size + 1) (by simp) ?_; intro g gc w8 hown8 hgrow hat hltg)
          refine ⟨⟨k + 1, acc ++ [p], by omega, by go_num, by rw [List.length_append, HLK.out]; rfl, ?_, HR'.out, ?_⟩, by simp [intOf]; omega⟩
          · rw [List.length_append, List.flatMap_append, HLK.out]
            exact hown8
          · exact (E7.alloc E7.size _).grown hgrow (by simp; omega) (fun j hj => own_block O7 j hj)
        · have hq' : (q != 0) = true := by simpa using hq
          have HR' : Hid (AF [] is = ([], q)) := by
            show AF [] is = _
            rw [HR.out, if_pos hq]
          clear HR hq
          go_wp2
          go_ret2
          exact ⟨⟨.slice none 0 0, by rw [HR'.out]; rfl, by rw [HR'.out]; exact ⟨none, 0, rfl, by simp, .inl rfl⟩⟩, B7⟩
      · obtain rfl : k = is.length := by omega
        have HZ : Hid (AF [] is = (acc, 0)) := by
          show AF [] is = (acc, 0)
          rw [HCC.out, List.drop_length, HAN.out]
        go_wp2
        go_ret2
        exact ⟨⟨_, by rw [HZ.out]; rfl, by rw [HZ.out]; exact own_ints (by rw [HLK.out]; exact hown) (by rw [HLK.out]; omega)⟩, B'⟩

end Go.Proofs.YthmohjgdcjafkadGreat

/- The contract of patch.Value. -/
namespace Go.Proofs.YthmohjgdcjafkadGreat
open Go.RowKit Go.PlainAid

set_option maxRecDepth 100000

theorem width_range {k : Int} (h : width k ≠ 0) : 1 ≤ k ∧ k ≤ 5 := by
  rcases width_cases k with ⟨rfl, _⟩ | ⟨rfl, _⟩ | ⟨rfl, _⟩ | ⟨rfl, _⟩ | ⟨rfl, _⟩ | ⟨_, _, _, _, _, h0⟩
  all_goals first | exact absurd h0 h | omega

set_option maxHeartbeats 1000000 in
theorem value_good (kind sym add place wd n R E : Int) (fits : Bool) (g : FuncId) (w : World) (hK : ∀ w x y, Sem.run Tryz.prog (callFunc g #[x, y]) w = .ok (.enter g #[x, y]) w) (s0 : 0 ≤ sym) (s1 : sym ≤ 65535) (a0 : 0 ≤ add) (a1 : add ≤ 65535) (h1 : betw sym 0 65535 = true) (h2 : betw place 0 65535 = true)
    (HW : Hid (∀ w, Calls Tryz.prog 178 #[.int .i64 kind] w fun e w' => e = .returned (.tuple #[.int .i64 wd, .int .i64 0]) ∧ w' = w))
    (HF : Hid (∀ w, Calls Tryz.prog 192 #[.int .i64 kind] w fun e w' => e = .returned (.agg #[.int .i64 kind, .func (.func g) #[] #[]]) ∧ Below w.heap.size w w'))
    (HG : Hid (∀ w, Calls Tryz.prog g #[.int .i64 (sym + add), .int .i64 place] w fun e w' => e = .returned (.tuple #[.int .i64 n, .bool fits]) ∧ w' = w))
    (n0 : -65535 ≤ n) (hres : (fits = false ∧ R = 0 ∧ E = 4) ∨ (fits = true ∧ 0 ≤ n ∧ R = n ∧ E = 0) ∨ (fits = true ∧ n < 0 ∧ wd = 4 ∧ R = n + 4294967296 ∧ E = 0) ∨ (fits = true ∧ n < 0 ∧ wd = 3 ∧ R = n + 16777216 ∧ E = 0)) :
    Calls Tryz.prog 179 #[.int .i64 kind, .int .i64 sym, .int .i64 add, .int .i64 place] w fun e w' => e = .returned (.tuple #[.int .i64 R, .int .i64 E]) ∧ Below w.heap.size w w' := by
  have hfd : ∀ w : World, (Instr.field 227 (.agg #[.int .i64 kind, .func (.func g) #[] #[]]) 1).run Tryz.prog w = .ok (.func (.func g) #[] #[]) w := fun _ => by kernel_rfl
  rcases hres with ⟨rfl, rfl, rfl⟩ | ⟨rfl, hn, rfl, rfl⟩ | ⟨rfl, hn, rfl, rfl, rfl⟩ | ⟨rfl, hn, rfl, rfl, rfl⟩
  all_goals
    go_enter Tryz.func179, Tryz.ntmps179
    go_wp2_with (first | (go_at_call 178; refine (HW.out _).mono ?_; rintro e w' ⟨rfl, rfl⟩) | (go_at_call 191; refine (isAddress_any _ _).mono ?_; rintro e w' ⟨rfl, rfl⟩))
    refine (HF.out _).mono ?_
    rintro e w1 ⟨rfl, b1⟩
    go_wp2_with fail
    refine Calls.mono (HG.out _) ?_
    rintro e w2 ⟨rfl, rfl⟩
    go_wp2
    go_ret2
    exact ⟨rfl, b1⟩

set_option maxHeartbeats 1000000 in
theorem value_any (kind sym add place : Int) (w : World) :
    Calls Tryz.prog 179 #[.int .i64 kind, .int .i64 sym, .int .i64 add, .int .i64 place] w fun e w' => e = .returned (.tuple #[.int .i64 (valNum kind sym add place), .int .i64 (valErr kind sym add place)]) ∧ Below w.heap.size w w' := by
  rcases val_cases kind sym add place with ⟨h0, hE, hN⟩ | ⟨h0, hr, hE, hN⟩ | ⟨hr, key⟩
  · rw [hE, hN]
    have HW : Hid (∀ w, Calls Tryz.prog 178 #[.int .i64 kind] w fun e w' => e = .returned (.tuple #[.int .i64 0, .int .i64 7]) ∧ w' = w) := fun w => by
      have := patchWidth_any kind w
      rwa [widthErr, if_pos h0, h0] at this
    clear h0 hE hN
    go_enter Tryz.func179, Tryz.ntmps179
    go_wp2_with (go_at_call 178; refine (HW.out _).mono ?_; rintro e w' ⟨rfl, rfl⟩)
    go_ret2
    exact ⟨rfl, Below.refl _ _⟩
  · rw [hE, hN]
    have HW : Hid (∀ w, Calls Tryz.prog 178 #[.int .i64 kind] w fun e w' => e = .returned (.tuple #[.int .i64 (width kind), .int .i64 0]) ∧ w' = w) := fun w => by
      have := patchWidth_any kind w
      rwa [widthErr, if_neg h0] at this
    clear h0 hE hN
    generalize width kind = wd at HW
    unfold valRange at hr
    cases h1 : betw sym 0 65535
    · clear hr
      go_enter Tryz.func179, Tryz.ntmps179
      go_wp2_with (first | (go_at_call 178; refine (HW.out _).mono ?_; rintro e w' ⟨rfl, rfl⟩) | (go_at_call 191; refine (isAddress_any _ _).mono ?_; rintro e w' ⟨rfl, rfl⟩))
      go_ret2
      exact ⟨rfl, Below.refl _ _⟩
    cases h2 : betw place 0 65535
    · clear hr
      go_enter Tryz.func179, Tryz.ntmps179
      go_wp2_with (first | (go_at_call 178; refine (HW.out _).mono ?_; rintro e w' ⟨rfl, rfl⟩) | (go_at_call 191; refine (isAddress_any _ _).mono ?_; rintro e w' ⟨rfl, rfl⟩))
      go_ret2
      exact ⟨rfl, Below.refl _ _⟩
    rw [h1, h2] at hr
    have h3 := betw_not (n := add) (l := 0) (m := 65535) (by simpa using hr)
    clear hr
    by_cases h4 : add < 0
    · go_enter Tryz.func179, Tryz.ntmps179
      go_wp2_with (first | (go_at_call 178; refine (HW.out _).mono ?_; rintro e w' ⟨rfl, rfl⟩) | (go_at_call 191; refine (isAddress_any _ _).mono ?_; rintro e w' ⟨rfl, rfl⟩))
      go_ret2
      exact ⟨rfl, Below.refl _ _⟩
    · have h5 : 65535 < add := by omega
      clear h3
      go_enter Tryz.func179, Tryz.ntmps179
      go_wp2_with (first | (go_at_call 178; refine (HW.out _).mono ?_; rintro e w' ⟨rfl, rfl⟩) | (go_at_call 191; refine (isAddress_any _ _).mono ?_; rintro e w' ⟨rfl, rfl⟩))
      go_ret2
      exact ⟨rfl, Below.refl _ _⟩
  · obtain ⟨s0, s1, p0, p1, a0, a1⟩ := valRange_true hr
    have h1 : betw sym 0 65535 = true := betw_true s0 s1
    have h2 : betw place 0 65535 = true := betw_true p0 p1
    clear hr
    rcases key with ⟨rfl, hE, hN⟩ | ⟨rfl, hE, hN⟩ | ⟨rfl, hE, hN⟩ | ⟨rfl, hE, hN⟩ | ⟨rfl, hp, hE, hN⟩ | ⟨rfl, hp, hE, hN⟩
    all_goals rw [hE, hN]; clear hE hN
    · exact value_good 1 sym add place 4 (sym + add) _ _ true 213 w (fun w x y => enters_of Tryz.func213 (by kernel_rfl) rfl _ w) s0 s1 a0 a1 h1 h2 (fun w => patchWidth_any 1 w) (fun w => formulaOf_any 1 (by omega) (by omega) w) (fun w => formula1_any _ _ w) (by omega) (.inr (.inl ⟨rfl, by omega, rfl, rfl⟩))
    · refine value_good 2 sym add place 4 (sym + add - place) _ _ true 214 w (fun w x y => enters_of Tryz.func214 (by kernel_rfl) rfl _ w) s0 s1 a0 a1 h1 h2 (fun w => patchWidth_any 2 w) (fun w => formulaOf_any 2 (by omega) (by omega) w) (fun w => formula2_any _ _ (by omega) (by omega) p0 p1 w) (by omega) ?_
      by_cases hneg : sym + add - place < 0
      · exact .inr (.inr (.inl ⟨rfl, hneg, rfl, by omega, rfl⟩))
      · exact .inr (.inl ⟨rfl, by omega, by omega, rfl⟩)
    · exact value_good 3 sym add place 2 ((sym + add) / 65536) _ _ true 215 w (fun w x y => enters_of Tryz.func215 (by kernel_rfl) rfl _ w) s0 s1 a0 a1 h1 h2 (fun w => patchWidth_any 3 w) (fun w => formulaOf_any 3 (by omega) (by omega) w) (fun w => formula3_any _ _ w) (by omega) (.inr (.inl ⟨rfl, by omega, rfl, rfl⟩))
    · exact value_good 4 sym add place 2 ((sym + add) % 65536) _ _ true 216 w (fun w x y => enters_of Tryz.func216 (by kernel_rfl) rfl _ w) s0 s1 a0 a1 h1 h2 (fun w => patchWidth_any 4 w) (fun w => formulaOf_any 4 (by omega) (by omega) w) (fun w => formula4_any _ _ (by omega) (by omega) w) (by omega) (.inr (.inl ⟨rfl, by omega, rfl, rfl⟩))
    · have hb := tdiv2_bd (sym + add - place)
      refine value_good 5 sym add place 3 ((sym + add - place).tdiv 2) _ _ ((sym + add - place).tmod 2 == 0) 217 w (fun w x y => enters_of Tryz.func217 (by kernel_rfl) rfl _ w) s0 s1 a0 a1 h1 h2 (fun w => patchWidth_any 5 w) (fun w => formulaOf_any 5 (by omega) (by omega) w) (fun w => formula5_any _ _ (by omega) (by omega) p0 p1 w) (by omega) ?_
      exact .inl ⟨by rw [tmod2_even, hp]; rfl, rfl, rfl⟩
    · have hb := tdiv2_bd (sym + add - place)
      have he := tdiv2_even _ hp
      refine value_good 5 sym add place 3 ((sym + add - place).tdiv 2) _ _ ((sym + add - place).tmod 2 == 0) 217 w (fun w x y => enters_of Tryz.func217 (by kernel_rfl) rfl _ w) s0 s1 a0 a1 h1 h2 (fun w => patchWidth_any 5 w) (fun w => formulaOf_any 5 (by omega) (by omega) w) (fun w => formula5_any _ _ (by omega) (by omega) p0 p1 w) (by omega) ?_
      have ht : ((sym + add - place).tmod 2 == 0) = true := by rw [tmod2_even, hp]; rfl
      rw [ht, he]
      by_cases hneg : sym + add - place < 0
      · exact .inr (.inr (.inr ⟨rfl, by omega, rfl, by omega, rfl⟩))
      · exact .inr (.inl ⟨rfl, by omega, by omega, rfl⟩)

end Go.Proofs.YthmohjgdcjafkadGreat

/- The contracts of patch.Apply and of what must be in any case. -/
namespace Go.Proofs.YthmohjgdcjafkadGreat
open Go.RowKit Go.PlainAid

set_option maxRecDepth 100000

def appErr (len : Int) (p : Pat) (sym base : Int) : Int :=
  if width p.kind = 0 then 7 else if (betw p.add 0 65535 && betw p.pos 0 (len - width p.kind) && betw base 0 65279) = false then 3 else valErr p.kind sym p.add (base + p.pos)
def appStr (s : ByteArray) (p : Pat) (sym base : Int) : ByteArray :=
  if appErr s.size p sym base = 0 then putS s p.pos.toNat (width p.kind).toNat (valNum p.kind sym p.add (base + p.pos)) else ⟨#[]⟩

theorem valErr_add {kind sym add place : Int} (h : width kind ≠ 0) (ha : betw add 0 65535 = false) : valErr kind sym add place = 3 := by
  unfold valErr valRange
  rw [if_neg h, ha]
  simp

theorem app_cases (s : ByteArray) (p : Pat) (sym base : Int) :
    (width p.kind = 0 ∧ appErr s.size p sym base = 7 ∧ appStr s p sym base = ⟨#[]⟩) ∨
    (width p.kind ≠ 0 ∧ (p.pos < 0 ∨ 0 ≤ p.pos ∧ s.size - width p.kind < p.pos ∨ 0 ≤ p.pos ∧ p.pos ≤ s.size - width p.kind ∧ base < 0 ∨ 0 ≤ p.pos ∧ p.pos ≤ s.size - width p.kind ∧ 0 ≤ base ∧ 65279 < base) ∧ appErr s.size p sym base = 3 ∧ appStr s p sym base = ⟨#[]⟩) ∨
    (width p.kind ≠ 0 ∧ 0 ≤ p.pos ∧ p.pos ≤ s.size - width p.kind ∧ 0 ≤ base ∧ base ≤ 65279 ∧
      (valErr p.kind sym p.add (base + p.pos) ≠ 0 ∧ appErr s.size p sym base = valErr p.kind sym p.add (base + p.pos) ∧ appStr s p sym base = ⟨#[]⟩ ∨
       valErr p.kind sym p.add (base + p.pos) = 0 ∧ appErr s.size p sym base = 0 ∧ appStr s p sym base = putS s p.pos.toNat (width p.kind).toNat (valNum p.kind sym p.add (base + p.pos)))) := by
  have hS : appErr s.size p sym base ≠ 0 → appStr s p sym base = ⟨#[]⟩ := fun h => by rw [appStr, if_neg h]
  have hS' : appErr s.size p sym base = 0 → appStr s p sym base = putS s p.pos.toNat (width p.kind).toNat (valNum p.kind sym p.add (base + p.pos)) := fun h => by rw [appStr, if_pos h]
  by_cases h0 : width p.kind = 0
  · have e : appErr s.size p sym base = 7 := by rw [appErr, if_pos h0]
    exact .inl ⟨h0, e, hS (by rw [e]; decide)⟩
  by_cases h1 : p.pos < 0 ∨ 0 ≤ p.pos ∧ s.size - width p.kind < p.pos ∨ 0 ≤ p.pos ∧ p.pos ≤ s.size - width p.kind ∧ base < 0 ∨ 0 ≤ p.pos ∧ p.pos ≤ s.size - width p.kind ∧ 0 ≤ base ∧ 65279 < base
  · have e : appErr s.size p sym base = 3 := by
      rw [appErr, if_neg h0, if_pos]
      rcases h1 with h | h | h | h
      · rw [betw_false (n := p.pos) (.inl h)]; simp
      · rw [betw_false (n := p.pos) (.inr h.2)]; simp
      · rw [betw_false (n := base) (.inl h.2.2)]; simp
      · rw [betw_false (n := base) (.inr h.2.2.2)]; simp
    exact .inr (.inl ⟨h0, h1, e, hS (by rw [e]; decide)⟩)
  · have g1 : betw p.pos 0 (s.size - width p.kind) = true := betw_true (by omega) (by omega)
    have g2 : betw base 0 65279 = true := betw_true (by omega) (by omega)
    have e : appErr s.size p sym base = valErr p.kind sym p.add (base + p.pos) := by
      rw [appErr, if_neg h0, g1, g2]
      cases ha : betw p.add 0 65535
      · rw [if_pos (by rfl), valErr_add h0 ha]
      · rw [if_neg (by decide)]
    refine .inr (.inr ⟨h0, by omega, by omega, by omega, by omega, ?_⟩)
    by_cases hv : valErr p.kind sym p.add (base + p.pos) = 0
    · exact .inr ⟨hv, e.trans hv, hS' (e.trans hv)⟩
    · exact .inl ⟨hv, e, hS (by rw [e]; exact hv)⟩

theorem width_nat (k : Int) : ∃ n : Nat, width k = n ∧ n ≤ 4 := ⟨(width k).toNat, by have := width_bd k; omega, by have := width_bd k; omega⟩

set_option maxHeartbeats 1000000 in
theorem apply_any (s : ByteArray) (p : Pat) (sym base : Int) (w : World) (hs : s.size ≤ 140737488351232) :
    Calls Tryz.prog 155 #[.string s, .agg #[.int .i64 p.kind, .int .i64 p.pos, .int .i64 p.sym, .int .i64 p.add], .int .i64 sym, .int .i64 base] w fun e w' => e = .returned (.tuple #[.string (appStr s p sym base), .int .i64 (appErr s.size p sym base)]) ∧ Below w.heap.size w w' := by
  have key := app_cases s p sym base
  have HV : Hid (∀ w, Calls Tryz.prog 179 #[.int .i64 p.kind, .int .i64 sym, .int .i64 p.add, .int .i64 (base + p.pos)] w fun e w' => e = .returned (.tuple #[.int .i64 (valNum p.kind sym p.add (base + p.pos)), .int .i64 (valErr p.kind sym p.add (base + p.pos))]) ∧ Below w.heap.size w w') := fun w => value_any _ _ _ _ w
  have HW : Hid (∀ w, Calls Tryz.prog 178 #[.int .i64 p.kind] w fun e w' => e = .returned (.tuple #[.int .i64 (width p.kind), .int .i64 (widthErr p.kind)]) ∧ w' = w) := fun w => patchWidth_any _ w
  have hwe : widthErr p.kind = if width p.kind = 0 then 7 else 0 := rfl
  have HP : Hid (0 ≤ p.pos → p.pos ≤ s.size - width p.kind → width p.kind ≠ 0 → ∀ w, Calls Tryz.prog 180 #[.string s, .int .i64 p.pos, .int .i64 (width p.kind), .int .i64 (valNum p.kind sym p.add (base + p.pos))] w fun e w' =>
      e = .returned (.tuple #[.string (putS s p.pos.toNat (width p.kind).toNat (valNum p.kind sym p.add (base + p.pos))), .int .i64 0]) ∧ Below w.heap.size w w') := fun g0 g1 g2 w => by
    have hb := width_bd p.kind
    have hz : wrongAt s.size p.pos (width p.kind) = 0 := by unfold wrongAt; rw [if_neg (by omega), if_neg (by omega)]
    have := put_any s p.pos (width p.kind) (valNum p.kind sym p.add (base + p.pos)) w hs
    rwa [putR, if_pos hz, hz] at this
  have hwb := width_bd p.kind
  obtain ⟨K, A, S, D⟩ := p
  dsimp only at *
  generalize appErr s.size ⟨K, A, S, D⟩ sym base = RE at *
  generalize appStr s ⟨K, A, S, D⟩ sym base = RS at *
  generalize putS s A.toNat (width K).toNat (valNum K sym D (base + A)) = PS at *
  generalize valNum K sym D (base + A) = vn at *
  generalize valErr K sym D (base + A) = ve at *
  generalize widthErr K = we at *
  generalize width K = wd at *
  rcases key with ⟨rfl, rfl, rfl⟩ | ⟨h0, h1, rfl, rfl⟩ | ⟨h0, q1, q2, q3, q4, ⟨h2, rfl, rfl⟩ | ⟨rfl, rfl, rfl⟩⟩
  · rw [if_pos rfl] at hwe
    subst hwe
    go_enter Tryz.func155, Tryz.ntmps155
    go_wp2_with (go_at_call 178; refine (HW.out _).mono ?_; rintro e w' ⟨rfl, rfl⟩)
    go_ret2
    exact ⟨rfl, (Below.refl _ _).alloc (Nat.le_refl _) _⟩
  · rw [if_neg h0] at hwe
    subst hwe
    rcases h1 with h1 | ⟨h1, h2⟩ | ⟨h1, h2, h3⟩ | ⟨h1, h2, h3, h4⟩
    all_goals
      go_enter Tryz.func155, Tryz.ntmps155
      go_wp2_with (go_at_call 178; refine (HW.out _).mono ?_; rintro e w' ⟨rfl, rfl⟩)
      go_ret2
      exact ⟨rfl, (Below.refl _ _).alloc (Nat.le_refl _) _⟩
  · rw [if_neg h0] at hwe
    subst hwe
    have h3 : (RE != 0) = true := by simpa using h2
    go_enter Tryz.func155, Tryz.ntmps155
    go_wp2_with (go_at_call 178; refine (HW.out _).mono ?_; rintro e w' ⟨rfl, rfl⟩)
    refine (HV.out _).mono ?_
    rintro e w1 ⟨rfl, b1⟩
    go_wp2
    go_ret2
    exact ⟨rfl, ((Below.refl _ _).alloc (Nat.le_refl _) _).trans (b1.mono (by simp))⟩
  · rw [if_neg h0] at hwe
    subst hwe
    go_enter Tryz.func155, Tryz.ntmps155
    go_wp2_with (go_at_call 178; refine (HW.out _).mono ?_; rintro e w' ⟨rfl, rfl⟩)
    refine (HV.out _).mono ?_
    rintro e w1 ⟨rfl, b1⟩
    have B1 := ((Below.refl w.heap.size w).alloc (Nat.le_refl _) (.cells #[.int .i64 K, .int .i64 A, .int .i64 S, .int .i64 D] 43)).trans (b1.mono (by simp))
    have c1 : w1.cell? ⟨w.heap.size, 1, none⟩ = some (.int .i64 A) := by
      have := b1.cell (p := ⟨w.heap.size, 1, none⟩) (by simp)
      rw [this]; simp
    go_wp2_with fail
    refine (HP.out q1 q2 h0 _).mono ?_
    rintro e w2 ⟨rfl, b2⟩
    go_wp2
    go_ret2
    exact ⟨rfl, B1.trans (b2.mono B1.size)⟩

end Go.Proofs.YthmohjgdcjafkadGreat
