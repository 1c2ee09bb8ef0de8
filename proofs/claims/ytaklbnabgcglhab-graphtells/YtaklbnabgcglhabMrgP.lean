/- Texts that are laid together. -/
import Derived.Test.YtaklbnabgcglhabMrgO
import Derived.Test.YtaklbnabgcglhabMrgG

/- The contract of resolve.address. -/
namespace Go.Proofs.Ytaklbnabgcglhab
open Go.RowKit Go.PlainAid

set_option maxRecDepth 100000

theorem addrOf_cases (K : Ker) (l : List Plc) (i : Imp) : (tgtOf K l i.mod = none ∧ addrOf K l i = (0, 5)) ∨ ∃ t, tgtOf K l i.mod = some t ∧ ((t.major ≠ i.major ∧ addrOf K l i = (0, 4)) ∨ (t.major = i.major ∧ t.minor < i.minor ∧ addrOf K l i = (0, 4)) ∨
    (t.major = i.major ∧ i.minor ≤ t.minor ∧ (expOf t.exps i.name = none ∧ addrOf K l i = (0, 5) ∨ ∃ x, expOf t.exps i.name = some x ∧ addrOf K l i = (t.beg + x.pos, 0)))) := by
  unfold addrOf
  cases ht : tgtOf K l i.mod with
  | none => exact .inl ⟨rfl, rfl⟩
  | some t =>
    refine .inr ⟨t, rfl, ?_⟩
    dsimp only
    by_cases h1 : t.major = i.major
    · by_cases h2 : t.minor < i.minor
      · exact .inr (.inl ⟨h1, h2, by rw [if_pos (.inr h2)]⟩)
      · refine .inr (.inr ⟨h1, by omega, ?_⟩)
        rw [if_neg (by omega)]
        cases hx : expOf t.exps i.name with
        | none => exact .inl ⟨rfl, rfl⟩
        | some x => exact .inr ⟨x, rfl, rfl⟩
    · exact .inl ⟨h1, by rw [if_pos (.inl h1)]⟩

set_option maxHeartbeats 4000000 in
theorem address_any (K : Ker) (vk : Value) (l : List PV) (v : Value) (i : Imp) (w : World) (hK : IsKer w.heap.size w vk K) (hrow : IsPlcs w.heap.size w v l) (h0 : chkFind K (l.map PV.plc) = 0) :
    Calls Try.prog 45 #[vk, v, .agg #[.string i.mod, .string i.name, .int .i64 i.major, .int .i64 i.minor]] w fun e w' => e = .returned (.tuple #[.int .i64 (addrOf K (l.map PV.plc) i).1, .int .i64 (addrOf K (l.map PV.plc) i).2]) ∧ Below w.heap.size w w' := by
  have hfst : ∀ x ∈ l, 0 ≤ x.first ∧ x.first ≤ 15 := fun x hx => by
    have := (chkFind_zero h0).2.2 x.plc (List.mem_map_of_mem hx)
    exact ⟨this.2.1, this.2.2⟩
  have HM : Hid (∀ W, Below w.heap.size w W → Calls Try.prog 76 #[vk, v, .string i.mod] W fun e w' => (∃ r, e = .returned r ∧ TgtV W.heap.size W r (tgtOf K (l.map PV.plc) i.mod)) ∧ Below W.heap.size W w') :=
    fun W hb => meant_any K vk l v i.mod W ((hK.below hb).more hb.size) ((hrow.below hb).more hb.size) hfst
  obtain ⟨vke, rfl, hE⟩ := hK
  obtain ⟨pe, ke, rfl, _, _⟩ := hE
  obtain ⟨⟨a, cap, rfl, _, _⟩, _⟩ := hrow
  have key := addrOf_cases K (l.map PV.plc) i
  have hbd := fun t (ht : tgtOf K (l.map PV.plc) i.mod = some t) => tgt_bd h0 ht
  generalize addrOf K (l.map PV.plc) i = R at *
  generalize tgtOf K (l.map PV.plc) i.mod = TT at *
  obtain ⟨ma, mi, es⟩ := K
  obtain ⟨im, inm, ia, ib⟩ := i
  dsimp only at *
  clear h0 hfst
  generalize es.length = le at *
  generalize l.length = ll at *
  have HW2 : Hid (Below w.heap.size w ((w.alloc (.cells #[.int .i64 ma, .int .i64 mi, .slice pe le ke] 37)).alloc (.cells #[.string im, .string inm, .int .i64 ia, .int .i64 ib] 40))) := ((Below.refl _ _).alloc (Nat.le_refl _) _).alloc (by simp) _
  have HC2 : Hid (CellsAt ((w.alloc (.cells #[.int .i64 ma, .int .i64 mi, .slice pe le ke] 37)).alloc (.cells #[.string im, .string inm, .int .i64 ia, .int .i64 ib] 40)) (w.heap.size + 1) 40 #[.string im, .string inm, .int .i64 ia, .int .i64 ib]) := by
    have := CellsAt.new (w.alloc (.cells #[.int .i64 ma, .int .i64 mi, .slice pe le ke] 37)) 40 #[.string im, .string inm, .int .i64 ia, .int .i64 ib]
    rw [World.size_alloc] at this
    exact this
  go_enter Try.func45, Try.ntmps45
  go_wp2_with fail
  refine (HM.out _ HW2.out).mono ?_
  rintro e w3 ⟨⟨r, rfl, hT⟩, b3⟩
  have C3 := HC2.out.below b3 (by simp)
  have B3 := HW2.out.trans (b3.mono HW2.out.size)
  have hz3 := C3.lt
  rcases key with ⟨rfl, rfl⟩ | ⟨t, rfl, key⟩
  · have hT' : r = .tuple #[.agg #[.int .i64 0, .int .i64 0, .int .i64 0, .slice none 0 0], .bool false] := hT
    subst hT'
    clear HM HW2 HC2 hT b3 hbd
    go_wp2
    go_ret2
    exact ⟨rfl, B3.alloc B3.size _⟩
  · obtain ⟨vt, hr, hR⟩ : ∃ ve, r = .tuple #[.agg #[.int .i64 t.major, .int .i64 t.minor, .int .i64 t.beg, ve], .bool true] ∧ RowOf 2 Exp.cell _ _ ve t.exps := hT
    subst hr
    obtain ⟨q1, q2, q3, q4⟩ := hbd t rfl
    have hR3 := (hR.below b3).more b3.size
    obtain ⟨pt, kt, rfl, _, _⟩ := hR
    clear HM HW2 HC2 b3 hbd
    obtain ⟨ta, ti, tb, ts⟩ := t
    dsimp only at *
    have hW4 : Below w3.heap.size w3 (w3.alloc (.cells #[.int .i64 ta, .int .i64 ti, .int .i64 tb, .slice pt ts.length kt] 114)) := (Below.refl _ _).alloc (Nat.le_refl _) _
    have hR4 := (hR3.below hW4).more hW4.size
    have C4 := C3.below hW4 C3.lt
    have T4 := CellsAt.new w3 114 #[.int .i64 ta, .int .i64 ti, .int .i64 tb, .slice pt ts.length kt]
    have B4 := B3.trans (hW4.mono B3.size)
    have HF : Hid (Calls Try.prog 77 #[.slice pt ts.length kt, .func (.func 78) #[] #[.pointer (some ⟨w.heap.size + 1, 0, none⟩)]] (w3.alloc (.cells #[.int .i64 ta, .int .i64 ti, .int .i64 tb, .slice pt ts.length kt] 114)) fun e w' => e = .returned (optExp (expOf ts inm)) ∧ Below (w3.alloc (.cells #[.int .i64 ta, .int .i64 ti, .int .i64 tb, .slice pt ts.length kt] 114)).heap.size (w3.alloc (.cells #[.int .i64 ta, .int .i64 ti, .int .i64 tb, .slice pt ts.length kt] 114)) w') :=
      firstExp_any ts _ 78 (.pointer (some ⟨w.heap.size + 1, 0, none⟩)) (fun w x => enters_of Try.func78 (by kernel_rfl) rfl _ w) _ _ hR4 (fun x _ W' hb' => isCalled_any (w.heap.size + 1) inm x W' (Nat.lt_of_lt_of_le C4.lt hb'.size) ((hb'.cell (p := ⟨w.heap.size + 1, 1, none⟩) C4.lt).trans (C4.cell 1)))
    have HC4 : Hid (CellsAt (w3.alloc (.cells #[.int .i64 ta, .int .i64 ti, .int .i64 tb, .slice pt ts.length kt] 114)) (w.heap.size + 1) 40 #[.string im, .string inm, .int .i64 ia, .int .i64 ib]) := C4
    have HT4 : Hid (CellsAt (w3.alloc (.cells #[.int .i64 ta, .int .i64 ti, .int .i64 tb, .slice pt ts.length kt] 114)) w3.heap.size 114 #[.int .i64 ta, .int .i64 ti, .int .i64 tb, .slice pt ts.length kt]) := T4
    have HB4 : Hid (Below w.heap.size w (w3.alloc (.cells #[.int .i64 ta, .int .i64 ti, .int .i64 tb, .slice pt ts.length kt] 114))) := B4
    have c2 := C3.cell 2
    have c3 := C3.cell 3
    simp at c2 c3
    clear C4 T4 B4 hR3 hR4 hW4
    generalize hn : ts.length = lt at *
    rcases key with ⟨h1, rfl⟩ | ⟨rfl, h2, rfl⟩ | ⟨rfl, h2, ⟨h3, rfl⟩ | ⟨x, h3, rfl⟩⟩
    · have h1' : (ta != ia) = true := by simpa using h1
      go_wp2
      go_ret2
      exact ⟨rfl, HB4.out⟩
    · go_wp2
      go_ret2
      exact ⟨rfl, HB4.out⟩
    · rw [h3] at HF
      dsimp only [optExp] at HF
      go_wp2_with fail
      refine HF.out.mono ?_
      rintro e w5 ⟨rfl, b5⟩
      have B5 := HB4.out.trans (b5.mono HB4.out.size)
      go_wp2
      go_ret2
      exact ⟨rfl, B5.alloc B5.size _⟩
    · rw [h3] at HF
      dsimp only [optExp] at HF
      obtain ⟨g1, g2, g3⟩ := q4 x (List.mem_of_find?_eq_some h3)
      clear q4 h3
      go_wp2_with fail
      refine HF.out.mono ?_
      rintro e w5 ⟨rfl, b5⟩
      have B5 := HB4.out.trans (b5.mono HB4.out.size)
      have T5 := HT4.out.below b5 (by simp)
      have t2 := T5.cell 2
      have hz5 := T5.lt
      simp at t2
      clear b5 HF HT4 HC4 HB4
      go_wp2
      go_ret2
      exact ⟨rfl, B5.alloc B5.size _⟩

end Go.Proofs.Ytaklbnabgcglhab

/- The contract of resolve.Find. -/
namespace Go.Proofs.Ytaklbnabgcglhab
open Go.RowKit Go.PlainAid

set_option maxRecDepth 100000

/-- What Find answers. -/
def findRes (k : Ker) (l : List Plc) (i : Imp) : Int × Int := if chkFind k l ≠ 0 then (0, chkFind k l) else if impOwn i ≠ 0 then (0, impOwn i) else addrOf k l i

theorem chkImps_one (i : Imp) : chkImps [] [i] = impOwn i := by
  have h : chkImps [] [i] = if impErr [] i = 0 then 0 else impErr [] i := rfl
  have h2 : impErr [] i = impOwn i := by
    rw [impErr_own]
    by_cases h1 : impOwn i = 1
    · rw [if_pos h1, h1]
    · rw [if_neg h1, if_neg (by simp)]
  rw [h, h2]
  by_cases h3 : impOwn i = 0
  · rw [if_pos h3, h3]
  · rw [if_neg h3]

theorem findRes_cases (k : Ker) (l : List Plc) (i : Imp) : (chkFind k l ≠ 0 ∧ findRes k l i = (0, chkFind k l)) ∨ (chkFind k l = 0 ∧ impOwn i ≠ 0 ∧ findRes k l i = (0, impOwn i)) ∨ (chkFind k l = 0 ∧ impOwn i = 0 ∧ findRes k l i = addrOf k l i) := by
  unfold findRes
  by_cases h1 : chkFind k l = 0
  · by_cases h2 : impOwn i = 0
    · exact .inr (.inr ⟨h1, h2, by rw [if_neg (by omega), if_neg (by omega)]⟩)
    · exact .inr (.inl ⟨h1, h2, by rw [if_neg (by omega), if_pos h2]⟩)
  · exact .inl ⟨h1, by rw [if_pos h1]⟩

set_option maxHeartbeats 4000000 in
theorem find_any (K : Ker) (vk : Value) (l : List PV) (v : Value) (i : Imp) (w : World) (hK : IsKer w.heap.size w vk K) (hf : K.fits) (hrow : IsPlcs w.heap.size w v l) (hfit : ∀ x ∈ l, x.mod.fits) (hi : i.fits) :
    Calls Try.prog 16 #[vk, v, .agg #[.string i.mod, .string i.name, .int .i64 i.major, .int .i64 i.minor]] w fun e w' => e = .returned (.tuple #[.int .i64 (findRes K (l.map PV.plc) i).1, .int .i64 (findRes K (l.map PV.plc) i).2]) ∧ Below w.heap.size w w' := by
  have HP : Hid (∀ W, Below w.heap.size w W → Calls Try.prog 43 #[vk, v] W fun e w' => e = .returned (.int .i64 (chkFind K (l.map PV.plc))) ∧ Below W.heap.size W w') :=
    fun W hb => wrongPlaces_any K vk l v W ((hK.below hb).more hb.size) hf ((hrow.below hb).more hb.size) hfit
  have HA : Hid (chkFind K (l.map PV.plc) = 0 → ∀ W, Below w.heap.size w W → Calls Try.prog 45 #[vk, v, .agg #[.string i.mod, .string i.name, .int .i64 i.major, .int .i64 i.minor]] W fun e w' => e = .returned (.tuple #[.int .i64 (addrOf K (l.map PV.plc) i).1, .int .i64 (addrOf K (l.map PV.plc) i).2]) ∧ Below W.heap.size W w') :=
    fun h0 W hb => address_any K vk l v i W ((hK.below hb).more hb.size) ((hrow.below hb).more hb.size) h0
  have HI : Hid (∀ W B, CellsAt W B 40 #[.string i.mod, .string i.name, .int .i64 i.major, .int .i64 i.minor] → Calls Try.prog 44 #[.slice (some ⟨B, 0, none⟩) 1 1] W fun e w' => e = .returned (.int .i64 (impOwn i)) ∧ Below W.heap.size W w') := by
    intro W B hc
    have hr : RowOf 4 Imp.cell W.heap.size W (.slice (some ⟨B, 0, none⟩) 1 1) [i] := rowOf_cells (C := impC) (cells := Imp.cell) (sz := 4) (fun _ => rfl) impC_at hc [i] (by simp) 1 (by simp [impC])
    have := wrongImports_any [i] _ W hr (fun e he => by
      have e' : e = i := by simpa using he
      subst e'
      exact hi) (by simp)
    rwa [chkImps_one] at this
  obtain ⟨vke, rfl, hE⟩ := hK
  obtain ⟨pe, ke, rfl, _, _⟩ := hE
  obtain ⟨⟨a, cap, rfl, _, _⟩, _⟩ := hrow
  have key := findRes_cases K (l.map PV.plc) i
  generalize findRes K (l.map PV.plc) i = R at *
  generalize addrOf K (l.map PV.plc) i = A at *
  generalize chkFind K (l.map PV.plc) = cf at *
  generalize impOwn i = io at *
  obtain ⟨ma, mi, es⟩ := K
  obtain ⟨im, inm, ia, ib⟩ := i
  dsimp only at *
  clear hf hfit hi
  generalize es.length = le at *
  generalize l.length = ll at *
  have HW2 : Hid (Below w.heap.size w ((w.alloc (.cells #[.int .i64 ma, .int .i64 mi, .slice pe le ke] 37)).alloc (.cells #[.string im, .string inm, .int .i64 ia, .int .i64 ib] 40))) := ((Below.refl _ _).alloc (Nat.le_refl _) _).alloc (by simp) _
  have HK2 : Hid (CellsAt ((w.alloc (.cells #[.int .i64 ma, .int .i64 mi, .slice pe le ke] 37)).alloc (.cells #[.string im, .string inm, .int .i64 ia, .int .i64 ib] 40)) w.heap.size 37 #[.int .i64 ma, .int .i64 mi, .slice pe le ke]) := (CellsAt.new w 37 #[.int .i64 ma, .int .i64 mi, .slice pe le ke]).kept (World.grownBy_alloc _ _ none) (by simp)
  have HC2 : Hid (CellsAt ((w.alloc (.cells #[.int .i64 ma, .int .i64 mi, .slice pe le ke] 37)).alloc (.cells #[.string im, .string inm, .int .i64 ia, .int .i64 ib] 40)) (w.heap.size + 1) 40 #[.string im, .string inm, .int .i64 ia, .int .i64 ib]) := by
    have := CellsAt.new (w.alloc (.cells #[.int .i64 ma, .int .i64 mi, .slice pe le ke] 37)) 40 #[.string im, .string inm, .int .i64 ia, .int .i64 ib]
    rw [World.size_alloc] at this
    exact this
  go_enter Try.func16, Try.ntmps16
  go_wp2_with fail
  refine (HP.out _ HW2.out).mono ?_
  rintro e w3 ⟨rfl, b3⟩
  have C3 := HC2.out.below b3 (by simp)
  have K3 := HK2.out.below b3 (by simp; omega)
  have B3 := HW2.out.trans (b3.mono HW2.out.size)
  clear HC2 HK2 HW2 HP b3
  rcases key with ⟨h1, rfl⟩ | ⟨rfl, h2, rfl⟩ | ⟨rfl, rfl, rfl⟩
  · have h1' : (cf != 0) = true := by simpa using h1
    clear h1
    go_wp2
    go_ret2
    exact ⟨rfl, B3⟩
  all_goals
    have c0 := C3.cell 0
    have c1 := C3.cell 1
    have c2 := C3.cell 2
    have c3 := C3.cell 3
    simp at c0 c1 c2 c3
    have C4 := CellsAt.new w3 40 #[.string im, .string inm, .int .i64 ia, .int .i64 ib]
    have K4 := K3.kept (World.grownBy_alloc w3 (.cells #[.string im, .string inm, .int .i64 ia, .int .i64 ib] 40) none) (by simp)
    have D4 := C3.kept (World.grownBy_alloc w3 (.cells #[.string im, .string inm, .int .i64 ia, .int .i64 ib] 40) none) (by simp)
    have B4 := B3.alloc B3.size (.cells #[.string im, .string inm, .int .i64 ia, .int .i64 ib] 40)
    have HC4 : Hid (CellsAt (w3.alloc (.cells #[.string im, .string inm, .int .i64 ia, .int .i64 ib] 40)) w3.heap.size 40 #[.string im, .string inm, .int .i64 ia, .int .i64 ib]) := C4
    have HD4 : Hid (CellsAt (w3.alloc (.cells #[.string im, .string inm, .int .i64 ia, .int .i64 ib] 40)) (w.heap.size + 1) 40 #[.string im, .string inm, .int .i64 ia, .int .i64 ib]) := D4
    have HK4 : Hid (CellsAt (w3.alloc (.cells #[.string im, .string inm, .int .i64 ia, .int .i64 ib] 40)) w.heap.size 37 #[.int .i64 ma, .int .i64 mi, .slice pe le ke]) := K4
    have HB4 : Hid (Below w.heap.size w (w3.alloc (.cells #[.string im, .string inm, .int .i64 ia, .int .i64 ib] 40))) := B4
    clear C4 K4 D4 B4
    go_wp2_with fail
    refine (HI.out _ _ HC4.out).mono ?_
    rintro e w5 ⟨rfl, b5⟩
    have D5 := HD4.out.below b5 HD4.out.lt
    have K5 := HK4.out.below b5 HK4.out.lt
    have B5 := HB4.out.trans (b5.mono HB4.out.size)
    clear b5 HC4 HD4 HK4 HB4 HI c0 c1 c2 c3
  · have h2' : (io != 0) = true := by simpa using h2
    clear h2
    go_wp2
    go_ret2
    exact ⟨rfl, B5⟩
  · have c0 := D5.cell 0
    have c1 := D5.cell 1
    have c2 := D5.cell 2
    have c3 := D5.cell 3
    have d0 := K5.cell 0
    have d1 := K5.cell 1
    have d2 := K5.cell 2
    simp at c0 c1 c2 c3 d0 d1 d2
    go_wp2_with fail
    refine (HA.out (by first | rfl | trivial) _ B5).mono ?_
    rintro e w6 ⟨rfl, b6⟩
    go_wp2
    go_ret2
    exact ⟨rfl, B5.trans (b6.mono B5.size)⟩

end Go.Proofs.Ytaklbnabgcglhab

/- The contract of resolve.All. -/
namespace Go.Proofs.Ytaklbnabgcglhab
open Go.RowKit Go.PlainAid

set_option maxRecDepth 100000

/-- The addresses of all imports behind those of acc, or why not. -/
def addrsFrom (k : Ker) (l : List Plc) : List Int → List Imp → List Int × Int
  | acc, [] => (acc, 0)
  | acc, i :: r => if (addrOf k l i).2 ≠ 0 then ([], (addrOf k l i).2) else addrsFrom k l (acc ++ [(addrOf k l i).1]) r
/-- What All answers. -/
def allRes (k : Ker) (l : List Plc) (m : Mod) : List Int × Int := if chkFind k l ≠ 0 then ([], chkFind k l) else if chkMod m ≠ 0 then ([], chkMod m) else addrsFrom k l [] m.imps
theorem allRes_cases (k : Ker) (l : List Plc) (m : Mod) : (chkFind k l ≠ 0 ∧ allRes k l m = ([], chkFind k l)) ∨ (chkFind k l = 0 ∧ chkMod m ≠ 0 ∧ allRes k l m = ([], chkMod m)) ∨ (chkFind k l = 0 ∧ chkMod m = 0 ∧ allRes k l m = addrsFrom k l [] m.imps) := by
  unfold allRes
  by_cases h1 : chkFind k l = 0
  · by_cases h2 : chkMod m = 0
    · exact .inr (.inr ⟨h1, h2, by rw [if_neg (by omega), if_neg (by omega)]⟩)
    · exact .inr (.inl ⟨h1, h2, by rw [if_neg (by omega), if_pos h2]⟩)
  · exact .inl ⟨h1, by rw [if_pos h1]⟩

set_option maxHeartbeats 4000000 in
theorem all_any (K : Ker) (vk : Value) (l : List PV) (v : Value) (M : Mod) (vm : Value) (w : World) (hK : IsKer w.heap.size w vk K) (hf : K.fits) (hrow : IsPlcs w.heap.size w v l) (hfit : ∀ x ∈ l, x.mod.fits) (hM : IsMod w.heap.size w vm M) (hMf : M.fits) :
    Calls Try.prog 17 #[vk, v, vm] w fun e w' => (∃ r, e = .returned (.tuple #[r, .int .i64 (allRes K (l.map PV.plc) M).2]) ∧ RowOf 1 intCell w'.heap.size w' r (allRes K (l.map PV.plc) M).1) ∧ Below w.heap.size w w' := by
  have HP : Hid (∀ W, Below w.heap.size w W → Calls Try.prog 43 #[vk, v] W fun e w' => e = .returned (.int .i64 (chkFind K (l.map PV.plc))) ∧ Below W.heap.size W w') :=
    fun W hb => wrongPlaces_any K vk l v W ((hK.below hb).more hb.size) hf ((hrow.below hb).more hb.size) hfit
  have HA : Hid (chkFind K (l.map PV.plc) = 0 → ∀ (i : Imp) W, Below w.heap.size w W → Calls Try.prog 45 #[vk, v, .agg #[.string i.mod, .string i.name, .int .i64 i.major, .int .i64 i.minor]] W fun e w' => e = .returned (.tuple #[.int .i64 (addrOf K (l.map PV.plc) i).1, .int .i64 (addrOf K (l.map PV.plc) i).2]) ∧ Below W.heap.size W w') :=
    fun h0 i W hb => address_any K vk l v i W ((hK.below hb).more hb.size) ((hrow.below hb).more hb.size) h0
  have HC : Hid (∀ W, Below w.heap.size w W → Calls Try.prog 46 #[vm] W fun e w' => e = .returned (.int .i64 (chkMod M)) ∧ Below W.heap.size W w') :=
    fun W hb => check_any M vm W ((hM.below hb).more hb.size) hMf
  obtain ⟨vke, rfl, hE⟩ := hK
  obtain ⟨pe, ke, rfl, _, _⟩ := hE
  obtain ⟨⟨a, cap, rfl, _, _⟩, _⟩ := hrow
  obtain ⟨me, mi', mp, rfl, hme, hmi, hmp⟩ := hM
  obtain ⟨qe, je, rfl, _, _⟩ := hme
  obtain ⟨qi, ji, rfl, _, hrowI⟩ := hmi
  obtain ⟨qp, jp, rfl, _, _⟩ := hmp
  have key := allRes_cases K (l.map PV.plc) M
  have hm6 : chkMod M = 0 → M.imps.length ≤ 6 := fun h => (chkMod_exps h).2.2.2.1
  generalize hL : l.map PV.plc = L at *
  generalize allRes K L M = R at *
  generalize chkFind K L = cf at *
  generalize chkMod M = cm at *
  have HAD : Hid (∀ acc x r, addrsFrom K L acc (x :: r) = if (addrOf K L x).2 ≠ 0 then ([], (addrOf K L x).2) else addrsFrom K L (acc ++ [(addrOf K L x).1]) r) := fun _ _ _ => rfl
  have HAN : Hid (∀ acc, addrsFrom K L acc [] = (acc, 0)) := fun _ => rfl
  generalize addrsFrom K L = AF at *
  generalize addrOf K L = AO at *
  obtain ⟨ma, mi, es⟩ := K
  obtain ⟨N, xa, xi, T, xs, is, ps⟩ := M
  dsimp only at *
  clear hf hfit hMf hL L
  generalize es.length = le at *
  generalize xs.length = lx at *
  generalize ps.length = lp at *
  generalize l.length = ll at *
  have HW2 : Hid (Below w.heap.size w ((w.alloc (.cells #[.int .i64 ma, .int .i64 mi, .slice pe le ke] 37)).alloc (.cells #[.string N, .int .i64 xa, .int .i64 xi, .string T, .slice qe lx je, .slice qi is.length ji, .slice qp lp jp] 44))) := ((Below.refl _ _).alloc (Nat.le_refl _) _).alloc (by simp) _
  have HK2 : Hid (CellsAt ((w.alloc (.cells #[.int .i64 ma, .int .i64 mi, .slice pe le ke] 37)).alloc (.cells #[.string N, .int .i64 xa, .int .i64 xi, .string T, .slice qe lx je, .slice qi is.length ji, .slice qp lp jp] 44)) w.heap.size 37 #[.int .i64 ma, .int .i64 mi, .slice pe le ke]) := (CellsAt.new w 37 #[.int .i64 ma, .int .i64 mi, .slice pe le ke]).kept (World.grownBy_alloc _ _ none) (by simp)
  have HC2 : Hid (CellsAt ((w.alloc (.cells #[.int .i64 ma, .int .i64 mi, .slice pe le ke] 37)).alloc (.cells #[.string N, .int .i64 xa, .int .i64 xi, .string T, .slice qe lx je, .slice qi is.length ji, .slice qp lp jp] 44)) (w.heap.size + 1) 44 #[.string N, .int .i64 xa, .int .i64 xi, .string T, .slice qe lx je, .slice qi is.length ji, .slice qp lp jp]) := by
    have := CellsAt.new (w.alloc (.cells #[.int .i64 ma, .int .i64 mi, .slice pe le ke] 37)) 44 #[.string N, .int .i64 xa, .int .i64 xi, .string T, .slice qe lx je, .slice qi is.length ji, .slice qp lp jp]
    rw [World.size_alloc] at this
    exact this
  go_enter Try.func17, Try.ntmps17
  go_wp2_with fail
  refine (HP.out _ HW2.out).mono ?_
  rintro e w3 ⟨rfl, b3⟩
  have C3 := HC2.out.below b3 (by simp)
  have K3 := HK2.out.below b3 (by simp; omega)
  have B3 := HW2.out.trans (b3.mono HW2.out.size)
  clear HC2 HK2 HW2 HP b3
  rcases key with ⟨h1, rfl⟩ | ⟨rfl, h2, rfl⟩ | ⟨rfl, rfl, rfl⟩
  · have h1' : (cf != 0) = true := by simpa using h1
    clear h1
    go_wp2
    go_ret2
    exact ⟨⟨_, rfl, ⟨none, 0, rfl, by simp, .inl rfl⟩⟩, B3⟩
  all_goals
    have c0 := C3.cell 0
    have c1 := C3.cell 1
    have c2 := C3.cell 2
    have c3 := C3.cell 3
    have c4 := C3.cell 4
    have c5 := C3.cell 5
    have c6 := C3.cell 6
    simp at c0 c1 c2 c3 c4 c5 c6
    go_wp2_with fail
    refine (HC.out _ B3).mono ?_
    rintro e w5 ⟨rfl, b5⟩
    have D5 := C3.below b5 C3.lt
    have K5 := K3.below b5 K3.lt
    have B5 := B3.trans (b5.mono B3.size)
    clear b5 HC c0 c1 c2 c3 c4 c5 c6 C3 K3
  · have h2' : (cm != 0) = true := by simpa using h2
    clear h2
    go_wp2
    go_ret2
    exact ⟨⟨_, rfl, ⟨none, 0, rfl, by simp, .inl rfl⟩⟩, B5⟩
  · have hA := fun (i : Imp) W hb => HA.out (by first | rfl | trivial) i W hb
    have HA' : Hid (∀ (i : Imp) W, Below w.heap.size w W → Calls Try.prog 45 #[.agg #[.int .i64 ma, .int .i64 mi, .slice pe le ke], .slice a ll cap, .agg #[.string i.mod, .string i.name, .int .i64 i.major, .int .i64 i.minor]] W fun e w' => e = .returned (.tuple #[.int .i64 (AO i).1, .int .i64 (AO i).2]) ∧ Below W.heap.size W w') := hA
    have h6 : is.length ≤ 6 := by first | exact hm6 rfl | exact hm6 trivial | exact hm6
    clear hA HA hm6
    have d5 := D5.cell 5
    simp at d5
    obtain ⟨ii, hii, hz0, hz1, hz2⟩ := infoInt_parts
    go_wp2_with fail
    go_loopw [10, 29] (fun f i wr => ∃ (k : Nat) (acc : List Int), k ≤ is.length ∧ i = .int .i64 k ∧ acc.length = k ∧ wr.ownsRow w5.heap.size 3 1 f acc.length (acc.flatMap intC) ∧ Hid (AF [] is = AF acc (is.drop k)) ∧ Below w5.heap.size w5 wr) (fun _ i _ => is.length - (intOf i).toNat)
    case atStart => exact ⟨0, [], Nat.zero_le _, rfl, rfl, ⟨rfl, .inl ⟨rfl, rfl⟩⟩, by show AF [] is = AF [] (is.drop 0); rfl, Below.refl _ _⟩
    case round =>
      obtain ⟨k, acc, hk, rfl, hacc, hown, HCC, B⟩ := hrel
      have B' : Below w.heap.size w wr := B5.trans (B.mono B5.size)
      have HLK : Hid (acc.length = k) := hacc
      rw [hacc] at hown
      clear hacc
      obtain ⟨av, kv, rfl⟩ := own_form hown
      by_cases hlt : k < is.length
      · obtain ⟨x, hx⟩ : ∃ x, is[k]? = some x := ⟨_, List.getElem?_eq_getElem hlt⟩
        rcases hrowI with h | ⟨b, off, rfl, hbn, hcells⟩
        · subst h; simp at hlt
        have c0 := (B'.cell (p := ⟨b, off + k * 4 + 0, none⟩) hbn).trans (hcells k _ hx 0 (by omega))
        have c1 := (B'.cell (p := ⟨b, off + k * 4 + 1, none⟩) hbn).trans (hcells k _ hx 1 (by omega))
        have c2 := (B'.cell (p := ⟨b, off + k * 4 + 2, none⟩) hbn).trans (hcells k _ hx 2 (by omega))
        have c3 := (B'.cell (p := ⟨b, off + k * 4 + 3, none⟩) hbn).trans (hcells k _ hx 3 (by omega))
        have HR : Hid (AF [] is = if (AO x).2 ≠ 0 then ([], (AO x).2) else AF (acc ++ [(AO x).1]) (is.drop (k + 1))) := by
          show AF [] is = _
          rw [HCC.out, drop_at hx, HAD.out]
        have HAx := HA'.out x
        obtain ⟨xm, xn, xma, xmi⟩ := x
        dsimp only [Imp.cell] at c0 c1 c2 c3
        dsimp only at HAx
        rw [Nat.add_zero] at c0
        generalize AO ⟨xm, xn, xma, xmi⟩ = q at HR HAx
        obtain ⟨p, q⟩ := q
        dsimp only at HR HAx
        have HAX : Hid (∀ W, Below w.heap.size w W → Calls Try.prog 45 #[.agg #[.int .i64 ma, .int .i64 mi, .slice pe le ke], .slice a ll cap, .agg #[.string xm, .string xn, .int .i64 xma, .int .i64 xmi]] W fun e w' => e = .returned (.tuple #[.int .i64 p, .int .i64 q]) ∧ Below W.heap.size W w') := HAx
        clear HCC hcells hx HAx HA' HAD HAN
        have KB := K5.below B K5.lt
        have d0 := KB.cell 0
        have d1 := KB.cell 1
        have d2 := KB.cell 2
        have zz := KB.lt
        simp at d0 d1 d2
        have HB6 : Hid (Below w.heap.size w (wr.alloc (.cells #[.string xm, .string xn, .int .i64 xma, .int .i64 xmi] 40))) := B'.alloc B'.size _
        have HB5 : Hid (Below w5.heap.size w5 (wr.alloc (.cells #[.string xm, .string xn, .int .i64 xma, .int .i64 xmi] 40))) := B.alloc B.size _
        have HO6 : Hid ((wr.alloc (.cells #[.string xm, .string xn, .int .i64 xma, .int .i64 xmi] 40)).ownsRow w5.heap.size 3 1 (.slice av k kv) k (acc.flatMap intC)) := hown.alloc _
        clear hown KB
        go_wp2_with fail
        refine (HAX.out _ HB6.out).mono ?_
        rintro e w7 ⟨rfl, b7⟩
        have O7 := own_below HO6.out b7
        have B7 := HB6.out.trans (b7.mono HB6.out.size)
        have E7 := HB5.out.trans (b7.mono HB5.out.size)
        clear b7 HO6 HB6 HB5 HAX c0 c1 c2 c3 d0 d1 d2
        by_cases hq : q = 0
        · subst hq
          have HR' : Hid (AF [] is = AF (acc ++ [p]) (is.drop (k + 1))) := by
            show AF [] is = _
            rw [HR.out]; rfl
          have hb5 : w5.heap.size ≤ w7.heap.size := E7.size
          have ha7 : k < 7 := by omega
          clear HR
          go_wp2_with (at_builtin; refine wpList_append_lies _ rfl _ _ _ rfl w5.heap.size 3 ii _ 1 8 Try.underlying46 hii hz0 hz1 hz2 rfl (by omega) (.slice av k kv) k (acc.flatMap intC) rfl (O7.alloc _) ⟨w7.heap.size, 0, none⟩ 1 1 [.int .i64 p] rfl rfl (World.news_of_block (cs := #[.int .i64 p]) (t := 3) (fr := (0, 0)) (CellsAt.new w7 3 #[.int .i64 p])) (by simp [Value.oneCell']) (by omega) (by unfold maxLen; omega) (by omega) (by simp; omega) (w7.heap.size + 1) (by simp) ?_; intro g gc w8 hown8 hgrow hat hltg)
          refine ⟨⟨k + 1, acc ++ [p], by omega, by go_num, by rw [List.length_append, HLK.out]; rfl, ?_, HR'.out, ?_⟩, by simp [intOf]; omega⟩
          · rw [List.length_append, List.flatMap_append, HLK.out]
            exact hown8
          · exact (E7.alloc E7.size _).grown hgrow (by simp; omega) (fun j hj => own_block O7 j hj)
        · have hq' : (q != 0) = true := by simpa using hq
          have HR' : Hid (AF [] is = ([], q)) := by
            show AF [] is = _
            rw [HR.out, if_pos hq]
          clear HR hq
          go_wp2
          go_ret2
          exact ⟨⟨.slice none 0 0, by rw [HR'.out]; rfl, by rw [HR'.out]; exact ⟨none, 0, rfl, by simp, .inl rfl⟩⟩, B7⟩
      · obtain rfl : k = is.length := by omega
        have HZ : Hid (AF [] is = (acc, 0)) := by
          show AF [] is = (acc, 0)
          rw [HCC.out, List.drop_length, HAN.out]
        go_wp2
        go_ret2
        exact ⟨⟨_, by rw [HZ.out]; rfl, by rw [HZ.out]; exact own_ints (by rw [HLK.out]; exact hown) (by rw [HLK.out]; omega)⟩, B'⟩

end Go.Proofs.Ytaklbnabgcglhab

/- The contracts of the document's CheckKernel, CheckModules, exportAt, PlaceOf. -/
namespace Go.Proofs.Ytaklbnabgcglhab
open Go.RowKit Go.PlainAid

set_option maxRecDepth 100000

set_option maxHeartbeats 1000000 in
theorem checkKernel_any (K : Ker) (v : Value) (w : World) (hK : IsKer w.heap.size w v K) (hf : K.fits) :
    Calls Try.prog 25 #[v] w fun e w' => e = .returned (.int .i64 (chkKer K)) ∧ Below w.heap.size w w' := by
  obtain ⟨ve, rfl, hE⟩ := hK
  have HE : Hid (∀ w', Below w.heap.size w w' → K.exps.length ≤ 8 → Calls Try.prog 50 #[ve, .int .i64 4096] w' fun e w'' => e = .returned (.int .i64 (chkExps 4096 [] K.exps)) ∧ Below w'.heap.size w' w'') :=
    fun w' hb hl => checkExports_any K.exps ve _ w' ((hE.below hb).more hb.size) hf hl (by decide) (by decide)
  obtain ⟨pe, ke, rfl, _, hE⟩ := hE
  clear hE hf
  have key : (betw K.major 0 255 = false ∧ chkKer K = 3) ∨ (betw K.major 0 255 = true ∧ betw K.minor 0 255 = false ∧ chkKer K = 3) ∨ (betw K.major 0 255 = true ∧ betw K.minor 0 255 = true ∧ 8 < K.exps.length ∧ chkKer K = 2) ∨ (betw K.major 0 255 = true ∧ betw K.minor 0 255 = true ∧ K.exps.length ≤ 8 ∧ chkKer K = chkExps 4096 [] K.exps) := by
    unfold chkKer isVer
    cases h1 : betw K.major 0 255
    · exact .inl ⟨rfl, rfl⟩
    cases h2 : betw K.minor 0 255
    · exact .inr (.inl ⟨rfl, rfl, rfl⟩)
    · by_cases h3 : 8 < K.exps.length
      · exact .inr (.inr (.inl ⟨rfl, rfl, h3, by rw [if_neg (by decide), if_pos h3]⟩))
      · exact .inr (.inr (.inr ⟨rfl, rfl, by omega, by rw [if_neg (by decide), if_neg h3]⟩))
  generalize chkKer K = R at *
  generalize chkExps 4096 [] K.exps = ce at *
  obtain ⟨ma, mi, es⟩ := K
  dsimp only at *
  generalize es.length = le at *
  have HW1 : Hid (Below w.heap.size w (w.alloc (.cells #[.int .i64 ma, .int .i64 mi, .slice pe le ke] 37))) := (Below.refl _ _).alloc (Nat.le_refl _) _
  rcases key with ⟨h1, rfl⟩ | ⟨h1, h2, rfl⟩ | ⟨h1, h2, h3, rfl⟩ | ⟨h1, h2, h3, rfl⟩
  · go_enter Try.func25, Try.ntmps25
    go_wp2_with (go_at_call 49; refine (between_any _ _ _ _).mono ?_; rintro e w' ⟨rfl, rfl⟩)
    go_ret
    exact ⟨rfl, HW1.out⟩
  · go_enter Try.func25, Try.ntmps25
    go_wp2_with (go_at_call 49; refine (between_any _ _ _ _).mono ?_; rintro e w' ⟨rfl, rfl⟩)
    go_ret
    exact ⟨rfl, HW1.out⟩
  · have h3' : (8 : Int) < le := by omega
    go_enter Try.func25, Try.ntmps25
    go_wp2_with (go_at_call 49; refine (between_any _ _ _ _).mono ?_; rintro e w' ⟨rfl, rfl⟩)
    go_ret
    exact ⟨rfl, HW1.out⟩
  · have h3' : decide ((8 : Int) < le) = false := decide_eq_false (by omega)
    have h3'' : decide (8 < le) = false := decide_eq_false (by omega)
    go_enter Try.func25, Try.ntmps25
    go_wp2_with (go_at_call 49; refine (between_any _ _ _ _).mono ?_; rintro e w' ⟨rfl, rfl⟩)
    refine (HE.out _ HW1.out h3).mono ?_
    rintro e w1 ⟨rfl, b1⟩
    go_wp2
    go_ret
    exact ⟨rfl, HW1.out.trans (b1.mono HW1.out.size)⟩

theorem chkPls_step2 (x : PV) (l : List PV) : (chkMod x.mod ≠ 0 ∧ chkPls ((x :: l).map PV.plc) = chkMod x.mod) ∨ (chkMod x.mod = 0 ∧ betw x.first 0 15 = false ∧ chkPls ((x :: l).map PV.plc) = 3) ∨ (chkMod x.mod = 0 ∧ betw x.first 0 15 = true ∧ chkPls ((x :: l).map PV.plc) = chkPls (l.map PV.plc)) := by
  have hs : chkPls ((x :: l).map PV.plc) = if chkMod x.mod ≠ 0 then chkMod x.mod else if betw x.first 0 15 = false then 3 else chkPls (l.map PV.plc) := rfl
  rw [hs]
  by_cases h0 : chkMod x.mod = 0
  · cases h1 : betw x.first 0 15
    · exact .inr (.inl ⟨h0, rfl, by rw [if_neg (by omega), if_pos rfl]⟩)
    · exact .inr (.inr ⟨h0, rfl, by rw [if_neg (by omega), if_neg (by decide)]⟩)
  · exact .inl ⟨h0, by rw [if_pos h0]⟩

set_option maxHeartbeats 2000000 in
theorem checkModules_any (l : List PV) (v : Value) (w : World) (hrow : IsPlcs w.heap.size w v l) (hfit : ∀ x ∈ l, x.mod.fits) :
    Calls Try.prog 47 #[v, .bool true, .bool false] w fun e w' => e = .returned (.int .i64 (chkPlaced (l.map PV.plc))) ∧ Below w.heap.size w w' := by
  have HC0 : Hid (∀ x ∈ l, ∀ W, Below w.heap.size w W → Calls Try.prog 20 #[x.modV] W fun e w' => e = .returned (.int .i64 (chkMod x.mod)) ∧ Below W.heap.size W w') := fun x hx W hb => checkModule_any x.mod x.modV W (((hrow.2 x hx).below hb).more hb.size |>.isMod) (hfit x hx)
  have hat := hrow.2
  obtain ⟨⟨a, cap, rfl, _, hrow⟩, _⟩ := hrow
  by_cases h8 : 8 < l.length
  · have e1 : chkPlaced (l.map PV.plc) = 2 := by
      unfold chkPlaced
      rw [if_pos (by simpa using h8)]
    rw [e1]
    have h8' : (8 : Int) < l.length := by omega
    clear e1 HC0 hat hrow
    go_enter Try.func47, Try.ntmps47
    go_wp2
    go_ret
    exact ⟨rfl, Below.refl _ _⟩
  · have e1 : chkPlaced (l.map PV.plc) = chkPls (l.map PV.plc) := by
      unfold chkPlaced
      rw [if_neg (by simpa using h8)]
    rw [e1]
    have h8' : decide ((8 : Int) < l.length) = false := decide_eq_false (by omega)
    have h8'' : decide (8 < l.length) = false := decide_eq_false (by omega)
    clear e1
    go_enter Try.func47, Try.ntmps47
    go_wp2_with fail
    go_loopw [7] (fun i wr => ∃ (k : Nat), k ≤ l.length ∧ i = .int .i64 k ∧ Hid (chkPls (l.map PV.plc) = chkPls ((l.drop k).map PV.plc)) ∧ Below w.heap.size w wr) (fun i _ => l.length - (intOf i).toNat)
    case atStart => exact ⟨0, Nat.zero_le _, rfl, by show chkPls (l.map PV.plc) = chkPls ((l.drop 0).map PV.plc); rfl, Below.refl _ _⟩
    case round =>
      obtain ⟨k, hk, rfl, HC, B⟩ := hrel
      by_cases hlt : k < l.length
      · obtain ⟨x, hx⟩ : ∃ x, l[k]? = some x := ⟨_, List.getElem?_eq_getElem hlt⟩
        rcases hrow with h | ⟨b, off, rfl, hbn, hcells⟩
        · subst h; simp at hlt
        have key := chkPls_step2 x (l.drop (k + 1))
        have HR : Hid (chkPls (l.map PV.plc) = chkPls ((x :: l.drop (k + 1)).map PV.plc)) := by
          show chkPls (l.map PV.plc) = _
          rw [HC.out, drop_at hx]
        have HM : Hid (∀ W, Below w.heap.size w W → Calls Try.prog 20 #[x.modV] W fun e w' => e = .returned (.int .i64 (chkMod x.mod)) ∧ Below W.heap.size W w') := HC0.out x (List.mem_of_getElem? hx)
        obtain ⟨⟨pe, ke, e4, _⟩, ⟨pi, ki, e5, _⟩, ⟨pp, kp, e6, _⟩⟩ := hat x (List.mem_of_getElem? hx)
        obtain ⟨⟨N, ma, mi, T, es, is, ps⟩, ve, vi, vp, fi⟩ := x
        dsimp only at e4 e5 e6
        subst e4 e5 e6
        have c0 := (B.cell (p := ⟨b, off + k * 8 + 0, none⟩) hbn).trans (hcells k _ hx 0 (by omega))
        have c1 := (B.cell (p := ⟨b, off + k * 8 + 1, none⟩) hbn).trans (hcells k _ hx 1 (by omega))
        have c2 := (B.cell (p := ⟨b, off + k * 8 + 2, none⟩) hbn).trans (hcells k _ hx 2 (by omega))
        have c3 := (B.cell (p := ⟨b, off + k * 8 + 3, none⟩) hbn).trans (hcells k _ hx 3 (by omega))
        have c4 := (B.cell (p := ⟨b, off + k * 8 + 4, none⟩) hbn).trans (hcells k _ hx 4 (by omega))
        have c5 := (B.cell (p := ⟨b, off + k * 8 + 5, none⟩) hbn).trans (hcells k _ hx 5 (by omega))
        have c6 := (B.cell (p := ⟨b, off + k * 8 + 6, none⟩) hbn).trans (hcells k _ hx 6 (by omega))
        have q7 := hcells k _ hx 7 (by omega)
        dsimp only [PV.cell, PV.modV] at c0 c1 c2 c3 c4 c5 c6 q7 HM
        rw [Nat.add_zero] at c0
        clear HC HC0 hcells hx hat
        dsimp only at key
        generalize chkMod ⟨N, ma, mi, T, es, is, ps⟩ = cm at key HM
        generalize chkPls (List.map PV.plc (⟨⟨N, ma, mi, T, es, is, ps⟩, .slice pe es.length ke, .slice pi is.length ki, .slice pp ps.length kp, fi⟩ :: l.drop (k + 1))) = R at key HR
        generalize es.length = le at *
        generalize is.length = li at *
        generalize ps.length = lp at *
        go_wp2_with fail
        refine (HM.out _ B).mono ?_
        rintro e w2 ⟨rfl, b2⟩
        have B2 := B.trans (b2.mono B.size)
        have X7 := (B2.cell (p := ⟨b, off + k * 8 + 7, none⟩) hbn).trans q7
        clear b2 c0 c1 c2 c3 c4 c5 c6 q7 HM
        rcases key with ⟨h1, rfl⟩ | ⟨rfl, h2, rfl⟩ | ⟨rfl, h2, rfl⟩
        · have h1' : (R != 0) = true := by simpa using h1
          go_wp2
          go_ret
          exact ⟨by rw [HR.out]; rfl, B2⟩
        · go_wp2_with (go_at_call 49; refine (between_any _ _ _ _).mono ?_; rintro e w' ⟨rfl, rfl⟩)
          go_ret
          exact ⟨by rw [HR.out]; rfl, B2⟩
        · go_wp2_with (go_at_call 49; refine (between_any _ _ _ _).mono ?_; rintro e w' ⟨rfl, rfl⟩)
          exact ⟨⟨k + 1, by omega, by go_num, HR.out, B2⟩, by simp [intOf]; omega⟩
      · obtain rfl : k = l.length := by omega
        have HZ : Hid (chkPls (l.map PV.plc) = 0) := by
          show chkPls (l.map PV.plc) = 0
          rw [HC.out, List.drop_length]; rfl
        go_wp2
        go_ret
        exact ⟨by rw [HZ.out]; rfl, B⟩

def posOf : Option Exp → Int
  | none => -1
  | some x => x.pos

set_option maxHeartbeats 1000000 in
theorem exportAt_any (l : List Exp) (v : Value) (name : ByteArray) (w : World) (hrow : RowOf 2 Exp.cell w.heap.size w v l) :
    Calls Try.prog 52 #[v, .string name] w fun e w' => e = .returned (.int .i64 (posOf (expOf l name))) ∧ Below w.heap.size w w' := by
  obtain ⟨a, cap, rfl, _, hrow⟩ := hrow
  go_enter Try.func52, Try.ntmps52
  go_wp2_with fail
  go_loopw [5] (fun i wr => ∃ (k : Nat), k ≤ l.length ∧ i = .int .i64 k ∧ Hid (expOf l name = expOf (l.drop k) name) ∧ Below w.heap.size w wr) (fun i _ => l.length - (intOf i).toNat)
  case atStart => exact ⟨0, Nat.zero_le _, rfl, by show expOf l name = expOf (l.drop 0) name; rfl, Below.refl _ _⟩
  case round =>
    obtain ⟨k, hk, rfl, HC, B⟩ := hrel
    by_cases hlt : k < l.length
    · obtain ⟨x, hx⟩ : ∃ x, l[k]? = some x := ⟨_, List.getElem?_eq_getElem hlt⟩
      rcases hrow with h | ⟨b, off, rfl, hbn, hcells⟩
      · subst h; simp at hlt
      have c0 := (B.cell (p := ⟨b, off + k * 2 + 0, none⟩) hbn).trans (hcells k _ hx 0 (by omega))
      have c1 := (B.cell (p := ⟨b, off + k * 2 + 1, none⟩) hbn).trans (hcells k _ hx 1 (by omega))
      dsimp only [Exp.cell] at c0 c1
      rw [Nat.add_zero] at c0
      have hC := HC.out
      rw [drop_at hx] at hC
      unfold expOf at hC
      rw [List.find?_cons] at hC
      cases hq : x.name == name
      · rw [hq] at hC
        have HR : Hid (expOf l name = expOf (l.drop (k + 1)) name) := hC
        clear hC HC hcells hx
        rw [← toList_beq2] at hq
        go_wp2
        exact ⟨⟨k + 1, by omega, by go_num, HR.out, B⟩, by simp [intOf]; omega⟩
      · rw [hq] at hC
        have HR : Hid (expOf l name = some x) := hC
        clear hC HC hcells hx
        rw [← toList_beq2] at hq
        go_wp2
        go_ret
        exact ⟨by rw [HR.out]; rfl, B⟩
    · obtain rfl : k = l.length := by omega
      have HZ : Hid (expOf l name = none) := by
        show expOf l name = none
        rw [HC.out, List.drop_length]; rfl
      go_wp2
      go_ret
      exact ⟨by rw [HZ.out]; rfl, B⟩

set_option maxHeartbeats 1000000 in
theorem placeOf_any (l : List PV) (v : Value) (name : ByteArray) (w : World) (hrow : RowOf 8 PV.cell w.heap.size w v l) :
    Calls Try.prog 31 #[v, .string name] w fun e w' => e = .returned (.int .i64 (idxFrom (fun x : PV => x.mod.name == name) 0 l)) ∧ Below w.heap.size w w' := by
  obtain ⟨a, cap, rfl, _, hrow⟩ := hrow
  have HST : Hid (∀ k x r, idxFrom (fun x : PV => x.mod.name == name) k (x :: r) = if (x.mod.name == name) = true then (k : Int) else idxFrom (fun x : PV => x.mod.name == name) (k + 1) r) := fun _ _ _ => rfl
  have HNL : Hid (∀ k, idxFrom (fun x : PV => x.mod.name == name) k [] = -1) := fun _ => rfl
  generalize idxFrom (fun x : PV => x.mod.name == name) = IX at *
  go_enter Try.func31, Try.ntmps31
  go_wp2_with fail
  go_loopw [5] (fun i wr => ∃ (k : Nat), k ≤ l.length ∧ i = .int .i64 k ∧ Hid (IX 0 l = IX k (l.drop k)) ∧ Below w.heap.size w wr) (fun i _ => l.length - (intOf i).toNat)
  case atStart => exact ⟨0, Nat.zero_le _, rfl, by show IX 0 l = IX 0 (l.drop 0); rfl, Below.refl _ _⟩
  case round =>
    obtain ⟨k, hk, rfl, HC, B⟩ := hrel
    by_cases hlt : k < l.length
    · obtain ⟨x, hx⟩ : ∃ x, l[k]? = some x := ⟨_, List.getElem?_eq_getElem hlt⟩
      rcases hrow with h | ⟨b, off, rfl, hbn, hcells⟩
      · subst h; simp at hlt
      have c0 := (B.cell (p := ⟨b, off + k * 8 + 0, none⟩) hbn).trans (hcells k _ hx 0 (by omega))
      dsimp only [PV.cell] at c0
      rw [Nat.add_zero] at c0
      have hC := HC.out
      rw [drop_at hx, HST.out] at hC
      cases hq : x.mod.name == name
      · rw [hq, if_neg (by decide)] at hC
        have HR : Hid (IX 0 l = IX (k + 1) (l.drop (k + 1))) := hC
        clear hC HC hcells hx
        rw [← toList_beq2] at hq
        go_wp2
        exact ⟨⟨k + 1, by omega, by go_num, HR.out, B⟩, by simp [intOf]; omega⟩
      · rw [hq, if_pos rfl] at hC
        have HR : Hid (IX 0 l = k) := hC
        clear hC HC hcells hx
        rw [← toList_beq2] at hq
        go_wp2
        go_ret
        exact ⟨by rw [HR.out]; rfl, B⟩
    · obtain rfl : k = l.length := by omega
      have HZ : Hid (IX 0 l = -1) := by
        show IX 0 l = -1
        rw [HC.out, List.drop_length, HNL.out]
      go_wp2
      go_ret
      exact ⟨by rw [HZ.out]; rfl, B⟩

end Go.Proofs.Ytaklbnabgcglhab
