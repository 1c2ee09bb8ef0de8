/- The contract of resolve.Find. -/
import Derived.Test.YtaklbnabgcglhabResE
namespace Go.Proofs.Ytaklbnabgcglhab
open Go.RowKit Go.PlainAid

set_option maxRecDepth 100000

/-- What Find answers. -/
def findRes (k : Ker) (l : List Plc) (i : Imp) : Int × Int := if chkFind k l ≠ 0 then (0, chkFind k l) else if impOwn i ≠ 0 then (0, impOwn i) else addrOf k l i

theorem chkImps_one (i : Imp) : chkImps [] [i] = impOwn i := by
  have h : chkImps [] [i] = if impErr [] i = 0 then 0 else impErr [] i := rfl
  have h2 : impErr [] i = impOwn i := by
    rw [impErr_own]
    by_cases h1 : impOwn i = 1
    · rw [if_pos h1, h1]
    · rw [if_neg h1, if_neg (by simp)]
  rw [h, h2]
  by_cases h3 : impOwn i = 0
  · rw [if_pos h3, h3]
  · rw [if_neg h3]

theorem findRes_cases (k : Ker) (l : List Plc) (i : Imp) : (chkFind k l ≠ 0 ∧ findRes k l i = (0, chkFind k l)) ∨ (chkFind k l = 0 ∧ impOwn i ≠ 0 ∧ findRes k l i = (0, impOwn i)) ∨ (chkFind k l = 0 ∧ impOwn i = 0 ∧ findRes k l i = addrOf k l i) := by
  unfold findRes
  by_cases h1 : chkFind k l = 0
  · by_cases h2 : impOwn i = 0
    · exact .inr (.inr ⟨h1, h2, by rw [if_neg (by omega), if_neg (by omega)]⟩)
    · exact .inr (.inl ⟨h1, h2, by rw [if_neg (by omega), if_pos h2]⟩)
  · exact .inl ⟨h1, by rw [if_pos h1]⟩

set_option maxHeartbeats 4000000 in
theorem find_any (K : Ker) (vk : Value) (l : List PV) (v : Value) (i : Imp) (w : World) (hK : IsKer w.heap.size w vk K) (hf : K.fits) (hrow : IsPlcs w.heap.size w v l) (hfit : ∀ x ∈ l, x.mod.fits) (hi : i.fits) :
    Calls Try.prog 16 #[vk, v, .agg #[.string i.mod, .string i.name, .int .i64 i.major, .int .i64 i.minor]] w fun e w' => e = .returned (.tuple #[.int .i64 (findRes K (l.map PV.plc) i).1, .int .i64 (findRes K (l.map PV.plc) i).2]) ∧ Below w.heap.size w w' := by
  have HP : Hid (∀ W, Below w.heap.size w W → Calls Try.prog 43 #[vk, v] W fun e w' => e = .returned (.int .i64 (chkFind K (l.map PV.plc))) ∧ Below W.heap.size W w') :=
    fun W hb => wrongPlaces_any K vk l v W ((hK.below hb).more hb.size) hf ((hrow.below hb).more hb.size) hfit
  have HA : Hid (chkFind K (l.map PV.plc) = 0 → ∀ W, Below w.heap.size w W → Calls Try.prog 45 #[vk, v, .agg #[.string i.mod, .string i.name, .int .i64 i.major, .int .i64 i.minor]] W fun e w' => e = .returned (.tuple #[.int .i64 (addrOf K (l.map PV.plc) i).1, .int .i64 (addrOf K (l.map PV.plc) i).2]) ∧ Below W.heap.size W w') :=
    fun h0 W hb => address_any K vk l v i W ((hK.below hb).more hb.size) ((hrow.below hb).more hb.size) h0
  have HI : Hid (∀ W B, CellsAt W B 40 #[.string i.mod, .string i.name, .int .i64 i.major, .int .i64 i.minor] → Calls Try.prog 44 #[.slice (some ⟨B, 0, none⟩) 1 1] W fun e w' => e = .returned (.int .i64 (impOwn i)) ∧ Below W.heap.size W w') := by
    intro W B hc
    have hr : RowOf 4 Imp.cell W.heap.size W (.slice (some ⟨B, 0, none⟩) 1 1) [i] := rowOf_cells (C := impC) (cells := Imp.cell) (sz := 4) (fun _ => rfl) impC_at hc [i] (by simp) 1 (by simp [impC])
    have := wrongImports_any [i] _ W hr (fun e he => by
      have e' : e = i := by simpa using he
      subst e'
      exact hi) (by simp)
    rwa [chkImps_one] at this
  obtain ⟨vke, rfl, hE⟩ := hK
  obtain ⟨pe, ke, rfl, _, _⟩ := hE
  obtain ⟨⟨a, cap, rfl, _, _⟩, _⟩ := hrow
  have key := findRes_cases K (l.map PV.plc) i
  generalize findRes K (l.map PV.plc) i = R at *
  generalize addrOf K (l.map PV.plc) i = A at *
  generalize chkFind K (l.map PV.plc) = cf at *
  generalize impOwn i = io at *
  obtain ⟨ma, mi, es⟩ := K
  obtain ⟨im, inm, ia, ib⟩ := i
  dsimp only at *
  clear hf hfit hi
  generalize es.length = le at *
  generalize l.length = ll at *
  have HW2 : Hid (Below w.heap.size w ((w.alloc (.cells #[.int .i64 ma, .int .i64 mi, .slice pe le ke] 37)).alloc (.cells #[.string im, .string inm, .int .i64 ia, .int .i64 ib] 40))) := ((Below.refl _ _).alloc (Nat.le_refl _) _).alloc (by simp) _
  have HK2 : Hid (CellsAt ((w.alloc (.cells #[.int .i64 ma, .int .i64 mi, .slice pe le ke] 37)).alloc (.cells #[.string im, .string inm, .int .i64 ia, .int .i64 ib] 40)) w.heap.size 37 #[.int .i64 ma, .int .i64 mi, .slice pe le ke]) := (CellsAt.new w 37 #[.int .i64 ma, .int .i64 mi, .slice pe le ke]).kept (World.grownBy_alloc _ _ none) (by simp)
  have HC2 : Hid (CellsAt ((w.alloc (.cells #[.int .i64 ma, .int .i64 mi, .slice pe le ke] 37)).alloc (.cells #[.string im, .string inm, .int .i64 ia, .int .i64 ib] 40)) (w.heap.size + 1) 40 #[.string im, .string inm, .int .i64 ia, .int .i64 ib]) := by
    have := CellsAt.new (w.alloc (.cells #[.int .i64 ma, .int .i64 mi, .slice pe le ke] 37)) 40 #[.string im, .string inm, .int .i64 ia, .int .i64 ib]
    rw [World.size_alloc] at this
    exact this
  go_enter Try.func16, Try.ntmps16
  go_wp2_with fail
  refine (HP.out _ HW2.out).mono ?_
  rintro e w3 ⟨rfl, b3⟩
  have C3 := HC2.out.below b3 (by simp)
  have K3 := HK2.out.below b3 (by simp; omega)
  have B3 := HW2.out.trans (b3.mono HW2.out.size)
  clear HC2 HK2 HW2 HP b3
  rcases key with ⟨h1, rfl⟩ | ⟨rfl, h2, rfl⟩ | ⟨rfl, rfl, rfl⟩
  · have h1' : (cf != 0) = true := by simpa using h1
    clear h1
    go_wp2
    go_ret2
    exact ⟨rfl, B3⟩
  all_goals
    have c0 := C3.cell 0
    have c1 := C3.cell 1
    have c2 := C3.cell 2
    have c3 := C3.cell 3
    simp at c0 c1 c2 c3
    have C4 := CellsAt.new w3 40 #[.string im, .string inm, .int .i64 ia, .int .i64 ib]
    have K4 := K3.kept (World.grownBy_alloc w3 (.cells #[.string im, .string inm, .int .i64 ia, .int .i64 ib] 40) none) (by simp)
    have D4 := C3.kept (World.grownBy_alloc w3 (.cells #[.string im, .string inm, .int .i64 ia, .int .i64 ib] 40) none) (by simp)
    have B4 := B3.alloc B3.size (.cells #[.string im, .string inm, .int .i64 ia, .int .i64 ib] 40)
    have HC4 : Hid (CellsAt (w3.alloc (.cells #[.string im, .string inm, .int .i64 ia, .int .i64 ib] 40)) w3.heap.size 40 #[.string im, .string inm, .int .i64 ia, .int .i64 ib]) := C4
    have HD4 : Hid (CellsAt (w3.alloc (.cells #[.string im, .string inm, .int .i64 ia, .int .i64 ib] 40)) (w.heap.size + 1) 40 #[.string im, .string inm, .int .i64 ia, .int .i64 ib]) := D4
    have HK4 : Hid (CellsAt (w3.alloc (.cells #[.string im, .string inm, .int .i64 ia, .int .i64 ib] 40)) w.heap.size 37 #[.int .i64 ma, .int .i64 mi, .slice pe le ke]) := K4
    have HB4 : Hid (Below w.heap.size w (w3.alloc (.cells #[.string im, .string inm, .int .i64 ia, .int .i64 ib] 40))) := B4
    clear C4 K4 D4 B4
    go_wp2_with fail
    refine (HI.out _ _ HC4.out).mono ?_
    rintro e w5 ⟨rfl, b5⟩
    have D5 := HD4.out.below b5 HD4.out.lt
    have K5 := HK4.out.below b5 HK4.out.lt
    have B5 := HB4.out.trans (b5.mono HB4.out.size)
    clear b5 HC4 HD4 HK4 HB4 HI c0 c1 c2 c3
  · have h2' : (io != 0) = true := by simpa using h2
    clear h2
    go_wp2
    go_ret2
    exact ⟨rfl, B5⟩
  · have c0 := D5.cell 0
    have c1 := D5.cell 1
    have c2 := D5.cell 2
    have c3 := D5.cell 3
    have d0 := K5.cell 0
    have d1 := K5.cell 1
    have d2 := K5.cell 2
    simp at c0 c1 c2 c3 d0 d1 d2
    go_wp2_with fail
    refine (HA.out (by first | rfl | trivial) _ B5).mono ?_
    rintro e w6 ⟨rfl, b6⟩
    go_wp2
    go_ret2
    exact ⟨rfl, B5.trans (b6.mono B5.size)⟩

end Go.Proofs.Ytaklbnabgcglhab
