/- Texts that are laid together. -/
import Derived.Test.YtlpnfbpgnfappaaGreatMrgP
import Derived.Test.YtlpnfbpgnfappaaGreatMrgO
import Derived.Test.YtlpnfbpgnfappaaGreatMrgU
import Derived.Test.YtlpnfbpgnfappaaGreatMrgB
import Derived.ProofKit
import Derived.OpenShut
import Derived.ShutString
import Derived.ChangeOld
import Derived.SizedLaws
import Derived.Below
import Derived.Carry
import Derived.Deep.Slices
import Derived.Test.YtlpnfbpgnfappaaGreatMrgC
import Derived.Test.YtlpnfbpgnfappaaGreatMrgK

/- The walk of the law PlanTells: it returns true. Printed by genptt.py. -/
namespace Go.Proofs.YtlpnfbpgnfappaaGreat.planTells
open Go.RowKit Go.PlainAid Go.Lib Go.Sort Go.BigFrame

set_option maxRecDepth 100000

/-- What planned answers is what the document answers. -/
theorem regIs_plan (K : Ker) (L : List Plc) (D : List Plc × Int) (l1 l2 : List PV) (v1 v2 : Value) (W : World) (e1 : l1.map PV.plc = (planRes K L D).1.2) (e2 : l2.map PV.plc = (planRes K L D).1.2) (h1 : IsReg W.heap.size W v1 (planRes K L D).1.1 l1) (h2 : IsReg W.heap.size W v2 (planRes K L D).1.1 l2) :
    Calls Tryz.prog 14 #[v1, .int .i64 (planRes K L D).2, .int .i64 (planRes K L D).2, v2] W fun e w' => e = .returned (.bool true) ∧ Below W.heap.size W w' := by
  have hE : ∀ er : Int, er ≠ 0 → planRes K L D = ((emptyK, []), er) → Calls Tryz.prog 14 #[v1, .int .i64 (planRes K L D).2, .int .i64 (planRes K L D).2, v2] W fun e w' => e = .returned (.bool true) ∧ Below W.heap.size W w' := fun er her hp => by
    rw [hp] at e1 e2 h1 h2 ⊢
    obtain rfl : l1 = [] := List.map_eq_nil_iff.1 e1
    exact regIs_err _ l2 v1 v2 er W her h1 h2
  rcases plan_cases K L D with ⟨g, hp⟩ | ⟨_, g, hp⟩ | ⟨_, _, g, hp⟩ | ⟨_, _, _, hp⟩
  · exact hE _ g hp
  · exact hE _ g hp
  · exact hE _ g hp
  · rw [hp] at e1 e2 h1 h2 ⊢
    exact regIs_ok K l1 l2 v1 v2 W h1 h2 (e1.trans e2.symm)

set_option maxHeartbeats 64000000 in
theorem walk (K : Ker) (l : List PV) (v : Value) (M : Mod) (vm : Value) (name : ByteArray) (w : World) (h : IsReg w.heap.size w v K l) (hf : K.fits) (hfit : ∀ x ∈ l, x.mod.fits) (hm : IsMod w.heap.size w vm M) (hmf : M.fits) (_ : name.size ≤ 140737488351232) :
    Calls Tryz.prog 3 #[v, vm, .string name] w fun e w' => e = .returned (.bool true) ∧ Below w.heap.size w w' := by
  have HR0 : Hid (IsReg w.heap.size w v K l) := h
  have HM0 : Hid (IsMod w.heap.size w vm M) := hm
  have HCK : Hid (∀ W, IsReg W.heap.size W v K l → Calls Tryz.prog 9 #[v] W fun e w' => e = .returned (.int .i64 (chkRg K (l.map PV.plc))) ∧ Below W.heap.size W w') := fun W hr => checkRegistry_any K l v W hr hf hfit
  have HPA : Hid (∀ W, IsReg W.heap.size W v K l → IsMod W.heap.size W vm M → Calls Tryz.prog 6 #[v, vm] W fun e w' => (∃ (v' : Value) (l' : List PV), e = .returned (.tuple #[v', .int .i64 (planRes K (l.map PV.plc) (instDo (l.map PV.plc) M)).2]) ∧ l'.map PV.plc = (planRes K (l.map PV.plc) (instDo (l.map PV.plc) M)).1.2 ∧ IsReg w'.heap.size w' v' (planRes K (l.map PV.plc) (instDo (l.map PV.plc) M)).1.1 l') ∧ Below W.heap.size W w') := fun W hr hM => by
    refine (plInstall_any K l v M vm W hr hf hfit hM hmf).mono ?_
    rintro e w' ⟨⟨v', l', rfl, hp, _, ho⟩, hb⟩
    exact ⟨⟨v', l', rfl, hp, planRes_reg hp ho⟩, hb⟩
  have HOA : Hid (chkRg K (l.map PV.plc) = 0 → ∀ W, IsReg W.heap.size W v K l → IsMod W.heap.size W vm M → Calls Tryz.prog 10 #[v, vm] W fun e w' => (∃ (v' : Value) (l' : List PV), e = .returned (.tuple #[v', .int .i64 (planRes K (l.map PV.plc) (instDo (l.map PV.plc) M)).2]) ∧ l'.map PV.plc = (planRes K (l.map PV.plc) (instDo (l.map PV.plc) M)).1.2 ∧ IsReg w'.heap.size w' v' (planRes K (l.map PV.plc) (instDo (l.map PV.plc) M)).1.1 l') ∧ Below W.heap.size W w') := fun h0 W hr hM => instOf_any K l v M vm W hr hf hfit hM hmf h0
  have HIA : Hid (∀ (l1 l2 : List PV) v1 v2 W, l1.map PV.plc = (planRes K (l.map PV.plc) (instDo (l.map PV.plc) M)).1.2 → l2.map PV.plc = (planRes K (l.map PV.plc) (instDo (l.map PV.plc) M)).1.2 → IsReg W.heap.size W v1 (planRes K (l.map PV.plc) (instDo (l.map PV.plc) M)).1.1 l1 → IsReg W.heap.size W v2 (planRes K (l.map PV.plc) (instDo (l.map PV.plc) M)).1.1 l2 → Calls Tryz.prog 14 #[v1, .int .i64 (planRes K (l.map PV.plc) (instDo (l.map PV.plc) M)).2, .int .i64 (planRes K (l.map PV.plc) (instDo (l.map PV.plc) M)).2, v2] W fun e w' => e = .returned (.bool true) ∧ Below W.heap.size W w') := fun l1 l2 v1 v2 W e1 e2 h1 h2 => regIs_plan K _ _ l1 l2 v1 v2 W e1 e2 h1 h2
  have HEA : Hid (chkRg K (l.map PV.plc) ≠ 0 → (planRes K (l.map PV.plc) (instDo (l.map PV.plc) M)) = ((emptyK, []), chkRg K (l.map PV.plc))) := fun h => if_pos h
  have HPB : Hid (∀ W, IsReg W.heap.size W v K l → Calls Tryz.prog 7 #[v, .string name] W fun e w' => (∃ (v' : Value) (l' : List PV), e = .returned (.tuple #[v', .int .i64 (planRes K (l.map PV.plc) (remDo (l.map PV.plc) name)).2]) ∧ l'.map PV.plc = (planRes K (l.map PV.plc) (remDo (l.map PV.plc) name)).1.2 ∧ IsReg w'.heap.size w' v' (planRes K (l.map PV.plc) (remDo (l.map PV.plc) name)).1.1 l') ∧ Below W.heap.size W w') := fun W hr => by
    refine (plRemove_any K l v name W hr hf hfit).mono ?_
    rintro e w' ⟨⟨v', l', rfl, hp, _, ho⟩, hb⟩
    exact ⟨⟨v', l', rfl, hp, planRes_reg hp ho⟩, hb⟩
  have HOB : Hid (chkRg K (l.map PV.plc) = 0 → ∀ W, IsReg W.heap.size W v K l → Calls Tryz.prog 11 #[v, .string name] W fun e w' => (∃ (v' : Value) (l' : List PV), e = .returned (.tuple #[v', .int .i64 (planRes K (l.map PV.plc) (remDo (l.map PV.plc) name)).2]) ∧ l'.map PV.plc = (planRes K (l.map PV.plc) (remDo (l.map PV.plc) name)).1.2 ∧ IsReg w'.heap.size w' v' (planRes K (l.map PV.plc) (remDo (l.map PV.plc) name)).1.1 l') ∧ Below W.heap.size W w') := fun h0 W hr => remOf_any K l v name W hr hf hfit h0
  have HIB : Hid (∀ (l1 l2 : List PV) v1 v2 W, l1.map PV.plc = (planRes K (l.map PV.plc) (remDo (l.map PV.plc) name)).1.2 → l2.map PV.plc = (planRes K (l.map PV.plc) (remDo (l.map PV.plc) name)).1.2 → IsReg W.heap.size W v1 (planRes K (l.map PV.plc) (remDo (l.map PV.plc) name)).1.1 l1 → IsReg W.heap.size W v2 (planRes K (l.map PV.plc) (remDo (l.map PV.plc) name)).1.1 l2 → Calls Tryz.prog 14 #[v1, .int .i64 (planRes K (l.map PV.plc) (remDo (l.map PV.plc) name)).2, .int .i64 (planRes K (l.map PV.plc) (remDo (l.map PV.plc) name)).2, v2] W fun e w' => e = .returned (.bool true) ∧ Below W.heap.size W w') := fun l1 l2 v1 v2 W e1 e2 h1 h2 => regIs_plan K _ _ l1 l2 v1 v2 W e1 e2 h1 h2
  have HEB : Hid (chkRg K (l.map PV.plc) ≠ 0 → (planRes K (l.map PV.plc) (remDo (l.map PV.plc) name)) = ((emptyK, []), chkRg K (l.map PV.plc))) := fun h => if_pos h
  have HPC : Hid (∀ W, IsReg W.heap.size W v K l → IsMod W.heap.size W vm M → Calls Tryz.prog 8 #[v, vm] W fun e w' => (∃ (v' : Value) (l' : List PV), e = .returned (.tuple #[v', .int .i64 (planRes K (l.map PV.plc) (upDo (l.map PV.plc) M)).2]) ∧ l'.map PV.plc = (planRes K (l.map PV.plc) (upDo (l.map PV.plc) M)).1.2 ∧ IsReg w'.heap.size w' v' (planRes K (l.map PV.plc) (upDo (l.map PV.plc) M)).1.1 l') ∧ Below W.heap.size W w') := fun W hr hM => by
    refine (plUpgrade_any K l v M vm W hr hf hfit hM hmf).mono ?_
    rintro e w' ⟨⟨v', l', rfl, hp, _, ho⟩, hb⟩
    exact ⟨⟨v', l', rfl, hp, planRes_reg hp ho⟩, hb⟩
  have HOC : Hid (chkRg K (l.map PV.plc) = 0 → ∀ W, IsReg W.heap.size W v K l → IsMod W.heap.size W vm M → Calls Tryz.prog 12 #[v, vm] W fun e w' => (∃ (v' : Value) (l' : List PV), e = .returned (.tuple #[v', .int .i64 (planRes K (l.map PV.plc) (upDo (l.map PV.plc) M)).2]) ∧ l'.map PV.plc = (planRes K (l.map PV.plc) (upDo (l.map PV.plc) M)).1.2 ∧ IsReg w'.heap.size w' v' (planRes K (l.map PV.plc) (upDo (l.map PV.plc) M)).1.1 l') ∧ Below W.heap.size W w') := fun h0 W hr hM => upOf_any K l v M vm W hr hf hfit hM hmf h0
  have HIC : Hid (∀ (l1 l2 : List PV) v1 v2 W, l1.map PV.plc = (planRes K (l.map PV.plc) (upDo (l.map PV.plc) M)).1.2 → l2.map PV.plc = (planRes K (l.map PV.plc) (upDo (l.map PV.plc) M)).1.2 → IsReg W.heap.size W v1 (planRes K (l.map PV.plc) (upDo (l.map PV.plc) M)).1.1 l1 → IsReg W.heap.size W v2 (planRes K (l.map PV.plc) (upDo (l.map PV.plc) M)).1.1 l2 → Calls Tryz.prog 14 #[v1, .int .i64 (planRes K (l.map PV.plc) (upDo (l.map PV.plc) M)).2, .int .i64 (planRes K (l.map PV.plc) (upDo (l.map PV.plc) M)).2, v2] W fun e w' => e = .returned (.bool true) ∧ Below W.heap.size W w') := fun l1 l2 v1 v2 W e1 e2 h1 h2 => regIs_plan K _ _ l1 l2 v1 v2 W e1 e2 h1 h2
  have HEC : Hid (chkRg K (l.map PV.plc) ≠ 0 → (planRes K (l.map PV.plc) (upDo (l.map PV.plc) M)) = ((emptyK, []), chkRg K (l.map PV.plc))) := fun h => if_pos h
  obtain ⟨qe, je, a, cap, rfl⟩ := h.shape0
  obtain ⟨vxe, vxi, vxp, rfl, hxE, hxI, hxP⟩ := hm
  obtain ⟨pe, ke, e4, -⟩ := hxE
  obtain ⟨pi, ki, e5, -⟩ := hxI
  obtain ⟨pp, kp, e6, -⟩ := hxP
  subst e4 e5 e6
  clear h hf hfit hmf
  generalize K.exps.length = lk at *
  generalize M.exps.length = le at *
  generalize M.imps.length = li at *
  generalize M.pats.length = lp at *
  generalize planRes K (l.map PV.plc) (instDo (l.map PV.plc) M) = PA at *
  obtain ⟨⟨NA, LA⟩, eA⟩ := PA
  generalize planRes K (l.map PV.plc) (remDo (l.map PV.plc) name) = PB at *
  obtain ⟨⟨NB, LB⟩, eB⟩ := PB
  generalize planRes K (l.map PV.plc) (upDo (l.map PV.plc) M) = PC at *
  obtain ⟨⟨NC, LC⟩, eC⟩ := PC
  dsimp only at *
  generalize chkRg K (l.map PV.plc) = cr at *
  have HB0 : Hid (Below w.heap.size w w) := Below.refl _ _
  go_enter Tryz.func3, Tryz.ntmps3
  have ba : Below w.heap.size w (w.alloc (.cells #[.int .i64 K.major, .int .i64 K.minor, .slice qe lk je, .slice a l.length cap] 27)) := (Below.refl _ _).alloc (Nat.le_refl _) _
  have olw_g1 : w.heap.size ≤ w.heap.size := HB0.out.size
  have HB1 : Hid (Below w.heap.size w (w.alloc (.cells #[.int .i64 K.major, .int .i64 K.minor, .slice qe lk je, .slice a l.length cap] 27))) := HB0.out.trans (ba.mono HB0.out.size)
  clear HB0
  clear ba
  have HC2_g1 : Hid (CellsAt (w.alloc (.cells #[.int .i64 K.major, .int .i64 K.minor, .slice qe lk je, .slice a l.length cap] 27)) w.heap.size 27 #[.int .i64 K.major, .int .i64 K.minor, .slice qe lk je, .slice a l.length cap]) := CellsAt.new _ _ _
  have ba : Below (w.alloc (.cells #[.int .i64 K.major, .int .i64 K.minor, .slice qe lk je, .slice a l.length cap] 27)).heap.size (w.alloc (.cells #[.int .i64 K.major, .int .i64 K.minor, .slice qe lk je, .slice a l.length cap] 27)) ((w.alloc (.cells #[.int .i64 K.major, .int .i64 K.minor, .slice qe lk je, .slice a l.length cap] 27)).alloc (.cells #[.string M.name, .int .i64 M.major, .int .i64 M.minor, .string M.text, .slice pe le ke, .slice pi li ki, .slice pp lp kp] 31)) := (Below.refl _ _).alloc (Nat.le_refl _) _
  have ol_g1_g2 : w.heap.size < (w.alloc (.cells #[.int .i64 K.major, .int .i64 K.minor, .slice qe lk je, .slice a l.length cap] 27)).heap.size := CellsAt.lt HC2_g1.out
  have olw_g2 : w.heap.size ≤ (w.alloc (.cells #[.int .i64 K.major, .int .i64 K.minor, .slice qe lk je, .slice a l.length cap] 27)).heap.size := HB1.out.size
  have HB3 : Hid (Below w.heap.size w ((w.alloc (.cells #[.int .i64 K.major, .int .i64 K.minor, .slice qe lk je, .slice a l.length cap] 27)).alloc (.cells #[.string M.name, .int .i64 M.major, .int .i64 M.minor, .string M.text, .slice pe le ke, .slice pi li ki, .slice pp lp kp] 31))) := HB1.out.trans (ba.mono HB1.out.size)
  have HC3_g1 : Hid (CellsAt ((w.alloc (.cells #[.int .i64 K.major, .int .i64 K.minor, .slice qe lk je, .slice a l.length cap] 27)).alloc (.cells #[.string M.name, .int .i64 M.major, .int .i64 M.minor, .string M.text, .slice pe le ke, .slice pi li ki, .slice pp lp kp] 31)) w.heap.size 27 #[.int .i64 K.major, .int .i64 K.minor, .slice qe lk je, .slice a l.length cap]) := HC2_g1.out.below ba HC2_g1.out.lt
  clear HB1 HC2_g1
  clear ba
  have HC4_g2 : Hid (CellsAt ((w.alloc (.cells #[.int .i64 K.major, .int .i64 K.minor, .slice qe lk je, .slice a l.length cap] 27)).alloc (.cells #[.string M.name, .int .i64 M.major, .int .i64 M.minor, .string M.text, .slice pe le ke, .slice pi li ki, .slice pp lp kp] 31)) (w.alloc (.cells #[.int .i64 K.major, .int .i64 K.minor, .slice qe lk je, .slice a l.length cap] 27)).heap.size 31 #[.string M.name, .int .i64 M.major, .int .i64 M.minor, .string M.text, .slice pe le ke, .slice pi li ki, .slice pp lp kp]) := CellsAt.new _ _ _
  rw [World.size_alloc] at HC4_g2
  clear ol_g1_g2 olw_g2 olw_g1
  go_upto_region 1 with fail
  generalize ((w.alloc (.cells #[.int .i64 K.major, .int .i64 K.minor, .slice qe lk je, .slice a l.length cap] 27)).alloc (.cells #[.string M.name, .int .i64 M.major, .int .i64 M.minor, .string M.text, .slice pe le ke, .slice pi li ki, .slice pp lp kp] 31)) = w2 at *
  have rg10 := CellsAt.cell HC3_g1.out 0
  have rg11 := CellsAt.cell HC3_g1.out 1
  have rg12 := CellsAt.cell HC3_g1.out 2
  have rg13 := CellsAt.cell HC3_g1.out 3
  have rg1l := CellsAt.lt HC3_g1.out
  simp at rg10 rg11 rg12 rg13
  have rg20 := CellsAt.cell HC4_g2.out 0
  have rg21 := CellsAt.cell HC4_g2.out 1
  have rg22 := CellsAt.cell HC4_g2.out 2
  have rg23 := CellsAt.cell HC4_g2.out 3
  have rg24 := CellsAt.cell HC4_g2.out 4
  have rg25 := CellsAt.cell HC4_g2.out 5
  have rg26 := CellsAt.cell HC4_g2.out 6
  have rg2l := CellsAt.lt HC4_g2.out
  simp at rg20 rg21 rg22 rg23 rg24 rg25 rg26
  go_wp2_with fail
  clear rg10 rg11 rg12 rg13 rg1l
  clear rg20 rg21 rg22 rg23 rg24 rg25 rg26 rg2l
  refine Calls.mono (HPA.out _ ((HR0.out.below HB3.out).more HB3.out.size) ((HM0.out.below HB3.out).more HB3.out.size)) ?_
  rintro e w3 ⟨⟨vA, lA, rfl, hpA, hiA⟩, bA⟩
  have HB5 : Hid (Below w.heap.size w w3) := HB3.out.trans (bA.mono HB3.out.size)
  have HC5_g1 : Hid (CellsAt w3 w.heap.size 27 #[.int .i64 K.major, .int .i64 K.minor, .slice qe lk je, .slice a l.length cap]) := HC3_g1.out.below bA HC3_g1.out.lt
  have HC5_g2 : Hid (CellsAt w3 (w.heap.size + 1) 31 #[.string M.name, .int .i64 M.major, .int .i64 M.minor, .string M.text, .slice pe le ke, .slice pi li ki, .slice pp lp kp]) := HC4_g2.out.below bA HC4_g2.out.lt
  clear HB3 HC3_g1 HC4_g2
  obtain ⟨qA, jA, aA, cA, rfl⟩ := hiA.shape0
  generalize NA.exps.length = kA at *
  have HGA : Hid (lA.map PV.plc = LA) := hpA
  have HRNA : Hid (IsReg w3.heap.size w3 (.agg #[.int .i64 NA.major, .int .i64 NA.minor, .slice qA kA jA, .slice aA lA.length cA]) NA lA) := hiA
  clear bA hiA hpA
  have ba : Below w3.heap.size w3 (w3.alloc (.cells #[.int .i64 NA.major, .int .i64 NA.minor, .slice qA kA jA, .slice aA lA.length cA] 27)) := (Below.refl _ _).alloc (Nat.le_refl _) _
  have ol_g1_gA : w.heap.size < w3.heap.size := CellsAt.lt HC5_g1.out
  have ol_g2_gA : (w.heap.size + 1) < w3.heap.size := CellsAt.lt HC5_g2.out
  have olw_gA : w.heap.size ≤ w3.heap.size := HB5.out.size
  have HB6 : Hid (Below w.heap.size w (w3.alloc (.cells #[.int .i64 NA.major, .int .i64 NA.minor, .slice qA kA jA, .slice aA lA.length cA] 27))) := HB5.out.trans (ba.mono HB5.out.size)
  have HC6_g1 : Hid (CellsAt (w3.alloc (.cells #[.int .i64 NA.major, .int .i64 NA.minor, .slice qA kA jA, .slice aA lA.length cA] 27)) w.heap.size 27 #[.int .i64 K.major, .int .i64 K.minor, .slice qe lk je, .slice a l.length cap]) := HC5_g1.out.below ba HC5_g1.out.lt
  have HC6_g2 : Hid (CellsAt (w3.alloc (.cells #[.int .i64 NA.major, .int .i64 NA.minor, .slice qA kA jA, .slice aA lA.length cA] 27)) (w.heap.size + 1) 31 #[.string M.name, .int .i64 M.major, .int .i64 M.minor, .string M.text, .slice pe le ke, .slice pi li ki, .slice pp lp kp]) := HC5_g2.out.below ba HC5_g2.out.lt
  have HR6_A : Hid (IsReg (w3.alloc (.cells #[.int .i64 NA.major, .int .i64 NA.minor, .slice qA kA jA, .slice aA lA.length cA] 27)).heap.size (w3.alloc (.cells #[.int .i64 NA.major, .int .i64 NA.minor, .slice qA kA jA, .slice aA lA.length cA] 27)) (.agg #[.int .i64 NA.major, .int .i64 NA.minor, .slice qA kA jA, .slice aA lA.length cA]) NA lA) := (HRNA.out.below ba).more ba.size
  clear HB5 HC5_g1 HC5_g2 HRNA
  clear ba
  have HC7_gA : Hid (CellsAt (w3.alloc (.cells #[.int .i64 NA.major, .int .i64 NA.minor, .slice qA kA jA, .slice aA lA.length cA] 27)) w3.heap.size 27 #[.int .i64 NA.major, .int .i64 NA.minor, .slice qA kA jA, .slice aA lA.length cA]) := CellsAt.new _ _ _
  go_upto_region 2 with fail
  generalize (w3.alloc (.cells #[.int .i64 NA.major, .int .i64 NA.minor, .slice qA kA jA, .slice aA lA.length cA] 27)) = w4 at *
  generalize w3.heap.size = gA at *
  have rg10 := CellsAt.cell HC6_g1.out 0
  have rg11 := CellsAt.cell HC6_g1.out 1
  have rg12 := CellsAt.cell HC6_g1.out 2
  have rg13 := CellsAt.cell HC6_g1.out 3
  have rg1l := CellsAt.lt HC6_g1.out
  simp at rg10 rg11 rg12 rg13
  go_wp2_with fail
  clear rg10 rg11 rg12 rg13 rg1l
  refine Calls.mono (HPB.out _ ((HR0.out.below HB6.out).more HB6.out.size)) ?_
  rintro e w5 ⟨⟨vB, lB, rfl, hpB, hiB⟩, bB⟩
  have HB8 : Hid (Below w.heap.size w w5) := HB6.out.trans (bB.mono HB6.out.size)
  have HC8_g1 : Hid (CellsAt w5 w.heap.size 27 #[.int .i64 K.major, .int .i64 K.minor, .slice qe lk je, .slice a l.length cap]) := HC6_g1.out.below bB HC6_g1.out.lt
  have HC8_g2 : Hid (CellsAt w5 (w.heap.size + 1) 31 #[.string M.name, .int .i64 M.major, .int .i64 M.minor, .string M.text, .slice pe le ke, .slice pi li ki, .slice pp lp kp]) := HC6_g2.out.below bB HC6_g2.out.lt
  have HC8_gA : Hid (CellsAt w5 gA 27 #[.int .i64 NA.major, .int .i64 NA.minor, .slice qA kA jA, .slice aA lA.length cA]) := HC7_gA.out.below bB HC7_gA.out.lt
  have HR8_A : Hid (IsReg w5.heap.size w5 (.agg #[.int .i64 NA.major, .int .i64 NA.minor, .slice qA kA jA, .slice aA lA.length cA]) NA lA) := (HR6_A.out.below bB).more bB.size
  clear HB6 HC6_g1 HC6_g2 HC7_gA HR6_A
  obtain ⟨qB, jB, aB, cB, rfl⟩ := hiB.shape0
  generalize NB.exps.length = kB at *
  have HGB : Hid (lB.map PV.plc = LB) := hpB
  have HRNB : Hid (IsReg w5.heap.size w5 (.agg #[.int .i64 NB.major, .int .i64 NB.minor, .slice qB kB jB, .slice aB lB.length cB]) NB lB) := hiB
  clear bB hiB hpB
  have ba : Below w5.heap.size w5 (w5.alloc (.cells #[.int .i64 NB.major, .int .i64 NB.minor, .slice qB kB jB, .slice aB lB.length cB] 27)) := (Below.refl _ _).alloc (Nat.le_refl _) _
  have ol_g1_gB : w.heap.size < w5.heap.size := CellsAt.lt HC8_g1.out
  have ol_g2_gB : (w.heap.size + 1) < w5.heap.size := CellsAt.lt HC8_g2.out
  have ol_gA_gB : gA < w5.heap.size := CellsAt.lt HC8_gA.out
  have olw_gB : w.heap.size ≤ w5.heap.size := HB8.out.size
  have HB9 : Hid (Below w.heap.size w (w5.alloc (.cells #[.int .i64 NB.major, .int .i64 NB.minor, .slice qB kB jB, .slice aB lB.length cB] 27))) := HB8.out.trans (ba.mono HB8.out.size)
  have HC9_g1 : Hid (CellsAt (w5.alloc (.cells #[.int .i64 NB.major, .int .i64 NB.minor, .slice qB kB jB, .slice aB lB.length cB] 27)) w.heap.size 27 #[.int .i64 K.major, .int .i64 K.minor, .slice qe lk je, .slice a l.length cap]) := HC8_g1.out.below ba HC8_g1.out.lt
  have HC9_g2 : Hid (CellsAt (w5.alloc (.cells #[.int .i64 NB.major, .int .i64 NB.minor, .slice qB kB jB, .slice aB lB.length cB] 27)) (w.heap.size + 1) 31 #[.string M.name, .int .i64 M.major, .int .i64 M.minor, .string M.text, .slice pe le ke, .slice pi li ki, .slice pp lp kp]) := HC8_g2.out.below ba HC8_g2.out.lt
  have HC9_gA : Hid (CellsAt (w5.alloc (.cells #[.int .i64 NB.major, .int .i64 NB.minor, .slice qB kB jB, .slice aB lB.length cB] 27)) gA 27 #[.int .i64 NA.major, .int .i64 NA.minor, .slice qA kA jA, .slice aA lA.length cA]) := HC8_gA.out.below ba HC8_gA.out.lt
  have HR9_A : Hid (IsReg (w5.alloc (.cells #[.int .i64 NB.major, .int .i64 NB.minor, .slice qB kB jB, .slice aB lB.length cB] 27)).heap.size (w5.alloc (.cells #[.int .i64 NB.major, .int .i64 NB.minor, .slice qB kB jB, .slice aB lB.length cB] 27)) (.agg #[.int .i64 NA.major, .int .i64 NA.minor, .slice qA kA jA, .slice aA lA.length cA]) NA lA) := (HR8_A.out.below ba).more ba.size
  have HR9_B : Hid (IsReg (w5.alloc (.cells #[.int .i64 NB.major, .int .i64 NB.minor, .slice qB kB jB, .slice aB lB.length cB] 27)).heap.size (w5.alloc (.cells #[.int .i64 NB.major, .int .i64 NB.minor, .slice qB kB jB, .slice aB lB.length cB] 27)) (.agg #[.int .i64 NB.major, .int .i64 NB.minor, .slice qB kB jB, .slice aB lB.length cB]) NB lB) := (HRNB.out.below ba).more ba.size
  clear HB8 HC8_g1 HC8_g2 HC8_gA HR8_A HRNB
  clear ba
  have HC10_gB : Hid (CellsAt (w5.alloc (.cells #[.int .i64 NB.major, .int .i64 NB.minor, .slice qB kB jB, .slice aB lB.length cB] 27)) w5.heap.size 27 #[.int .i64 NB.major, .int .i64 NB.minor, .slice qB kB jB, .slice aB lB.length cB]) := CellsAt.new _ _ _
  go_upto_region 3 with fail
  generalize (w5.alloc (.cells #[.int .i64 NB.major, .int .i64 NB.minor, .slice qB kB jB, .slice aB lB.length cB] 27)) = w6 at *
  generalize w5.heap.size = gB at *
  have rg10 := CellsAt.cell HC9_g1.out 0
  have rg11 := CellsAt.cell HC9_g1.out 1
  have rg12 := CellsAt.cell HC9_g1.out 2
  have rg13 := CellsAt.cell HC9_g1.out 3
  have rg1l := CellsAt.lt HC9_g1.out
  simp at rg10 rg11 rg12 rg13
  have rg20 := CellsAt.cell HC9_g2.out 0
  have rg21 := CellsAt.cell HC9_g2.out 1
  have rg22 := CellsAt.cell HC9_g2.out 2
  have rg23 := CellsAt.cell HC9_g2.out 3
  have rg24 := CellsAt.cell HC9_g2.out 4
  have rg25 := CellsAt.cell HC9_g2.out 5
  have rg26 := CellsAt.cell HC9_g2.out 6
  have rg2l := CellsAt.lt HC9_g2.out
  simp at rg20 rg21 rg22 rg23 rg24 rg25 rg26
  go_wp2_with fail
  clear rg10 rg11 rg12 rg13 rg1l
  clear rg20 rg21 rg22 rg23 rg24 rg25 rg26 rg2l
  refine Calls.mono (HPC.out _ ((HR0.out.below HB9.out).more HB9.out.size) ((HM0.out.below HB9.out).more HB9.out.size)) ?_
  rintro e w7 ⟨⟨vC, lC, rfl, hpC, hiC⟩, bC⟩
  have HB11 : Hid (Below w.heap.size w w7) := HB9.out.trans (bC.mono HB9.out.size)
  have HC11_g1 : Hid (CellsAt w7 w.heap.size 27 #[.int .i64 K.major, .int .i64 K.minor, .slice qe lk je, .slice a l.length cap]) := HC9_g1.out.below bC HC9_g1.out.lt
  have HC11_g2 : Hid (CellsAt w7 (w.heap.size + 1) 31 #[.string M.name, .int .i64 M.major, .int .i64 M.minor, .string M.text, .slice pe le ke, .slice pi li ki, .slice pp lp kp]) := HC9_g2.out.below bC HC9_g2.out.lt
  have HC11_gA : Hid (CellsAt w7 gA 27 #[.int .i64 NA.major, .int .i64 NA.minor, .slice qA kA jA, .slice aA lA.length cA]) := HC9_gA.out.below bC HC9_gA.out.lt
  have HC11_gB : Hid (CellsAt w7 gB 27 #[.int .i64 NB.major, .int .i64 NB.minor, .slice qB kB jB, .slice aB lB.length cB]) := HC10_gB.out.below bC HC10_gB.out.lt
  have HR11_A : Hid (IsReg w7.heap.size w7 (.agg #[.int .i64 NA.major, .int .i64 NA.minor, .slice qA kA jA, .slice aA lA.length cA]) NA lA) := (HR9_A.out.below bC).more bC.size
  have HR11_B : Hid (IsReg w7.heap.size w7 (.agg #[.int .i64 NB.major, .int .i64 NB.minor, .slice qB kB jB, .slice aB lB.length cB]) NB lB) := (HR9_B.out.below bC).more bC.size
  clear HB9 HC9_g1 HC9_g2 HC9_gA HC10_gB HR9_A HR9_B
  obtain ⟨qC, jC, aC, cC, rfl⟩ := hiC.shape0
  generalize NC.exps.length = kC at *
  have HGC : Hid (lC.map PV.plc = LC) := hpC
  have HRNC : Hid (IsReg w7.heap.size w7 (.agg #[.int .i64 NC.major, .int .i64 NC.minor, .slice qC kC jC, .slice aC lC.length cC]) NC lC) := hiC
  clear bC hiC hpC
  have ba : Below w7.heap.size w7 (w7.alloc (.cells #[.int .i64 NC.major, .int .i64 NC.minor, .slice qC kC jC, .slice aC lC.length cC] 27)) := (Below.refl _ _).alloc (Nat.le_refl _) _
  have ol_g1_gC : w.heap.size < w7.heap.size := CellsAt.lt HC11_g1.out
  have ol_g2_gC : (w.heap.size + 1) < w7.heap.size := CellsAt.lt HC11_g2.out
  have ol_gA_gC : gA < w7.heap.size := CellsAt.lt HC11_gA.out
  have ol_gB_gC : gB < w7.heap.size := CellsAt.lt HC11_gB.out
  have olw_gC : w.heap.size ≤ w7.heap.size := HB11.out.size
  have HB12 : Hid (Below w.heap.size w (w7.alloc (.cells #[.int .i64 NC.major, .int .i64 NC.minor, .slice qC kC jC, .slice aC lC.length cC] 27))) := HB11.out.trans (ba.mono HB11.out.size)
  have HC12_g1 : Hid (CellsAt (w7.alloc (.cells #[.int .i64 NC.major, .int .i64 NC.minor, .slice qC kC jC, .slice aC lC.length cC] 27)) w.heap.size 27 #[.int .i64 K.major, .int .i64 K.minor, .slice qe lk je, .slice a l.length cap]) := HC11_g1.out.below ba HC11_g1.out.lt
  have HC12_g2 : Hid (CellsAt (w7.alloc (.cells #[.int .i64 NC.major, .int .i64 NC.minor, .slice qC kC jC, .slice aC lC.length cC] 27)) (w.heap.size + 1) 31 #[.string M.name, .int .i64 M.major, .int .i64 M.minor, .string M.text, .slice pe le ke, .slice pi li ki, .slice pp lp kp]) := HC11_g2.out.below ba HC11_g2.out.lt
  have HC12_gA : Hid (CellsAt (w7.alloc (.cells #[.int .i64 NC.major, .int .i64 NC.minor, .slice qC kC jC, .slice aC lC.length cC] 27)) gA 27 #[.int .i64 NA.major, .int .i64 NA.minor, .slice qA kA jA, .slice aA lA.length cA]) := HC11_gA.out.below ba HC11_gA.out.lt
  have HC12_gB : Hid (CellsAt (w7.alloc (.cells #[.int .i64 NC.major, .int .i64 NC.minor, .slice qC kC jC, .slice aC lC.length cC] 27)) gB 27 #[.int .i64 NB.major, .int .i64 NB.minor, .slice qB kB jB, .slice aB lB.length cB]) := HC11_gB.out.below ba HC11_gB.out.lt
  have HR12_A : Hid (IsReg (w7.alloc (.cells #[.int .i64 NC.major, .int .i64 NC.minor, .slice qC kC jC, .slice aC lC.length cC] 27)).heap.size (w7.alloc (.cells #[.int .i64 NC.major, .int .i64 NC.minor, .slice qC kC jC, .slice aC lC.length cC] 27)) (.agg #[.int .i64 NA.major, .int .i64 NA.minor, .slice qA kA jA, .slice aA lA.length cA]) NA lA) := (HR11_A.out.below ba).more ba.size
  have HR12_B : Hid (IsReg (w7.alloc (.cells #[.int .i64 NC.major, .int .i64 NC.minor, .slice qC kC jC, .slice aC lC.length cC] 27)).heap.size (w7.alloc (.cells #[.int .i64 NC.major, .int .i64 NC.minor, .slice qC kC jC, .slice aC lC.length cC] 27)) (.agg #[.int .i64 NB.major, .int .i64 NB.minor, .slice qB kB jB, .slice aB lB.length cB]) NB lB) := (HR11_B.out.below ba).more ba.size
  have HR12_C : Hid (IsReg (w7.alloc (.cells #[.int .i64 NC.major, .int .i64 NC.minor, .slice qC kC jC, .slice aC lC.length cC] 27)).heap.size (w7.alloc (.cells #[.int .i64 NC.major, .int .i64 NC.minor, .slice qC kC jC, .slice aC lC.length cC] 27)) (.agg #[.int .i64 NC.major, .int .i64 NC.minor, .slice qC kC jC, .slice aC lC.length cC]) NC lC) := (HRNC.out.below ba).more ba.size
  clear HB11 HC11_g1 HC11_g2 HC11_gA HC11_gB HR11_A HR11_B HRNC
  clear ba
  have HC13_gC : Hid (CellsAt (w7.alloc (.cells #[.int .i64 NC.major, .int .i64 NC.minor, .slice qC kC jC, .slice aC lC.length cC] 27)) w7.heap.size 27 #[.int .i64 NC.major, .int .i64 NC.minor, .slice qC kC jC, .slice aC lC.length cC]) := CellsAt.new _ _ _
  go_upto_region 4 with fail
  generalize (w7.alloc (.cells #[.int .i64 NC.major, .int .i64 NC.minor, .slice qC kC jC, .slice aC lC.length cC] 27)) = w8 at *
  generalize w7.heap.size = gC at *
  have rg10 := CellsAt.cell HC12_g1.out 0
  have rg11 := CellsAt.cell HC12_g1.out 1
  have rg12 := CellsAt.cell HC12_g1.out 2
  have rg13 := CellsAt.cell HC12_g1.out 3
  have rg1l := CellsAt.lt HC12_g1.out
  simp at rg10 rg11 rg12 rg13
  go_wp2_with fail
  clear rg10 rg11 rg12 rg13 rg1l
  refine Calls.mono (HCK.out _ ((HR0.out.below HB12.out).more HB12.out.size)) ?_
  rintro e w9 ⟨rfl, b9⟩
  have HB14 : Hid (Below w.heap.size w w9) := HB12.out.trans (b9.mono HB12.out.size)
  have HC14_g1 : Hid (CellsAt w9 w.heap.size 27 #[.int .i64 K.major, .int .i64 K.minor, .slice qe lk je, .slice a l.length cap]) := HC12_g1.out.below b9 HC12_g1.out.lt
  have HC14_g2 : Hid (CellsAt w9 (w.heap.size + 1) 31 #[.string M.name, .int .i64 M.major, .int .i64 M.minor, .string M.text, .slice pe le ke, .slice pi li ki, .slice pp lp kp]) := HC12_g2.out.below b9 HC12_g2.out.lt
  have HC14_gA : Hid (CellsAt w9 gA 27 #[.int .i64 NA.major, .int .i64 NA.minor, .slice qA kA jA, .slice aA lA.length cA]) := HC12_gA.out.below b9 HC12_gA.out.lt
  have HC14_gB : Hid (CellsAt w9 gB 27 #[.int .i64 NB.major, .int .i64 NB.minor, .slice qB kB jB, .slice aB lB.length cB]) := HC12_gB.out.below b9 HC12_gB.out.lt
  have HC14_gC : Hid (CellsAt w9 gC 27 #[.int .i64 NC.major, .int .i64 NC.minor, .slice qC kC jC, .slice aC lC.length cC]) := HC13_gC.out.below b9 HC13_gC.out.lt
  have HR14_A : Hid (IsReg w9.heap.size w9 (.agg #[.int .i64 NA.major, .int .i64 NA.minor, .slice qA kA jA, .slice aA lA.length cA]) NA lA) := (HR12_A.out.below b9).more b9.size
  have HR14_B : Hid (IsReg w9.heap.size w9 (.agg #[.int .i64 NB.major, .int .i64 NB.minor, .slice qB kB jB, .slice aB lB.length cB]) NB lB) := (HR12_B.out.below b9).more b9.size
  have HR14_C : Hid (IsReg w9.heap.size w9 (.agg #[.int .i64 NC.major, .int .i64 NC.minor, .slice qC kC jC, .slice aC lC.length cC]) NC lC) := (HR12_C.out.below b9).more b9.size
  clear HB12 HC12_g1 HC12_g2 HC12_gA HC12_gB HC13_gC HR12_A HR12_B HR12_C
  clear b9 HCK
  go_upto_region 6 with fail
  have ba : Below w9.heap.size w9 (w9.alloc (.cells #[.int .i64 0, .int .i64 0, .slice none 0 0, .slice none 0 0] 27)) := (Below.refl _ _).alloc (Nat.le_refl _) _
  have ol_g1_gX : w.heap.size < w9.heap.size := CellsAt.lt HC14_g1.out
  have ol_g2_gX : (w.heap.size + 1) < w9.heap.size := CellsAt.lt HC14_g2.out
  have ol_gA_gX : gA < w9.heap.size := CellsAt.lt HC14_gA.out
  have ol_gB_gX : gB < w9.heap.size := CellsAt.lt HC14_gB.out
  have ol_gC_gX : gC < w9.heap.size := CellsAt.lt HC14_gC.out
  have olw_gX : w.heap.size ≤ w9.heap.size := HB14.out.size
  have HB15 : Hid (Below w.heap.size w (w9.alloc (.cells #[.int .i64 0, .int .i64 0, .slice none 0 0, .slice none 0 0] 27))) := HB14.out.trans (ba.mono HB14.out.size)
  have HC15_g1 : Hid (CellsAt (w9.alloc (.cells #[.int .i64 0, .int .i64 0, .slice none 0 0, .slice none 0 0] 27)) w.heap.size 27 #[.int .i64 K.major, .int .i64 K.minor, .slice qe lk je, .slice a l.length cap]) := HC14_g1.out.below ba HC14_g1.out.lt
  have HC15_g2 : Hid (CellsAt (w9.alloc (.cells #[.int .i64 0, .int .i64 0, .slice none 0 0, .slice none 0 0] 27)) (w.heap.size + 1) 31 #[.string M.name, .int .i64 M.major, .int .i64 M.minor, .string M.text, .slice pe le ke, .slice pi li ki, .slice pp lp kp]) := HC14_g2.out.below ba HC14_g2.out.lt
  have HC15_gA : Hid (CellsAt (w9.alloc (.cells #[.int .i64 0, .int .i64 0, .slice none 0 0, .slice none 0 0] 27)) gA 27 #[.int .i64 NA.major, .int .i64 NA.minor, .slice qA kA jA, .slice aA lA.length cA]) := HC14_gA.out.below ba HC14_gA.out.lt
  have HC15_gB : Hid (CellsAt (w9.alloc (.cells #[.int .i64 0, .int .i64 0, .slice none 0 0, .slice none 0 0] 27)) gB 27 #[.int .i64 NB.major, .int .i64 NB.minor, .slice qB kB jB, .slice aB lB.length cB]) := HC14_gB.out.below ba HC14_gB.out.lt
  have HC15_gC : Hid (CellsAt (w9.alloc (.cells #[.int .i64 0, .int .i64 0, .slice none 0 0, .slice none 0 0] 27)) gC 27 #[.int .i64 NC.major, .int .i64 NC.minor, .slice qC kC jC, .slice aC lC.length cC]) := HC14_gC.out.below ba HC14_gC.out.lt
  have HR15_A : Hid (IsReg (w9.alloc (.cells #[.int .i64 0, .int .i64 0, .slice none 0 0, .slice none 0 0] 27)).heap.size (w9.alloc (.cells #[.int .i64 0, .int .i64 0, .slice none 0 0, .slice none 0 0] 27)) (.agg #[.int .i64 NA.major, .int .i64 NA.minor, .slice qA kA jA, .slice aA lA.length cA]) NA lA) := (HR14_A.out.below ba).more ba.size
  have HR15_B : Hid (IsReg (w9.alloc (.cells #[.int .i64 0, .int .i64 0, .slice none 0 0, .slice none 0 0] 27)).heap.size (w9.alloc (.cells #[.int .i64 0, .int .i64 0, .slice none 0 0, .slice none 0 0] 27)) (.agg #[.int .i64 NB.major, .int .i64 NB.minor, .slice qB kB jB, .slice aB lB.length cB]) NB lB) := (HR14_B.out.below ba).more ba.size
  have HR15_C : Hid (IsReg (w9.alloc (.cells #[.int .i64 0, .int .i64 0, .slice none 0 0, .slice none 0 0] 27)).heap.size (w9.alloc (.cells #[.int .i64 0, .int .i64 0, .slice none 0 0, .slice none 0 0] 27)) (.agg #[.int .i64 NC.major, .int .i64 NC.minor, .slice qC kC jC, .slice aC lC.length cC]) NC lC) := (HR14_C.out.below ba).more ba.size
  clear HB14 HC14_g1 HC14_g2 HC14_gA HC14_gB HC14_gC HR14_A HR14_B HR14_C
  clear ba
  have HC16_gX : Hid (CellsAt (w9.alloc (.cells #[.int .i64 0, .int .i64 0, .slice none 0 0, .slice none 0 0] 27)) w9.heap.size 27 #[.int .i64 0, .int .i64 0, .slice none 0 0, .slice none 0 0]) := CellsAt.new _ _ _
  have ba : Below (w9.alloc (.cells #[.int .i64 0, .int .i64 0, .slice none 0 0, .slice none 0 0] 27)).heap.size (w9.alloc (.cells #[.int .i64 0, .int .i64 0, .slice none 0 0, .slice none 0 0] 27)) ((w9.alloc (.cells #[.int .i64 0, .int .i64 0, .slice none 0 0, .slice none 0 0] 27)).alloc (.cells #[.int .i64 0, .int .i64 0, .slice none 0 0, .slice none 0 0] 27)) := (Below.refl _ _).alloc (Nat.le_refl _) _
  have ol_g1_gY : w.heap.size < (w9.alloc (.cells #[.int .i64 0, .int .i64 0, .slice none 0 0, .slice none 0 0] 27)).heap.size := CellsAt.lt HC15_g1.out
  have ol_g2_gY : (w.heap.size + 1) < (w9.alloc (.cells #[.int .i64 0, .int .i64 0, .slice none 0 0, .slice none 0 0] 27)).heap.size := CellsAt.lt HC15_g2.out
  have ol_gA_gY : gA < (w9.alloc (.cells #[.int .i64 0, .int .i64 0, .slice none 0 0, .slice none 0 0] 27)).heap.size := CellsAt.lt HC15_gA.out
  have ol_gB_gY : gB < (w9.alloc (.cells #[.int .i64 0, .int .i64 0, .slice none 0 0, .slice none 0 0] 27)).heap.size := CellsAt.lt HC15_gB.out
  have ol_gC_gY : gC < (w9.alloc (.cells #[.int .i64 0, .int .i64 0, .slice none 0 0, .slice none 0 0] 27)).heap.size := CellsAt.lt HC15_gC.out
  have ol_gX_gY : w9.heap.size < (w9.alloc (.cells #[.int .i64 0, .int .i64 0, .slice none 0 0, .slice none 0 0] 27)).heap.size := CellsAt.lt HC16_gX.out
  have olw_gY : w.heap.size ≤ (w9.alloc (.cells #[.int .i64 0, .int .i64 0, .slice none 0 0, .slice none 0 0] 27)).heap.size := HB15.out.size
  have HB17 : Hid (Below w.heap.size w ((w9.alloc (.cells #[.int .i64 0, .int .i64 0, .slice none 0 0, .slice none 0 0] 27)).alloc (.cells #[.int .i64 0, .int .i64 0, .slice none 0 0, .slice none 0 0] 27))) := HB15.out.trans (ba.mono HB15.out.size)
  have HC17_g1 : Hid (CellsAt ((w9.alloc (.cells #[.int .i64 0, .int .i64 0, .slice none 0 0, .slice none 0 0] 27)).alloc (.cells #[.int .i64 0, .int .i64 0, .slice none 0 0, .slice none 0 0] 27)) w.heap.size 27 #[.int .i64 K.major, .int .i64 K.minor, .slice qe lk je, .slice a l.length cap]) := HC15_g1.out.below ba HC15_g1.out.lt
  have HC17_g2 : Hid (CellsAt ((w9.alloc (.cells #[.int .i64 0, .int .i64 0, .slice none 0 0, .slice none 0 0] 27)).alloc (.cells #[.int .i64 0, .int .i64 0, .slice none 0 0, .slice none 0 0] 27)) (w.heap.size + 1) 31 #[.string M.name, .int .i64 M.major, .int .i64 M.minor, .string M.text, .slice pe le ke, .slice pi li ki, .slice pp lp kp]) := HC15_g2.out.below ba HC15_g2.out.lt
  have HC17_gA : Hid (CellsAt ((w9.alloc (.cells #[.int .i64 0, .int .i64 0, .slice none 0 0, .slice none 0 0] 27)).alloc (.cells #[.int .i64 0, .int .i64 0, .slice none 0 0, .slice none 0 0] 27)) gA 27 #[.int .i64 NA.major, .int .i64 NA.minor, .slice qA kA jA, .slice aA lA.length cA]) := HC15_gA.out.below ba HC15_gA.out.lt
  have HC17_gB : Hid (CellsAt ((w9.alloc (.cells #[.int .i64 0, .int .i64 0, .slice none 0 0, .slice none 0 0] 27)).alloc (.cells #[.int .i64 0, .int .i64 0, .slice none 0 0, .slice none 0 0] 27)) gB 27 #[.int .i64 NB.major, .int .i64 NB.minor, .slice qB kB jB, .slice aB lB.length cB]) := HC15_gB.out.below ba HC15_gB.out.lt
  have HC17_gC : Hid (CellsAt ((w9.alloc (.cells #[.int .i64 0, .int .i64 0, .slice none 0 0, .slice none 0 0] 27)).alloc (.cells #[.int .i64 0, .int .i64 0, .slice none 0 0, .slice none 0 0] 27)) gC 27 #[.int .i64 NC.major, .int .i64 NC.minor, .slice qC kC jC, .slice aC lC.length cC]) := HC15_gC.out.below ba HC15_gC.out.lt
  have HC17_gX : Hid (CellsAt ((w9.alloc (.cells #[.int .i64 0, .int .i64 0, .slice none 0 0, .slice none 0 0] 27)).alloc (.cells #[.int .i64 0, .int .i64 0, .slice none 0 0, .slice none 0 0] 27)) w9.heap.size 27 #[.int .i64 0, .int .i64 0, .slice none 0 0, .slice none 0 0]) := HC16_gX.out.below ba HC16_gX.out.lt
  have HR17_A : Hid (IsReg ((w9.alloc (.cells #[.int .i64 0, .int .i64 0, .slice none 0 0, .slice none 0 0] 27)).alloc (.cells #[.int .i64 0, .int .i64 0, .slice none 0 0, .slice none 0 0] 27)).heap.size ((w9.alloc (.cells #[.int .i64 0, .int .i64 0, .slice none 0 0, .slice none 0 0] 27)).alloc (.cells #[.int .i64 0, .int .i64 0, .slice none 0 0, .slice none 0 0] 27)) (.agg #[.int .i64 NA.major, .int .i64 NA.minor, .slice qA kA jA, .slice aA lA.length cA]) NA lA) := (HR15_A.out.below ba).more ba.size
  have HR17_B : Hid (IsReg ((w9.alloc (.cells #[.int .i64 0, .int .i64 0, .slice none 0 0, .slice none 0 0] 27)).alloc (.cells #[.int .i64 0, .int .i64 0, .slice none 0 0, .slice none 0 0] 27)).heap.size ((w9.alloc (.cells #[.int .i64 0, .int .i64 0, .slice none 0 0, .slice none 0 0] 27)).alloc (.cells #[.int .i64 0, .int .i64 0, .slice none 0 0, .slice none 0 0] 27)) (.agg #[.int .i64 NB.major, .int .i64 NB.minor, .slice qB kB jB, .slice aB lB.length cB]) NB lB) := (HR15_B.out.below ba).more ba.size
  have HR17_C : Hid (IsReg ((w9.alloc (.cells #[.int .i64 0, .int .i64 0, .slice none 0 0, .slice none 0 0] 27)).alloc (.cells #[.int .i64 0, .int .i64 0, .slice none 0 0, .slice none 0 0] 27)).heap.size ((w9.alloc (.cells #[.int .i64 0, .int .i64 0, .slice none 0 0, .slice none 0 0] 27)).alloc (.cells #[.int .i64 0, .int .i64 0, .slice none 0 0, .slice none 0 0] 27)) (.agg #[.int .i64 NC.major, .int .i64 NC.minor, .slice qC kC jC, .slice aC lC.length cC]) NC lC) := (HR15_C.out.below ba).more ba.size
  clear HB15 HC15_g1 HC15_g2 HC15_gA HC15_gB HC15_gC HC16_gX HR15_A HR15_B HR15_C
  clear ba
  have HC18_gY : Hid (CellsAt ((w9.alloc (.cells #[.int .i64 0, .int .i64 0, .slice none 0 0, .slice none 0 0] 27)).alloc (.cells #[.int .i64 0, .int .i64 0, .slice none 0 0, .slice none 0 0] 27)) (w9.alloc (.cells #[.int .i64 0, .int .i64 0, .slice none 0 0, .slice none 0 0] 27)).heap.size 27 #[.int .i64 0, .int .i64 0, .slice none 0 0, .slice none 0 0]) := CellsAt.new _ _ _
  rw [World.size_alloc] at HC18_gY
  clear ol_g1_gY ol_g2_gY ol_gA_gY ol_gB_gY ol_gC_gY ol_gX_gY olw_gY
  have ba : Below ((w9.alloc (.cells #[.int .i64 0, .int .i64 0, .slice none 0 0, .slice none 0 0] 27)).alloc (.cells #[.int .i64 0, .int .i64 0, .slice none 0 0, .slice none 0 0] 27)).heap.size ((w9.alloc (.cells #[.int .i64 0, .int .i64 0, .slice none 0 0, .slice none 0 0] 27)).alloc (.cells #[.int .i64 0, .int .i64 0, .slice none 0 0, .slice none 0 0] 27)) (((w9.alloc (.cells #[.int .i64 0, .int .i64 0, .slice none 0 0, .slice none 0 0] 27)).alloc (.cells #[.int .i64 0, .int .i64 0, .slice none 0 0, .slice none 0 0] 27)).alloc (.cells #[.int .i64 0, .int .i64 0, .slice none 0 0, .slice none 0 0] 27)) := (Below.refl _ _).alloc (Nat.le_refl _) _
  have ol_g1_gZ : w.heap.size < ((w9.alloc (.cells #[.int .i64 0, .int .i64 0, .slice none 0 0, .slice none 0 0] 27)).alloc (.cells #[.int .i64 0, .int .i64 0, .slice none 0 0, .slice none 0 0] 27)).heap.size := CellsAt.lt HC17_g1.out
  have ol_g2_gZ : (w.heap.size + 1) < ((w9.alloc (.cells #[.int .i64 0, .int .i64 0, .slice none 0 0, .slice none 0 0] 27)).alloc (.cells #[.int .i64 0, .int .i64 0, .slice none 0 0, .slice none 0 0] 27)).heap.size := CellsAt.lt HC17_g2.out
  have ol_gA_gZ : gA < ((w9.alloc (.cells #[.int .i64 0, .int .i64 0, .slice none 0 0, .slice none 0 0] 27)).alloc (.cells #[.int .i64 0, .int .i64 0, .slice none 0 0, .slice none 0 0] 27)).heap.size := CellsAt.lt HC17_gA.out
  have ol_gB_gZ : gB < ((w9.alloc (.cells #[.int .i64 0, .int .i64 0, .slice none 0 0, .slice none 0 0] 27)).alloc (.cells #[.int .i64 0, .int .i64 0, .slice none 0 0, .slice none 0 0] 27)).heap.size := CellsAt.lt HC17_gB.out
  have ol_gC_gZ : gC < ((w9.alloc (.cells #[.int .i64 0, .int .i64 0, .slice none 0 0, .slice none 0 0] 27)).alloc (.cells #[.int .i64 0, .int .i64 0, .slice none 0 0, .slice none 0 0] 27)).heap.size := CellsAt.lt HC17_gC.out
  have ol_gX_gZ : w9.heap.size < ((w9.alloc (.cells #[.int .i64 0, .int .i64 0, .slice none 0 0, .slice none 0 0] 27)).alloc (.cells #[.int .i64 0, .int .i64 0, .slice none 0 0, .slice none 0 0] 27)).heap.size := CellsAt.lt HC17_gX.out
  have ol_gY_gZ : (w9.heap.size + 1) < ((w9.alloc (.cells #[.int .i64 0, .int .i64 0, .slice none 0 0, .slice none 0 0] 27)).alloc (.cells #[.int .i64 0, .int .i64 0, .slice none 0 0, .slice none 0 0] 27)).heap.size := CellsAt.lt HC18_gY.out
  have olw_gZ : w.heap.size ≤ ((w9.alloc (.cells #[.int .i64 0, .int .i64 0, .slice none 0 0, .slice none 0 0] 27)).alloc (.cells #[.int .i64 0, .int .i64 0, .slice none 0 0, .slice none 0 0] 27)).heap.size := HB17.out.size
  have HB19 : Hid (Below w.heap.size w (((w9.alloc (.cells #[.int .i64 0, .int .i64 0, .slice none 0 0, .slice none 0 0] 27)).alloc (.cells #[.int .i64 0, .int .i64 0, .slice none 0 0, .slice none 0 0] 27)).alloc (.cells #[.int .i64 0, .int .i64 0, .slice none 0 0, .slice none 0 0] 27))) := HB17.out.trans (ba.mono HB17.out.size)
  have HC19_g1 : Hid (CellsAt (((w9.alloc (.cells #[.int .i64 0, .int .i64 0, .slice none 0 0, .slice none 0 0] 27)).alloc (.cells #[.int .i64 0, .int .i64 0, .slice none 0 0, .slice none 0 0] 27)).alloc (.cells #[.int .i64 0, .int .i64 0, .slice none 0 0, .slice none 0 0] 27)) w.heap.size 27 #[.int .i64 K.major, .int .i64 K.minor, .slice qe lk je, .slice a l.length cap]) := HC17_g1.out.below ba HC17_g1.out.lt
  have HC19_g2 : Hid (CellsAt (((w9.alloc (.cells #[.int .i64 0, .int .i64 0, .slice none 0 0, .slice none 0 0] 27)).alloc (.cells #[.int .i64 0, .int .i64 0, .slice none 0 0, .slice none 0 0] 27)).alloc (.cells #[.int .i64 0, .int .i64 0, .slice none 0 0, .slice none 0 0] 27)) (w.heap.size + 1) 31 #[.string M.name, .int .i64 M.major, .int .i64 M.minor, .string M.text, .slice pe le ke, .slice pi li ki, .slice pp lp kp]) := HC17_g2.out.below ba HC17_g2.out.lt
  have HC19_gA : Hid (CellsAt (((w9.alloc (.cells #[.int .i64 0, .int .i64 0, .slice none 0 0, .slice none 0 0] 27)).alloc (.cells #[.int .i64 0, .int .i64 0, .slice none 0 0, .slice none 0 0] 27)).alloc (.cells #[.int .i64 0, .int .i64 0, .slice none 0 0, .slice none 0 0] 27)) gA 27 #[.int .i64 NA.major, .int .i64 NA.minor, .slice qA kA jA, .slice aA lA.length cA]) := HC17_gA.out.below ba HC17_gA.out.lt
  have HC19_gB : Hid (CellsAt (((w9.alloc (.cells #[.int .i64 0, .int .i64 0, .slice none 0 0, .slice none 0 0] 27)).alloc (.cells #[.int .i64 0, .int .i64 0, .slice none 0 0, .slice none 0 0] 27)).alloc (.cells #[.int .i64 0, .int .i64 0, .slice none 0 0, .slice none 0 0] 27)) gB 27 #[.int .i64 NB.major, .int .i64 NB.minor, .slice qB kB jB, .slice aB lB.length cB]) := HC17_gB.out.below ba HC17_gB.out.lt
  have HC19_gC : Hid (CellsAt (((w9.alloc (.cells #[.int .i64 0, .int .i64 0, .slice none 0 0, .slice none 0 0] 27)).alloc (.cells #[.int .i64 0, .int .i64 0, .slice none 0 0, .slice none 0 0] 27)).alloc (.cells #[.int .i64 0, .int .i64 0, .slice none 0 0, .slice none 0 0] 27)) gC 27 #[.int .i64 NC.major, .int .i64 NC.minor, .slice qC kC jC, .slice aC lC.length cC]) := HC17_gC.out.below ba HC17_gC.out.lt
  have HC19_gX : Hid (CellsAt (((w9.alloc (.cells #[.int .i64 0, .int .i64 0, .slice none 0 0, .slice none 0 0] 27)).alloc (.cells #[.int .i64 0, .int .i64 0, .slice none 0 0, .slice none 0 0] 27)).alloc (.cells #[.int .i64 0, .int .i64 0, .slice none 0 0, .slice none 0 0] 27)) w9.heap.size 27 #[.int .i64 0, .int .i64 0, .slice none 0 0, .slice none 0 0]) := HC17_gX.out.below ba HC17_gX.out.lt
  have HC19_gY : Hid (CellsAt (((w9.alloc (.cells #[.int .i64 0, .int .i64 0, .slice none 0 0, .slice none 0 0] 27)).alloc (.cells #[.int .i64 0, .int .i64 0, .slice none 0 0, .slice none 0 0] 27)).alloc (.cells #[.int .i64 0, .int .i64 0, .slice none 0 0, .slice none 0 0] 27)) (w9.heap.size + 1) 27 #[.int .i64 0, .int .i64 0, .slice none 0 0, .slice none 0 0]) := HC18_gY.out.below ba HC18_gY.out.lt
  have HR19_A : Hid (IsReg (((w9.alloc (.cells #[.int .i64 0, .int .i64 0, .slice none 0 0, .slice none 0 0] 27)).alloc (.cells #[.int .i64 0, .int .i64 0, .slice none 0 0, .slice none 0 0] 27)).alloc (.cells #[.int .i64 0, .int .i64 0, .slice none 0 0, .slice none 0 0] 27)).heap.size (((w9.alloc (.cells #[.int .i64 0, .int .i64 0, .slice none 0 0, .slice none 0 0] 27)).alloc (.cells #[.int .i64 0, .int .i64 0, .slice none 0 0, .slice none 0 0] 27)).alloc (.cells #[.int .i64 0, .int .i64 0, .slice none 0 0, .slice none 0 0] 27)) (.agg #[.int .i64 NA.major, .int .i64 NA.minor, .slice qA kA jA, .slice aA lA.length cA]) NA lA) := (HR17_A.out.below ba).more ba.size
  have HR19_B : Hid (IsReg (((w9.alloc (.cells #[.int .i64 0, .int .i64 0, .slice none 0 0, .slice none 0 0] 27)).alloc (.cells #[.int .i64 0, .int .i64 0, .slice none 0 0, .slice none 0 0] 27)).alloc (.cells #[.int .i64 0, .int .i64 0, .slice none 0 0, .slice none 0 0] 27)).heap.size (((w9.alloc (.cells #[.int .i64 0, .int .i64 0, .slice none 0 0, .slice none 0 0] 27)).alloc (.cells #[.int .i64 0, .int .i64 0, .slice none 0 0, .slice none 0 0] 27)).alloc (.cells #[.int .i64 0, .int .i64 0, .slice none 0 0, .slice none 0 0] 27)) (.agg #[.int .i64 NB.major, .int .i64 NB.minor, .slice qB kB jB, .slice aB lB.length cB]) NB lB) := (HR17_B.out.below ba).more ba.size
  have HR19_C : Hid (IsReg (((w9.alloc (.cells #[.int .i64 0, .int .i64 0, .slice none 0 0, .slice none 0 0] 27)).alloc (.cells #[.int .i64 0, .int .i64 0, .slice none 0 0, .slice none 0 0] 27)).alloc (.cells #[.int .i64 0, .int .i64 0, .slice none 0 0, .slice none 0 0] 27)).heap.size (((w9.alloc (.cells #[.int .i64 0, .int .i64 0, .slice none 0 0, .slice none 0 0] 27)).alloc (.cells #[.int .i64 0, .int .i64 0, .slice none 0 0, .slice none 0 0] 27)).alloc (.cells #[.int .i64 0, .int .i64 0, .slice none 0 0, .slice none 0 0] 27)) (.agg #[.int .i64 NC.major, .int .i64 NC.minor, .slice qC kC jC, .slice aC lC.length cC]) NC lC) := (HR17_C.out.below ba).more ba.size
  clear HB17 HC17_g1 HC17_g2 HC17_gA HC17_gB HC17_gC HC17_gX HC18_gY HR17_A HR17_B HR17_C
  clear ba
  have HC20_gZ : Hid (CellsAt (((w9.alloc (.cells #[.int .i64 0, .int .i64 0, .slice none 0 0, .slice none 0 0] 27)).alloc (.cells #[.int .i64 0, .int .i64 0, .slice none 0 0, .slice none 0 0] 27)).alloc (.cells #[.int .i64 0, .int .i64 0, .slice none 0 0, .slice none 0 0] 27)) ((w9.alloc (.cells #[.int .i64 0, .int .i64 0, .slice none 0 0, .slice none 0 0] 27)).alloc (.cells #[.int .i64 0, .int .i64 0, .slice none 0 0, .slice none 0 0] 27)).heap.size 27 #[.int .i64 0, .int .i64 0, .slice none 0 0, .slice none 0 0]) := CellsAt.new _ _ _
  rw [World.size_alloc, World.size_alloc] at HC20_gZ
  clear ol_g1_gZ ol_g2_gZ ol_gA_gZ ol_gB_gZ ol_gC_gZ ol_gX_gZ ol_gY_gZ olw_gZ
  go_upto_region 7 with fail
  generalize (((w9.alloc (.cells #[.int .i64 0, .int .i64 0, .slice none 0 0, .slice none 0 0] 27)).alloc (.cells #[.int .i64 0, .int .i64 0, .slice none 0 0, .slice none 0 0] 27)).alloc (.cells #[.int .i64 0, .int .i64 0, .slice none 0 0, .slice none 0 0] 27)) = w10 at *
  by_cases hcr : cr = 0
  · subst hcr
    have rgX0 := CellsAt.cell HC19_gX.out 0
    have rgX1 := CellsAt.cell HC19_gX.out 1
    have rgX2 := CellsAt.cell HC19_gX.out 2
    have rgX3 := CellsAt.cell HC19_gX.out 3
    have fgX0 := CellsAt.frozen HC19_gX.out 0
    have fgX1 := CellsAt.frozen HC19_gX.out 1
    have fgX2 := CellsAt.frozen HC19_gX.out 2
    have fgX3 := CellsAt.frozen HC19_gX.out 3
    have rgXl := CellsAt.lt HC19_gX.out
    simp at rgX0 rgX1 rgX2 rgX3
    have rg10 := CellsAt.cell HC19_g1.out 0
    have rg11 := CellsAt.cell HC19_g1.out 1
    have rg12 := CellsAt.cell HC19_g1.out 2
    have rg13 := CellsAt.cell HC19_g1.out 3
    have rg1l := CellsAt.lt HC19_g1.out
    simp at rg10 rg11 rg12 rg13
    have rg20 := CellsAt.cell HC19_g2.out 0
    have rg21 := CellsAt.cell HC19_g2.out 1
    have rg22 := CellsAt.cell HC19_g2.out 2
    have rg23 := CellsAt.cell HC19_g2.out 3
    have rg24 := CellsAt.cell HC19_g2.out 4
    have rg25 := CellsAt.cell HC19_g2.out 5
    have rg26 := CellsAt.cell HC19_g2.out 6
    have rg2l := CellsAt.lt HC19_g2.out
    simp at rg20 rg21 rg22 rg23 rg24 rg25 rg26
    go_wp2_with fail
    clear rg10 rg11 rg12 rg13 rg1l
    clear rg20 rg21 rg22 rg23 rg24 rg25 rg26 rg2l
    clear rgX0 rgX1 rgX2 rgX3 rgXl fgX0 fgX1 fgX2 fgX3
    refine Calls.mono (HOA.out (by first | rfl | trivial) _ ((HR0.out.below HB19.out).more HB19.out.size) ((HM0.out.below HB19.out).more HB19.out.size)) ?_
    rintro e w11 ⟨⟨vX, lX, rfl, hpX, hiX⟩, bX⟩
    have HB21 : Hid (Below w.heap.size w w11) := HB19.out.trans (bX.mono HB19.out.size)
    have HC21_g1 : Hid (CellsAt w11 w.heap.size 27 #[.int .i64 K.major, .int .i64 K.minor, .slice qe lk je, .slice a l.length cap]) := HC19_g1.out.below bX HC19_g1.out.lt
    have HC21_g2 : Hid (CellsAt w11 (w.heap.size + 1) 31 #[.string M.name, .int .i64 M.major, .int .i64 M.minor, .string M.text, .slice pe le ke, .slice pi li ki, .slice pp lp kp]) := HC19_g2.out.below bX HC19_g2.out.lt
    have HC21_gA : Hid (CellsAt w11 gA 27 #[.int .i64 NA.major, .int .i64 NA.minor, .slice qA kA jA, .slice aA lA.length cA]) := HC19_gA.out.below bX HC19_gA.out.lt
    have HC21_gB : Hid (CellsAt w11 gB 27 #[.int .i64 NB.major, .int .i64 NB.minor, .slice qB kB jB, .slice aB lB.length cB]) := HC19_gB.out.below bX HC19_gB.out.lt
    have HC21_gC : Hid (CellsAt w11 gC 27 #[.int .i64 NC.major, .int .i64 NC.minor, .slice qC kC jC, .slice aC lC.length cC]) := HC19_gC.out.below bX HC19_gC.out.lt
    have HC21_gX : Hid (CellsAt w11 w9.heap.size 27 #[.int .i64 0, .int .i64 0, .slice none 0 0, .slice none 0 0]) := HC19_gX.out.below bX HC19_gX.out.lt
    have HC21_gY : Hid (CellsAt w11 (w9.heap.size + 1) 27 #[.int .i64 0, .int .i64 0, .slice none 0 0, .slice none 0 0]) := HC19_gY.out.below bX HC19_gY.out.lt
    have HC21_gZ : Hid (CellsAt w11 (w9.heap.size + 2) 27 #[.int .i64 0, .int .i64 0, .slice none 0 0, .slice none 0 0]) := HC20_gZ.out.below bX HC20_gZ.out.lt
    have HR21_A : Hid (IsReg w11.heap.size w11 (.agg #[.int .i64 NA.major, .int .i64 NA.minor, .slice qA kA jA, .slice aA lA.length cA]) NA lA) := (HR19_A.out.below bX).more bX.size
    have HR21_B : Hid (IsReg w11.heap.size w11 (.agg #[.int .i64 NB.major, .int .i64 NB.minor, .slice qB kB jB, .slice aB lB.length cB]) NB lB) := (HR19_B.out.below bX).more bX.size
    have HR21_C : Hid (IsReg w11.heap.size w11 (.agg #[.int .i64 NC.major, .int .i64 NC.minor, .slice qC kC jC, .slice aC lC.length cC]) NC lC) := (HR19_C.out.below bX).more bX.size
    clear HB19 HC19_g1 HC19_g2 HC19_gA HC19_gB HC19_gC HC19_gX HC19_gY HC20_gZ HR19_A HR19_B HR19_C
    obtain ⟨qX, jX, aX, cX, rfl⟩ := hiX.shape0
    generalize NA.exps.length = kX at *
    have HGX : Hid (lX.map PV.plc = LA) := hpX
    have HRNX : Hid (IsReg w11.heap.size w11 (.agg #[.int .i64 NA.major, .int .i64 NA.minor, .slice qX kX jX, .slice aX lX.length cX]) NA lX) := hiX
    clear bX hiX hpX
    have rgX0 := CellsAt.cell HC21_gX.out 0
    have rgX1 := CellsAt.cell HC21_gX.out 1
    have rgX2 := CellsAt.cell HC21_gX.out 2
    have rgX3 := CellsAt.cell HC21_gX.out 3
    have fgX0 := CellsAt.frozen HC21_gX.out 0
    have fgX1 := CellsAt.frozen HC21_gX.out 1
    have fgX2 := CellsAt.frozen HC21_gX.out 2
    have fgX3 := CellsAt.frozen HC21_gX.out 3
    have rgXl := CellsAt.lt HC21_gX.out
    simp at rgX0 rgX1 rgX2 rgX3
    have hbs := HB21.out.size
    have hG := sets4_grown w11 w9.heap.size (.int .i64 NA.major) (.int .i64 NA.minor) (.slice qX kX jX) (.slice aX lX.length cX)
    have HB22 : Hid (Below w.heap.size w ((((w11.setCell ⟨w9.heap.size, 0, none⟩ (.int .i64 NA.major)).setCell ⟨w9.heap.size, 1, none⟩ (.int .i64 NA.minor)).setCell ⟨w9.heap.size, 2, none⟩ (.slice qX kX jX)).setCell ⟨w9.heap.size, 3, none⟩ (.slice aX lX.length cX))) := HB21.out.grown hG HB21.out.size (fun q hq => by obtain rfl := Option.some.inj hq; omega)
    have HR22_A : Hid (IsReg ((((w11.setCell ⟨w9.heap.size, 0, none⟩ (.int .i64 NA.major)).setCell ⟨w9.heap.size, 1, none⟩ (.int .i64 NA.minor)).setCell ⟨w9.heap.size, 2, none⟩ (.slice qX kX jX)).setCell ⟨w9.heap.size, 3, none⟩ (.slice aX lX.length cX)).heap.size ((((w11.setCell ⟨w9.heap.size, 0, none⟩ (.int .i64 NA.major)).setCell ⟨w9.heap.size, 1, none⟩ (.int .i64 NA.minor)).setCell ⟨w9.heap.size, 2, none⟩ (.slice qX kX jX)).setCell ⟨w9.heap.size, 3, none⟩ (.slice aX lX.length cX)) (.agg #[.int .i64 NA.major, .int .i64 NA.minor, .slice qA kA jA, .slice aA lA.length cA]) NA lA) := (HR21_A.out.apart4 hG (Nat.le_refl _) HC21_gX.out).more hG.size
    have HR22_B : Hid (IsReg ((((w11.setCell ⟨w9.heap.size, 0, none⟩ (.int .i64 NA.major)).setCell ⟨w9.heap.size, 1, none⟩ (.int .i64 NA.minor)).setCell ⟨w9.heap.size, 2, none⟩ (.slice qX kX jX)).setCell ⟨w9.heap.size, 3, none⟩ (.slice aX lX.length cX)).heap.size ((((w11.setCell ⟨w9.heap.size, 0, none⟩ (.int .i64 NA.major)).setCell ⟨w9.heap.size, 1, none⟩ (.int .i64 NA.minor)).setCell ⟨w9.heap.size, 2, none⟩ (.slice qX kX jX)).setCell ⟨w9.heap.size, 3, none⟩ (.slice aX lX.length cX)) (.agg #[.int .i64 NB.major, .int .i64 NB.minor, .slice qB kB jB, .slice aB lB.length cB]) NB lB) := (HR21_B.out.apart4 hG (Nat.le_refl _) HC21_gX.out).more hG.size
    have HR22_C : Hid (IsReg ((((w11.setCell ⟨w9.heap.size, 0, none⟩ (.int .i64 NA.major)).setCell ⟨w9.heap.size, 1, none⟩ (.int .i64 NA.minor)).setCell ⟨w9.heap.size, 2, none⟩ (.slice qX kX jX)).setCell ⟨w9.heap.size, 3, none⟩ (.slice aX lX.length cX)).heap.size ((((w11.setCell ⟨w9.heap.size, 0, none⟩ (.int .i64 NA.major)).setCell ⟨w9.heap.size, 1, none⟩ (.int .i64 NA.minor)).setCell ⟨w9.heap.size, 2, none⟩ (.slice qX kX jX)).setCell ⟨w9.heap.size, 3, none⟩ (.slice aX lX.length cX)) (.agg #[.int .i64 NC.major, .int .i64 NC.minor, .slice qC kC jC, .slice aC lC.length cC]) NC lC) := (HR21_C.out.apart4 hG (Nat.le_refl _) HC21_gX.out).more hG.size
    have HR22_X : Hid (IsReg ((((w11.setCell ⟨w9.heap.size, 0, none⟩ (.int .i64 NA.major)).setCell ⟨w9.heap.size, 1, none⟩ (.int .i64 NA.minor)).setCell ⟨w9.heap.size, 2, none⟩ (.slice qX kX jX)).setCell ⟨w9.heap.size, 3, none⟩ (.slice aX lX.length cX)).heap.size ((((w11.setCell ⟨w9.heap.size, 0, none⟩ (.int .i64 NA.major)).setCell ⟨w9.heap.size, 1, none⟩ (.int .i64 NA.minor)).setCell ⟨w9.heap.size, 2, none⟩ (.slice qX kX jX)).setCell ⟨w9.heap.size, 3, none⟩ (.slice aX lX.length cX)) (.agg #[.int .i64 NA.major, .int .i64 NA.minor, .slice qX kX jX, .slice aX lX.length cX]) NA lX) := (HRNX.out.apart4 hG (Nat.le_refl _) HC21_gX.out).more hG.size
    have HC22_g1 : Hid (CellsAt ((((w11.setCell ⟨w9.heap.size, 0, none⟩ (.int .i64 NA.major)).setCell ⟨w9.heap.size, 1, none⟩ (.int .i64 NA.minor)).setCell ⟨w9.heap.size, 2, none⟩ (.slice qX kX jX)).setCell ⟨w9.heap.size, 3, none⟩ (.slice aX lX.length cX)) w.heap.size 27 #[.int .i64 K.major, .int .i64 K.minor, .slice qe lk je, .slice a l.length cap]) := HC21_g1.out.kept hG (by intro e; have := Option.some.inj e; omega)
    have HC22_g2 : Hid (CellsAt ((((w11.setCell ⟨w9.heap.size, 0, none⟩ (.int .i64 NA.major)).setCell ⟨w9.heap.size, 1, none⟩ (.int .i64 NA.minor)).setCell ⟨w9.heap.size, 2, none⟩ (.slice qX kX jX)).setCell ⟨w9.heap.size, 3, none⟩ (.slice aX lX.length cX)) (w.heap.size + 1) 31 #[.string M.name, .int .i64 M.major, .int .i64 M.minor, .string M.text, .slice pe le ke, .slice pi li ki, .slice pp lp kp]) := HC21_g2.out.kept hG (by intro e; have := Option.some.inj e; omega)
    have HC22_gA : Hid (CellsAt ((((w11.setCell ⟨w9.heap.size, 0, none⟩ (.int .i64 NA.major)).setCell ⟨w9.heap.size, 1, none⟩ (.int .i64 NA.minor)).setCell ⟨w9.heap.size, 2, none⟩ (.slice qX kX jX)).setCell ⟨w9.heap.size, 3, none⟩ (.slice aX lX.length cX)) gA 27 #[.int .i64 NA.major, .int .i64 NA.minor, .slice qA kA jA, .slice aA lA.length cA]) := HC21_gA.out.kept hG (by intro e; have := Option.some.inj e; omega)
    have HC22_gB : Hid (CellsAt ((((w11.setCell ⟨w9.heap.size, 0, none⟩ (.int .i64 NA.major)).setCell ⟨w9.heap.size, 1, none⟩ (.int .i64 NA.minor)).setCell ⟨w9.heap.size, 2, none⟩ (.slice qX kX jX)).setCell ⟨w9.heap.size, 3, none⟩ (.slice aX lX.length cX)) gB 27 #[.int .i64 NB.major, .int .i64 NB.minor, .slice qB kB jB, .slice aB lB.length cB]) := HC21_gB.out.kept hG (by intro e; have := Option.some.inj e; omega)
    have HC22_gC : Hid (CellsAt ((((w11.setCell ⟨w9.heap.size, 0, none⟩ (.int .i64 NA.major)).setCell ⟨w9.heap.size, 1, none⟩ (.int .i64 NA.minor)).setCell ⟨w9.heap.size, 2, none⟩ (.slice qX kX jX)).setCell ⟨w9.heap.size, 3, none⟩ (.slice aX lX.length cX)) gC 27 #[.int .i64 NC.major, .int .i64 NC.minor, .slice qC kC jC, .slice aC lC.length cC]) := HC21_gC.out.kept hG (by intro e; have := Option.some.inj e; omega)
    have HC22_gX : Hid (CellsAt ((((w11.setCell ⟨w9.heap.size, 0, none⟩ (.int .i64 NA.major)).setCell ⟨w9.heap.size, 1, none⟩ (.int .i64 NA.minor)).setCell ⟨w9.heap.size, 2, none⟩ (.slice qX kX jX)).setCell ⟨w9.heap.size, 3, none⟩ (.slice aX lX.length cX)) w9.heap.size 27 #[.int .i64 NA.major, .int .i64 NA.minor, .slice qX kX jX, .slice aX lX.length cX]) := sets4 HC21_gX.out _ _ _ _
    have HC22_gY : Hid (CellsAt ((((w11.setCell ⟨w9.heap.size, 0, none⟩ (.int .i64 NA.major)).setCell ⟨w9.heap.size, 1, none⟩ (.int .i64 NA.minor)).setCell ⟨w9.heap.size, 2, none⟩ (.slice qX kX jX)).setCell ⟨w9.heap.size, 3, none⟩ (.slice aX lX.length cX)) (w9.heap.size + 1) 27 #[.int .i64 0, .int .i64 0, .slice none 0 0, .slice none 0 0]) := HC21_gY.out.kept hG (by intro e; have := Option.some.inj e; omega)
    have HC22_gZ : Hid (CellsAt ((((w11.setCell ⟨w9.heap.size, 0, none⟩ (.int .i64 NA.major)).setCell ⟨w9.heap.size, 1, none⟩ (.int .i64 NA.minor)).setCell ⟨w9.heap.size, 2, none⟩ (.slice qX kX jX)).setCell ⟨w9.heap.size, 3, none⟩ (.slice aX lX.length cX)) (w9.heap.size + 2) 27 #[.int .i64 0, .int .i64 0, .slice none 0 0, .slice none 0 0]) := HC21_gZ.out.kept hG (by intro e; have := Option.some.inj e; omega)
    clear hG HB21 HR21_A HR21_B HR21_C HRNX HC21_g1 HC21_g2 HC21_gA HC21_gB HC21_gC HC21_gX HC21_gY HC21_gZ
    go_upto_region 9 with fail
    clear rgX0 rgX1 rgX2 rgX3 rgXl fgX0 fgX1 fgX2 fgX3
    clear hbs
    generalize ((((w11.setCell ⟨w9.heap.size, 0, none⟩ (.int .i64 NA.major)).setCell ⟨w9.heap.size, 1, none⟩ (.int .i64 NA.minor)).setCell ⟨w9.heap.size, 2, none⟩ (.slice qX kX jX)).setCell ⟨w9.heap.size, 3, none⟩ (.slice aX lX.length cX)) = w12 at *
    have rgY0 := CellsAt.cell HC22_gY.out 0
    have rgY1 := CellsAt.cell HC22_gY.out 1
    have rgY2 := CellsAt.cell HC22_gY.out 2
    have rgY3 := CellsAt.cell HC22_gY.out 3
    have fgY0 := CellsAt.frozen HC22_gY.out 0
    have fgY1 := CellsAt.frozen HC22_gY.out 1
    have fgY2 := CellsAt.frozen HC22_gY.out 2
    have fgY3 := CellsAt.frozen HC22_gY.out 3
    have rgYl := CellsAt.lt HC22_gY.out
    simp at rgY0 rgY1 rgY2 rgY3
    have rg10 := CellsAt.cell HC22_g1.out 0
    have rg11 := CellsAt.cell HC22_g1.out 1
    have rg12 := CellsAt.cell HC22_g1.out 2
    have rg13 := CellsAt.cell HC22_g1.out 3
    have rg1l := CellsAt.lt HC22_g1.out
    simp at rg10 rg11 rg12 rg13
    go_wp2_with fail
    clear rg10 rg11 rg12 rg13 rg1l
    clear rgY0 rgY1 rgY2 rgY3 rgYl fgY0 fgY1 fgY2 fgY3
    refine Calls.mono (HOB.out (by first | rfl | trivial) _ ((HR0.out.below HB22.out).more HB22.out.size)) ?_
    rintro e w13 ⟨⟨vY, lY, rfl, hpY, hiY⟩, bY⟩
    have HB23 : Hid (Below w.heap.size w w13) := HB22.out.trans (bY.mono HB22.out.size)
    have HC23_g1 : Hid (CellsAt w13 w.heap.size 27 #[.int .i64 K.major, .int .i64 K.minor, .slice qe lk je, .slice a l.length cap]) := HC22_g1.out.below bY HC22_g1.out.lt
    have HC23_g2 : Hid (CellsAt w13 (w.heap.size + 1) 31 #[.string M.name, .int .i64 M.major, .int .i64 M.minor, .string M.text, .slice pe le ke, .slice pi li ki, .slice pp lp kp]) := HC22_g2.out.below bY HC22_g2.out.lt
    have HC23_gA : Hid (CellsAt w13 gA 27 #[.int .i64 NA.major, .int .i64 NA.minor, .slice qA kA jA, .slice aA lA.length cA]) := HC22_gA.out.below bY HC22_gA.out.lt
    have HC23_gB : Hid (CellsAt w13 gB 27 #[.int .i64 NB.major, .int .i64 NB.minor, .slice qB kB jB, .slice aB lB.length cB]) := HC22_gB.out.below bY HC22_gB.out.lt
    have HC23_gC : Hid (CellsAt w13 gC 27 #[.int .i64 NC.major, .int .i64 NC.minor, .slice qC kC jC, .slice aC lC.length cC]) := HC22_gC.out.below bY HC22_gC.out.lt
    have HC23_gX : Hid (CellsAt w13 w9.heap.size 27 #[.int .i64 NA.major, .int .i64 NA.minor, .slice qX kX jX, .slice aX lX.length cX]) := HC22_gX.out.below bY HC22_gX.out.lt
    have HC23_gY : Hid (CellsAt w13 (w9.heap.size + 1) 27 #[.int .i64 0, .int .i64 0, .slice none 0 0, .slice none 0 0]) := HC22_gY.out.below bY HC22_gY.out.lt
    have HC23_gZ : Hid (CellsAt w13 (w9.heap.size + 2) 27 #[.int .i64 0, .int .i64 0, .slice none 0 0, .slice none 0 0]) := HC22_gZ.out.below bY HC22_gZ.out.lt
    have HR23_A : Hid (IsReg w13.heap.size w13 (.agg #[.int .i64 NA.major, .int .i64 NA.minor, .slice qA kA jA, .slice aA lA.length cA]) NA lA) := (HR22_A.out.below bY).more bY.size
    have HR23_B : Hid (IsReg w13.heap.size w13 (.agg #[.int .i64 NB.major, .int .i64 NB.minor, .slice qB kB jB, .slice aB lB.length cB]) NB lB) := (HR22_B.out.below bY).more bY.size
    have HR23_C : Hid (IsReg w13.heap.size w13 (.agg #[.int .i64 NC.major, .int .i64 NC.minor, .slice qC kC jC, .slice aC lC.length cC]) NC lC) := (HR22_C.out.below bY).more bY.size
    have HR23_X : Hid (IsReg w13.heap.size w13 (.agg #[.int .i64 NA.major, .int .i64 NA.minor, .slice qX kX jX, .slice aX lX.length cX]) NA lX) := (HR22_X.out.below bY).more bY.size
    clear HB22 HC22_g1 HC22_g2 HC22_gA HC22_gB HC22_gC HC22_gX HC22_gY HC22_gZ HR22_A HR22_B HR22_C HR22_X
    obtain ⟨qY, jY, aY, cY, rfl⟩ := hiY.shape0
    generalize NB.exps.length = kY at *
    have HGY : Hid (lY.map PV.plc = LB) := hpY
    have HRNY : Hid (IsReg w13.heap.size w13 (.agg #[.int .i64 NB.major, .int .i64 NB.minor, .slice qY kY jY, .slice aY lY.length cY]) NB lY) := hiY
    clear bY hiY hpY
    have rgY0 := CellsAt.cell HC23_gY.out 0
    have rgY1 := CellsAt.cell HC23_gY.out 1
    have rgY2 := CellsAt.cell HC23_gY.out 2
    have rgY3 := CellsAt.cell HC23_gY.out 3
    have fgY0 := CellsAt.frozen HC23_gY.out 0
    have fgY1 := CellsAt.frozen HC23_gY.out 1
    have fgY2 := CellsAt.frozen HC23_gY.out 2
    have fgY3 := CellsAt.frozen HC23_gY.out 3
    have rgYl := CellsAt.lt HC23_gY.out
    simp at rgY0 rgY1 rgY2 rgY3
    have hbs := HB23.out.size
    have hG := sets4_grown w13 (w9.heap.size + 1) (.int .i64 NB.major) (.int .i64 NB.minor) (.slice qY kY jY) (.slice aY lY.length cY)
    have HB24 : Hid (Below w.heap.size w ((((w13.setCell ⟨(w9.heap.size + 1), 0, none⟩ (.int .i64 NB.major)).setCell ⟨(w9.heap.size + 1), 1, none⟩ (.int .i64 NB.minor)).setCell ⟨(w9.heap.size + 1), 2, none⟩ (.slice qY kY jY)).setCell ⟨(w9.heap.size + 1), 3, none⟩ (.slice aY lY.length cY))) := HB23.out.grown hG HB23.out.size (fun q hq => by obtain rfl := Option.some.inj hq; omega)
    have HR24_A : Hid (IsReg ((((w13.setCell ⟨(w9.heap.size + 1), 0, none⟩ (.int .i64 NB.major)).setCell ⟨(w9.heap.size + 1), 1, none⟩ (.int .i64 NB.minor)).setCell ⟨(w9.heap.size + 1), 2, none⟩ (.slice qY kY jY)).setCell ⟨(w9.heap.size + 1), 3, none⟩ (.slice aY lY.length cY)).heap.size ((((w13.setCell ⟨(w9.heap.size + 1), 0, none⟩ (.int .i64 NB.major)).setCell ⟨(w9.heap.size + 1), 1, none⟩ (.int .i64 NB.minor)).setCell ⟨(w9.heap.size + 1), 2, none⟩ (.slice qY kY jY)).setCell ⟨(w9.heap.size + 1), 3, none⟩ (.slice aY lY.length cY)) (.agg #[.int .i64 NA.major, .int .i64 NA.minor, .slice qA kA jA, .slice aA lA.length cA]) NA lA) := (HR23_A.out.apart4 hG (Nat.le_refl _) HC23_gY.out).more hG.size
    have HR24_B : Hid (IsReg ((((w13.setCell ⟨(w9.heap.size + 1), 0, none⟩ (.int .i64 NB.major)).setCell ⟨(w9.heap.size + 1), 1, none⟩ (.int .i64 NB.minor)).setCell ⟨(w9.heap.size + 1), 2, none⟩ (.slice qY kY jY)).setCell ⟨(w9.heap.size + 1), 3, none⟩ (.slice aY lY.length cY)).heap.size ((((w13.setCell ⟨(w9.heap.size + 1), 0, none⟩ (.int .i64 NB.major)).setCell ⟨(w9.heap.size + 1), 1, none⟩ (.int .i64 NB.minor)).setCell ⟨(w9.heap.size + 1), 2, none⟩ (.slice qY kY jY)).setCell ⟨(w9.heap.size + 1), 3, none⟩ (.slice aY lY.length cY)) (.agg #[.int .i64 NB.major, .int .i64 NB.minor, .slice qB kB jB, .slice aB lB.length cB]) NB lB) := (HR23_B.out.apart4 hG (Nat.le_refl _) HC23_gY.out).more hG.size
    have HR24_C : Hid (IsReg ((((w13.setCell ⟨(w9.heap.size + 1), 0, none⟩ (.int .i64 NB.major)).setCell ⟨(w9.heap.size + 1), 1, none⟩ (.int .i64 NB.minor)).setCell ⟨(w9.heap.size + 1), 2, none⟩ (.slice qY kY jY)).setCell ⟨(w9.heap.size + 1), 3, none⟩ (.slice aY lY.length cY)).heap.size ((((w13.setCell ⟨(w9.heap.size + 1), 0, none⟩ (.int .i64 NB.major)).setCell ⟨(w9.heap.size + 1), 1, none⟩ (.int .i64 NB.minor)).setCell ⟨(w9.heap.size + 1), 2, none⟩ (.slice qY kY jY)).setCell ⟨(w9.heap.size + 1), 3, none⟩ (.slice aY lY.length cY)) (.agg #[.int .i64 NC.major, .int .i64 NC.minor, .slice qC kC jC, .slice aC lC.length cC]) NC lC) := (HR23_C.out.apart4 hG (Nat.le_refl _) HC23_gY.out).more hG.size
    have HR24_X : Hid (IsReg ((((w13.setCell ⟨(w9.heap.size + 1), 0, none⟩ (.int .i64 NB.major)).setCell ⟨(w9.heap.size + 1), 1, none⟩ (.int .i64 NB.minor)).setCell ⟨(w9.heap.size + 1), 2, none⟩ (.slice qY kY jY)).setCell ⟨(w9.heap.size + 1), 3, none⟩ (.slice aY lY.length cY)).heap.size ((((w13.setCell ⟨(w9.heap.size + 1), 0, none⟩ (.int .i64 NB.major)).setCell ⟨(w9.heap.size + 1), 1, none⟩ (.int .i64 NB.minor)).setCell ⟨(w9.heap.size + 1), 2, none⟩ (.slice qY kY jY)).setCell ⟨(w9.heap.size + 1), 3, none⟩ (.slice aY lY.length cY)) (.agg #[.int .i64 NA.major, .int .i64 NA.minor, .slice qX kX jX, .slice aX lX.length cX]) NA lX) := (HR23_X.out.apart4 hG (Nat.le_refl _) HC23_gY.out).more hG.size
    have HR24_Y : Hid (IsReg ((((w13.setCell ⟨(w9.heap.size + 1), 0, none⟩ (.int .i64 NB.major)).setCell ⟨(w9.heap.size + 1), 1, none⟩ (.int .i64 NB.minor)).setCell ⟨(w9.heap.size + 1), 2, none⟩ (.slice qY kY jY)).setCell ⟨(w9.heap.size + 1), 3, none⟩ (.slice aY lY.length cY)).heap.size ((((w13.setCell ⟨(w9.heap.size + 1), 0, none⟩ (.int .i64 NB.major)).setCell ⟨(w9.heap.size + 1), 1, none⟩ (.int .i64 NB.minor)).setCell ⟨(w9.heap.size + 1), 2, none⟩ (.slice qY kY jY)).setCell ⟨(w9.heap.size + 1), 3, none⟩ (.slice aY lY.length cY)) (.agg #[.int .i64 NB.major, .int .i64 NB.minor, .slice qY kY jY, .slice aY lY.length cY]) NB lY) := (HRNY.out.apart4 hG (Nat.le_refl _) HC23_gY.out).more hG.size
    have HC24_g1 : Hid (CellsAt ((((w13.setCell ⟨(w9.heap.size + 1), 0, none⟩ (.int .i64 NB.major)).setCell ⟨(w9.heap.size + 1), 1, none⟩ (.int .i64 NB.minor)).setCell ⟨(w9.heap.size + 1), 2, none⟩ (.slice qY kY jY)).setCell ⟨(w9.heap.size + 1), 3, none⟩ (.slice aY lY.length cY)) w.heap.size 27 #[.int .i64 K.major, .int .i64 K.minor, .slice qe lk je, .slice a l.length cap]) := HC23_g1.out.kept hG (by intro e; have := Option.some.inj e; omega)
    have HC24_g2 : Hid (CellsAt ((((w13.setCell ⟨(w9.heap.size + 1), 0, none⟩ (.int .i64 NB.major)).setCell ⟨(w9.heap.size + 1), 1, none⟩ (.int .i64 NB.minor)).setCell ⟨(w9.heap.size + 1), 2, none⟩ (.slice qY kY jY)).setCell ⟨(w9.heap.size + 1), 3, none⟩ (.slice aY lY.length cY)) (w.heap.size + 1) 31 #[.string M.name, .int .i64 M.major, .int .i64 M.minor, .string M.text, .slice pe le ke, .slice pi li ki, .slice pp lp kp]) := HC23_g2.out.kept hG (by intro e; have := Option.some.inj e; omega)
    have HC24_gA : Hid (CellsAt ((((w13.setCell ⟨(w9.heap.size + 1), 0, none⟩ (.int .i64 NB.major)).setCell ⟨(w9.heap.size + 1), 1, none⟩ (.int .i64 NB.minor)).setCell ⟨(w9.heap.size + 1), 2, none⟩ (.slice qY kY jY)).setCell ⟨(w9.heap.size + 1), 3, none⟩ (.slice aY lY.length cY)) gA 27 #[.int .i64 NA.major, .int .i64 NA.minor, .slice qA kA jA, .slice aA lA.length cA]) := HC23_gA.out.kept hG (by intro e; have := Option.some.inj e; omega)
    have HC24_gB : Hid (CellsAt ((((w13.setCell ⟨(w9.heap.size + 1), 0, none⟩ (.int .i64 NB.major)).setCell ⟨(w9.heap.size + 1), 1, none⟩ (.int .i64 NB.minor)).setCell ⟨(w9.heap.size + 1), 2, none⟩ (.slice qY kY jY)).setCell ⟨(w9.heap.size + 1), 3, none⟩ (.slice aY lY.length cY)) gB 27 #[.int .i64 NB.major, .int .i64 NB.minor, .slice qB kB jB, .slice aB lB.length cB]) := HC23_gB.out.kept hG (by intro e; have := Option.some.inj e; omega)
    have HC24_gC : Hid (CellsAt ((((w13.setCell ⟨(w9.heap.size + 1), 0, none⟩ (.int .i64 NB.major)).setCell ⟨(w9.heap.size + 1), 1, none⟩ (.int .i64 NB.minor)).setCell ⟨(w9.heap.size + 1), 2, none⟩ (.slice qY kY jY)).setCell ⟨(w9.heap.size + 1), 3, none⟩ (.slice aY lY.length cY)) gC 27 #[.int .i64 NC.major, .int .i64 NC.minor, .slice qC kC jC, .slice aC lC.length cC]) := HC23_gC.out.kept hG (by intro e; have := Option.some.inj e; omega)
    have HC24_gX : Hid (CellsAt ((((w13.setCell ⟨(w9.heap.size + 1), 0, none⟩ (.int .i64 NB.major)).setCell ⟨(w9.heap.size + 1), 1, none⟩ (.int .i64 NB.minor)).setCell ⟨(w9.heap.size + 1), 2, none⟩ (.slice qY kY jY)).setCell ⟨(w9.heap.size + 1), 3, none⟩ (.slice aY lY.length cY)) w9.heap.size 27 #[.int .i64 NA.major, .int .i64 NA.minor, .slice qX kX jX, .slice aX lX.length cX]) := HC23_gX.out.kept hG (by intro e; have := Option.some.inj e; omega)
    have HC24_gY : Hid (CellsAt ((((w13.setCell ⟨(w9.heap.size + 1), 0, none⟩ (.int .i64 NB.major)).setCell ⟨(w9.heap.size + 1), 1, none⟩ (.int .i64 NB.minor)).setCell ⟨(w9.heap.size + 1), 2, none⟩ (.slice qY kY jY)).setCell ⟨(w9.heap.size + 1), 3, none⟩ (.slice aY lY.length cY)) (w9.heap.size + 1) 27 #[.int .i64 NB.major, .int .i64 NB.minor, .slice qY kY jY, .slice aY lY.length cY]) := sets4 HC23_gY.out _ _ _ _
    have HC24_gZ : Hid (CellsAt ((((w13.setCell ⟨(w9.heap.size + 1), 0, none⟩ (.int .i64 NB.major)).setCell ⟨(w9.heap.size + 1), 1, none⟩ (.int .i64 NB.minor)).setCell ⟨(w9.heap.size + 1), 2, none⟩ (.slice qY kY jY)).setCell ⟨(w9.heap.size + 1), 3, none⟩ (.slice aY lY.length cY)) (w9.heap.size + 2) 27 #[.int .i64 0, .int .i64 0, .slice none 0 0, .slice none 0 0]) := HC23_gZ.out.kept hG (by intro e; have := Option.some.inj e; omega)
    clear hG HB23 HR23_A HR23_B HR23_C HR23_X HRNY HC23_g1 HC23_g2 HC23_gA HC23_gB HC23_gC HC23_gX HC23_gY HC23_gZ
    go_upto_region 10 with fail
    clear rgY0 rgY1 rgY2 rgY3 rgYl fgY0 fgY1 fgY2 fgY3
    clear hbs
    generalize ((((w13.setCell ⟨(w9.heap.size + 1), 0, none⟩ (.int .i64 NB.major)).setCell ⟨(w9.heap.size + 1), 1, none⟩ (.int .i64 NB.minor)).setCell ⟨(w9.heap.size + 1), 2, none⟩ (.slice qY kY jY)).setCell ⟨(w9.heap.size + 1), 3, none⟩ (.slice aY lY.length cY)) = w14 at *
    have rgZ0 := CellsAt.cell HC24_gZ.out 0
    have rgZ1 := CellsAt.cell HC24_gZ.out 1
    have rgZ2 := CellsAt.cell HC24_gZ.out 2
    have rgZ3 := CellsAt.cell HC24_gZ.out 3
    have fgZ0 := CellsAt.frozen HC24_gZ.out 0
    have fgZ1 := CellsAt.frozen HC24_gZ.out 1
    have fgZ2 := CellsAt.frozen HC24_gZ.out 2
    have fgZ3 := CellsAt.frozen HC24_gZ.out 3
    have rgZl := CellsAt.lt HC24_gZ.out
    simp at rgZ0 rgZ1 rgZ2 rgZ3
    have rg10 := CellsAt.cell HC24_g1.out 0
    have rg11 := CellsAt.cell HC24_g1.out 1
    have rg12 := CellsAt.cell HC24_g1.out 2
    have rg13 := CellsAt.cell HC24_g1.out 3
    have rg1l := CellsAt.lt HC24_g1.out
    simp at rg10 rg11 rg12 rg13
    have rg20 := CellsAt.cell HC24_g2.out 0
    have rg21 := CellsAt.cell HC24_g2.out 1
    have rg22 := CellsAt.cell HC24_g2.out 2
    have rg23 := CellsAt.cell HC24_g2.out 3
    have rg24 := CellsAt.cell HC24_g2.out 4
    have rg25 := CellsAt.cell HC24_g2.out 5
    have rg26 := CellsAt.cell HC24_g2.out 6
    have rg2l := CellsAt.lt HC24_g2.out
    simp at rg20 rg21 rg22 rg23 rg24 rg25 rg26
    go_wp2_with fail
    clear rg10 rg11 rg12 rg13 rg1l
    clear rg20 rg21 rg22 rg23 rg24 rg25 rg26 rg2l
    clear rgZ0 rgZ1 rgZ2 rgZ3 rgZl fgZ0 fgZ1 fgZ2 fgZ3
    refine Calls.mono (HOC.out (by first | rfl | trivial) _ ((HR0.out.below HB24.out).more HB24.out.size) ((HM0.out.below HB24.out).more HB24.out.size)) ?_
    rintro e w15 ⟨⟨vZ, lZ, rfl, hpZ, hiZ⟩, bZ⟩
    have HB25 : Hid (Below w.heap.size w w15) := HB24.out.trans (bZ.mono HB24.out.size)
    have HC25_g1 : Hid (CellsAt w15 w.heap.size 27 #[.int .i64 K.major, .int .i64 K.minor, .slice qe lk je, .slice a l.length cap]) := HC24_g1.out.below bZ HC24_g1.out.lt
    have HC25_g2 : Hid (CellsAt w15 (w.heap.size + 1) 31 #[.string M.name, .int .i64 M.major, .int .i64 M.minor, .string M.text, .slice pe le ke, .slice pi li ki, .slice pp lp kp]) := HC24_g2.out.below bZ HC24_g2.out.lt
    have HC25_gA : Hid (CellsAt w15 gA 27 #[.int .i64 NA.major, .int .i64 NA.minor, .slice qA kA jA, .slice aA lA.length cA]) := HC24_gA.out.below bZ HC24_gA.out.lt
    have HC25_gB : Hid (CellsAt w15 gB 27 #[.int .i64 NB.major, .int .i64 NB.minor, .slice qB kB jB, .slice aB lB.length cB]) := HC24_gB.out.below bZ HC24_gB.out.lt
    have HC25_gC : Hid (CellsAt w15 gC 27 #[.int .i64 NC.major, .int .i64 NC.minor, .slice qC kC jC, .slice aC lC.length cC]) := HC24_gC.out.below bZ HC24_gC.out.lt
    have HC25_gX : Hid (CellsAt w15 w9.heap.size 27 #[.int .i64 NA.major, .int .i64 NA.minor, .slice qX kX jX, .slice aX lX.length cX]) := HC24_gX.out.below bZ HC24_gX.out.lt
    have HC25_gY : Hid (CellsAt w15 (w9.heap.size + 1) 27 #[.int .i64 NB.major, .int .i64 NB.minor, .slice qY kY jY, .slice aY lY.length cY]) := HC24_gY.out.below bZ HC24_gY.out.lt
    have HC25_gZ : Hid (CellsAt w15 (w9.heap.size + 2) 27 #[.int .i64 0, .int .i64 0, .slice none 0 0, .slice none 0 0]) := HC24_gZ.out.below bZ HC24_gZ.out.lt
    have HR25_A : Hid (IsReg w15.heap.size w15 (.agg #[.int .i64 NA.major, .int .i64 NA.minor, .slice qA kA jA, .slice aA lA.length cA]) NA lA) := (HR24_A.out.below bZ).more bZ.size
    have HR25_B : Hid (IsReg w15.heap.size w15 (.agg #[.int .i64 NB.major, .int .i64 NB.minor, .slice qB kB jB, .slice aB lB.length cB]) NB lB) := (HR24_B.out.below bZ).more bZ.size
    have HR25_C : Hid (IsReg w15.heap.size w15 (.agg #[.int .i64 NC.major, .int .i64 NC.minor, .slice qC kC jC, .slice aC lC.length cC]) NC lC) := (HR24_C.out.below bZ).more bZ.size
    have HR25_X : Hid (IsReg w15.heap.size w15 (.agg #[.int .i64 NA.major, .int .i64 NA.minor, .slice qX kX jX, .slice aX lX.length cX]) NA lX) := (HR24_X.out.below bZ).more bZ.size
    have HR25_Y : Hid (IsReg w15.heap.size w15 (.agg #[.int .i64 NB.major, .int .i64 NB.minor, .slice qY kY jY, .slice aY lY.length cY]) NB lY) := (HR24_Y.out.below bZ).more bZ.size
    clear HB24 HC24_g1 HC24_g2 HC24_gA HC24_gB HC24_gC HC24_gX HC24_gY HC24_gZ HR24_A HR24_B HR24_C HR24_X HR24_Y
    obtain ⟨qZ, jZ, aZ, cZ, rfl⟩ := hiZ.shape0
    generalize NC.exps.length = kZ at *
    have HGZ : Hid (lZ.map PV.plc = LC) := hpZ
    have HRNZ : Hid (IsReg w15.heap.size w15 (.agg #[.int .i64 NC.major, .int .i64 NC.minor, .slice qZ kZ jZ, .slice aZ lZ.length cZ]) NC lZ) := hiZ
    clear bZ hiZ hpZ
    have rgZ0 := CellsAt.cell HC25_gZ.out 0
    have rgZ1 := CellsAt.cell HC25_gZ.out 1
    have rgZ2 := CellsAt.cell HC25_gZ.out 2
    have rgZ3 := CellsAt.cell HC25_gZ.out 3
    have fgZ0 := CellsAt.frozen HC25_gZ.out 0
    have fgZ1 := CellsAt.frozen HC25_gZ.out 1
    have fgZ2 := CellsAt.frozen HC25_gZ.out 2
    have fgZ3 := CellsAt.frozen HC25_gZ.out 3
    have rgZl := CellsAt.lt HC25_gZ.out
    simp at rgZ0 rgZ1 rgZ2 rgZ3
    have hbs := HB25.out.size
    have hG := sets4_grown w15 (w9.heap.size + 2) (.int .i64 NC.major) (.int .i64 NC.minor) (.slice qZ kZ jZ) (.slice aZ lZ.length cZ)
    have HB26 : Hid (Below w.heap.size w ((((w15.setCell ⟨(w9.heap.size + 2), 0, none⟩ (.int .i64 NC.major)).setCell ⟨(w9.heap.size + 2), 1, none⟩ (.int .i64 NC.minor)).setCell ⟨(w9.heap.size + 2), 2, none⟩ (.slice qZ kZ jZ)).setCell ⟨(w9.heap.size + 2), 3, none⟩ (.slice aZ lZ.length cZ))) := HB25.out.grown hG HB25.out.size (fun q hq => by obtain rfl := Option.some.inj hq; omega)
    have HR26_A : Hid (IsReg ((((w15.setCell ⟨(w9.heap.size + 2), 0, none⟩ (.int .i64 NC.major)).setCell ⟨(w9.heap.size + 2), 1, none⟩ (.int .i64 NC.minor)).setCell ⟨(w9.heap.size + 2), 2, none⟩ (.slice qZ kZ jZ)).setCell ⟨(w9.heap.size + 2), 3, none⟩ (.slice aZ lZ.length cZ)).heap.size ((((w15.setCell ⟨(w9.heap.size + 2), 0, none⟩ (.int .i64 NC.major)).setCell ⟨(w9.heap.size + 2), 1, none⟩ (.int .i64 NC.minor)).setCell ⟨(w9.heap.size + 2), 2, none⟩ (.slice qZ kZ jZ)).setCell ⟨(w9.heap.size + 2), 3, none⟩ (.slice aZ lZ.length cZ)) (.agg #[.int .i64 NA.major, .int .i64 NA.minor, .slice qA kA jA, .slice aA lA.length cA]) NA lA) := (HR25_A.out.apart4 hG (Nat.le_refl _) HC25_gZ.out).more hG.size
    have HR26_B : Hid (IsReg ((((w15.setCell ⟨(w9.heap.size + 2), 0, none⟩ (.int .i64 NC.major)).setCell ⟨(w9.heap.size + 2), 1, none⟩ (.int .i64 NC.minor)).setCell ⟨(w9.heap.size + 2), 2, none⟩ (.slice qZ kZ jZ)).setCell ⟨(w9.heap.size + 2), 3, none⟩ (.slice aZ lZ.length cZ)).heap.size ((((w15.setCell ⟨(w9.heap.size + 2), 0, none⟩ (.int .i64 NC.major)).setCell ⟨(w9.heap.size + 2), 1, none⟩ (.int .i64 NC.minor)).setCell ⟨(w9.heap.size + 2), 2, none⟩ (.slice qZ kZ jZ)).setCell ⟨(w9.heap.size + 2), 3, none⟩ (.slice aZ lZ.length cZ)) (.agg #[.int .i64 NB.major, .int .i64 NB.minor, .slice qB kB jB, .slice aB lB.length cB]) NB lB) := (HR25_B.out.apart4 hG (Nat.le_refl _) HC25_gZ.out).more hG.size
    have HR26_C : Hid (IsReg ((((w15.setCell ⟨(w9.heap.size + 2), 0, none⟩ (.int .i64 NC.major)).setCell ⟨(w9.heap.size + 2), 1, none⟩ (.int .i64 NC.minor)).setCell ⟨(w9.heap.size + 2), 2, none⟩ (.slice qZ kZ jZ)).setCell ⟨(w9.heap.size + 2), 3, none⟩ (.slice aZ lZ.length cZ)).heap.size ((((w15.setCell ⟨(w9.heap.size + 2), 0, none⟩ (.int .i64 NC.major)).setCell ⟨(w9.heap.size + 2), 1, none⟩ (.int .i64 NC.minor)).setCell ⟨(w9.heap.size + 2), 2, none⟩ (.slice qZ kZ jZ)).setCell ⟨(w9.heap.size + 2), 3, none⟩ (.slice aZ lZ.length cZ)) (.agg #[.int .i64 NC.major, .int .i64 NC.minor, .slice qC kC jC, .slice aC lC.length cC]) NC lC) := (HR25_C.out.apart4 hG (Nat.le_refl _) HC25_gZ.out).more hG.size
    have HR26_X : Hid (IsReg ((((w15.setCell ⟨(w9.heap.size + 2), 0, none⟩ (.int .i64 NC.major)).setCell ⟨(w9.heap.size + 2), 1, none⟩ (.int .i64 NC.minor)).setCell ⟨(w9.heap.size + 2), 2, none⟩ (.slice qZ kZ jZ)).setCell ⟨(w9.heap.size + 2), 3, none⟩ (.slice aZ lZ.length cZ)).heap.size ((((w15.setCell ⟨(w9.heap.size + 2), 0, none⟩ (.int .i64 NC.major)).setCell ⟨(w9.heap.size + 2), 1, none⟩ (.int .i64 NC.minor)).setCell ⟨(w9.heap.size + 2), 2, none⟩ (.slice qZ kZ jZ)).setCell ⟨(w9.heap.size + 2), 3, none⟩ (.slice aZ lZ.length cZ)) (.agg #[.int .i64 NA.major, .int .i64 NA.minor, .slice qX kX jX, .slice aX lX.length cX]) NA lX) := (HR25_X.out.apart4 hG (Nat.le_refl _) HC25_gZ.out).more hG.size
    have HR26_Y : Hid (IsReg ((((w15.setCell ⟨(w9.heap.size + 2), 0, none⟩ (.int .i64 NC.major)).setCell ⟨(w9.heap.size + 2), 1, none⟩ (.int .i64 NC.minor)).setCell ⟨(w9.heap.size + 2), 2, none⟩ (.slice qZ kZ jZ)).setCell ⟨(w9.heap.size + 2), 3, none⟩ (.slice aZ lZ.length cZ)).heap.size ((((w15.setCell ⟨(w9.heap.size + 2), 0, none⟩ (.int .i64 NC.major)).setCell ⟨(w9.heap.size + 2), 1, none⟩ (.int .i64 NC.minor)).setCell ⟨(w9.heap.size + 2), 2, none⟩ (.slice qZ kZ jZ)).setCell ⟨(w9.heap.size + 2), 3, none⟩ (.slice aZ lZ.length cZ)) (.agg #[.int .i64 NB.major, .int .i64 NB.minor, .slice qY kY jY, .slice aY lY.length cY]) NB lY) := (HR25_Y.out.apart4 hG (Nat.le_refl _) HC25_gZ.out).more hG.size
    have HR26_Z : Hid (IsReg ((((w15.setCell ⟨(w9.heap.size + 2), 0, none⟩ (.int .i64 NC.major)).setCell ⟨(w9.heap.size + 2), 1, none⟩ (.int .i64 NC.minor)).setCell ⟨(w9.heap.size + 2), 2, none⟩ (.slice qZ kZ jZ)).setCell ⟨(w9.heap.size + 2), 3, none⟩ (.slice aZ lZ.length cZ)).heap.size ((((w15.setCell ⟨(w9.heap.size + 2), 0, none⟩ (.int .i64 NC.major)).setCell ⟨(w9.heap.size + 2), 1, none⟩ (.int .i64 NC.minor)).setCell ⟨(w9.heap.size + 2), 2, none⟩ (.slice qZ kZ jZ)).setCell ⟨(w9.heap.size + 2), 3, none⟩ (.slice aZ lZ.length cZ)) (.agg #[.int .i64 NC.major, .int .i64 NC.minor, .slice qZ kZ jZ, .slice aZ lZ.length cZ]) NC lZ) := (HRNZ.out.apart4 hG (Nat.le_refl _) HC25_gZ.out).more hG.size
    have HC26_g1 : Hid (CellsAt ((((w15.setCell ⟨(w9.heap.size + 2), 0, none⟩ (.int .i64 NC.major)).setCell ⟨(w9.heap.size + 2), 1, none⟩ (.int .i64 NC.minor)).setCell ⟨(w9.heap.size + 2), 2, none⟩ (.slice qZ kZ jZ)).setCell ⟨(w9.heap.size + 2), 3, none⟩ (.slice aZ lZ.length cZ)) w.heap.size 27 #[.int .i64 K.major, .int .i64 K.minor, .slice qe lk je, .slice a l.length cap]) := HC25_g1.out.kept hG (by intro e; have := Option.some.inj e; omega)
    have HC26_g2 : Hid (CellsAt ((((w15.setCell ⟨(w9.heap.size + 2), 0, none⟩ (.int .i64 NC.major)).setCell ⟨(w9.heap.size + 2), 1, none⟩ (.int .i64 NC.minor)).setCell ⟨(w9.heap.size + 2), 2, none⟩ (.slice qZ kZ jZ)).setCell ⟨(w9.heap.size + 2), 3, none⟩ (.slice aZ lZ.length cZ)) (w.heap.size + 1) 31 #[.string M.name, .int .i64 M.major, .int .i64 M.minor, .string M.text, .slice pe le ke, .slice pi li ki, .slice pp lp kp]) := HC25_g2.out.kept hG (by intro e; have := Option.some.inj e; omega)
    have HC26_gA : Hid (CellsAt ((((w15.setCell ⟨(w9.heap.size + 2), 0, none⟩ (.int .i64 NC.major)).setCell ⟨(w9.heap.size + 2), 1, none⟩ (.int .i64 NC.minor)).setCell ⟨(w9.heap.size + 2), 2, none⟩ (.slice qZ kZ jZ)).setCell ⟨(w9.heap.size + 2), 3, none⟩ (.slice aZ lZ.length cZ)) gA 27 #[.int .i64 NA.major, .int .i64 NA.minor, .slice qA kA jA, .slice aA lA.length cA]) := HC25_gA.out.kept hG (by intro e; have := Option.some.inj e; omega)
    have HC26_gB : Hid (CellsAt ((((w15.setCell ⟨(w9.heap.size + 2), 0, none⟩ (.int .i64 NC.major)).setCell ⟨(w9.heap.size + 2), 1, none⟩ (.int .i64 NC.minor)).setCell ⟨(w9.heap.size + 2), 2, none⟩ (.slice qZ kZ jZ)).setCell ⟨(w9.heap.size + 2), 3, none⟩ (.slice aZ lZ.length cZ)) gB 27 #[.int .i64 NB.major, .int .i64 NB.minor, .slice qB kB jB, .slice aB lB.length cB]) := HC25_gB.out.kept hG (by intro e; have := Option.some.inj e; omega)
    have HC26_gC : Hid (CellsAt ((((w15.setCell ⟨(w9.heap.size + 2), 0, none⟩ (.int .i64 NC.major)).setCell ⟨(w9.heap.size + 2), 1, none⟩ (.int .i64 NC.minor)).setCell ⟨(w9.heap.size + 2), 2, none⟩ (.slice qZ kZ jZ)).setCell ⟨(w9.heap.size + 2), 3, none⟩ (.slice aZ lZ.length cZ)) gC 27 #[.int .i64 NC.major, .int .i64 NC.minor, .slice qC kC jC, .slice aC lC.length cC]) := HC25_gC.out.kept hG (by intro e; have := Option.some.inj e; omega)
    have HC26_gX : Hid (CellsAt ((((w15.setCell ⟨(w9.heap.size + 2), 0, none⟩ (.int .i64 NC.major)).setCell ⟨(w9.heap.size + 2), 1, none⟩ (.int .i64 NC.minor)).setCell ⟨(w9.heap.size + 2), 2, none⟩ (.slice qZ kZ jZ)).setCell ⟨(w9.heap.size + 2), 3, none⟩ (.slice aZ lZ.length cZ)) w9.heap.size 27 #[.int .i64 NA.major, .int .i64 NA.minor, .slice qX kX jX, .slice aX lX.length cX]) := HC25_gX.out.kept hG (by intro e; have := Option.some.inj e; omega)
    have HC26_gY : Hid (CellsAt ((((w15.setCell ⟨(w9.heap.size + 2), 0, none⟩ (.int .i64 NC.major)).setCell ⟨(w9.heap.size + 2), 1, none⟩ (.int .i64 NC.minor)).setCell ⟨(w9.heap.size + 2), 2, none⟩ (.slice qZ kZ jZ)).setCell ⟨(w9.heap.size + 2), 3, none⟩ (.slice aZ lZ.length cZ)) (w9.heap.size + 1) 27 #[.int .i64 NB.major, .int .i64 NB.minor, .slice qY kY jY, .slice aY lY.length cY]) := HC25_gY.out.kept hG (by intro e; have := Option.some.inj e; omega)
    have HC26_gZ : Hid (CellsAt ((((w15.setCell ⟨(w9.heap.size + 2), 0, none⟩ (.int .i64 NC.major)).setCell ⟨(w9.heap.size + 2), 1, none⟩ (.int .i64 NC.minor)).setCell ⟨(w9.heap.size + 2), 2, none⟩ (.slice qZ kZ jZ)).setCell ⟨(w9.heap.size + 2), 3, none⟩ (.slice aZ lZ.length cZ)) (w9.heap.size + 2) 27 #[.int .i64 NC.major, .int .i64 NC.minor, .slice qZ kZ jZ, .slice aZ lZ.length cZ]) := sets4 HC25_gZ.out _ _ _ _
    clear hG HB25 HR25_A HR25_B HR25_C HR25_X HR25_Y HRNZ HC25_g1 HC25_g2 HC25_gA HC25_gB HC25_gC HC25_gX HC25_gY HC25_gZ
    go_upto_region 11 with fail
    clear rgZ0 rgZ1 rgZ2 rgZ3 rgZl fgZ0 fgZ1 fgZ2 fgZ3
    clear hbs
    generalize ((((w15.setCell ⟨(w9.heap.size + 2), 0, none⟩ (.int .i64 NC.major)).setCell ⟨(w9.heap.size + 2), 1, none⟩ (.int .i64 NC.minor)).setCell ⟨(w9.heap.size + 2), 2, none⟩ (.slice qZ kZ jZ)).setCell ⟨(w9.heap.size + 2), 3, none⟩ (.slice aZ lZ.length cZ)) = w16 at *
    have HPL : Hid (∀ W, Calls Tryz.prog 13 #[] W fun e w' => e = .returned (.bool true) ∧ Below W.heap.size W w') := planBegun_any
    go_wp2_with fail
    refine (HPL.out _).mono ?_
    rintro e wa ⟨rfl, ba⟩
    have HB27 : Hid (Below w.heap.size w wa) := HB26.out.trans (ba.mono HB26.out.size)
    have HC27_g1 : Hid (CellsAt wa w.heap.size 27 #[.int .i64 K.major, .int .i64 K.minor, .slice qe lk je, .slice a l.length cap]) := HC26_g1.out.below ba HC26_g1.out.lt
    have HC27_g2 : Hid (CellsAt wa (w.heap.size + 1) 31 #[.string M.name, .int .i64 M.major, .int .i64 M.minor, .string M.text, .slice pe le ke, .slice pi li ki, .slice pp lp kp]) := HC26_g2.out.below ba HC26_g2.out.lt
    have HC27_gA : Hid (CellsAt wa gA 27 #[.int .i64 NA.major, .int .i64 NA.minor, .slice qA kA jA, .slice aA lA.length cA]) := HC26_gA.out.below ba HC26_gA.out.lt
    have HC27_gB : Hid (CellsAt wa gB 27 #[.int .i64 NB.major, .int .i64 NB.minor, .slice qB kB jB, .slice aB lB.length cB]) := HC26_gB.out.below ba HC26_gB.out.lt
    have HC27_gC : Hid (CellsAt wa gC 27 #[.int .i64 NC.major, .int .i64 NC.minor, .slice qC kC jC, .slice aC lC.length cC]) := HC26_gC.out.below ba HC26_gC.out.lt
    have HC27_gX : Hid (CellsAt wa w9.heap.size 27 #[.int .i64 NA.major, .int .i64 NA.minor, .slice qX kX jX, .slice aX lX.length cX]) := HC26_gX.out.below ba HC26_gX.out.lt
    have HC27_gY : Hid (CellsAt wa (w9.heap.size + 1) 27 #[.int .i64 NB.major, .int .i64 NB.minor, .slice qY kY jY, .slice aY lY.length cY]) := HC26_gY.out.below ba HC26_gY.out.lt
    have HC27_gZ : Hid (CellsAt wa (w9.heap.size + 2) 27 #[.int .i64 NC.major, .int .i64 NC.minor, .slice qZ kZ jZ, .slice aZ lZ.length cZ]) := HC26_gZ.out.below ba HC26_gZ.out.lt
    have HR27_A : Hid (IsReg wa.heap.size wa (.agg #[.int .i64 NA.major, .int .i64 NA.minor, .slice qA kA jA, .slice aA lA.length cA]) NA lA) := (HR26_A.out.below ba).more ba.size
    have HR27_B : Hid (IsReg wa.heap.size wa (.agg #[.int .i64 NB.major, .int .i64 NB.minor, .slice qB kB jB, .slice aB lB.length cB]) NB lB) := (HR26_B.out.below ba).more ba.size
    have HR27_C : Hid (IsReg wa.heap.size wa (.agg #[.int .i64 NC.major, .int .i64 NC.minor, .slice qC kC jC, .slice aC lC.length cC]) NC lC) := (HR26_C.out.below ba).more ba.size
    have HR27_X : Hid (IsReg wa.heap.size wa (.agg #[.int .i64 NA.major, .int .i64 NA.minor, .slice qX kX jX, .slice aX lX.length cX]) NA lX) := (HR26_X.out.below ba).more ba.size
    have HR27_Y : Hid (IsReg wa.heap.size wa (.agg #[.int .i64 NB.major, .int .i64 NB.minor, .slice qY kY jY, .slice aY lY.length cY]) NB lY) := (HR26_Y.out.below ba).more ba.size
    have HR27_Z : Hid (IsReg wa.heap.size wa (.agg #[.int .i64 NC.major, .int .i64 NC.minor, .slice qZ kZ jZ, .slice aZ lZ.length cZ]) NC lZ) := (HR26_Z.out.below ba).more ba.size
    clear HB26 HC26_g1 HC26_g2 HC26_gA HC26_gB HC26_gC HC26_gX HC26_gY HC26_gZ HR26_A HR26_B HR26_C HR26_X HR26_Y HR26_Z
    clear ba HPL
    have rgA0 := CellsAt.cell HC27_gA.out 0
    have rgA1 := CellsAt.cell HC27_gA.out 1
    have rgA2 := CellsAt.cell HC27_gA.out 2
    have rgA3 := CellsAt.cell HC27_gA.out 3
    have rgAl := CellsAt.lt HC27_gA.out
    simp at rgA0 rgA1 rgA2 rgA3
    have rgX0 := CellsAt.cell HC27_gX.out 0
    have rgX1 := CellsAt.cell HC27_gX.out 1
    have rgX2 := CellsAt.cell HC27_gX.out 2
    have rgX3 := CellsAt.cell HC27_gX.out 3
    have rgXl := CellsAt.lt HC27_gX.out
    simp at rgX0 rgX1 rgX2 rgX3
    go_wp2_with fail
    clear rgA0 rgA1 rgA2 rgA3 rgAl
    clear rgX0 rgX1 rgX2 rgX3 rgXl
    refine Calls.mono (HIA.out lA lX _ _ _ HGA.out HGX.out HR27_A.out HR27_X.out) ?_
    rintro e wb ⟨rfl, bq⟩
    have HB28 : Hid (Below w.heap.size w wb) := HB27.out.trans (bq.mono HB27.out.size)
    have HC28_g1 : Hid (CellsAt wb w.heap.size 27 #[.int .i64 K.major, .int .i64 K.minor, .slice qe lk je, .slice a l.length cap]) := HC27_g1.out.below bq HC27_g1.out.lt
    have HC28_g2 : Hid (CellsAt wb (w.heap.size + 1) 31 #[.string M.name, .int .i64 M.major, .int .i64 M.minor, .string M.text, .slice pe le ke, .slice pi li ki, .slice pp lp kp]) := HC27_g2.out.below bq HC27_g2.out.lt
    have HC28_gA : Hid (CellsAt wb gA 27 #[.int .i64 NA.major, .int .i64 NA.minor, .slice qA kA jA, .slice aA lA.length cA]) := HC27_gA.out.below bq HC27_gA.out.lt
    have HC28_gB : Hid (CellsAt wb gB 27 #[.int .i64 NB.major, .int .i64 NB.minor, .slice qB kB jB, .slice aB lB.length cB]) := HC27_gB.out.below bq HC27_gB.out.lt
    have HC28_gC : Hid (CellsAt wb gC 27 #[.int .i64 NC.major, .int .i64 NC.minor, .slice qC kC jC, .slice aC lC.length cC]) := HC27_gC.out.below bq HC27_gC.out.lt
    have HC28_gX : Hid (CellsAt wb w9.heap.size 27 #[.int .i64 NA.major, .int .i64 NA.minor, .slice qX kX jX, .slice aX lX.length cX]) := HC27_gX.out.below bq HC27_gX.out.lt
    have HC28_gY : Hid (CellsAt wb (w9.heap.size + 1) 27 #[.int .i64 NB.major, .int .i64 NB.minor, .slice qY kY jY, .slice aY lY.length cY]) := HC27_gY.out.below bq HC27_gY.out.lt
    have HC28_gZ : Hid (CellsAt wb (w9.heap.size + 2) 27 #[.int .i64 NC.major, .int .i64 NC.minor, .slice qZ kZ jZ, .slice aZ lZ.length cZ]) := HC27_gZ.out.below bq HC27_gZ.out.lt
    have HR28_A : Hid (IsReg wb.heap.size wb (.agg #[.int .i64 NA.major, .int .i64 NA.minor, .slice qA kA jA, .slice aA lA.length cA]) NA lA) := (HR27_A.out.below bq).more bq.size
    have HR28_B : Hid (IsReg wb.heap.size wb (.agg #[.int .i64 NB.major, .int .i64 NB.minor, .slice qB kB jB, .slice aB lB.length cB]) NB lB) := (HR27_B.out.below bq).more bq.size
    have HR28_C : Hid (IsReg wb.heap.size wb (.agg #[.int .i64 NC.major, .int .i64 NC.minor, .slice qC kC jC, .slice aC lC.length cC]) NC lC) := (HR27_C.out.below bq).more bq.size
    have HR28_X : Hid (IsReg wb.heap.size wb (.agg #[.int .i64 NA.major, .int .i64 NA.minor, .slice qX kX jX, .slice aX lX.length cX]) NA lX) := (HR27_X.out.below bq).more bq.size
    have HR28_Y : Hid (IsReg wb.heap.size wb (.agg #[.int .i64 NB.major, .int .i64 NB.minor, .slice qY kY jY, .slice aY lY.length cY]) NB lY) := (HR27_Y.out.below bq).more bq.size
    have HR28_Z : Hid (IsReg wb.heap.size wb (.agg #[.int .i64 NC.major, .int .i64 NC.minor, .slice qZ kZ jZ, .slice aZ lZ.length cZ]) NC lZ) := (HR27_Z.out.below bq).more bq.size
    clear HB27 HC27_g1 HC27_g2 HC27_gA HC27_gB HC27_gC HC27_gX HC27_gY HC27_gZ HR27_A HR27_B HR27_C HR27_X HR27_Y HR27_Z
    clear bq
    have rgB0 := CellsAt.cell HC28_gB.out 0
    have rgB1 := CellsAt.cell HC28_gB.out 1
    have rgB2 := CellsAt.cell HC28_gB.out 2
    have rgB3 := CellsAt.cell HC28_gB.out 3
    have rgBl := CellsAt.lt HC28_gB.out
    simp at rgB0 rgB1 rgB2 rgB3
    have rgY0 := CellsAt.cell HC28_gY.out 0
    have rgY1 := CellsAt.cell HC28_gY.out 1
    have rgY2 := CellsAt.cell HC28_gY.out 2
    have rgY3 := CellsAt.cell HC28_gY.out 3
    have rgYl := CellsAt.lt HC28_gY.out
    simp at rgY0 rgY1 rgY2 rgY3
    go_wp2_with fail
    clear rgB0 rgB1 rgB2 rgB3 rgBl
    clear rgY0 rgY1 rgY2 rgY3 rgYl
    refine Calls.mono (HIB.out lB lY _ _ _ HGB.out HGY.out HR28_B.out HR28_Y.out) ?_
    rintro e wc ⟨rfl, bq⟩
    have HB29 : Hid (Below w.heap.size w wc) := HB28.out.trans (bq.mono HB28.out.size)
    have HC29_g1 : Hid (CellsAt wc w.heap.size 27 #[.int .i64 K.major, .int .i64 K.minor, .slice qe lk je, .slice a l.length cap]) := HC28_g1.out.below bq HC28_g1.out.lt
    have HC29_g2 : Hid (CellsAt wc (w.heap.size + 1) 31 #[.string M.name, .int .i64 M.major, .int .i64 M.minor, .string M.text, .slice pe le ke, .slice pi li ki, .slice pp lp kp]) := HC28_g2.out.below bq HC28_g2.out.lt
    have HC29_gA : Hid (CellsAt wc gA 27 #[.int .i64 NA.major, .int .i64 NA.minor, .slice qA kA jA, .slice aA lA.length cA]) := HC28_gA.out.below bq HC28_gA.out.lt
    have HC29_gB : Hid (CellsAt wc gB 27 #[.int .i64 NB.major, .int .i64 NB.minor, .slice qB kB jB, .slice aB lB.length cB]) := HC28_gB.out.below bq HC28_gB.out.lt
    have HC29_gC : Hid (CellsAt wc gC 27 #[.int .i64 NC.major, .int .i64 NC.minor, .slice qC kC jC, .slice aC lC.length cC]) := HC28_gC.out.below bq HC28_gC.out.lt
    have HC29_gX : Hid (CellsAt wc w9.heap.size 27 #[.int .i64 NA.major, .int .i64 NA.minor, .slice qX kX jX, .slice aX lX.length cX]) := HC28_gX.out.below bq HC28_gX.out.lt
    have HC29_gY : Hid (CellsAt wc (w9.heap.size + 1) 27 #[.int .i64 NB.major, .int .i64 NB.minor, .slice qY kY jY, .slice aY lY.length cY]) := HC28_gY.out.below bq HC28_gY.out.lt
    have HC29_gZ : Hid (CellsAt wc (w9.heap.size + 2) 27 #[.int .i64 NC.major, .int .i64 NC.minor, .slice qZ kZ jZ, .slice aZ lZ.length cZ]) := HC28_gZ.out.below bq HC28_gZ.out.lt
    have HR29_A : Hid (IsReg wc.heap.size wc (.agg #[.int .i64 NA.major, .int .i64 NA.minor, .slice qA kA jA, .slice aA lA.length cA]) NA lA) := (HR28_A.out.below bq).more bq.size
    have HR29_B : Hid (IsReg wc.heap.size wc (.agg #[.int .i64 NB.major, .int .i64 NB.minor, .slice qB kB jB, .slice aB lB.length cB]) NB lB) := (HR28_B.out.below bq).more bq.size
    have HR29_C : Hid (IsReg wc.heap.size wc (.agg #[.int .i64 NC.major, .int .i64 NC.minor, .slice qC kC jC, .slice aC lC.length cC]) NC lC) := (HR28_C.out.below bq).more bq.size
    have HR29_X : Hid (IsReg wc.heap.size wc (.agg #[.int .i64 NA.major, .int .i64 NA.minor, .slice qX kX jX, .slice aX lX.length cX]) NA lX) := (HR28_X.out.below bq).more bq.size
    have HR29_Y : Hid (IsReg wc.heap.size wc (.agg #[.int .i64 NB.major, .int .i64 NB.minor, .slice qY kY jY, .slice aY lY.length cY]) NB lY) := (HR28_Y.out.below bq).more bq.size
    have HR29_Z : Hid (IsReg wc.heap.size wc (.agg #[.int .i64 NC.major, .int .i64 NC.minor, .slice qZ kZ jZ, .slice aZ lZ.length cZ]) NC lZ) := (HR28_Z.out.below bq).more bq.size
    clear HB28 HC28_g1 HC28_g2 HC28_gA HC28_gB HC28_gC HC28_gX HC28_gY HC28_gZ HR28_A HR28_B HR28_C HR28_X HR28_Y HR28_Z
    clear bq
    have rgC0 := CellsAt.cell HC29_gC.out 0
    have rgC1 := CellsAt.cell HC29_gC.out 1
    have rgC2 := CellsAt.cell HC29_gC.out 2
    have rgC3 := CellsAt.cell HC29_gC.out 3
    have rgCl := CellsAt.lt HC29_gC.out
    simp at rgC0 rgC1 rgC2 rgC3
    have rgZ0 := CellsAt.cell HC29_gZ.out 0
    have rgZ1 := CellsAt.cell HC29_gZ.out 1
    have rgZ2 := CellsAt.cell HC29_gZ.out 2
    have rgZ3 := CellsAt.cell HC29_gZ.out 3
    have rgZl := CellsAt.lt HC29_gZ.out
    simp at rgZ0 rgZ1 rgZ2 rgZ3
    go_wp2_with fail
    clear rgC0 rgC1 rgC2 rgC3 rgCl
    clear rgZ0 rgZ1 rgZ2 rgZ3 rgZl
    refine Calls.mono (HIC.out lC lZ _ _ _ HGC.out HGZ.out HR29_C.out HR29_Z.out) ?_
    rintro e wd ⟨rfl, bq⟩
    have HB30 : Hid (Below w.heap.size w wd) := HB29.out.trans (bq.mono HB29.out.size)
    have HC30_g1 : Hid (CellsAt wd w.heap.size 27 #[.int .i64 K.major, .int .i64 K.minor, .slice qe lk je, .slice a l.length cap]) := HC29_g1.out.below bq HC29_g1.out.lt
    have HC30_g2 : Hid (CellsAt wd (w.heap.size + 1) 31 #[.string M.name, .int .i64 M.major, .int .i64 M.minor, .string M.text, .slice pe le ke, .slice pi li ki, .slice pp lp kp]) := HC29_g2.out.below bq HC29_g2.out.lt
    have HC30_gA : Hid (CellsAt wd gA 27 #[.int .i64 NA.major, .int .i64 NA.minor, .slice qA kA jA, .slice aA lA.length cA]) := HC29_gA.out.below bq HC29_gA.out.lt
    have HC30_gB : Hid (CellsAt wd gB 27 #[.int .i64 NB.major, .int .i64 NB.minor, .slice qB kB jB, .slice aB lB.length cB]) := HC29_gB.out.below bq HC29_gB.out.lt
    have HC30_gC : Hid (CellsAt wd gC 27 #[.int .i64 NC.major, .int .i64 NC.minor, .slice qC kC jC, .slice aC lC.length cC]) := HC29_gC.out.below bq HC29_gC.out.lt
    have HC30_gX : Hid (CellsAt wd w9.heap.size 27 #[.int .i64 NA.major, .int .i64 NA.minor, .slice qX kX jX, .slice aX lX.length cX]) := HC29_gX.out.below bq HC29_gX.out.lt
    have HC30_gY : Hid (CellsAt wd (w9.heap.size + 1) 27 #[.int .i64 NB.major, .int .i64 NB.minor, .slice qY kY jY, .slice aY lY.length cY]) := HC29_gY.out.below bq HC29_gY.out.lt
    have HC30_gZ : Hid (CellsAt wd (w9.heap.size + 2) 27 #[.int .i64 NC.major, .int .i64 NC.minor, .slice qZ kZ jZ, .slice aZ lZ.length cZ]) := HC29_gZ.out.below bq HC29_gZ.out.lt
    have HR30_A : Hid (IsReg wd.heap.size wd (.agg #[.int .i64 NA.major, .int .i64 NA.minor, .slice qA kA jA, .slice aA lA.length cA]) NA lA) := (HR29_A.out.below bq).more bq.size
    have HR30_B : Hid (IsReg wd.heap.size wd (.agg #[.int .i64 NB.major, .int .i64 NB.minor, .slice qB kB jB, .slice aB lB.length cB]) NB lB) := (HR29_B.out.below bq).more bq.size
    have HR30_C : Hid (IsReg wd.heap.size wd (.agg #[.int .i64 NC.major, .int .i64 NC.minor, .slice qC kC jC, .slice aC lC.length cC]) NC lC) := (HR29_C.out.below bq).more bq.size
    have HR30_X : Hid (IsReg wd.heap.size wd (.agg #[.int .i64 NA.major, .int .i64 NA.minor, .slice qX kX jX, .slice aX lX.length cX]) NA lX) := (HR29_X.out.below bq).more bq.size
    have HR30_Y : Hid (IsReg wd.heap.size wd (.agg #[.int .i64 NB.major, .int .i64 NB.minor, .slice qY kY jY, .slice aY lY.length cY]) NB lY) := (HR29_Y.out.below bq).more bq.size
    have HR30_Z : Hid (IsReg wd.heap.size wd (.agg #[.int .i64 NC.major, .int .i64 NC.minor, .slice qZ kZ jZ, .slice aZ lZ.length cZ]) NC lZ) := (HR29_Z.out.below bq).more bq.size
    clear HB29 HC29_g1 HC29_g2 HC29_gA HC29_gB HC29_gC HC29_gX HC29_gY HC29_gZ HR29_A HR29_B HR29_C HR29_X HR29_Y HR29_Z
    clear bq
    go_wp2
    go_ret
    exact ⟨rfl, HB30.out⟩
  · have hcr' : (cr == 0) = false := by simpa using hcr
    have hEA := HEA.out hcr
    injection hEA with hEA hfA
    injection hEA with hKA hLA
    subst hfA
    have HZX : Hid (IsReg w10.heap.size w10 (.agg #[.int .i64 0, .int .i64 0, .slice none 0 0, .slice none 0 0]) NA []) := by
      show IsReg _ _ _ NA []
      rw [hKA]
      exact zero_isReg _ _
    have HGX : Hid (([] : List PV).map PV.plc = LA) := hLA.symm
    clear hKA hLA
    have hEB := HEB.out hcr
    injection hEB with hEB hfB
    injection hEB with hKB hLB
    subst hfB
    have HZY : Hid (IsReg w10.heap.size w10 (.agg #[.int .i64 0, .int .i64 0, .slice none 0 0, .slice none 0 0]) NB []) := by
      show IsReg _ _ _ NB []
      rw [hKB]
      exact zero_isReg _ _
    have HGY : Hid (([] : List PV).map PV.plc = LB) := hLB.symm
    clear hKB hLB
    have hEC := HEC.out hcr
    injection hEC with hEC hfC
    injection hEC with hKC hLC
    subst hfC
    have HZZ : Hid (IsReg w10.heap.size w10 (.agg #[.int .i64 0, .int .i64 0, .slice none 0 0, .slice none 0 0]) NC []) := by
      show IsReg _ _ _ NC []
      rw [hKC]
      exact zero_isReg _ _
    have HGZ : Hid (([] : List PV).map PV.plc = LC) := hLC.symm
    clear hKC hLC
    clear HEA HEB HEC HOA HOB HOC
    have HPL : Hid (∀ W, Calls Tryz.prog 13 #[] W fun e w' => e = .returned (.bool true) ∧ Below W.heap.size W w') := planBegun_any
    go_wp2_with fail
    refine (HPL.out _).mono ?_
    rintro e wa ⟨rfl, ba⟩
    have HB21 : Hid (Below w.heap.size w wa) := HB19.out.trans (ba.mono HB19.out.size)
    have HC21_g1 : Hid (CellsAt wa w.heap.size 27 #[.int .i64 K.major, .int .i64 K.minor, .slice qe lk je, .slice a l.length cap]) := HC19_g1.out.below ba HC19_g1.out.lt
    have HC21_g2 : Hid (CellsAt wa (w.heap.size + 1) 31 #[.string M.name, .int .i64 M.major, .int .i64 M.minor, .string M.text, .slice pe le ke, .slice pi li ki, .slice pp lp kp]) := HC19_g2.out.below ba HC19_g2.out.lt
    have HC21_gA : Hid (CellsAt wa gA 27 #[.int .i64 NA.major, .int .i64 NA.minor, .slice qA kA jA, .slice aA lA.length cA]) := HC19_gA.out.below ba HC19_gA.out.lt
    have HC21_gB : Hid (CellsAt wa gB 27 #[.int .i64 NB.major, .int .i64 NB.minor, .slice qB kB jB, .slice aB lB.length cB]) := HC19_gB.out.below ba HC19_gB.out.lt
    have HC21_gC : Hid (CellsAt wa gC 27 #[.int .i64 NC.major, .int .i64 NC.minor, .slice qC kC jC, .slice aC lC.length cC]) := HC19_gC.out.below ba HC19_gC.out.lt
    have HC21_gX : Hid (CellsAt wa w9.heap.size 27 #[.int .i64 0, .int .i64 0, .slice none 0 0, .slice none 0 0]) := HC19_gX.out.below ba HC19_gX.out.lt
    have HC21_gY : Hid (CellsAt wa (w9.heap.size + 1) 27 #[.int .i64 0, .int .i64 0, .slice none 0 0, .slice none 0 0]) := HC19_gY.out.below ba HC19_gY.out.lt
    have HC21_gZ : Hid (CellsAt wa (w9.heap.size + 2) 27 #[.int .i64 0, .int .i64 0, .slice none 0 0, .slice none 0 0]) := HC20_gZ.out.below ba HC20_gZ.out.lt
    have HR21_A : Hid (IsReg wa.heap.size wa (.agg #[.int .i64 NA.major, .int .i64 NA.minor, .slice qA kA jA, .slice aA lA.length cA]) NA lA) := (HR19_A.out.below ba).more ba.size
    have HR21_B : Hid (IsReg wa.heap.size wa (.agg #[.int .i64 NB.major, .int .i64 NB.minor, .slice qB kB jB, .slice aB lB.length cB]) NB lB) := (HR19_B.out.below ba).more ba.size
    have HR21_C : Hid (IsReg wa.heap.size wa (.agg #[.int .i64 NC.major, .int .i64 NC.minor, .slice qC kC jC, .slice aC lC.length cC]) NC lC) := (HR19_C.out.below ba).more ba.size
    have HR21_X : Hid (IsReg wa.heap.size wa (.agg #[.int .i64 0, .int .i64 0, .slice none 0 0, .slice none 0 0]) NA []) := (HZX.out.below ba).more ba.size
    have HR21_Y : Hid (IsReg wa.heap.size wa (.agg #[.int .i64 0, .int .i64 0, .slice none 0 0, .slice none 0 0]) NB []) := (HZY.out.below ba).more ba.size
    have HR21_Z : Hid (IsReg wa.heap.size wa (.agg #[.int .i64 0, .int .i64 0, .slice none 0 0, .slice none 0 0]) NC []) := (HZZ.out.below ba).more ba.size
    clear HB19 HC19_g1 HC19_g2 HC19_gA HC19_gB HC19_gC HC19_gX HC19_gY HC20_gZ HR19_A HR19_B HR19_C HZX HZY HZZ
    clear ba HPL
    have rgA0 := CellsAt.cell HC21_gA.out 0
    have rgA1 := CellsAt.cell HC21_gA.out 1
    have rgA2 := CellsAt.cell HC21_gA.out 2
    have rgA3 := CellsAt.cell HC21_gA.out 3
    have rgAl := CellsAt.lt HC21_gA.out
    simp at rgA0 rgA1 rgA2 rgA3
    have rgX0 := CellsAt.cell HC21_gX.out 0
    have rgX1 := CellsAt.cell HC21_gX.out 1
    have rgX2 := CellsAt.cell HC21_gX.out 2
    have rgX3 := CellsAt.cell HC21_gX.out 3
    have rgXl := CellsAt.lt HC21_gX.out
    simp at rgX0 rgX1 rgX2 rgX3
    go_wp2_with fail
    clear rgA0 rgA1 rgA2 rgA3 rgAl
    clear rgX0 rgX1 rgX2 rgX3 rgXl
    refine Calls.mono (HIA.out lA [] _ _ _ HGA.out HGX.out HR21_A.out HR21_X.out) ?_
    rintro e wb ⟨rfl, bq⟩
    have HB22 : Hid (Below w.heap.size w wb) := HB21.out.trans (bq.mono HB21.out.size)
    have HC22_g1 : Hid (CellsAt wb w.heap.size 27 #[.int .i64 K.major, .int .i64 K.minor, .slice qe lk je, .slice a l.length cap]) := HC21_g1.out.below bq HC21_g1.out.lt
    have HC22_g2 : Hid (CellsAt wb (w.heap.size + 1) 31 #[.string M.name, .int .i64 M.major, .int .i64 M.minor, .string M.text, .slice pe le ke, .slice pi li ki, .slice pp lp kp]) := HC21_g2.out.below bq HC21_g2.out.lt
    have HC22_gA : Hid (CellsAt wb gA 27 #[.int .i64 NA.major, .int .i64 NA.minor, .slice qA kA jA, .slice aA lA.length cA]) := HC21_gA.out.below bq HC21_gA.out.lt
    have HC22_gB : Hid (CellsAt wb gB 27 #[.int .i64 NB.major, .int .i64 NB.minor, .slice qB kB jB, .slice aB lB.length cB]) := HC21_gB.out.below bq HC21_gB.out.lt
    have HC22_gC : Hid (CellsAt wb gC 27 #[.int .i64 NC.major, .int .i64 NC.minor, .slice qC kC jC, .slice aC lC.length cC]) := HC21_gC.out.below bq HC21_gC.out.lt
    have HC22_gX : Hid (CellsAt wb w9.heap.size 27 #[.int .i64 0, .int .i64 0, .slice none 0 0, .slice none 0 0]) := HC21_gX.out.below bq HC21_gX.out.lt
    have HC22_gY : Hid (CellsAt wb (w9.heap.size + 1) 27 #[.int .i64 0, .int .i64 0, .slice none 0 0, .slice none 0 0]) := HC21_gY.out.below bq HC21_gY.out.lt
    have HC22_gZ : Hid (CellsAt wb (w9.heap.size + 2) 27 #[.int .i64 0, .int .i64 0, .slice none 0 0, .slice none 0 0]) := HC21_gZ.out.below bq HC21_gZ.out.lt
    have HR22_A : Hid (IsReg wb.heap.size wb (.agg #[.int .i64 NA.major, .int .i64 NA.minor, .slice qA kA jA, .slice aA lA.length cA]) NA lA) := (HR21_A.out.below bq).more bq.size
    have HR22_B : Hid (IsReg wb.heap.size wb (.agg #[.int .i64 NB.major, .int .i64 NB.minor, .slice qB kB jB, .slice aB lB.length cB]) NB lB) := (HR21_B.out.below bq).more bq.size
    have HR22_C : Hid (IsReg wb.heap.size wb (.agg #[.int .i64 NC.major, .int .i64 NC.minor, .slice qC kC jC, .slice aC lC.length cC]) NC lC) := (HR21_C.out.below bq).more bq.size
    have HR22_X : Hid (IsReg wb.heap.size wb (.agg #[.int .i64 0, .int .i64 0, .slice none 0 0, .slice none 0 0]) NA []) := (HR21_X.out.below bq).more bq.size
    have HR22_Y : Hid (IsReg wb.heap.size wb (.agg #[.int .i64 0, .int .i64 0, .slice none 0 0, .slice none 0 0]) NB []) := (HR21_Y.out.below bq).more bq.size
    have HR22_Z : Hid (IsReg wb.heap.size wb (.agg #[.int .i64 0, .int .i64 0, .slice none 0 0, .slice none 0 0]) NC []) := (HR21_Z.out.below bq).more bq.size
    clear HB21 HC21_g1 HC21_g2 HC21_gA HC21_gB HC21_gC HC21_gX HC21_gY HC21_gZ HR21_A HR21_B HR21_C HR21_X HR21_Y HR21_Z
    clear bq
    have rgB0 := CellsAt.cell HC22_gB.out 0
    have rgB1 := CellsAt.cell HC22_gB.out 1
    have rgB2 := CellsAt.cell HC22_gB.out 2
    have rgB3 := CellsAt.cell HC22_gB.out 3
    have rgBl := CellsAt.lt HC22_gB.out
    simp at rgB0 rgB1 rgB2 rgB3
    have rgY0 := CellsAt.cell HC22_gY.out 0
    have rgY1 := CellsAt.cell HC22_gY.out 1
    have rgY2 := CellsAt.cell HC22_gY.out 2
    have rgY3 := CellsAt.cell HC22_gY.out 3
    have rgYl := CellsAt.lt HC22_gY.out
    simp at rgY0 rgY1 rgY2 rgY3
    go_wp2_with fail
    clear rgB0 rgB1 rgB2 rgB3 rgBl
    clear rgY0 rgY1 rgY2 rgY3 rgYl
    refine Calls.mono (HIB.out lB [] _ _ _ HGB.out HGY.out HR22_B.out HR22_Y.out) ?_
    rintro e wc ⟨rfl, bq⟩
    have HB23 : Hid (Below w.heap.size w wc) := HB22.out.trans (bq.mono HB22.out.size)
    have HC23_g1 : Hid (CellsAt wc w.heap.size 27 #[.int .i64 K.major, .int .i64 K.minor, .slice qe lk je, .slice a l.length cap]) := HC22_g1.out.below bq HC22_g1.out.lt
    have HC23_g2 : Hid (CellsAt wc (w.heap.size + 1) 31 #[.string M.name, .int .i64 M.major, .int .i64 M.minor, .string M.text, .slice pe le ke, .slice pi li ki, .slice pp lp kp]) := HC22_g2.out.below bq HC22_g2.out.lt
    have HC23_gA : Hid (CellsAt wc gA 27 #[.int .i64 NA.major, .int .i64 NA.minor, .slice qA kA jA, .slice aA lA.length cA]) := HC22_gA.out.below bq HC22_gA.out.lt
    have HC23_gB : Hid (CellsAt wc gB 27 #[.int .i64 NB.major, .int .i64 NB.minor, .slice qB kB jB, .slice aB lB.length cB]) := HC22_gB.out.below bq HC22_gB.out.lt
    have HC23_gC : Hid (CellsAt wc gC 27 #[.int .i64 NC.major, .int .i64 NC.minor, .slice qC kC jC, .slice aC lC.length cC]) := HC22_gC.out.below bq HC22_gC.out.lt
    have HC23_gX : Hid (CellsAt wc w9.heap.size 27 #[.int .i64 0, .int .i64 0, .slice none 0 0, .slice none 0 0]) := HC22_gX.out.below bq HC22_gX.out.lt
    have HC23_gY : Hid (CellsAt wc (w9.heap.size + 1) 27 #[.int .i64 0, .int .i64 0, .slice none 0 0, .slice none 0 0]) := HC22_gY.out.below bq HC22_gY.out.lt
    have HC23_gZ : Hid (CellsAt wc (w9.heap.size + 2) 27 #[.int .i64 0, .int .i64 0, .slice none 0 0, .slice none 0 0]) := HC22_gZ.out.below bq HC22_gZ.out.lt
    have HR23_A : Hid (IsReg wc.heap.size wc (.agg #[.int .i64 NA.major, .int .i64 NA.minor, .slice qA kA jA, .slice aA lA.length cA]) NA lA) := (HR22_A.out.below bq).more bq.size
    have HR23_B : Hid (IsReg wc.heap.size wc (.agg #[.int .i64 NB.major, .int .i64 NB.minor, .slice qB kB jB, .slice aB lB.length cB]) NB lB) := (HR22_B.out.below bq).more bq.size
    have HR23_C : Hid (IsReg wc.heap.size wc (.agg #[.int .i64 NC.major, .int .i64 NC.minor, .slice qC kC jC, .slice aC lC.length cC]) NC lC) := (HR22_C.out.below bq).more bq.size
    have HR23_X : Hid (IsReg wc.heap.size wc (.agg #[.int .i64 0, .int .i64 0, .slice none 0 0, .slice none 0 0]) NA []) := (HR22_X.out.below bq).more bq.size
    have HR23_Y : Hid (IsReg wc.heap.size wc (.agg #[.int .i64 0, .int .i64 0, .slice none 0 0, .slice none 0 0]) NB []) := (HR22_Y.out.below bq).more bq.size
    have HR23_Z : Hid (IsReg wc.heap.size wc (.agg #[.int .i64 0, .int .i64 0, .slice none 0 0, .slice none 0 0]) NC []) := (HR22_Z.out.below bq).more bq.size
    clear HB22 HC22_g1 HC22_g2 HC22_gA HC22_gB HC22_gC HC22_gX HC22_gY HC22_gZ HR22_A HR22_B HR22_C HR22_X HR22_Y HR22_Z
    clear bq
    have rgC0 := CellsAt.cell HC23_gC.out 0
    have rgC1 := CellsAt.cell HC23_gC.out 1
    have rgC2 := CellsAt.cell HC23_gC.out 2
    have rgC3 := CellsAt.cell HC23_gC.out 3
    have rgCl := CellsAt.lt HC23_gC.out
    simp at rgC0 rgC1 rgC2 rgC3
    have rgZ0 := CellsAt.cell HC23_gZ.out 0
    have rgZ1 := CellsAt.cell HC23_gZ.out 1
    have rgZ2 := CellsAt.cell HC23_gZ.out 2
    have rgZ3 := CellsAt.cell HC23_gZ.out 3
    have rgZl := CellsAt.lt HC23_gZ.out
    simp at rgZ0 rgZ1 rgZ2 rgZ3
    go_wp2_with fail
    clear rgC0 rgC1 rgC2 rgC3 rgCl
    clear rgZ0 rgZ1 rgZ2 rgZ3 rgZl
    refine Calls.mono (HIC.out lC [] _ _ _ HGC.out HGZ.out HR23_C.out HR23_Z.out) ?_
    rintro e wd ⟨rfl, bq⟩
    have HB24 : Hid (Below w.heap.size w wd) := HB23.out.trans (bq.mono HB23.out.size)
    have HC24_g1 : Hid (CellsAt wd w.heap.size 27 #[.int .i64 K.major, .int .i64 K.minor, .slice qe lk je, .slice a l.length cap]) := HC23_g1.out.below bq HC23_g1.out.lt
    have HC24_g2 : Hid (CellsAt wd (w.heap.size + 1) 31 #[.string M.name, .int .i64 M.major, .int .i64 M.minor, .string M.text, .slice pe le ke, .slice pi li ki, .slice pp lp kp]) := HC23_g2.out.below bq HC23_g2.out.lt
    have HC24_gA : Hid (CellsAt wd gA 27 #[.int .i64 NA.major, .int .i64 NA.minor, .slice qA kA jA, .slice aA lA.length cA]) := HC23_gA.out.below bq HC23_gA.out.lt
    have HC24_gB : Hid (CellsAt wd gB 27 #[.int .i64 NB.major, .int .i64 NB.minor, .slice qB kB jB, .slice aB lB.length cB]) := HC23_gB.out.below bq HC23_gB.out.lt
    have HC24_gC : Hid (CellsAt wd gC 27 #[.int .i64 NC.major, .int .i64 NC.minor, .slice qC kC jC, .slice aC lC.length cC]) := HC23_gC.out.below bq HC23_gC.out.lt
    have HC24_gX : Hid (CellsAt wd w9.heap.size 27 #[.int .i64 0, .int .i64 0, .slice none 0 0, .slice none 0 0]) := HC23_gX.out.below bq HC23_gX.out.lt
    have HC24_gY : Hid (CellsAt wd (w9.heap.size + 1) 27 #[.int .i64 0, .int .i64 0, .slice none 0 0, .slice none 0 0]) := HC23_gY.out.below bq HC23_gY.out.lt
    have HC24_gZ : Hid (CellsAt wd (w9.heap.size + 2) 27 #[.int .i64 0, .int .i64 0, .slice none 0 0, .slice none 0 0]) := HC23_gZ.out.below bq HC23_gZ.out.lt
    have HR24_A : Hid (IsReg wd.heap.size wd (.agg #[.int .i64 NA.major, .int .i64 NA.minor, .slice qA kA jA, .slice aA lA.length cA]) NA lA) := (HR23_A.out.below bq).more bq.size
    have HR24_B : Hid (IsReg wd.heap.size wd (.agg #[.int .i64 NB.major, .int .i64 NB.minor, .slice qB kB jB, .slice aB lB.length cB]) NB lB) := (HR23_B.out.below bq).more bq.size
    have HR24_C : Hid (IsReg wd.heap.size wd (.agg #[.int .i64 NC.major, .int .i64 NC.minor, .slice qC kC jC, .slice aC lC.length cC]) NC lC) := (HR23_C.out.below bq).more bq.size
    have HR24_X : Hid (IsReg wd.heap.size wd (.agg #[.int .i64 0, .int .i64 0, .slice none 0 0, .slice none 0 0]) NA []) := (HR23_X.out.below bq).more bq.size
    have HR24_Y : Hid (IsReg wd.heap.size wd (.agg #[.int .i64 0, .int .i64 0, .slice none 0 0, .slice none 0 0]) NB []) := (HR23_Y.out.below bq).more bq.size
    have HR24_Z : Hid (IsReg wd.heap.size wd (.agg #[.int .i64 0, .int .i64 0, .slice none 0 0, .slice none 0 0]) NC []) := (HR23_Z.out.below bq).more bq.size
    clear HB23 HC23_g1 HC23_g2 HC23_gA HC23_gB HC23_gC HC23_gX HC23_gY HC23_gZ HR23_A HR23_B HR23_C HR23_X HR23_Y HR23_Z
    clear bq
    go_wp2
    go_ret
    exact ⟨rfl, HB24.out⟩

end Go.Proofs.YtlpnfbpgnfappaaGreat.planTells

/- Arguments that came in: texts, numbers, rows, a patch. -/
namespace Go.Proofs.YtlpnfbpgnfappaaGreat
open Go.ChangeShapes Go.WideShapes Go.ChangeAt Go.RowKit Go.PlainAid Go.Deep

set_option maxRecDepth 100000

theorem list7 {α : Type} {l : List α} (h : l.length = 7) : ∃ a b c d e f g, l = [a, b, c, d, e, f, g] := by
  match l, h with
  | [a, b, c, d, e, f, g], _ => exact ⟨a, b, c, d, e, f, g, rfl⟩
theorem list4 {α : Type} {l : List α} (h : l.length = 4) : ∃ a b c d, l = [a, b, c, d] := by
  match l, h with
  | [a, b, c, d], _ => exact ⟨a, b, c, d, rfl⟩
theorem list2 {α : Type} {l : List α} (h : l.length = 2) : ∃ a b, l = [a, b] := by
  match l, h with
  | [a, b], _ => exact ⟨a, b, rfl⟩

section
variable {H : Type} {enc : TypeId × Value → H} {W : World} {spare : Nat → Bool} {held : Bool}

theorem row_of_trod {α : Type} [Inhabited α] {t e : TypeId} {sz fuel : Nat} {c : Value} {y : DataW H × List MemPlace} {cells : α → Nat → Value} {good : α → Prop} (ht : Tryz.prog.underlying t = some (.slice e)) (hsz : Tryz.prog.cellsOf e = sz) (h0 : 0 < sz)
    (conv : ∀ n cs z, cs.length = sz → DataW.trod enc Tryz.prog W 0 spare held n e cs = some z → ∃ x : α, (∀ i, i < sz → cs[i]? = some (cells x i)) ∧ good x)
    (h : DataW.trod enc Tryz.prog W 0 spare held fuel t [c] = some y) : ∃ l : List α, RowOf sz cells W.heap.size W c l ∧ ∀ x ∈ l, good x := by
  rcases open_slice ht h with ⟨hc, _⟩ | ⟨a, len, cap, m, n, D, Pl, hc, _, hl, hm, hmm, _, hx⟩
  · injection hc with hc
    subst hc
    exact ⟨[], ⟨none, 0, rfl, Nat.zero_le _, .inl rfl⟩, by simp⟩
  · injection hc with hc
    subst hc
    rw [hsz] at hx
    have hle : len ≤ m := by rw [hmm]; split <;> omega
    obtain ⟨X, hX⟩ := choose_lt (α := α) (n := len) (p := fun i x => (∀ j, j < sz → W.cell? (a.add (i * sz + j)) = some (cells x j)) ∧ good x) (fun i hi => by
      obtain ⟨cs', h1, h2⟩ := hx i (by omega)
      obtain ⟨_, hlen, hcell⟩ := World.cells?_some h1
      obtain ⟨x, hx1, hx2⟩ := conv n cs' _ hlen h2
      refine ⟨x, fun j hj => ?_, hx2⟩
      have h3 := hcell j hj
      rw [hx1 j hj] at h3
      have hadd : (a.add (i * sz)).add j = a.add (i * sz + j) ∨ W.cell? ((a.add (i * sz)).add j) = W.cell? (a.add (i * sz + j)) := by
        unfold Addr.add
        by_cases e1 : i * sz = 0
        · rw [if_pos e1, e1, Nat.zero_add]; exact .inl rfl
        · rw [if_neg e1]
          by_cases e2 : j = 0
          · rw [if_pos e2, e2, Nat.add_zero, if_neg e1]; exact .inl rfl
          · rw [if_neg e2, if_neg (by omega), Nat.add_assoc]; exact .inl rfl
      rcases hadd with hadd | hadd
      · rw [← hadd]; exact h3
      · rw [← hadd]; exact h3)
    refine ⟨(List.range len).map X, ⟨some a, cap, by simp, by simp; unfold maxLen at hm; omega, ?_⟩, ?_⟩
    · by_cases hz : len = 0
      · left
        subst hz
        rfl
      · right
        have hc0 := (hX 0 (by omega)).1 0 h0
        rw [Nat.zero_mul, Nat.zero_add] at hc0
        obtain ⟨b, off, spot⟩ := a
        have hsp : spot = none := by simpa [Addr.add] using World.cell?_spot hc0
        subst hsp
        refine ⟨b, off, rfl, ?_, fun j x hj i hi => ?_⟩
        · have := World.block_lt_of_cell? W _ hc0
          simpa [Addr.add] using this
        · have hjl : j < len := by
            have := (List.getElem?_eq_some_iff.1 hj).1
            simpa using this
          obtain rfl : X j = x := by
            rw [List.getElem?_map, List.getElem?_range hjl] at hj
            simpa using hj
          have h4 := (hX j hjl).1 i hi
          unfold Addr.add at h4
          by_cases e0 : j * sz + i = 0
          · rw [if_pos e0] at h4
            rw [Nat.add_assoc, e0]
            exact h4
          · rw [if_neg e0] at h4
            rw [Nat.add_assoc]
            exact h4
    · intro x hx
      obtain ⟨i, hi, rfl⟩ := List.mem_map.1 hx
      exact (hX i (by simpa using hi)).2

theorem str_of_trod {n : Nat} {c : Value} {y : DataW H × List MemPlace} (h : DataW.trod enc Tryz.prog W 0 spare held n 9 [c] = some y) : ∃ s : ByteArray, c = .string s ∧ s.size ≤ 9223372036854775807 := by
  obtain ⟨s, hc, _, hs⟩ := DataW.trod_string Tryz.underlying9 h
  injection hc with hc
  exact ⟨s, hc, hs⟩
theorem int_of_trod {n : Nat} {c : Value} {y : DataW H × List MemPlace} (h : DataW.trod enc Tryz.prog W 0 spare held n 3 [c] = some y) : ∃ k : Int, c = .int .i64 k := by
  obtain ⟨k, hc, _, _⟩ := DataW.trod_int Tryz.underlying3 h
  injection hc with hc
  exact ⟨k, hc⟩

theorem exp_of_trod (n : Nat) (cs : List Value) (z : DataW H × List MemPlace) (hl : cs.length = 2) (h : DataW.trod enc Tryz.prog W 0 spare held n 129 cs = some z) : ∃ x : Exp, (∀ i, i < 2 → cs[i]? = some (Exp.cell x i)) ∧ x.name.size ≤ 9223372036854775807 := by
  obtain ⟨xs, m, _, _, _, hlen, hf⟩ := DataW.trod_struct Tryz.underlying129 h
  obtain ⟨x0, x1, rfl⟩ := list2 hlen
  obtain ⟨c0, c1, rfl⟩ := list2 hl
  obtain ⟨s, rfl, hs⟩ := str_of_trod (hf 0 _ rfl)
  obtain ⟨k, rfl⟩ := int_of_trod (hf 1 _ rfl)
  refine ⟨⟨s, k⟩, fun i hi => ?_, hs⟩
  have : i = 0 ∨ i = 1 := by omega
  rcases this with rfl | rfl <;> rfl
theorem imp_of_trod (n : Nat) (cs : List Value) (z : DataW H × List MemPlace) (hl : cs.length = 4) (h : DataW.trod enc Tryz.prog W 0 spare held n 106 cs = some z) : ∃ x : Imp, (∀ i, i < 4 → cs[i]? = some (Imp.cell x i)) ∧ x.fits := by
  obtain ⟨xs, m, _, _, _, hlen, hf⟩ := DataW.trod_struct Tryz.underlying106 h
  obtain ⟨x0, x1, x2, x3, rfl⟩ := list4 hlen
  obtain ⟨c0, c1, c2, c3, rfl⟩ := list4 hl
  obtain ⟨s, rfl, hs⟩ := str_of_trod (hf 0 _ rfl)
  obtain ⟨t, rfl, ht⟩ := str_of_trod (hf 1 _ rfl)
  obtain ⟨k, rfl⟩ := int_of_trod (hf 2 _ rfl)
  obtain ⟨j, rfl⟩ := int_of_trod (hf 3 _ rfl)
  refine ⟨⟨s, t, k, j⟩, fun i hi => ?_, ⟨hs, ht⟩⟩
  have : i = 0 ∨ i = 1 ∨ i = 2 ∨ i = 3 := by omega
  rcases this with rfl | rfl | rfl | rfl <;> rfl
theorem pat_of_trod (n : Nat) (cs : List Value) (z : DataW H × List MemPlace) (hl : cs.length = 4) (h : DataW.trod enc Tryz.prog W 0 spare held n 113 cs = some z) : ∃ x : Pat, (∀ i, i < 4 → cs[i]? = some (Pat.cell x i)) ∧ True := by
  obtain ⟨xs, m, _, _, _, hlen, hf⟩ := DataW.trod_struct Tryz.underlying113 h
  obtain ⟨x0, x1, x2, x3, rfl⟩ := list4 hlen
  obtain ⟨c0, c1, c2, c3, rfl⟩ := list4 hl
  obtain ⟨a, rfl⟩ := int_of_trod (hf 0 _ rfl)
  obtain ⟨b, rfl⟩ := int_of_trod (hf 1 _ rfl)
  obtain ⟨k, rfl⟩ := int_of_trod (hf 2 _ rfl)
  obtain ⟨j, rfl⟩ := int_of_trod (hf 3 _ rfl)
  refine ⟨⟨a, b, k, j⟩, fun i hi => ?_, trivial⟩
  have : i = 0 ∨ i = 1 ∨ i = 2 ∨ i = 3 := by omega
  rcases this with rfl | rfl | rfl | rfl <;> rfl

end

end Go.Proofs.YtlpnfbpgnfappaaGreat

/- A module that came in. -/
namespace Go.Proofs.YtlpnfbpgnfappaaGreat
open Go.ChangeShapes Go.WideShapes Go.ChangeAt Go.RowKit Go.PlainAid Go.Deep

set_option maxRecDepth 100000

section
variable {H : Type} {enc : TypeId × Value → H} {W : World} {spare : Nat → Bool} {held : Bool}

theorem open_module {v : Value} {d : DataW H} {ps : List MemPlace} {base : Nat} (hv : Value.okWide Tryz.prog W .any base 31 v) (h : DataW.Trod enc Tryz.prog W 0 spare held 31 v d ps) : ∃ M, IsMod W.heap.size W v M ∧ M.fits := by
  obtain ⟨cs, rfl, hcs⟩ := okWide_struct Tryz.underlying31 hv
  obtain ⟨fuel, hf⟩ := h
  obtain ⟨xs, m, _, _, hl, hlen, hf⟩ := DataW.trod_struct Tryz.underlying31 hf
  have hc7 : Tryz.prog.cellsOf 31 = 7 := by kernel_rfl
  obtain ⟨x0, x1, x2, x3, x4, x5, x6, rfl⟩ := list7 hlen
  rw [hc7] at hl
  obtain ⟨c0, c1, c2, c3, c4, c5, c6, hcl⟩ := list7 hl
  have hcs' : cs.toList = [c0, c1, c2, c3, c4, c5, c6] := hcl
  have hcA : cs = #[c0, c1, c2, c3, c4, c5, c6] := by rw [← Array.toArray_toList (xs := cs), hcs']
  subst hcA
  have f0 := hf 0 _ rfl
  have f1 := hf 1 _ rfl
  have f2 := hf 2 _ rfl
  have f3 := hf 3 _ rfl
  have f4 := hf 4 _ rfl
  have f5 := hf 5 _ rfl
  have f6 := hf 6 _ rfl
  obtain ⟨N, rfl, hN⟩ := str_of_trod f0
  obtain ⟨a, rfl⟩ := int_of_trod f1
  obtain ⟨b, rfl⟩ := int_of_trod f2
  obtain ⟨T, rfl, hT⟩ := str_of_trod f3
  have _ : Inhabited Exp := ⟨⟨⟨#[]⟩, 0⟩⟩
  have _ : Inhabited Imp := ⟨⟨⟨#[]⟩, ⟨#[]⟩, 0, 0⟩⟩
  have _ : Inhabited Pat := ⟨⟨0, 0, 0, 0⟩⟩
  obtain ⟨es, hE, gE⟩ := row_of_trod (cells := Exp.cell) Tryz.underlying22 (sz := 2) (by kernel_rfl) (by decide) exp_of_trod f4
  obtain ⟨is, hI, gI⟩ := row_of_trod (cells := Imp.cell) Tryz.underlying28 (sz := 4) (by kernel_rfl) (by decide) imp_of_trod f5
  obtain ⟨ps, hP, _⟩ := row_of_trod (cells := Pat.cell) Tryz.underlying29 (sz := 4) (by kernel_rfl) (by decide) pat_of_trod f6
  exact ⟨⟨N, a, b, T, es, is, ps⟩, ⟨c4, c5, c6, rfl, hE, hI, hP⟩, hN, hT, gE, gI⟩
end

end Go.Proofs.YtlpnfbpgnfappaaGreat

/- Placed modules and imports that came in. -/
namespace Go.Proofs.YtlpnfbpgnfappaaGreat
open Go.ChangeShapes Go.WideShapes Go.ChangeAt Go.RowKit Go.PlainAid Go.Deep

set_option maxRecDepth 100000

theorem list3 {α : Type} {l : List α} (h : l.length = 3) : ∃ a b c, l = [a, b, c] := by
  match l, h with
  | [a, b, c], _ => exact ⟨a, b, c, rfl⟩
theorem list8 {α : Type} {l : List α} (h : l.length = 8) : ∃ a b c d e f g k, l = [a, b, c, d, e, f, g, k] := by
  match l, h with
  | [a, b, c, d, e, f, g, k], _ => exact ⟨a, b, c, d, e, f, g, k, rfl⟩

section
variable {H : Type} {enc : TypeId × Value → H} {W : World} {spare : Nat → Bool} {held : Bool}

theorem mod_of_trod (n : Nat) (c0 c1 c2 c3 c4 c5 c6 : Value) (z : DataW H × List MemPlace) (h : DataW.trod enc Tryz.prog W 0 spare held n 31 [c0, c1, c2, c3, c4, c5, c6] = some z) :
    ∃ M : Mod, c0 = .string M.name ∧ c1 = .int .i64 M.major ∧ c2 = .int .i64 M.minor ∧ c3 = .string M.text ∧ RowOf 2 Exp.cell W.heap.size W c4 M.exps ∧ RowOf 4 Imp.cell W.heap.size W c5 M.imps ∧ RowOf 4 Pat.cell W.heap.size W c6 M.pats ∧ M.fits := by
  obtain ⟨xs, m, _, _, _, hlen, hf⟩ := DataW.trod_struct Tryz.underlying31 h
  obtain ⟨x0, x1, x2, x3, x4, x5, x6, rfl⟩ := list7 hlen
  have f0 := hf 0 _ rfl
  have f1 := hf 1 _ rfl
  have f2 := hf 2 _ rfl
  have f3 := hf 3 _ rfl
  have f4 := hf 4 _ rfl
  have f5 := hf 5 _ rfl
  have f6 := hf 6 _ rfl
  obtain ⟨N, rfl, hN⟩ := str_of_trod f0
  obtain ⟨a, rfl⟩ := int_of_trod f1
  obtain ⟨b, rfl⟩ := int_of_trod f2
  obtain ⟨T, rfl, hT⟩ := str_of_trod f3
  have _ : Inhabited Exp := ⟨⟨⟨#[]⟩, 0⟩⟩
  have _ : Inhabited Imp := ⟨⟨⟨#[]⟩, ⟨#[]⟩, 0, 0⟩⟩
  have _ : Inhabited Pat := ⟨⟨0, 0, 0, 0⟩⟩
  obtain ⟨es, hE, gE⟩ := row_of_trod (cells := Exp.cell) Tryz.underlying22 (sz := 2) (by kernel_rfl) (by decide) exp_of_trod f4
  obtain ⟨is, hI, gI⟩ := row_of_trod (cells := Imp.cell) Tryz.underlying28 (sz := 4) (by kernel_rfl) (by decide) imp_of_trod f5
  obtain ⟨ps, hP, _⟩ := row_of_trod (cells := Pat.cell) Tryz.underlying29 (sz := 4) (by kernel_rfl) (by decide) pat_of_trod f6
  exact ⟨⟨N, a, b, T, es, is, ps⟩, rfl, rfl, rfl, rfl, hE, hI, hP, hN, hT, gE, gI⟩

theorem plc_of_trod (n : Nat) (cs : List Value) (z : DataW H × List MemPlace) (hl : cs.length = 8) (h : DataW.trod enc Tryz.prog W 0 spare held n 57 cs = some z) : ∃ x : PV, (∀ i, i < 8 → cs[i]? = some (PV.cell x i)) ∧ (PlcAt W.heap.size W x ∧ x.mod.fits) := by
  obtain ⟨xs, m, _, _, _, hlen, hf⟩ := DataW.trod_struct Tryz.underlying57 h
  obtain ⟨x0, x1, rfl⟩ := list2 hlen
  obtain ⟨c0, c1, c2, c3, c4, c5, c6, c7, rfl⟩ := list8 hl
  have h7 : Tryz.prog.cellsOf 31 = 7 := by kernel_rfl
  have f0 : DataW.trod enc Tryz.prog W 0 spare held m 31 (([c0, c1, c2, c3, c4, c5, c6, c7].drop 0).take (Tryz.prog.cellsOf 31)) = some x0 := hf 0 _ rfl
  rw [h7] at f0
  obtain ⟨M, rfl, rfl, rfl, rfl, hE, hI, hP, hF⟩ := mod_of_trod m c0 c1 c2 c3 c4 c5 c6 x0 f0
  obtain ⟨k, rfl⟩ := int_of_trod (hf 1 _ rfl)
  refine ⟨⟨M, c4, c5, c6, k⟩, fun i hi => ?_, ⟨hE, hI, hP⟩, hF⟩
  have : i = 0 ∨ i = 1 ∨ i = 2 ∨ i = 3 ∨ i = 4 ∨ i = 5 ∨ i = 6 ∨ i = 7 := by omega
  rcases this with rfl | rfl | rfl | rfl | rfl | rfl | rfl | rfl <;> rfl

end

end Go.Proofs.YtlpnfbpgnfappaaGreat

/- Kernels that came in. -/
namespace Go.Proofs.YtlpnfbpgnfappaaGreat
open Go.ChangeShapes Go.WideShapes Go.ChangeAt Go.RowKit Go.PlainAid Go.Deep

set_option maxRecDepth 100000

section
variable {H : Type} {enc : TypeId × Value → H} {W : World} {spare : Nat → Bool} {held : Bool}

end

end Go.Proofs.YtlpnfbpgnfappaaGreat

/- Registries that came in. -/
namespace Go.Proofs.YtlpnfbpgnfappaaGreat
open Go.ChangeShapes Go.WideShapes Go.ChangeAt Go.RowKit Go.PlainAid Go.Deep

set_option maxRecDepth 100000

section
variable {H : Type} {enc : TypeId × Value → H} {W : World} {spare : Nat → Bool} {held : Bool}

theorem open_registry {v : Value} {d : DataW H} {ps : List MemPlace} {base : Nat} (hv : Value.okWide Tryz.prog W .any base 27 v) (h : DataW.Trod enc Tryz.prog W 0 spare held 27 v d ps) : ∃ K l, IsReg W.heap.size W v K l ∧ K.fits ∧ ∀ x ∈ l, x.mod.fits := by
  obtain ⟨cs, rfl, hcs⟩ := okWide_struct Tryz.underlying27 hv
  obtain ⟨fuel, hf⟩ := h
  obtain ⟨xs, m, _, _, hl, hlen, hf⟩ := DataW.trod_struct Tryz.underlying27 hf
  have hc4 : Tryz.prog.cellsOf 27 = 4 := by kernel_rfl
  have hk3 : Tryz.prog.cellsOf 24 = 3 := by kernel_rfl
  obtain ⟨y0, y1, rfl⟩ := list2 hlen
  rw [hc4] at hl
  obtain ⟨c0, c1, c2, c3, hcl⟩ := list4 hl
  have hcs' : cs.toList = [c0, c1, c2, c3] := hcl
  have hcA : cs = #[c0, c1, c2, c3] := by rw [← Array.toArray_toList (xs := cs), hcs']
  subst hcA
  have g0 : DataW.trod enc Tryz.prog W 0 spare held m 24 (([c0, c1, c2, c3].drop 0).take (Tryz.prog.cellsOf 24)) = some y0 := hf 0 _ rfl
  rw [hk3] at g0
  have g1 := hf 1 _ rfl
  obtain ⟨zs, m2, _, _, _, hlen2, hf2⟩ := DataW.trod_struct Tryz.underlying24 g0
  obtain ⟨z0, z1, z2, rfl⟩ := list3 hlen2
  have f0 := hf2 0 _ rfl
  have f1 := hf2 1 _ rfl
  have f2 := hf2 2 _ rfl
  obtain ⟨a, rfl⟩ := int_of_trod f0
  obtain ⟨b, rfl⟩ := int_of_trod f1
  have _ : Inhabited Exp := ⟨⟨⟨#[]⟩, 0⟩⟩
  obtain ⟨es, hE, gE⟩ := row_of_trod (cells := Exp.cell) Tryz.underlying22 (sz := 2) (by kernel_rfl) (by decide) exp_of_trod f2
  have _ : Inhabited PV := ⟨⟨⟨⟨#[]⟩, 0, 0, ⟨#[]⟩, [], [], []⟩, .slice none 0 0, .slice none 0 0, .slice none 0 0, 0⟩⟩
  obtain ⟨l, hL, gL⟩ := row_of_trod (α := PV) (cells := PV.cell) (good := fun x => PlcAt W.heap.size W x ∧ x.mod.fits) Tryz.underlying25 (sz := 8) (by kernel_rfl) (by decide) plc_of_trod g1
  exact ⟨⟨a, b, es⟩, l, ⟨c2, c3, rfl, hE, hL, fun x hx => (gL x hx).1⟩, gE, fun x hx => (gL x hx).2⟩

end

end Go.Proofs.YtlpnfbpgnfappaaGreat
