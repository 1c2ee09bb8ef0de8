/- Texts that are laid together. -/
import Derived.Test.YtlpnfbpgnfappaaGreatMrgS
import Derived.Test.YtlpnfbpgnfappaaGreatMrgR
import Derived.Test.YtlpnfbpgnfappaaGreatMrgB
import Derived.ProofKit
import Derived.OpenShut
import Derived.ShutString
import Derived.ChangeOld
import Derived.SizedLaws
import Derived.Below
import Derived.Carry
import Derived.Deep.Slices
import Derived.Test.YtlpnfbpgnfappaaGreatMrgC

/- Behind packing there is no room only if all that is free is too little: as data. -/
namespace Go.Proofs.YtlpnfbpgnfappaaGreat
open Go.RowKit Go.PlainAid

theorem step_packed : ∀ (L : List Plc) (e : Int), stepFrom e (packFrom e L) = none
  | [], _ => rfl
  | p :: r, e => by
    have h1 : packFrom e (p :: r) = ⟨p.mod, e⟩ :: packFrom (e + szM p.mod) r := rfl
    rw [h1]
    have h2 : stepFrom e (⟨p.mod, e⟩ :: packFrom (e + szM p.mod) r) = if e = e then (stepFrom (e + szM p.mod) (packFrom (e + szM p.mod) r)).map ((⟨p.mod, e⟩ : Plc) :: ·) else some (⟨p.mod, e⟩ :: packFrom (e + szM p.mod) r) := rfl
    rw [h2, if_pos rfl, step_packed r]
    rfl
theorem sumSz_mods (L : List Plc) : sumSz L = ((L.map (·.mod)).map fun m => (szM m : Int)).sum := by
  unfold sumSz
  rw [List.map_map]
  rfl
theorem few_all {K : Ker} {L : List Plc} {M : Mod} (h0 : chkRg K L = 0) (h : (planRes K (packFrom 0 L) (instDo (packFrom 0 L) M)).2 = 8) : chkMod M = 0 ∧ sumRuns (runsFrom 0 L) < szM M := by
  obtain ⟨hc, hf⟩ := no_room (chk_pack _ L rfl h0) h
  have hs := szM_bd hc
  have h1 := packed_few (step_packed L 0) (by omega) hf
  have h2 := sum_runs L 0
  have h3 := sum_runs (packFrom 0 L) 0
  have h4 : sumSz (packFrom 0 L) = sumSz L := by rw [sumSz_mods, sumSz_mods, pack_mods]
  exact ⟨hc, by omega⟩
theorem sum_take (R : List (Int × Int)) (k : Nat) (x : Int × Int) (h : R[k]? = some x) : sumRuns (R.take (k + 1)) = sumRuns (R.take k) + x.2 := by
  have h1 : R.take (k + 1) = R.take k ++ [x] := by rw [List.take_add_one, h]; rfl
  unfold sumRuns
  rw [h1, List.map_append, List.sum_append]
  simp
theorem sum_bound {R : List (Int × Int)} (h : ∀ r ∈ R, 0 ≤ r.2 ∧ r.2 ≤ 100) : ∀ k, 0 ≤ sumRuns (R.take k) ∧ sumRuns (R.take k) ≤ 100 * k
  | 0 => by simp [sumRuns]
  | k + 1 => by
    have ih := sum_bound h k
    cases hx : R[k]? with
    | none =>
      have h1 : R.take (k + 1) = R.take k := by rw [List.take_add_one, hx]; simp
      rw [h1]
      omega
    | some x =>
      rw [sum_take R k x hx]
      have := h x (List.mem_of_getElem? hx)
      omega

end Go.Proofs.YtlpnfbpgnfappaaGreat

/- The walk of the law CompactRoom: it returns true. Printed by genpcr.py. -/
namespace Go.Proofs.YtlpnfbpgnfappaaGreat.compactRoom
open Go.RowKit Go.PlainAid Go.Lib Go.Sort

set_option maxRecDepth 100000

set_option maxHeartbeats 64000000 in
theorem walk (K : Ker) (l : List PV) (v : Value) (M : Mod) (vm : Value) (w : World) (h : IsReg w.heap.size w v K l) (hf : K.fits) (hfit : ∀ x ∈ l, x.mod.fits) (hm : IsMod w.heap.size w vm M) (hmf : M.fits) :
    Calls Tryz.prog 4 #[v, vm] w fun e w' => e = .returned (.bool true) ∧ Below w.heap.size w w' := by
  have HR0 : Hid (IsReg w.heap.size w v K l) := h
  have HM0 : Hid (IsMod w.heap.size w vm M) := hm
  have HPK : Hid (∀ W, IsReg W.heap.size W v K l → Calls Tryz.prog 17 #[v] W fun e w' => (∃ (v' : Value) (l' : List PV), e = .returned (.tuple #[v', .int .i64 ((packAns K (l.map PV.plc)).2.1 : Int), .int .i64 (packAns K (l.map PV.plc)).2.2]) ∧ l'.map PV.plc = (packAns K (l.map PV.plc)).1.2 ∧ (∀ x ∈ l', x.mod.fits) ∧ IsReg w'.heap.size w' v' (packAns K (l.map PV.plc)).1.1 l') ∧ Below W.heap.size W w') := fun W hr => by
    refine (compPack_any K l v W hr hf hfit).mono ?_
    rintro e w' ⟨⟨v', l', rfl, hp, hft, ho⟩, hb⟩
    exact ⟨⟨v', l', rfl, hp, hft, packAns_reg hp ho⟩, hb⟩
  have HPA : Hid ((chkRg K (l.map PV.plc) ≠ 0 ∧ packAns K (l.map PV.plc) = ((emptyK, []), 0, chkRg K (l.map PV.plc))) ∨ (chkRg K (l.map PV.plc) = 0 ∧ packAns K (l.map PV.plc) = ((K, packFrom 0 (l.map PV.plc)), offFrom 0 (l.map PV.plc), 0))) := by
    show _ ∨ _
    unfold packAns
    by_cases h0 : chkRg K (l.map PV.plc) = 0
    · exact .inr ⟨h0, if_pos h0⟩
    · exact .inl ⟨h0, if_neg h0⟩
  have HIN : Hid (∀ (l1 : List PV) v1 W, l1.map PV.plc = packFrom 0 (l.map PV.plc) → (∀ x ∈ l1, x.mod.fits) → IsReg W.heap.size W v1 K l1 → IsMod W.heap.size W vm M → Calls Tryz.prog 6 #[v1, vm] W fun e w' => (∃ (v' : Value) (KI : Ker) (l' : List PV), e = .returned (.tuple #[v', .int .i64 (planRes K (packFrom 0 (l.map PV.plc)) (instDo (packFrom 0 (l.map PV.plc)) M)).2]) ∧ IsReg w'.heap.size w' v' KI l') ∧ Below W.heap.size W w') := fun l1 v1 W h1 hft hr hM => by
    refine (plInstall_any K l1 v1 M vm W hr hf hft hM hmf).mono ?_
    rintro e w' ⟨⟨v', l', rfl, hp, _, ho⟩, hb⟩
    have hi := planRes_reg hp ho
    rw [h1] at hi ⊢
    exact ⟨⟨v', _, l', rfl, hi⟩, hb⟩
  have HFEW : Hid (chkRg K (l.map PV.plc) = 0 → (planRes K (packFrom 0 (l.map PV.plc)) (instDo (packFrom 0 (l.map PV.plc)) M)).2 = 8 → chkMod M = 0 ∧ sumRuns (runsFrom 0 (l.map PV.plc)) < szM M) := fun h0 h8 => few_all h0 h8
  have HSZ : Hid (chkMod M = 0 → ∀ W, IsMod W.heap.size W vm M → Calls Tryz.prog 18 #[vm] W fun e w' => e = .returned (.tuple #[.int .i64 (szM M : Int), .int .i64 0]) ∧ Below W.heap.size W w') := fun hc W hM => by
    have := size_any M vm W hM hmf
    rw [hc, if_pos rfl] at this
    exact this
  have HFR : Hid (chkRg K (l.map PV.plc) = 0 → ∀ vl W, IsPlcs W.heap.size W vl l → Calls Tryz.prog 19 #[vl] W fun e w' => (∃ r, e = .returned (.tuple #[r, .int .i64 0]) ∧ RowOf 2 runCell w'.heap.size w' r (runsFrom 0 (l.map PV.plc))) ∧ Below W.heap.size W w') := fun h0 vl W hp => by
    have hr := ((chkLink_zero (chkRg_zero h0).1).2.1)
    have := free_any l vl W hp hfit
    rw [hr] at this
    have e1 : freeRes (l.map PV.plc) = runsFrom 0 (l.map PV.plc) := by
      rcases freeRes_cases (l.map PV.plc) with ⟨g, _⟩ | ⟨_, _, _, g⟩
      · exact absurd hr g
      · exact g
    rw [e1] at this
    exact this
  have HBD : Hid (chkRg K (l.map PV.plc) = 0 → ∀ r ∈ runsFrom 0 (l.map PV.plc), 0 ≤ r.2 ∧ r.2 ≤ 100) := fun h0 r hr => (runs_bd (((chkLink_zero (chkRg_zero h0).1).2.1)) r hr).2.2
  have HRL : Hid (chkRg K (l.map PV.plc) = 0 → (runsFrom 0 (l.map PV.plc)).length ≤ 9) := fun h0 => by
    have h1 := runs_len (l.map PV.plc) 0
    have h2 : (l.map PV.plc).length ≤ 8 := by
      rcases freeRes_cases (l.map PV.plc) with ⟨g, _⟩ | ⟨_, g, _⟩
      · exact absurd (((chkLink_zero (chkRg_zero h0).1).2.1)) g
      · exact g
    omega
  obtain ⟨ve, vl, rfl, hE, hL⟩ := h
  have HPL : Hid (IsPlcs w.heap.size w vl l) := hL
  obtain ⟨qe, je, rfl, -, -⟩ := hE
  obtain ⟨⟨a, cap, rfl, -, -⟩, -⟩ := hL
  obtain ⟨vxe, vxi, vxp, rfl, hxE, hxI, hxP⟩ := hm
  obtain ⟨pe, ke, e4, -⟩ := hxE
  obtain ⟨pi, ki, e5, -⟩ := hxI
  obtain ⟨pp, kp, e6, -⟩ := hxP
  subst e4 e5 e6
  clear hf hfit hmf
  generalize K.exps.length = lk at *
  generalize M.exps.length = le at *
  generalize M.imps.length = li at *
  generalize M.pats.length = lp at *
  generalize planRes K (packFrom 0 (l.map PV.plc)) (instDo (packFrom 0 (l.map PV.plc)) M) = PI at *
  generalize packAns K (l.map PV.plc) = PA at *
  obtain ⟨⟨KP, LP⟩, nP, eP⟩ := PA
  dsimp only at *
  obtain ⟨nq, hnq⟩ : ∃ nq : Int, nq = (nP : Int) := ⟨_, rfl⟩
  rw [← hnq] at HPK
  clear hnq
  generalize chkRg K (l.map PV.plc) = cr at *
  generalize packFrom 0 (l.map PV.plc) = PP at *
  generalize runsFrom 0 (l.map PV.plc) = RR at *
  generalize offFrom 0 (l.map PV.plc) = oo at *
  have HB0 : Hid (Below w.heap.size w w) := Below.refl _ _
  go_enter Tryz.func4, Tryz.ntmps4
  have ba : Below w.heap.size w (w.alloc (.cells #[.int .i64 K.major, .int .i64 K.minor, .slice qe lk je, .slice a l.length cap] 27)) := (Below.refl _ _).alloc (Nat.le_refl _) _
  have olw_g1 : w.heap.size ≤ w.heap.size := HB0.out.size
  have HB1 : Hid (Below w.heap.size w (w.alloc (.cells #[.int .i64 K.major, .int .i64 K.minor, .slice qe lk je, .slice a l.length cap] 27))) := HB0.out.trans (ba.mono HB0.out.size)
  clear HB0
  clear ba
  have HC2_g1 : Hid (CellsAt (w.alloc (.cells #[.int .i64 K.major, .int .i64 K.minor, .slice qe lk je, .slice a l.length cap] 27)) w.heap.size 27 #[.int .i64 K.major, .int .i64 K.minor, .slice qe lk je, .slice a l.length cap]) := CellsAt.new _ _ _
  have ba : Below (w.alloc (.cells #[.int .i64 K.major, .int .i64 K.minor, .slice qe lk je, .slice a l.length cap] 27)).heap.size (w.alloc (.cells #[.int .i64 K.major, .int .i64 K.minor, .slice qe lk je, .slice a l.length cap] 27)) ((w.alloc (.cells #[.int .i64 K.major, .int .i64 K.minor, .slice qe lk je, .slice a l.length cap] 27)).alloc (.cells #[.string M.name, .int .i64 M.major, .int .i64 M.minor, .string M.text, .slice pe le ke, .slice pi li ki, .slice pp lp kp] 31)) := (Below.refl _ _).alloc (Nat.le_refl _) _
  have ol_g1_g2 : w.heap.size < (w.alloc (.cells #[.int .i64 K.major, .int .i64 K.minor, .slice qe lk je, .slice a l.length cap] 27)).heap.size := CellsAt.lt HC2_g1.out
  have olw_g2 : w.heap.size ≤ (w.alloc (.cells #[.int .i64 K.major, .int .i64 K.minor, .slice qe lk je, .slice a l.length cap] 27)).heap.size := HB1.out.size
  have HB3 : Hid (Below w.heap.size w ((w.alloc (.cells #[.int .i64 K.major, .int .i64 K.minor, .slice qe lk je, .slice a l.length cap] 27)).alloc (.cells #[.string M.name, .int .i64 M.major, .int .i64 M.minor, .string M.text, .slice pe le ke, .slice pi li ki, .slice pp lp kp] 31))) := HB1.out.trans (ba.mono HB1.out.size)
  have HC3_g1 : Hid (CellsAt ((w.alloc (.cells #[.int .i64 K.major, .int .i64 K.minor, .slice qe lk je, .slice a l.length cap] 27)).alloc (.cells #[.string M.name, .int .i64 M.major, .int .i64 M.minor, .string M.text, .slice pe le ke, .slice pi li ki, .slice pp lp kp] 31)) w.heap.size 27 #[.int .i64 K.major, .int .i64 K.minor, .slice qe lk je, .slice a l.length cap]) := HC2_g1.out.below ba HC2_g1.out.lt
  clear HB1 HC2_g1
  clear ba
  have HC4_g2 : Hid (CellsAt ((w.alloc (.cells #[.int .i64 K.major, .int .i64 K.minor, .slice qe lk je, .slice a l.length cap] 27)).alloc (.cells #[.string M.name, .int .i64 M.major, .int .i64 M.minor, .string M.text, .slice pe le ke, .slice pi li ki, .slice pp lp kp] 31)) (w.alloc (.cells #[.int .i64 K.major, .int .i64 K.minor, .slice qe lk je, .slice a l.length cap] 27)).heap.size 31 #[.string M.name, .int .i64 M.major, .int .i64 M.minor, .string M.text, .slice pe le ke, .slice pi li ki, .slice pp lp kp]) := CellsAt.new _ _ _
  rw [World.size_alloc] at HC4_g2
  clear ol_g1_g2 olw_g2 olw_g1
  go_wp2_with fail
  refine (compactBegun_any _).mono ?_
  generalize ((w.alloc (.cells #[.int .i64 K.major, .int .i64 K.minor, .slice qe lk je, .slice a l.length cap] 27)).alloc (.cells #[.string M.name, .int .i64 M.major, .int .i64 M.minor, .string M.text, .slice pe le ke, .slice pi li ki, .slice pp lp kp] 31)) = w2 at *
  rintro e w3 ⟨rfl, b3⟩
  have HB5 : Hid (Below w.heap.size w w3) := HB3.out.trans (b3.mono HB3.out.size)
  have HC5_g1 : Hid (CellsAt w3 w.heap.size 27 #[.int .i64 K.major, .int .i64 K.minor, .slice qe lk je, .slice a l.length cap]) := HC3_g1.out.below b3 HC3_g1.out.lt
  have HC5_g2 : Hid (CellsAt w3 (w.heap.size + 1) 31 #[.string M.name, .int .i64 M.major, .int .i64 M.minor, .string M.text, .slice pe le ke, .slice pi li ki, .slice pp lp kp]) := HC4_g2.out.below b3 HC4_g2.out.lt
  clear HB3 HC3_g1 HC4_g2
  clear b3
  go_wp2_with fail
  refine (planBegun_any _).mono ?_
  rintro e w4 ⟨rfl, b4⟩
  have HB6 : Hid (Below w.heap.size w w4) := HB5.out.trans (b4.mono HB5.out.size)
  have HC6_g1 : Hid (CellsAt w4 w.heap.size 27 #[.int .i64 K.major, .int .i64 K.minor, .slice qe lk je, .slice a l.length cap]) := HC5_g1.out.below b4 HC5_g1.out.lt
  have HC6_g2 : Hid (CellsAt w4 (w.heap.size + 1) 31 #[.string M.name, .int .i64 M.major, .int .i64 M.minor, .string M.text, .slice pe le ke, .slice pi li ki, .slice pp lp kp]) := HC5_g2.out.below b4 HC5_g2.out.lt
  clear HB5 HC5_g1 HC5_g2
  clear b4
  go_wp2_with fail
  refine (regionBegun_any _).mono ?_
  rintro e w5 ⟨rfl, b5⟩
  have HB7 : Hid (Below w.heap.size w w5) := HB6.out.trans (b5.mono HB6.out.size)
  have HC7_g1 : Hid (CellsAt w5 w.heap.size 27 #[.int .i64 K.major, .int .i64 K.minor, .slice qe lk je, .slice a l.length cap]) := HC6_g1.out.below b5 HC6_g1.out.lt
  have HC7_g2 : Hid (CellsAt w5 (w.heap.size + 1) 31 #[.string M.name, .int .i64 M.major, .int .i64 M.minor, .string M.text, .slice pe le ke, .slice pi li ki, .slice pp lp kp]) := HC6_g2.out.below b5 HC6_g2.out.lt
  clear HB6 HC6_g1 HC6_g2
  clear b5
  have rg10 := CellsAt.cell HC7_g1.out 0
  have rg11 := CellsAt.cell HC7_g1.out 1
  have rg12 := CellsAt.cell HC7_g1.out 2
  have rg13 := CellsAt.cell HC7_g1.out 3
  have rg1l := CellsAt.lt HC7_g1.out
  simp at rg10 rg11 rg12 rg13
  go_wp2_with fail
  clear rg10 rg11 rg12 rg13 rg1l
  refine Calls.mono (HPK.out _ ((HR0.out.below HB7.out).more HB7.out.size)) ?_
  rintro e w6 ⟨⟨vb, lb, rfl, hpb, hfb, hib⟩, bb⟩
  have HB8 : Hid (Below w.heap.size w w6) := HB7.out.trans (bb.mono HB7.out.size)
  have HC8_g1 : Hid (CellsAt w6 w.heap.size 27 #[.int .i64 K.major, .int .i64 K.minor, .slice qe lk je, .slice a l.length cap]) := HC7_g1.out.below bb HC7_g1.out.lt
  have HC8_g2 : Hid (CellsAt w6 (w.heap.size + 1) 31 #[.string M.name, .int .i64 M.major, .int .i64 M.minor, .string M.text, .slice pe le ke, .slice pi li ki, .slice pp lp kp]) := HC7_g2.out.below bb HC7_g2.out.lt
  clear HB7 HC7_g1 HC7_g2
  obtain ⟨qb, jb, ab, cb, rfl⟩ := hib.shape0
  generalize hkb : KP.exps.length = kb at *
  have HFB : Hid (∀ x ∈ lb, x.mod.fits) := hfb
  have HPB : Hid (lb.map PV.plc = LP) := hpb
  have HKB : Hid (KP.exps.length = kb) := hkb
  have HRN : Hid (IsReg w6.heap.size w6 (.agg #[.int .i64 KP.major, .int .i64 KP.minor, .slice qb kb jb, .slice ab lb.length cb]) KP lb) := hib
  clear bb hib hpb hfb hkb HPK
  have ba : Below w6.heap.size w6 (w6.alloc (.cells #[.int .i64 KP.major, .int .i64 KP.minor, .slice qb kb jb, .slice ab lb.length cb] 27)) := (Below.refl _ _).alloc (Nat.le_refl _) _
  have ol_g1_gb : w.heap.size < w6.heap.size := CellsAt.lt HC8_g1.out
  have ol_g2_gb : (w.heap.size + 1) < w6.heap.size := CellsAt.lt HC8_g2.out
  have olw_gb : w.heap.size ≤ w6.heap.size := HB8.out.size
  have HB9 : Hid (Below w.heap.size w (w6.alloc (.cells #[.int .i64 KP.major, .int .i64 KP.minor, .slice qb kb jb, .slice ab lb.length cb] 27))) := HB8.out.trans (ba.mono HB8.out.size)
  have HC9_g1 : Hid (CellsAt (w6.alloc (.cells #[.int .i64 KP.major, .int .i64 KP.minor, .slice qb kb jb, .slice ab lb.length cb] 27)) w.heap.size 27 #[.int .i64 K.major, .int .i64 K.minor, .slice qe lk je, .slice a l.length cap]) := HC8_g1.out.below ba HC8_g1.out.lt
  have HC9_g2 : Hid (CellsAt (w6.alloc (.cells #[.int .i64 KP.major, .int .i64 KP.minor, .slice qb kb jb, .slice ab lb.length cb] 27)) (w.heap.size + 1) 31 #[.string M.name, .int .i64 M.major, .int .i64 M.minor, .string M.text, .slice pe le ke, .slice pi li ki, .slice pp lp kp]) := HC8_g2.out.below ba HC8_g2.out.lt
  have HR9_b : Hid (IsReg (w6.alloc (.cells #[.int .i64 KP.major, .int .i64 KP.minor, .slice qb kb jb, .slice ab lb.length cb] 27)).heap.size (w6.alloc (.cells #[.int .i64 KP.major, .int .i64 KP.minor, .slice qb kb jb, .slice ab lb.length cb] 27)) (.agg #[.int .i64 KP.major, .int .i64 KP.minor, .slice qb kb jb, .slice ab lb.length cb]) KP lb) := (HRN.out.below ba).more ba.size
  clear HB8 HC8_g1 HC8_g2 HRN
  clear ba
  have HC10_gb : Hid (CellsAt (w6.alloc (.cells #[.int .i64 KP.major, .int .i64 KP.minor, .slice qb kb jb, .slice ab lb.length cb] 27)) w6.heap.size 27 #[.int .i64 KP.major, .int .i64 KP.minor, .slice qb kb jb, .slice ab lb.length cb]) := CellsAt.new _ _ _
  go_upto_region 4 with fail
  generalize (w6.alloc (.cells #[.int .i64 KP.major, .int .i64 KP.minor, .slice qb kb jb, .slice ab lb.length cb] 27)) = w7 at *
  generalize w6.heap.size = gb at *
  rcases HPA.out with ⟨hcr, hpa⟩ | ⟨hcr, hpa⟩
  · injection hpa with h1 h2
    injection h1 with h3 h4
    injection h2 with h5 h6
    have hlb : lb = [] := List.map_eq_nil_iff.1 (HPB.out.trans h4)
    subst h6 hlb
    have hcr' : (eP != 0) = true := by simpa using hcr
    clear h3 h4 h5 HPA
    simp only [List.length_nil] at *
    have rgb0 := CellsAt.cell HC10_gb.out 0
    have rgb1 := CellsAt.cell HC10_gb.out 1
    have rgb2 := CellsAt.cell HC10_gb.out 2
    have rgb3 := CellsAt.cell HC10_gb.out 3
    have rgbl := CellsAt.lt HC10_gb.out
    simp at rgb0 rgb1 rgb2 rgb3
    go_wp2
    go_ret
    exact ⟨rfl, HB9.out⟩
  · injection hpa with h1 h2
    injection h1 with h3 h4
    injection h2 with h5 h6
    have hcr2 := hcr
    replace h3 := h3.symm
    replace h4 := h4.symm
    subst h6 h3 h4
    clear h5 hcr2 HPA
    have rg20 := CellsAt.cell HC9_g2.out 0
    have rg21 := CellsAt.cell HC9_g2.out 1
    have rg22 := CellsAt.cell HC9_g2.out 2
    have rg23 := CellsAt.cell HC9_g2.out 3
    have rg24 := CellsAt.cell HC9_g2.out 4
    have rg25 := CellsAt.cell HC9_g2.out 5
    have rg26 := CellsAt.cell HC9_g2.out 6
    have rg2l := CellsAt.lt HC9_g2.out
    simp at rg20 rg21 rg22 rg23 rg24 rg25 rg26
    have rgb0 := CellsAt.cell HC10_gb.out 0
    have rgb1 := CellsAt.cell HC10_gb.out 1
    have rgb2 := CellsAt.cell HC10_gb.out 2
    have rgb3 := CellsAt.cell HC10_gb.out 3
    have rgbl := CellsAt.lt HC10_gb.out
    simp at rgb0 rgb1 rgb2 rgb3
    go_wp2_with fail
    clear rg20 rg21 rg22 rg23 rg24 rg25 rg26 rg2l
    clear rgb0 rgb1 rgb2 rgb3 rgbl
    refine Calls.mono (HIN.out lb _ _ HPB.out HFB.out HR9_b.out ((HM0.out.below HB9.out).more HB9.out.size)) ?_
    rintro e w8 ⟨⟨vi, KI, ii, rfl, hii⟩, bi⟩
    have HB11 : Hid (Below w.heap.size w w8) := HB9.out.trans (bi.mono HB9.out.size)
    have HC11_g1 : Hid (CellsAt w8 w.heap.size 27 #[.int .i64 K.major, .int .i64 K.minor, .slice qe lk je, .slice a l.length cap]) := HC9_g1.out.below bi HC9_g1.out.lt
    have HC11_g2 : Hid (CellsAt w8 (w.heap.size + 1) 31 #[.string M.name, .int .i64 M.major, .int .i64 M.minor, .string M.text, .slice pe le ke, .slice pi li ki, .slice pp lp kp]) := HC9_g2.out.below bi HC9_g2.out.lt
    have HC11_gb : Hid (CellsAt w8 gb 27 #[.int .i64 K.major, .int .i64 K.minor, .slice qb kb jb, .slice ab lb.length cb]) := HC10_gb.out.below bi HC10_gb.out.lt
    have HR11_b : Hid (IsReg w8.heap.size w8 (.agg #[.int .i64 K.major, .int .i64 K.minor, .slice qb kb jb, .slice ab lb.length cb]) K lb) := (HR9_b.out.below bi).more bi.size
    clear HB9 HC9_g1 HC9_g2 HC10_gb HR9_b
    obtain ⟨qi, ji, ai, ci, rfl⟩ := hii.shape0
    generalize hki : KI.exps.length = kki at *
    clear bi hii hki HIN
    have ba : Below w8.heap.size w8 (w8.alloc (.cells #[.int .i64 KI.major, .int .i64 KI.minor, .slice qi kki ji, .slice ai ii.length ci] 27)) := (Below.refl _ _).alloc (Nat.le_refl _) _
    have ol_g1_gi : w.heap.size < w8.heap.size := CellsAt.lt HC11_g1.out
    have ol_g2_gi : (w.heap.size + 1) < w8.heap.size := CellsAt.lt HC11_g2.out
    have ol_gb_gi : gb < w8.heap.size := CellsAt.lt HC11_gb.out
    have olw_gi : w.heap.size ≤ w8.heap.size := HB11.out.size
    have HB12 : Hid (Below w.heap.size w (w8.alloc (.cells #[.int .i64 KI.major, .int .i64 KI.minor, .slice qi kki ji, .slice ai ii.length ci] 27))) := HB11.out.trans (ba.mono HB11.out.size)
    have HC12_g1 : Hid (CellsAt (w8.alloc (.cells #[.int .i64 KI.major, .int .i64 KI.minor, .slice qi kki ji, .slice ai ii.length ci] 27)) w.heap.size 27 #[.int .i64 K.major, .int .i64 K.minor, .slice qe lk je, .slice a l.length cap]) := HC11_g1.out.below ba HC11_g1.out.lt
    have HC12_g2 : Hid (CellsAt (w8.alloc (.cells #[.int .i64 KI.major, .int .i64 KI.minor, .slice qi kki ji, .slice ai ii.length ci] 27)) (w.heap.size + 1) 31 #[.string M.name, .int .i64 M.major, .int .i64 M.minor, .string M.text, .slice pe le ke, .slice pi li ki, .slice pp lp kp]) := HC11_g2.out.below ba HC11_g2.out.lt
    have HC12_gb : Hid (CellsAt (w8.alloc (.cells #[.int .i64 KI.major, .int .i64 KI.minor, .slice qi kki ji, .slice ai ii.length ci] 27)) gb 27 #[.int .i64 K.major, .int .i64 K.minor, .slice qb kb jb, .slice ab lb.length cb]) := HC11_gb.out.below ba HC11_gb.out.lt
    have HR12_b : Hid (IsReg (w8.alloc (.cells #[.int .i64 KI.major, .int .i64 KI.minor, .slice qi kki ji, .slice ai ii.length ci] 27)).heap.size (w8.alloc (.cells #[.int .i64 KI.major, .int .i64 KI.minor, .slice qi kki ji, .slice ai ii.length ci] 27)) (.agg #[.int .i64 K.major, .int .i64 K.minor, .slice qb kb jb, .slice ab lb.length cb]) K lb) := (HR11_b.out.below ba).more ba.size
    clear HB11 HC11_g1 HC11_g2 HC11_gb HR11_b
    clear ba
    have HC13_gi : Hid (CellsAt (w8.alloc (.cells #[.int .i64 KI.major, .int .i64 KI.minor, .slice qi kki ji, .slice ai ii.length ci] 27)) w8.heap.size 27 #[.int .i64 KI.major, .int .i64 KI.minor, .slice qi kki ji, .slice ai ii.length ci]) := CellsAt.new _ _ _
    go_upto_region 7 with fail
    generalize (w8.alloc (.cells #[.int .i64 KI.major, .int .i64 KI.minor, .slice qi kki ji, .slice ai ii.length ci] 27)) = w9 at *
    generalize w8.heap.size = gi at *
    have HFW := HFEW.out hcr
    generalize PI.2 = eI at *
    by_cases h8 : eI = 8
    · obtain ⟨hc, hlt⟩ := HFW h8
      subst h8
      clear HFW
      have HLT : Hid (sumRuns RR < (szM M : Int)) := hlt
      clear hlt
      have hbd := HBD.out hcr
      have HBD2 : Hid (∀ r ∈ RR, 0 ≤ r.2 ∧ r.2 ≤ 100) := hbd
      have hrl := HRL.out hcr
      clear hbd HBD HRL
      have rg20 := CellsAt.cell HC12_g2.out 0
      have rg21 := CellsAt.cell HC12_g2.out 1
      have rg22 := CellsAt.cell HC12_g2.out 2
      have rg23 := CellsAt.cell HC12_g2.out 3
      have rg24 := CellsAt.cell HC12_g2.out 4
      have rg25 := CellsAt.cell HC12_g2.out 5
      have rg26 := CellsAt.cell HC12_g2.out 6
      have rg2l := CellsAt.lt HC12_g2.out
      simp at rg20 rg21 rg22 rg23 rg24 rg25 rg26
      go_wp2_with fail
      clear rg20 rg21 rg22 rg23 rg24 rg25 rg26 rg2l
      refine Calls.mono (HSZ.out hc _ ((HM0.out.below HB12.out).more HB12.out.size)) ?_
      rintro e wa ⟨rfl, ba⟩
      have HB14 : Hid (Below w.heap.size w wa) := HB12.out.trans (ba.mono HB12.out.size)
      have HC14_g1 : Hid (CellsAt wa w.heap.size 27 #[.int .i64 K.major, .int .i64 K.minor, .slice qe lk je, .slice a l.length cap]) := HC12_g1.out.below ba HC12_g1.out.lt
      have HC14_g2 : Hid (CellsAt wa (w.heap.size + 1) 31 #[.string M.name, .int .i64 M.major, .int .i64 M.minor, .string M.text, .slice pe le ke, .slice pi li ki, .slice pp lp kp]) := HC12_g2.out.below ba HC12_g2.out.lt
      have HC14_gb : Hid (CellsAt wa gb 27 #[.int .i64 K.major, .int .i64 K.minor, .slice qb kb jb, .slice ab lb.length cb]) := HC12_gb.out.below ba HC12_gb.out.lt
      have HC14_gi : Hid (CellsAt wa gi 27 #[.int .i64 KI.major, .int .i64 KI.minor, .slice qi kki ji, .slice ai ii.length ci]) := HC13_gi.out.below ba HC13_gi.out.lt
      have HR14_b : Hid (IsReg wa.heap.size wa (.agg #[.int .i64 K.major, .int .i64 K.minor, .slice qb kb jb, .slice ab lb.length cb]) K lb) := (HR12_b.out.below ba).more ba.size
      clear HB12 HC12_g1 HC12_g2 HC12_gb HC13_gi HR12_b
      clear ba
      have rg10 := CellsAt.cell HC14_g1.out 0
      have rg11 := CellsAt.cell HC14_g1.out 1
      have rg12 := CellsAt.cell HC14_g1.out 2
      have rg13 := CellsAt.cell HC14_g1.out 3
      have rg1l := CellsAt.lt HC14_g1.out
      simp at rg10 rg11 rg12 rg13
      go_wp2_with fail
      clear rg10 rg11 rg12 rg13 rg1l
      refine Calls.mono (HFR.out hcr _ _ ((HPL.out.below HB14.out).more HB14.out.size)) ?_
      rintro e wb ⟨⟨r, rfl, hrow⟩, bb⟩
      have HB15 : Hid (Below w.heap.size w wb) := HB14.out.trans (bb.mono HB14.out.size)
      have HC15_g1 : Hid (CellsAt wb w.heap.size 27 #[.int .i64 K.major, .int .i64 K.minor, .slice qe lk je, .slice a l.length cap]) := HC14_g1.out.below bb HC14_g1.out.lt
      have HC15_g2 : Hid (CellsAt wb (w.heap.size + 1) 31 #[.string M.name, .int .i64 M.major, .int .i64 M.minor, .string M.text, .slice pe le ke, .slice pi li ki, .slice pp lp kp]) := HC14_g2.out.below bb HC14_g2.out.lt
      have HC15_gb : Hid (CellsAt wb gb 27 #[.int .i64 K.major, .int .i64 K.minor, .slice qb kb jb, .slice ab lb.length cb]) := HC14_gb.out.below bb HC14_gb.out.lt
      have HC15_gi : Hid (CellsAt wb gi 27 #[.int .i64 KI.major, .int .i64 KI.minor, .slice qi kki ji, .slice ai ii.length ci]) := HC14_gi.out.below bb HC14_gi.out.lt
      have HR15_b : Hid (IsReg wb.heap.size wb (.agg #[.int .i64 K.major, .int .i64 K.minor, .slice qb kb jb, .slice ab lb.length cb]) K lb) := (HR14_b.out.below bb).more bb.size
      clear HB14 HC14_g1 HC14_g2 HC14_gb HC14_gi HR14_b
      clear bb
      obtain ⟨fa, fc, rfl, -, hrow⟩ := hrow
      clear hcr hc
      go_upto_region 13 with fail
      go_loopw [13, 14] (fun q i wr => ∃ (k : Nat), k ≤ RR.length ∧ q = .int .i64 (sumRuns (RR.take k)) ∧ i = .int .i64 k ∧ Hid (Below w.heap.size w wr) ∧ Hid (Below wb.heap.size wb wr)) (fun _ i _ => RR.length - (intOf i).toNat)
      case atStart => exact ⟨0, Nat.zero_le _, rfl, rfl, HB15, Below.refl _ _⟩
      case round =>
        obtain ⟨k, hk, rfl, rfl, HBr, HBr2⟩ := hrel
        have hsb := sum_bound HBD2.out k
        by_cases hlt : k < RR.length
        · obtain ⟨x, hx⟩ : ∃ x, RR[k]? = some x := ⟨_, List.getElem?_eq_getElem hlt⟩
          rcases hrow with h | ⟨bf, of, rfl, hbn, hcells⟩
          · subst h; simp at hlt
          have c1 := (HBr2.out.cell (p := ⟨bf, of + k * 2 + 1, none⟩) hbn).trans (hcells k x hx 1 (by omega))
          dsimp only [runCell] at c1
          have hxb := HBD2.out x (List.mem_of_getElem? hx)
          have HST : Hid _ := sum_take RR k x hx
          have hkl : (k : Int) < (RR.length : Int) := by omega
          generalize hsk : sumRuns (RR.take k) = sk at *
          have hw : wrap64 (sk + x.2) = sk + x.2 := by unfold wrap64; omega
          have hw2 : IntKind.i64.wrap (sk + x.2) = sk + x.2 := by rw [IntKind.wrap_i64]; omega
          clear hcells hx hsk
          go_wp2_with fail
          refine ⟨⟨k + 1, by omega, ?_, by go_num, HBr, HBr2⟩, by simp [intOf]; omega⟩
          first | rw [HST.out] | (rw [HST.out]; go_num)
        · obtain rfl : k = RR.length := by omega
          rw [List.take_length] at hsb
          simp only [List.take_length]
          have hlt2 : ¬ ((RR.length : Int) < (RR.length : Int)) := by omega
          have hfin : decide (sumRuns RR < (szM M : Int)) = true := decide_eq_true HLT.out
          have hfin2 := HLT.out
          go_wp2
          go_ret
          exact ⟨rfl, HBr.out⟩
    · have h8' : (eI != 8) = true := by simpa using h8
      clear HFW
      go_wp2
      go_ret
      exact ⟨rfl, HB12.out⟩

end Go.Proofs.YtlpnfbpgnfappaaGreat.compactRoom

/- Arguments that came in: texts, numbers, rows, a patch. -/
namespace Go.Proofs.YtlpnfbpgnfappaaGreat
open Go.ChangeShapes Go.WideShapes Go.ChangeAt Go.RowKit Go.PlainAid Go.Deep

set_option maxRecDepth 100000

theorem list7 {α : Type} {l : List α} (h : l.length = 7) : ∃ a b c d e f g, l = [a, b, c, d, e, f, g] := by
  match l, h with
  | [a, b, c, d, e, f, g], _ => exact ⟨a, b, c, d, e, f, g, rfl⟩
theorem list4 {α : Type} {l : List α} (h : l.length = 4) : ∃ a b c d, l = [a, b, c, d] := by
  match l, h with
  | [a, b, c, d], _ => exact ⟨a, b, c, d, rfl⟩
theorem list2 {α : Type} {l : List α} (h : l.length = 2) : ∃ a b, l = [a, b] := by
  match l, h with
  | [a, b], _ => exact ⟨a, b, rfl⟩

section
variable {H : Type} {enc : TypeId × Value → H} {W : World} {spare : Nat → Bool} {held : Bool}

theorem row_of_trod {α : Type} [Inhabited α] {t e : TypeId} {sz fuel : Nat} {c : Value} {y : DataW H × List MemPlace} {cells : α → Nat → Value} {good : α → Prop} (ht : Tryz.prog.underlying t = some (.slice e)) (hsz : Tryz.prog.cellsOf e = sz) (h0 : 0 < sz)
    (conv : ∀ n cs z, cs.length = sz → DataW.trod enc Tryz.prog W 0 spare held n e cs = some z → ∃ x : α, (∀ i, i < sz → cs[i]? = some (cells x i)) ∧ good x)
    (h : DataW.trod enc Tryz.prog W 0 spare held fuel t [c] = some y) : ∃ l : List α, RowOf sz cells W.heap.size W c l ∧ ∀ x ∈ l, good x := by
  rcases open_slice ht h with ⟨hc, _⟩ | ⟨a, len, cap, m, n, D, Pl, hc, _, hl, hm, hmm, _, hx⟩
  · injection hc with hc
    subst hc
    exact ⟨[], ⟨none, 0, rfl, Nat.zero_le _, .inl rfl⟩, by simp⟩
  · injection hc with hc
    subst hc
    rw [hsz] at hx
    have hle : len ≤ m := by rw [hmm]; split <;> omega
    obtain ⟨X, hX⟩ := choose_lt (α := α) (n := len) (p := fun i x => (∀ j, j < sz → W.cell? (a.add (i * sz + j)) = some (cells x j)) ∧ good x) (fun i hi => by
      obtain ⟨cs', h1, h2⟩ := hx i (by omega)
      obtain ⟨_, hlen, hcell⟩ := World.cells?_some h1
      obtain ⟨x, hx1, hx2⟩ := conv n cs' _ hlen h2
      refine ⟨x, fun j hj => ?_, hx2⟩
      have h3 := hcell j hj
      rw [hx1 j hj] at h3
      have hadd : (a.add (i * sz)).add j = a.add (i * sz + j) ∨ W.cell? ((a.add (i * sz)).add j) = W.cell? (a.add (i * sz + j)) := by
        unfold Addr.add
        by_cases e1 : i * sz = 0
        · rw [if_pos e1, e1, Nat.zero_add]; exact .inl rfl
        · rw [if_neg e1]
          by_cases e2 : j = 0
          · rw [if_pos e2, e2, Nat.add_zero, if_neg e1]; exact .inl rfl
          · rw [if_neg e2, if_neg (by omega), Nat.add_assoc]; exact .inl rfl
      rcases hadd with hadd | hadd
      · rw [← hadd]; exact h3
      · rw [← hadd]; exact h3)
    refine ⟨(List.range len).map X, ⟨some a, cap, by simp, by simp; unfold maxLen at hm; omega, ?_⟩, ?_⟩
    · by_cases hz : len = 0
      · left
        subst hz
        rfl
      · right
        have hc0 := (hX 0 (by omega)).1 0 h0
        rw [Nat.zero_mul, Nat.zero_add] at hc0
        obtain ⟨b, off, spot⟩ := a
        have hsp : spot = none := by simpa [Addr.add] using World.cell?_spot hc0
        subst hsp
        refine ⟨b, off, rfl, ?_, fun j x hj i hi => ?_⟩
        · have := World.block_lt_of_cell? W _ hc0
          simpa [Addr.add] using this
        · have hjl : j < len := by
            have := (List.getElem?_eq_some_iff.1 hj).1
            simpa using this
          obtain rfl : X j = x := by
            rw [List.getElem?_map, List.getElem?_range hjl] at hj
            simpa using hj
          have h4 := (hX j hjl).1 i hi
          unfold Addr.add at h4
          by_cases e0 : j * sz + i = 0
          · rw [if_pos e0] at h4
            rw [Nat.add_assoc, e0]
            exact h4
          · rw [if_neg e0] at h4
            rw [Nat.add_assoc]
            exact h4
    · intro x hx
      obtain ⟨i, hi, rfl⟩ := List.mem_map.1 hx
      exact (hX i (by simpa using hi)).2

theorem str_of_trod {n : Nat} {c : Value} {y : DataW H × List MemPlace} (h : DataW.trod enc Tryz.prog W 0 spare held n 9 [c] = some y) : ∃ s : ByteArray, c = .string s ∧ s.size ≤ 9223372036854775807 := by
  obtain ⟨s, hc, _, hs⟩ := DataW.trod_string Tryz.underlying9 h
  injection hc with hc
  exact ⟨s, hc, hs⟩
theorem int_of_trod {n : Nat} {c : Value} {y : DataW H × List MemPlace} (h : DataW.trod enc Tryz.prog W 0 spare held n 3 [c] = some y) : ∃ k : Int, c = .int .i64 k := by
  obtain ⟨k, hc, _, _⟩ := DataW.trod_int Tryz.underlying3 h
  injection hc with hc
  exact ⟨k, hc⟩

theorem exp_of_trod (n : Nat) (cs : List Value) (z : DataW H × List MemPlace) (hl : cs.length = 2) (h : DataW.trod enc Tryz.prog W 0 spare held n 129 cs = some z) : ∃ x : Exp, (∀ i, i < 2 → cs[i]? = some (Exp.cell x i)) ∧ x.name.size ≤ 9223372036854775807 := by
  obtain ⟨xs, m, _, _, _, hlen, hf⟩ := DataW.trod_struct Tryz.underlying129 h
  obtain ⟨x0, x1, rfl⟩ := list2 hlen
  obtain ⟨c0, c1, rfl⟩ := list2 hl
  obtain ⟨s, rfl, hs⟩ := str_of_trod (hf 0 _ rfl)
  obtain ⟨k, rfl⟩ := int_of_trod (hf 1 _ rfl)
  refine ⟨⟨s, k⟩, fun i hi => ?_, hs⟩
  have : i = 0 ∨ i = 1 := by omega
  rcases this with rfl | rfl <;> rfl
theorem imp_of_trod (n : Nat) (cs : List Value) (z : DataW H × List MemPlace) (hl : cs.length = 4) (h : DataW.trod enc Tryz.prog W 0 spare held n 106 cs = some z) : ∃ x : Imp, (∀ i, i < 4 → cs[i]? = some (Imp.cell x i)) ∧ x.fits := by
  obtain ⟨xs, m, _, _, _, hlen, hf⟩ := DataW.trod_struct Tryz.underlying106 h
  obtain ⟨x0, x1, x2, x3, rfl⟩ := list4 hlen
  obtain ⟨c0, c1, c2, c3, rfl⟩ := list4 hl
  obtain ⟨s, rfl, hs⟩ := str_of_trod (hf 0 _ rfl)
  obtain ⟨t, rfl, ht⟩ := str_of_trod (hf 1 _ rfl)
  obtain ⟨k, rfl⟩ := int_of_trod (hf 2 _ rfl)
  obtain ⟨j, rfl⟩ := int_of_trod (hf 3 _ rfl)
  refine ⟨⟨s, t, k, j⟩, fun i hi => ?_, ⟨hs, ht⟩⟩
  have : i = 0 ∨ i = 1 ∨ i = 2 ∨ i = 3 := by omega
  rcases this with rfl | rfl | rfl | rfl <;> rfl
theorem pat_of_trod (n : Nat) (cs : List Value) (z : DataW H × List MemPlace) (hl : cs.length = 4) (h : DataW.trod enc Tryz.prog W 0 spare held n 113 cs = some z) : ∃ x : Pat, (∀ i, i < 4 → cs[i]? = some (Pat.cell x i)) ∧ True := by
  obtain ⟨xs, m, _, _, _, hlen, hf⟩ := DataW.trod_struct Tryz.underlying113 h
  obtain ⟨x0, x1, x2, x3, rfl⟩ := list4 hlen
  obtain ⟨c0, c1, c2, c3, rfl⟩ := list4 hl
  obtain ⟨a, rfl⟩ := int_of_trod (hf 0 _ rfl)
  obtain ⟨b, rfl⟩ := int_of_trod (hf 1 _ rfl)
  obtain ⟨k, rfl⟩ := int_of_trod (hf 2 _ rfl)
  obtain ⟨j, rfl⟩ := int_of_trod (hf 3 _ rfl)
  refine ⟨⟨a, b, k, j⟩, fun i hi => ?_, trivial⟩
  have : i = 0 ∨ i = 1 ∨ i = 2 ∨ i = 3 := by omega
  rcases this with rfl | rfl | rfl | rfl <;> rfl

theorem open_patch {v : Value} {d : DataW H} {ps : List MemPlace} {base : Nat} (hv : Value.okWide Tryz.prog W .any base 113 v) (h : DataW.Trod enc Tryz.prog W 0 spare held 113 v d ps) : ∃ p : Pat, v = .agg #[.int .i64 p.kind, .int .i64 p.pos, .int .i64 p.sym, .int .i64 p.add] := by
  obtain ⟨cs, rfl, hcs⟩ := okWide_struct Tryz.underlying113 hv
  obtain ⟨fuel, hf⟩ := h
  obtain ⟨xs, m, _, _, hl, hlen, hf⟩ := DataW.trod_struct Tryz.underlying113 hf
  have hc4 : Tryz.prog.cellsOf 113 = 4 := by kernel_rfl
  obtain ⟨x0, x1, x2, x3, rfl⟩ := list4 hlen
  rw [hc4] at hl
  obtain ⟨c0, c1, c2, c3, hcl⟩ := list4 hl
  have hcs' : cs.toList = [c0, c1, c2, c3] := hcl
  have hcA : cs = #[c0, c1, c2, c3] := by rw [← Array.toArray_toList (xs := cs), hcs']
  subst hcA
  have f0 := hf 0 _ rfl
  have f1 := hf 1 _ rfl
  have f2 := hf 2 _ rfl
  have f3 := hf 3 _ rfl
  obtain ⟨a, rfl⟩ := int_of_trod f0
  obtain ⟨b, rfl⟩ := int_of_trod f1
  obtain ⟨c, rfl⟩ := int_of_trod f2
  obtain ⟨e, rfl⟩ := int_of_trod f3
  exact ⟨⟨a, b, c, e⟩, rfl⟩
end

end Go.Proofs.YtlpnfbpgnfappaaGreat

/- A module that came in. -/
namespace Go.Proofs.YtlpnfbpgnfappaaGreat
open Go.ChangeShapes Go.WideShapes Go.ChangeAt Go.RowKit Go.PlainAid Go.Deep

set_option maxRecDepth 100000

section
variable {H : Type} {enc : TypeId × Value → H} {W : World} {spare : Nat → Bool} {held : Bool}

theorem open_module {v : Value} {d : DataW H} {ps : List MemPlace} {base : Nat} (hv : Value.okWide Tryz.prog W .any base 31 v) (h : DataW.Trod enc Tryz.prog W 0 spare held 31 v d ps) : ∃ M, IsMod W.heap.size W v M ∧ M.fits := by
  obtain ⟨cs, rfl, hcs⟩ := okWide_struct Tryz.underlying31 hv
  obtain ⟨fuel, hf⟩ := h
  obtain ⟨xs, m, _, _, hl, hlen, hf⟩ := DataW.trod_struct Tryz.underlying31 hf
  have hc7 : Tryz.prog.cellsOf 31 = 7 := by kernel_rfl
  obtain ⟨x0, x1, x2, x3, x4, x5, x6, rfl⟩ := list7 hlen
  rw [hc7] at hl
  obtain ⟨c0, c1, c2, c3, c4, c5, c6, hcl⟩ := list7 hl
  have hcs' : cs.toList = [c0, c1, c2, c3, c4, c5, c6] := hcl
  have hcA : cs = #[c0, c1, c2, c3, c4, c5, c6] := by rw [← Array.toArray_toList (xs := cs), hcs']
  subst hcA
  have f0 := hf 0 _ rfl
  have f1 := hf 1 _ rfl
  have f2 := hf 2 _ rfl
  have f3 := hf 3 _ rfl
  have f4 := hf 4 _ rfl
  have f5 := hf 5 _ rfl
  have f6 := hf 6 _ rfl
  obtain ⟨N, rfl, hN⟩ := str_of_trod f0
  obtain ⟨a, rfl⟩ := int_of_trod f1
  obtain ⟨b, rfl⟩ := int_of_trod f2
  obtain ⟨T, rfl, hT⟩ := str_of_trod f3
  have _ : Inhabited Exp := ⟨⟨⟨#[]⟩, 0⟩⟩
  have _ : Inhabited Imp := ⟨⟨⟨#[]⟩, ⟨#[]⟩, 0, 0⟩⟩
  have _ : Inhabited Pat := ⟨⟨0, 0, 0, 0⟩⟩
  obtain ⟨es, hE, gE⟩ := row_of_trod (cells := Exp.cell) Tryz.underlying22 (sz := 2) (by kernel_rfl) (by decide) exp_of_trod f4
  obtain ⟨is, hI, gI⟩ := row_of_trod (cells := Imp.cell) Tryz.underlying28 (sz := 4) (by kernel_rfl) (by decide) imp_of_trod f5
  obtain ⟨ps, hP, _⟩ := row_of_trod (cells := Pat.cell) Tryz.underlying29 (sz := 4) (by kernel_rfl) (by decide) pat_of_trod f6
  exact ⟨⟨N, a, b, T, es, is, ps⟩, ⟨c4, c5, c6, rfl, hE, hI, hP⟩, hN, hT, gE, gI⟩
end

end Go.Proofs.YtlpnfbpgnfappaaGreat

/- Placed modules and imports that came in. -/
namespace Go.Proofs.YtlpnfbpgnfappaaGreat
open Go.ChangeShapes Go.WideShapes Go.ChangeAt Go.RowKit Go.PlainAid Go.Deep

set_option maxRecDepth 100000

theorem list3 {α : Type} {l : List α} (h : l.length = 3) : ∃ a b c, l = [a, b, c] := by
  match l, h with
  | [a, b, c], _ => exact ⟨a, b, c, rfl⟩
theorem list8 {α : Type} {l : List α} (h : l.length = 8) : ∃ a b c d e f g k, l = [a, b, c, d, e, f, g, k] := by
  match l, h with
  | [a, b, c, d, e, f, g, k], _ => exact ⟨a, b, c, d, e, f, g, k, rfl⟩

section
variable {H : Type} {enc : TypeId × Value → H} {W : World} {spare : Nat → Bool} {held : Bool}

theorem mod_of_trod (n : Nat) (c0 c1 c2 c3 c4 c5 c6 : Value) (z : DataW H × List MemPlace) (h : DataW.trod enc Tryz.prog W 0 spare held n 31 [c0, c1, c2, c3, c4, c5, c6] = some z) :
    ∃ M : Mod, c0 = .string M.name ∧ c1 = .int .i64 M.major ∧ c2 = .int .i64 M.minor ∧ c3 = .string M.text ∧ RowOf 2 Exp.cell W.heap.size W c4 M.exps ∧ RowOf 4 Imp.cell W.heap.size W c5 M.imps ∧ RowOf 4 Pat.cell W.heap.size W c6 M.pats ∧ M.fits := by
  obtain ⟨xs, m, _, _, _, hlen, hf⟩ := DataW.trod_struct Tryz.underlying31 h
  obtain ⟨x0, x1, x2, x3, x4, x5, x6, rfl⟩ := list7 hlen
  have f0 := hf 0 _ rfl
  have f1 := hf 1 _ rfl
  have f2 := hf 2 _ rfl
  have f3 := hf 3 _ rfl
  have f4 := hf 4 _ rfl
  have f5 := hf 5 _ rfl
  have f6 := hf 6 _ rfl
  obtain ⟨N, rfl, hN⟩ := str_of_trod f0
  obtain ⟨a, rfl⟩ := int_of_trod f1
  obtain ⟨b, rfl⟩ := int_of_trod f2
  obtain ⟨T, rfl, hT⟩ := str_of_trod f3
  have _ : Inhabited Exp := ⟨⟨⟨#[]⟩, 0⟩⟩
  have _ : Inhabited Imp := ⟨⟨⟨#[]⟩, ⟨#[]⟩, 0, 0⟩⟩
  have _ : Inhabited Pat := ⟨⟨0, 0, 0, 0⟩⟩
  obtain ⟨es, hE, gE⟩ := row_of_trod (cells := Exp.cell) Tryz.underlying22 (sz := 2) (by kernel_rfl) (by decide) exp_of_trod f4
  obtain ⟨is, hI, gI⟩ := row_of_trod (cells := Imp.cell) Tryz.underlying28 (sz := 4) (by kernel_rfl) (by decide) imp_of_trod f5
  obtain ⟨ps, hP, _⟩ := row_of_trod (cells := Pat.cell) Tryz.underlying29 (sz := 4) (by kernel_rfl) (by decide) pat_of_trod f6
  exact ⟨⟨N, a, b, T, es, is, ps⟩, rfl, rfl, rfl, rfl, hE, hI, hP, hN, hT, gE, gI⟩

theorem plc_of_trod (n : Nat) (cs : List Value) (z : DataW H × List MemPlace) (hl : cs.length = 8) (h : DataW.trod enc Tryz.prog W 0 spare held n 57 cs = some z) : ∃ x : PV, (∀ i, i < 8 → cs[i]? = some (PV.cell x i)) ∧ (PlcAt W.heap.size W x ∧ x.mod.fits) := by
  obtain ⟨xs, m, _, _, _, hlen, hf⟩ := DataW.trod_struct Tryz.underlying57 h
  obtain ⟨x0, x1, rfl⟩ := list2 hlen
  obtain ⟨c0, c1, c2, c3, c4, c5, c6, c7, rfl⟩ := list8 hl
  have h7 : Tryz.prog.cellsOf 31 = 7 := by kernel_rfl
  have f0 : DataW.trod enc Tryz.prog W 0 spare held m 31 (([c0, c1, c2, c3, c4, c5, c6, c7].drop 0).take (Tryz.prog.cellsOf 31)) = some x0 := hf 0 _ rfl
  rw [h7] at f0
  obtain ⟨M, rfl, rfl, rfl, rfl, hE, hI, hP, hF⟩ := mod_of_trod m c0 c1 c2 c3 c4 c5 c6 x0 f0
  obtain ⟨k, rfl⟩ := int_of_trod (hf 1 _ rfl)
  refine ⟨⟨M, c4, c5, c6, k⟩, fun i hi => ?_, ⟨hE, hI, hP⟩, hF⟩
  have : i = 0 ∨ i = 1 ∨ i = 2 ∨ i = 3 ∨ i = 4 ∨ i = 5 ∨ i = 6 ∨ i = 7 := by omega
  rcases this with rfl | rfl | rfl | rfl | rfl | rfl | rfl | rfl <;> rfl

theorem open_import {v : Value} {d : DataW H} {ps : List MemPlace} {base : Nat} (hv : Value.okWide Tryz.prog W .any base 106 v) (h : DataW.Trod enc Tryz.prog W 0 spare held 106 v d ps) : ∃ i : Imp, v = .agg #[.string i.mod, .string i.name, .int .i64 i.major, .int .i64 i.minor] ∧ i.fits := by
  obtain ⟨cs, rfl, hcs⟩ := okWide_struct Tryz.underlying106 hv
  obtain ⟨fuel, hf⟩ := h
  obtain ⟨xs, m, _, _, hl, hlen, hf⟩ := DataW.trod_struct Tryz.underlying106 hf
  have hc4 : Tryz.prog.cellsOf 106 = 4 := by kernel_rfl
  obtain ⟨x0, x1, x2, x3, rfl⟩ := list4 hlen
  rw [hc4] at hl
  obtain ⟨c0, c1, c2, c3, hcl⟩ := list4 hl
  have hcs' : cs.toList = [c0, c1, c2, c3] := hcl
  have hcA : cs = #[c0, c1, c2, c3] := by rw [← Array.toArray_toList (xs := cs), hcs']
  subst hcA
  obtain ⟨s, rfl, hs⟩ := str_of_trod (hf 0 _ rfl)
  obtain ⟨t, rfl, ht⟩ := str_of_trod (hf 1 _ rfl)
  obtain ⟨a, rfl⟩ := int_of_trod (hf 2 _ rfl)
  obtain ⟨b, rfl⟩ := int_of_trod (hf 3 _ rfl)
  exact ⟨⟨s, t, a, b⟩, rfl, hs, ht⟩

theorem open_plc {v : Value} {d : DataW H} {ps : List MemPlace} {base : Nat} (hv : Value.okWide Tryz.prog W .any base 57 v) (h : DataW.Trod enc Tryz.prog W 0 spare held 57 v d ps) : ∃ x : PV, v = x.val ∧ PlcAt W.heap.size W x ∧ x.mod.fits := by
  obtain ⟨cs, rfl, hcs⟩ := okWide_struct Tryz.underlying57 hv
  obtain ⟨fuel, hf⟩ := h
  have hl := (DataW.trod_struct Tryz.underlying57 hf)
  obtain ⟨_, _, _, _, hl, _, _⟩ := hl
  have hc8 : Tryz.prog.cellsOf 57 = 8 := by kernel_rfl
  rw [hc8] at hl
  obtain ⟨x, hx, g1, g2⟩ := plc_of_trod _ _ _ hl hf
  obtain ⟨c0, c1, c2, c3, c4, c5, c6, c7, hcl⟩ := list8 hl
  have hcs' : cs.toList = [c0, c1, c2, c3, c4, c5, c6, c7] := hcl
  have hcA : cs = #[c0, c1, c2, c3, c4, c5, c6, c7] := by rw [← Array.toArray_toList (xs := cs), hcs']
  subst hcA
  have e0 : c0 = _ := Option.some.inj (hx 0 (by omega))
  have e1 : c1 = _ := Option.some.inj (hx 1 (by omega))
  have e2 : c2 = _ := Option.some.inj (hx 2 (by omega))
  have e3 : c3 = _ := Option.some.inj (hx 3 (by omega))
  have e4 : c4 = _ := Option.some.inj (hx 4 (by omega))
  have e5 : c5 = _ := Option.some.inj (hx 5 (by omega))
  have e6 : c6 = _ := Option.some.inj (hx 6 (by omega))
  have e7 : c7 = _ := Option.some.inj (hx 7 (by omega))
  subst e0 e1 e2 e3 e4 e5 e6 e7
  exact ⟨x, rfl, g1, g2⟩

theorem open_placed {v : Value} {d : DataW H} {ps : List MemPlace} {base : Nat} (hv : Value.okWide Tryz.prog W .any base 25 v) (h : DataW.Trod enc Tryz.prog W 0 spare held 25 v d ps) : ∃ l : List PV, IsPlcs W.heap.size W v l ∧ ∀ x ∈ l, x.mod.fits := by
  obtain ⟨a, ln, cp, rfl⟩ := okWide_slice Tryz.underlying25 hv
  obtain ⟨fuel, hf⟩ := h
  have _ : Inhabited PV := ⟨⟨⟨⟨#[]⟩, 0, 0, ⟨#[]⟩, [], [], []⟩, .slice none 0 0, .slice none 0 0, .slice none 0 0, 0⟩⟩
  obtain ⟨l, hL, gL⟩ := row_of_trod (α := PV) (cells := PV.cell) (good := fun x => PlcAt W.heap.size W x ∧ x.mod.fits) (c := .slice a ln cp) Tryz.underlying25 (sz := 8) (by kernel_rfl) (by decide) plc_of_trod hf
  exact ⟨l, ⟨hL, fun x hx => (gL x hx).1⟩, fun x hx => (gL x hx).2⟩
end

end Go.Proofs.YtlpnfbpgnfappaaGreat

/- Kernels that came in. -/
namespace Go.Proofs.YtlpnfbpgnfappaaGreat
open Go.ChangeShapes Go.WideShapes Go.ChangeAt Go.RowKit Go.PlainAid Go.Deep

set_option maxRecDepth 100000

section
variable {H : Type} {enc : TypeId × Value → H} {W : World} {spare : Nat → Bool} {held : Bool}

theorem open_kernel {v : Value} {d : DataW H} {ps : List MemPlace} {base : Nat} (hv : Value.okWide Tryz.prog W .any base 24 v) (h : DataW.Trod enc Tryz.prog W 0 spare held 24 v d ps) : ∃ K, IsKer W.heap.size W v K ∧ K.fits := by
  obtain ⟨cs, rfl, hcs⟩ := okWide_struct Tryz.underlying24 hv
  obtain ⟨fuel, hf⟩ := h
  obtain ⟨xs, m, _, _, hl, hlen, hf⟩ := DataW.trod_struct Tryz.underlying24 hf
  have hc3 : Tryz.prog.cellsOf 24 = 3 := by kernel_rfl
  obtain ⟨x0, x1, x2, rfl⟩ := list3 hlen
  rw [hc3] at hl
  obtain ⟨c0, c1, c2, hcl⟩ := list3 hl
  have hcs' : cs.toList = [c0, c1, c2] := hcl
  have hcA : cs = #[c0, c1, c2] := by rw [← Array.toArray_toList (xs := cs), hcs']
  subst hcA
  have f0 := hf 0 _ rfl
  have f1 := hf 1 _ rfl
  have f2 := hf 2 _ rfl
  obtain ⟨a, rfl⟩ := int_of_trod f0
  obtain ⟨b, rfl⟩ := int_of_trod f1
  have _ : Inhabited Exp := ⟨⟨⟨#[]⟩, 0⟩⟩
  obtain ⟨es, hE, gE⟩ := row_of_trod (cells := Exp.cell) Tryz.underlying22 (sz := 2) (by kernel_rfl) (by decide) exp_of_trod f2
  exact ⟨⟨a, b, es⟩, ⟨c2, rfl, hE⟩, gE⟩

end

end Go.Proofs.YtlpnfbpgnfappaaGreat
