/- Texts that are laid together. -/
import Derived.Test.YtppmihnbpmkbnadGreatMrgT
import Derived.Test.YtppmihnbpmkbnadGreatMrgU
import Derived.Test.YtppmihnbpmkbnadGreatMrgH
import Derived.Test.YtppmihnbpmkbnadGreatMrgB
import Derived.ProofKit
import Derived.OpenShut
import Derived.ShutString
import Derived.ChangeOld
import Derived.SizedLaws
import Derived.Below
import Derived.Carry
import Derived.Deep.Slices
import Derived.Test.YtppmihnbpmkbnadGreatMrgC
import Derived.Test.YtppmihnbpmkbnadGreatMrgD

/- The walk of the law RegistryWhole: it returns true. -/
namespace Go.Proofs.YtppmihnbpmkbnadGreat.registryWhole
open Go.RowKit Go.PlainAid Go.Lib

set_option maxRecDepth 100000

/-- Of a registry that is right all can be told. -/
theorem whole_data {K : Ker} {L : List Plc} (h : chkRg K L = 0) : chkReg L = 0 ∧ (ordOf L).2 = 0 ∧ (areaOf K L).2 = 0 ∧ (ordOf L).1.length = L.length ∧ (areaOf K L).1.size = 1024 ∧ (freeRes L).length ≤ L.length + 1 ∧ L.length ≤ 8 ∧ ∀ p ∈ L, (allRes K L p.mod).2 = 0 ∧ (allRes K L p.mod).1.length = p.mod.imps.length := by
  obtain ⟨h1, h2, h3⟩ := chkRg_zero h
  have hr := (chkLink_zero h1).2.1
  obtain ⟨_, e, h4⟩ := areaOf_zero h3
  obtain ⟨g1, _, g3, _⟩ := area_byte (K := K) (L := L) L ⟨#[]⟩ 0 (chkReg_zero.1 hr).2.2 (Nat.le_refl _) h4
  refine ⟨hr, h2, h3, (ord_facts h2).1, by rw [e]; exact g1, ?_, (chkReg_zero.1 hr).1, fun p hp => ?_⟩
  · unfold freeRes
    rw [if_pos hr]
    exact runs_len _ _
  · have hi := (g3 p hp).1
    rcases imgRes_cases K L p with ⟨n1, e⟩ | ⟨n1, n2, e⟩ | ⟨n1, _, _⟩
    · rw [e] at hi; exact absurd hi n1
    · exact ⟨n1, allRes_length n1⟩
    · exact ⟨n1, allRes_length n1⟩

set_option maxHeartbeats 16000000 in
theorem walk (K : Ker) (l : List PV) (v : Value) (w : World) (h : IsReg w.heap.size w v K l) (hf : K.fits) (hfit : ∀ x ∈ l, x.mod.fits) :
    Calls Tryz.prog 7 #[v] w fun e w' => e = .returned (.bool true) ∧ Below w.heap.size w w' := by
  have HC : Hid (∀ W, Below w.heap.size w W → Calls Tryz.prog 20 #[v] W fun e w' => e = .returned (.int .i64 (chkRg K (l.map PV.plc))) ∧ Below W.heap.size W w') := fun W hb => regCheck_any K l v W ((h.below hb).more hb.size) hf hfit
  obtain ⟨ve, vl, rfl, hE, hL⟩ := h
  have hK : IsKer w.heap.size w (.agg #[.int .i64 K.major, .int .i64 K.minor, ve]) K := ⟨ve, rfl, hE⟩
  have HF : Hid (∀ W, Below w.heap.size w W → Calls Tryz.prog 26 #[vl] W fun e w' => (∃ r, e = .returned (.tuple #[r, .int .i64 (chkReg (l.map PV.plc))]) ∧ RowOf 2 runCell w'.heap.size w' r (freeRes (l.map PV.plc))) ∧ Below W.heap.size W w') := fun W hb => free_any l vl W ((hL.below hb).more hb.size) hfit
  have HO : Hid (∀ W, Below w.heap.size w W → Calls Tryz.prog 25 #[vl] W fun e w' => (∃ r, e = .returned (.tuple #[r, .int .i64 (ordOf (l.map PV.plc)).2]) ∧ RowOf 1 strCell w'.heap.size w' r (ordOf (l.map PV.plc)).1 ∧ CapOk r) ∧ Below W.heap.size W w') := fun W hb => order_any l vl W ((hL.below hb).more hb.size) hfit
  have HA : Hid (∀ W, Below w.heap.size w W → Calls Tryz.prog 10 #[.agg #[.int .i64 K.major, .int .i64 K.minor, ve], vl] W fun e w' => e = .returned (.tuple #[.string (areaOf K (l.map PV.plc)).1, .int .i64 (areaOf K (l.map PV.plc)).2]) ∧ Below W.heap.size W w') := fun W hb => linkArea_any K _ l vl W ((hK.below hb).more hb.size) hf ((hL.below hb).more hb.size) hfit
  have HR : Hid (∀ x ∈ l, ∀ W, Below w.heap.size w W → Calls Tryz.prog 27 #[.agg #[.int .i64 K.major, .int .i64 K.minor, ve], vl, x.modV] W fun e w' => (∃ r, e = .returned (.tuple #[r, .int .i64 (allRes K (l.map PV.plc) x.mod).2]) ∧ RowOf 1 intCell w'.heap.size w' r (allRes K (l.map PV.plc) x.mod).1) ∧ Below W.heap.size W w') := fun x hx W hb => all_any K _ l vl x.mod x.modV W ((hK.below hb).more hb.size) hf ((hL.below hb).more hb.size) hfit (((hL.2 x hx).below hb).more hb.size).isMod (hfit x hx)
  have key := @whole_data K (l.map PV.plc)
  have hat := hL.2
  clear hK hf hfit
  obtain ⟨qe, je, rfl, -, -⟩ := hE
  obtain ⟨⟨a, cap, rfl, hmax, hrow⟩, -⟩ := hL
  generalize allRes K (l.map PV.plc) = AR at *
  generalize areaOf K (l.map PV.plc) = ar at *
  generalize chkRg K (l.map PV.plc) = cr at *
  generalize chkReg (l.map PV.plc) = cg at *
  generalize freeRes (l.map PV.plc) = fr at *
  generalize ordOf (l.map PV.plc) = od at *
  rw [List.length_map] at key
  obtain ⟨oa, oe⟩ := od
  obtain ⟨az, ae⟩ := ar
  obtain ⟨ma, mi, ks⟩ := K
  dsimp only at *
  generalize ks.length = lk at *
  have BB : Below w.heap.size w (w.alloc (.cells #[.int .i64 ma, .int .i64 mi, .slice qe lk je, .slice a l.length cap] 48)) := (Below.refl _ _).alloc (Nat.le_refl _) _
  have CR : CellsAt (w.alloc (.cells #[.int .i64 ma, .int .i64 mi, .slice qe lk je, .slice a l.length cap] 48)) w.heap.size 48 #[.int .i64 ma, .int .i64 mi, .slice qe lk je, .slice a l.length cap] := CellsAt.new w 48 #[.int .i64 ma, .int .i64 mi, .slice qe lk je, .slice a l.length cap]
  have HKEY : Hid (cr = 0 → cg = 0 ∧ oe = 0 ∧ ae = 0 ∧ oa.length = l.length ∧ az.size = 1024 ∧ fr.length ≤ l.length + 1 ∧ l.length ≤ 8 ∧ ∀ p ∈ l.map PV.plc, (AR p.mod).2 = 0 ∧ (AR p.mod).1.length = p.mod.imps.length) := key
  clear key
  go_enter Tryz.func7, Tryz.ntmps7
  go_wp2_with fail
  refine (registryBegun_any _).mono ?_
  rintro e v0 ⟨rfl, b⟩
  replace CR := CellsAt.below CR b (CellsAt.lt CR)
  replace BB := BB.trans (b.mono BB.size)
  clear b
  go_wp2_with fail
  refine (resolveBegun_any _).mono ?_
  rintro e v1 ⟨rfl, b⟩
  replace CR := CellsAt.below CR b (CellsAt.lt CR)
  replace BB := BB.trans (b.mono BB.size)
  clear b
  go_wp2_with fail
  refine (graphBegun_any _).mono ?_
  rintro e v2 ⟨rfl, b⟩
  replace CR := CellsAt.below CR b (CellsAt.lt CR)
  replace BB := BB.trans (b.mono BB.size)
  clear b
  go_wp2_with fail
  refine (regionBegun_any _).mono ?_
  rintro e v3 ⟨rfl, b⟩
  replace CR := CellsAt.below CR b (CellsAt.lt CR)
  replace BB := BB.trans (b.mono BB.size)
  clear b
  go_wp2_with fail
  refine (linkBegun_any _).mono ?_
  rintro e v4 ⟨rfl, b⟩
  replace CR := CellsAt.below CR b (CellsAt.lt CR)
  replace BB := BB.trans (b.mono BB.size)
  clear b
  have k0 := CellsAt.cell CR 0
  have k1 := CellsAt.cell CR 1
  have k2 := CellsAt.cell CR 2
  have k3 := CellsAt.cell CR 3
  have hk := CellsAt.lt CR
  simp at k0 k1 k2 k3
  go_wp2_with fail
  refine (HC.out _ BB).mono ?_
  rintro e w2 ⟨rfl, b⟩
  replace CR := CellsAt.below CR b (CellsAt.lt CR)
  replace BB := BB.trans (b.mono BB.size)
  clear b k0 k1 k2 k3 hk
  clear HC
  by_cases h0 : cr = 0
  · obtain ⟨rfl, rfl, rfl, h3, h4, h5, h6, h7⟩ := HKEY.out h0
    subst h0
    have H7 : Hid (∀ x ∈ l, (AR x.mod).2 = 0 ∧ (AR x.mod).1.length = x.mod.imps.length) := fun x hx => h7 x.plc (List.mem_map.2 ⟨x, hx, rfl⟩)
    clear HKEY h7
    have k0 := CellsAt.cell CR 0
    have k1 := CellsAt.cell CR 1
    have k2 := CellsAt.cell CR 2
    have k3 := CellsAt.cell CR 3
    have hk := CellsAt.lt CR
    simp at k0 k1 k2 k3
    go_wp2_with fail
    refine (HO.out _ BB).mono ?_
    rintro e w3 ⟨⟨s, rfl, ⟨sa, sc, rfl, -, -⟩, -⟩, b⟩
    replace CR := CellsAt.below CR b (CellsAt.lt CR)
    replace BB := BB.trans (b.mono BB.size)
    clear b k0 k1 k2 k3 hk
    have k0 := CellsAt.cell CR 0
    have k1 := CellsAt.cell CR 1
    have k2 := CellsAt.cell CR 2
    have k3 := CellsAt.cell CR 3
    have hk := CellsAt.lt CR
    simp at k0 k1 k2 k3
    go_wp2_with fail
    refine (HF.out _ BB).mono ?_
    rintro e w4 ⟨⟨r, rfl, ⟨ra, rc, rfl, -, -⟩⟩, b⟩
    replace CR := CellsAt.below CR b (CellsAt.lt CR)
    replace BB := BB.trans (b.mono BB.size)
    clear b k0 k1 k2 k3 hk
    have k0 := CellsAt.cell CR 0
    have k1 := CellsAt.cell CR 1
    have k2 := CellsAt.cell CR 2
    have k3 := CellsAt.cell CR 3
    have hk := CellsAt.lt CR
    simp at k0 k1 k2 k3
    go_wp2_with fail
    refine (HA.out _ BB).mono ?_
    rintro e w5 ⟨rfl, b⟩
    replace CR := CellsAt.below CR b (CellsAt.lt CR)
    replace BB := BB.trans (b.mono BB.size)
    clear b k0 k1 k2 k3 hk
    have k0 := CellsAt.cell CR 0
    have k1 := CellsAt.cell CR 1
    have k2 := CellsAt.cell CR 2
    have k3 := CellsAt.cell CR 3
    have hk := CellsAt.lt CR
    simp at k0 k1 k2 k3
    clear HO HF HA
    have q1 : ((oa.length : Int) != (l.length : Int)) = false := by rw [h3]; simp
    have q2 : ((az.size : Int) != 1024) = false := by rw [h4]; rfl
    have q3 : IntKind.i64.wrap ((l.length : Int) + 1) = (l.length : Int) + 1 := by rw [i64_is]; unfold wrap64; omega
    have q4 : ¬ ((fr.length : Int) > (l.length : Int) + 1) := by omega
    have q5 : ¬ ((l.length : Int) + 1 < (fr.length : Int)) := by omega
    have HBB : Hid _ := BB
    have HCR : Hid _ := CR
    clear BB CR
    go_wp2_with fail
    have BB := HBB.out
    have CR := HCR.out
    clear HBB HCR k0 k1 k2 k3 hk q1 q2 q3 q4 q5 h3 h4 h5
    go_loopw [9] (fun i wr => ∃ (j : Nat), j ≤ l.length ∧ i = .int .i64 j ∧ Below w5.heap.size w5 wr) (fun i _ => l.length - (intOf i).toNat)
    case atStart => exact ⟨0, Nat.zero_le _, rfl, Below.refl _ _⟩
    case round =>
      obtain ⟨j, hj, rfl, B⟩ := hrel
      have BW := BB.trans (B.mono BB.size)
      have CW := CellsAt.below CR B (CellsAt.lt CR)
      have k3 := CellsAt.cell CW 3
      have hk := CellsAt.lt CW
      simp at k3
      by_cases hlj : j < l.length
      · obtain ⟨x, hx⟩ : ∃ x, l[j]? = some x := ⟨_, List.getElem?_eq_getElem hlj⟩
        have hxm := List.mem_of_getElem? hx
        rcases hrow with h | ⟨b, off, rfl, hbn, hcells⟩
        · subst h; simp at hlj
        have HX := HR.out x hxm
        obtain ⟨a1, a2⟩ := H7.out x hxm
        rw [a1] at HX
        have c0 := hcells j _ hx 0 (by omega)
        have c1 := hcells j _ hx 1 (by omega)
        have c2 := hcells j _ hx 2 (by omega)
        have c3 := hcells j _ hx 3 (by omega)
        have c4 := hcells j _ hx 4 (by omega)
        have c5 := hcells j _ hx 5 (by omega)
        have c6 := hcells j _ hx 6 (by omega)
        obtain ⟨⟨pe, ke, e4, -⟩, ⟨pi, ki, e5, -⟩, ⟨pp, kp, e6, -⟩⟩ := hat x hxm
        obtain ⟨⟨N, xa, xi, T, es, is, ps⟩, ve, vi, vp, fi⟩ := x
        dsimp only [PV.modV, PV.cell] at *
        subst e4 e5 e6
        rw [Nat.add_zero] at c0
        have HXX : Hid (∀ W, Below w.heap.size w W → Calls Tryz.prog 27 #[.agg #[.int .i64 ma, .int .i64 mi, .slice qe lk je], .slice (some ⟨b, off, none⟩) l.length cap, (.agg #[.string N, .int .i64 xa, .int .i64 xi, .string T, .slice pe es.length ke, .slice pi is.length ki, .slice pp ps.length kp])] W fun e w' => (∃ r, e = .returned (.tuple #[r, .int .i64 0]) ∧ RowOf 1 intCell w'.heap.size w' r (AR ⟨N, xa, xi, T, es, is, ps⟩).1) ∧ Below W.heap.size W w') := HX
        generalize (AR ⟨N, xa, xi, T, es, is, ps⟩).1 = ads at *
        have hjl : (j : Int) < (l.length : Int) := by omega
        have hj0 : ¬ (j : Int) < 0 := by omega
        clear HR H7 hcells hx hxm hat HX a1
        go_wp2_with fail
        refine wp_region_noPanic ?_
        refine wp_region_L (S := fun w' => Below w.heap.size w w' ∧ CellsAt w' w.heap.size 48 #[.int .i64 ma, .int .i64 mi, .slice qe lk je, .slice (some ⟨b, off, none⟩) l.length cap]) (x := 15) (by kernel_rfl) ?_
        have SW : Below w.heap.size w wr.drew ∧ CellsAt wr.drew w.heap.size 48 #[.int .i64 ma, .int .i64 mi, .slice qe lk je, .slice (some ⟨b, off, none⟩) l.length cap] := ⟨BW.drew, CW⟩
        have B5 : Below w5.heap.size w5 wr.drew := B.drew
        generalize wr.drew = u5 at SW B5 ⊢
        refine wpL_take 0 93 (.pointer (some ⟨w.heap.size, 0, none⟩)) rfl (by kernel_rfl) (fun _ _ _ h => h) SW rfl rfl (fun w' hSw => by clear hSw; go_simp) ?_
        simp only [List.setIfInBounds_toArray, List.set_cons_zero, List.set_cons_succ]
        refine wpL_take 1 94 (.agg #[.int .i64 ma, .int .i64 mi, .slice qe lk je]) rfl (by kernel_rfl) (fun _ _ _ h => h) SW rfl rfl (fun w' hSw => by (try dsimp only at hSw); have y0 := CellsAt.cell hSw.2 0; have y1 := CellsAt.cell hSw.2 1; have y2 := CellsAt.cell hSw.2 2; have yl := CellsAt.lt hSw.2; simp at y0 y1 y2; clear hSw; go_simp) ?_
        simp only [List.setIfInBounds_toArray, List.set_cons_zero, List.set_cons_succ]
        refine wpL_take 2 95 (.pointer (some ⟨w.heap.size, 3, none⟩)) rfl (by kernel_rfl) (fun _ _ _ h => h) SW rfl rfl (fun w' hSw => by clear hSw; go_simp) ?_
        simp only [List.setIfInBounds_toArray, List.set_cons_zero, List.set_cons_succ]
        refine wpL_take 3 96 (.slice (some ⟨b, off, none⟩) l.length cap) rfl (by kernel_rfl) (fun _ _ _ h => h) SW rfl rfl (fun w' hSw => by (try dsimp only at hSw); have y3 := CellsAt.cell hSw.2 3; have yl := CellsAt.lt hSw.2; simp at y3; clear hSw; go_simp) ?_
        simp only [List.setIfInBounds_toArray, List.set_cons_zero, List.set_cons_succ]
        refine wpL_take 4 97 (.pointer (some ⟨w.heap.size, 3, none⟩)) rfl (by kernel_rfl) (fun _ _ _ h => h) SW rfl rfl (fun w' hSw => by clear hSw; go_simp) ?_
        simp only [List.setIfInBounds_toArray, List.set_cons_zero, List.set_cons_succ]
        refine wpL_take 5 98 (.slice (some ⟨b, off, none⟩) l.length cap) rfl (by kernel_rfl) (fun _ _ _ h => h) SW rfl rfl (fun w' hSw => by (try dsimp only at hSw); have y3 := CellsAt.cell hSw.2 3; have yl := CellsAt.lt hSw.2; simp at y3; clear hSw; go_simp) ?_
        simp only [List.setIfInBounds_toArray, List.set_cons_zero, List.set_cons_succ]
        refine wpL_take 6 99 (.int .i64 j) rfl (by kernel_rfl) (fun _ _ _ h => h) SW rfl rfl (fun w' hSw => by clear hSw; go_simp) ?_
        simp only [List.setIfInBounds_toArray, List.set_cons_zero, List.set_cons_succ]
        refine wpL_take 7 100 (.pointer (some ⟨b, off + j * 8, none⟩)) rfl (by kernel_rfl) (fun _ _ _ h => h) SW rfl rfl (fun w' hSw => by clear hSw; go_simp) ?_
        simp only [List.setIfInBounds_toArray, List.set_cons_zero, List.set_cons_succ]
        refine wpL_take 8 101 (.pointer (some ⟨b, off + j * 8, none⟩)) rfl (by kernel_rfl) (fun _ _ _ h => h) SW rfl rfl (fun w' hSw => by clear hSw; go_simp) ?_
        simp only [List.setIfInBounds_toArray, List.set_cons_zero, List.set_cons_succ]
        refine wpL_take 9 102 (.agg #[.string N, .int .i64 xa, .int .i64 xi, .string T, .slice pe es.length ke, .slice pi is.length ki, .slice pp ps.length kp]) rfl (by kernel_rfl) (fun _ _ _ h => h) SW rfl rfl (fun w' hSw => by (try dsimp only at hSw); have y0 := (hSw.1.cell (p := ⟨b, off + j * 8, none⟩) hbn).trans c0; have y1 := (hSw.1.cell (p := ⟨b, off + j * 8 + 1, none⟩) hbn).trans c1; have y2 := (hSw.1.cell (p := ⟨b, off + j * 8 + 2, none⟩) hbn).trans c2; have y3 := (hSw.1.cell (p := ⟨b, off + j * 8 + 3, none⟩) hbn).trans c3; have y4 := (hSw.1.cell (p := ⟨b, off + j * 8 + 4, none⟩) hbn).trans c4; have y5 := (hSw.1.cell (p := ⟨b, off + j * 8 + 5, none⟩) hbn).trans c5; have y6 := (hSw.1.cell (p := ⟨b, off + j * 8 + 6, none⟩) hbn).trans c6; clear hSw; go_simp) ?_
        simp only [List.setIfInBounds_toArray, List.set_cons_zero, List.set_cons_succ]
        refine wpL_step (i := 10) rfl (by kernel_rfl) (fun K hK => ?_)
        go_simp
        refine (HXX.out _ SW.1).mono ?_
        rintro _ u7 ⟨⟨r, rfl, ⟨ra, rk, rfl, -, -⟩⟩, b7⟩
        have SW7 : Below w.heap.size w u7 ∧ CellsAt u7 w.heap.size 48 #[.int .i64 ma, .int .i64 mi, .slice qe lk je, .slice (some ⟨b, off, none⟩) l.length cap] := ⟨SW.1.trans (b7.mono SW.1.size), CellsAt.below SW.2 b7 (CellsAt.lt SW.2)⟩
        have B7 := B5.trans (b7.mono B5.size)
        rw [a2]
        go_simp
        refine hK.out _ _ SW7 (fun _ => ?_)
        clear hK K b7
        refine wpL_take 11 92 (.tuple #[.slice ra is.length rk, .int .i64 0]) rfl (by kernel_rfl) (fun _ _ _ h => h) SW7 rfl rfl (fun w' hSw => by clear hSw; go_simp) ?_
        simp only [List.setIfInBounds_toArray, List.set_cons_zero, List.set_cons_succ]
        refine wpL_take 12 104 (.slice ra is.length rk) rfl (by kernel_rfl) (fun _ _ _ h => h) SW7 rfl rfl (fun w' hSw => by clear hSw; go_simp) ?_
        simp only [List.setIfInBounds_toArray, List.set_cons_zero, List.set_cons_succ]
        refine wpL_take 13 105 (.int .i64 0) rfl (by kernel_rfl) (fun _ _ _ h => h) SW7 rfl rfl (fun w' hSw => by clear hSw; go_simp) ?_
        simp only [List.setIfInBounds_toArray, List.set_cons_zero, List.set_cons_succ]
        refine wpL_take 14 10 (.slice ra is.length rk) rfl (by kernel_rfl) (fun _ _ _ h => h) SW7 rfl rfl (fun w' hSw => by clear hSw; go_simp) ?_
        simp only [List.setIfInBounds_toArray, List.set_cons_zero, List.set_cons_succ]
        refine wpL_last (x := 15) rfl (by kernel_rfl) (by kernel_rfl) (fun K hK => ?_)
        go_simp
        refine hK.out _ _ ?_
        refine NoPanic.normal ?_
        clear hK K
        have z3 := CellsAt.cell SW7.2 3
        have zl := CellsAt.lt SW7.2
        simp at z3
        have y5 := (SW7.1.cell (p := ⟨b, off + j * 8 + 5, none⟩) hbn).trans c5
        have hbu : b < u7.heap.size := Nat.lt_of_lt_of_le hbn SW7.1.size
        have q9 : ((is.length : Int) != (is.length : Int)) = false := by simp
        clear SW SW7 B5 c0 c1 c2 c3 c4 c5 c6 k3 hk HXX BW CW
        go_wp2
        exact ⟨⟨j + 1, by omega, by go_num, B7⟩, by simp [intOf]; omega⟩
      · obtain rfl : j = l.length := by omega
        clear HR H7
        go_wp2
        go_ret
        exact ⟨rfl, BW⟩
  · have h0' : (cr != 0) = true := by simpa using h0
    clear HKEY h0 HO HF HA HR
    go_wp2
    go_ret
    exact ⟨rfl, BB⟩

end Go.Proofs.YtppmihnbpmkbnadGreat.registryWhole

/- Arguments that came in: texts, numbers, rows, a patch. -/
namespace Go.Proofs.YtppmihnbpmkbnadGreat
open Go.ChangeShapes Go.WideShapes Go.ChangeAt Go.RowKit Go.PlainAid Go.Deep

set_option maxRecDepth 100000

theorem list7 {α : Type} {l : List α} (h : l.length = 7) : ∃ a b c d e f g, l = [a, b, c, d, e, f, g] := by
  match l, h with
  | [a, b, c, d, e, f, g], _ => exact ⟨a, b, c, d, e, f, g, rfl⟩
theorem list4 {α : Type} {l : List α} (h : l.length = 4) : ∃ a b c d, l = [a, b, c, d] := by
  match l, h with
  | [a, b, c, d], _ => exact ⟨a, b, c, d, rfl⟩
theorem list2 {α : Type} {l : List α} (h : l.length = 2) : ∃ a b, l = [a, b] := by
  match l, h with
  | [a, b], _ => exact ⟨a, b, rfl⟩

section
variable {H : Type} {enc : TypeId × Value → H} {W : World} {spare : Nat → Bool} {held : Bool}

theorem row_of_trod {α : Type} [Inhabited α] {t e : TypeId} {sz fuel : Nat} {c : Value} {y : DataW H × List MemPlace} {cells : α → Nat → Value} {good : α → Prop} (ht : Tryz.prog.underlying t = some (.slice e)) (hsz : Tryz.prog.cellsOf e = sz) (h0 : 0 < sz)
    (conv : ∀ n cs z, cs.length = sz → DataW.trod enc Tryz.prog W 0 spare held n e cs = some z → ∃ x : α, (∀ i, i < sz → cs[i]? = some (cells x i)) ∧ good x)
    (h : DataW.trod enc Tryz.prog W 0 spare held fuel t [c] = some y) : ∃ l : List α, RowOf sz cells W.heap.size W c l ∧ ∀ x ∈ l, good x := by
  rcases open_slice ht h with ⟨hc, _⟩ | ⟨a, len, cap, m, n, D, Pl, hc, _, hl, hm, hmm, _, hx⟩
  · injection hc with hc
    subst hc
    exact ⟨[], ⟨none, 0, rfl, Nat.zero_le _, .inl rfl⟩, by simp⟩
  · injection hc with hc
    subst hc
    rw [hsz] at hx
    have hle : len ≤ m := by rw [hmm]; split <;> omega
    obtain ⟨X, hX⟩ := choose_lt (α := α) (n := len) (p := fun i x => (∀ j, j < sz → W.cell? (a.add (i * sz + j)) = some (cells x j)) ∧ good x) (fun i hi => by
      obtain ⟨cs', h1, h2⟩ := hx i (by omega)
      obtain ⟨_, hlen, hcell⟩ := World.cells?_some h1
      obtain ⟨x, hx1, hx2⟩ := conv n cs' _ hlen h2
      refine ⟨x, fun j hj => ?_, hx2⟩
      have h3 := hcell j hj
      rw [hx1 j hj] at h3
      have hadd : (a.add (i * sz)).add j = a.add (i * sz + j) ∨ W.cell? ((a.add (i * sz)).add j) = W.cell? (a.add (i * sz + j)) := by
        unfold Addr.add
        by_cases e1 : i * sz = 0
        · rw [if_pos e1, e1, Nat.zero_add]; exact .inl rfl
        · rw [if_neg e1]
          by_cases e2 : j = 0
          · rw [if_pos e2, e2, Nat.add_zero, if_neg e1]; exact .inl rfl
          · rw [if_neg e2, if_neg (by omega), Nat.add_assoc]; exact .inl rfl
      rcases hadd with hadd | hadd
      · rw [← hadd]; exact h3
      · rw [← hadd]; exact h3)
    refine ⟨(List.range len).map X, ⟨some a, cap, by simp, by simp; unfold maxLen at hm; omega, ?_⟩, ?_⟩
    · by_cases hz : len = 0
      · left
        subst hz
        rfl
      · right
        have hc0 := (hX 0 (by omega)).1 0 h0
        rw [Nat.zero_mul, Nat.zero_add] at hc0
        obtain ⟨b, off, spot⟩ := a
        have hsp : spot = none := by simpa [Addr.add] using World.cell?_spot hc0
        subst hsp
        refine ⟨b, off, rfl, ?_, fun j x hj i hi => ?_⟩
        · have := World.block_lt_of_cell? W _ hc0
          simpa [Addr.add] using this
        · have hjl : j < len := by
            have := (List.getElem?_eq_some_iff.1 hj).1
            simpa using this
          obtain rfl : X j = x := by
            rw [List.getElem?_map, List.getElem?_range hjl] at hj
            simpa using hj
          have h4 := (hX j hjl).1 i hi
          unfold Addr.add at h4
          by_cases e0 : j * sz + i = 0
          · rw [if_pos e0] at h4
            rw [Nat.add_assoc, e0]
            exact h4
          · rw [if_neg e0] at h4
            rw [Nat.add_assoc]
            exact h4
    · intro x hx
      obtain ⟨i, hi, rfl⟩ := List.mem_map.1 hx
      exact (hX i (by simpa using hi)).2

theorem str_of_trod {n : Nat} {c : Value} {y : DataW H × List MemPlace} (h : DataW.trod enc Tryz.prog W 0 spare held n 9 [c] = some y) : ∃ s : ByteArray, c = .string s ∧ s.size ≤ 9223372036854775807 := by
  obtain ⟨s, hc, _, hs⟩ := DataW.trod_string Tryz.underlying9 h
  injection hc with hc
  exact ⟨s, hc, hs⟩
theorem int_of_trod {n : Nat} {c : Value} {y : DataW H × List MemPlace} (h : DataW.trod enc Tryz.prog W 0 spare held n 3 [c] = some y) : ∃ k : Int, c = .int .i64 k := by
  obtain ⟨k, hc, _, _⟩ := DataW.trod_int Tryz.underlying3 h
  injection hc with hc
  exact ⟨k, hc⟩

theorem exp_of_trod (n : Nat) (cs : List Value) (z : DataW H × List MemPlace) (hl : cs.length = 2) (h : DataW.trod enc Tryz.prog W 0 spare held n 120 cs = some z) : ∃ x : Exp, (∀ i, i < 2 → cs[i]? = some (Exp.cell x i)) ∧ x.name.size ≤ 9223372036854775807 := by
  obtain ⟨xs, m, _, _, _, hlen, hf⟩ := DataW.trod_struct Tryz.underlying120 h
  obtain ⟨x0, x1, rfl⟩ := list2 hlen
  obtain ⟨c0, c1, rfl⟩ := list2 hl
  obtain ⟨s, rfl, hs⟩ := str_of_trod (hf 0 _ rfl)
  obtain ⟨k, rfl⟩ := int_of_trod (hf 1 _ rfl)
  refine ⟨⟨s, k⟩, fun i hi => ?_, hs⟩
  have : i = 0 ∨ i = 1 := by omega
  rcases this with rfl | rfl <;> rfl
theorem imp_of_trod (n : Nat) (cs : List Value) (z : DataW H × List MemPlace) (hl : cs.length = 4) (h : DataW.trod enc Tryz.prog W 0 spare held n 84 cs = some z) : ∃ x : Imp, (∀ i, i < 4 → cs[i]? = some (Imp.cell x i)) ∧ x.fits := by
  obtain ⟨xs, m, _, _, _, hlen, hf⟩ := DataW.trod_struct Tryz.underlying84 h
  obtain ⟨x0, x1, x2, x3, rfl⟩ := list4 hlen
  obtain ⟨c0, c1, c2, c3, rfl⟩ := list4 hl
  obtain ⟨s, rfl, hs⟩ := str_of_trod (hf 0 _ rfl)
  obtain ⟨t, rfl, ht⟩ := str_of_trod (hf 1 _ rfl)
  obtain ⟨k, rfl⟩ := int_of_trod (hf 2 _ rfl)
  obtain ⟨j, rfl⟩ := int_of_trod (hf 3 _ rfl)
  refine ⟨⟨s, t, k, j⟩, fun i hi => ?_, ⟨hs, ht⟩⟩
  have : i = 0 ∨ i = 1 ∨ i = 2 ∨ i = 3 := by omega
  rcases this with rfl | rfl | rfl | rfl <;> rfl
theorem pat_of_trod (n : Nat) (cs : List Value) (z : DataW H × List MemPlace) (hl : cs.length = 4) (h : DataW.trod enc Tryz.prog W 0 spare held n 43 cs = some z) : ∃ x : Pat, (∀ i, i < 4 → cs[i]? = some (Pat.cell x i)) ∧ True := by
  obtain ⟨xs, m, _, _, _, hlen, hf⟩ := DataW.trod_struct Tryz.underlying43 h
  obtain ⟨x0, x1, x2, x3, rfl⟩ := list4 hlen
  obtain ⟨c0, c1, c2, c3, rfl⟩ := list4 hl
  obtain ⟨a, rfl⟩ := int_of_trod (hf 0 _ rfl)
  obtain ⟨b, rfl⟩ := int_of_trod (hf 1 _ rfl)
  obtain ⟨k, rfl⟩ := int_of_trod (hf 2 _ rfl)
  obtain ⟨j, rfl⟩ := int_of_trod (hf 3 _ rfl)
  refine ⟨⟨a, b, k, j⟩, fun i hi => ?_, trivial⟩
  have : i = 0 ∨ i = 1 ∨ i = 2 ∨ i = 3 := by omega
  rcases this with rfl | rfl | rfl | rfl <;> rfl

theorem open_patch {v : Value} {d : DataW H} {ps : List MemPlace} {base : Nat} (hv : Value.okWide Tryz.prog W .any base 43 v) (h : DataW.Trod enc Tryz.prog W 0 spare held 43 v d ps) : ∃ p : Pat, v = .agg #[.int .i64 p.kind, .int .i64 p.pos, .int .i64 p.sym, .int .i64 p.add] := by
  obtain ⟨cs, rfl, hcs⟩ := okWide_struct Tryz.underlying43 hv
  obtain ⟨fuel, hf⟩ := h
  obtain ⟨xs, m, _, _, hl, hlen, hf⟩ := DataW.trod_struct Tryz.underlying43 hf
  have hc4 : Tryz.prog.cellsOf 43 = 4 := by kernel_rfl
  obtain ⟨x0, x1, x2, x3, rfl⟩ := list4 hlen
  rw [hc4] at hl
  obtain ⟨c0, c1, c2, c3, hcl⟩ := list4 hl
  have hcs' : cs.toList = [c0, c1, c2, c3] := hcl
  have hcA : cs = #[c0, c1, c2, c3] := by rw [← Array.toArray_toList (xs := cs), hcs']
  subst hcA
  have f0 := hf 0 _ rfl
  have f1 := hf 1 _ rfl
  have f2 := hf 2 _ rfl
  have f3 := hf 3 _ rfl
  obtain ⟨a, rfl⟩ := int_of_trod f0
  obtain ⟨b, rfl⟩ := int_of_trod f1
  obtain ⟨c, rfl⟩ := int_of_trod f2
  obtain ⟨e, rfl⟩ := int_of_trod f3
  exact ⟨⟨a, b, c, e⟩, rfl⟩
end

end Go.Proofs.YtppmihnbpmkbnadGreat

/- A module that came in. -/
namespace Go.Proofs.YtppmihnbpmkbnadGreat
open Go.ChangeShapes Go.WideShapes Go.ChangeAt Go.RowKit Go.PlainAid Go.Deep

set_option maxRecDepth 100000

section
variable {H : Type} {enc : TypeId × Value → H} {W : World} {spare : Nat → Bool} {held : Bool}

theorem open_module {v : Value} {d : DataW H} {ps : List MemPlace} {base : Nat} (hv : Value.okWide Tryz.prog W .any base 39 v) (h : DataW.Trod enc Tryz.prog W 0 spare held 39 v d ps) : ∃ M, IsMod W.heap.size W v M ∧ M.fits := by
  obtain ⟨cs, rfl, hcs⟩ := okWide_struct Tryz.underlying39 hv
  obtain ⟨fuel, hf⟩ := h
  obtain ⟨xs, m, _, _, hl, hlen, hf⟩ := DataW.trod_struct Tryz.underlying39 hf
  have hc7 : Tryz.prog.cellsOf 39 = 7 := by kernel_rfl
  obtain ⟨x0, x1, x2, x3, x4, x5, x6, rfl⟩ := list7 hlen
  rw [hc7] at hl
  obtain ⟨c0, c1, c2, c3, c4, c5, c6, hcl⟩ := list7 hl
  have hcs' : cs.toList = [c0, c1, c2, c3, c4, c5, c6] := hcl
  have hcA : cs = #[c0, c1, c2, c3, c4, c5, c6] := by rw [← Array.toArray_toList (xs := cs), hcs']
  subst hcA
  have f0 := hf 0 _ rfl
  have f1 := hf 1 _ rfl
  have f2 := hf 2 _ rfl
  have f3 := hf 3 _ rfl
  have f4 := hf 4 _ rfl
  have f5 := hf 5 _ rfl
  have f6 := hf 6 _ rfl
  obtain ⟨N, rfl, hN⟩ := str_of_trod f0
  obtain ⟨a, rfl⟩ := int_of_trod f1
  obtain ⟨b, rfl⟩ := int_of_trod f2
  obtain ⟨T, rfl, hT⟩ := str_of_trod f3
  have _ : Inhabited Exp := ⟨⟨⟨#[]⟩, 0⟩⟩
  have _ : Inhabited Imp := ⟨⟨⟨#[]⟩, ⟨#[]⟩, 0, 0⟩⟩
  have _ : Inhabited Pat := ⟨⟨0, 0, 0, 0⟩⟩
  obtain ⟨es, hE, gE⟩ := row_of_trod (cells := Exp.cell) Tryz.underlying22 (sz := 2) (by kernel_rfl) (by decide) exp_of_trod f4
  obtain ⟨is, hI, gI⟩ := row_of_trod (cells := Imp.cell) Tryz.underlying36 (sz := 4) (by kernel_rfl) (by decide) imp_of_trod f5
  obtain ⟨ps, hP, _⟩ := row_of_trod (cells := Pat.cell) Tryz.underlying37 (sz := 4) (by kernel_rfl) (by decide) pat_of_trod f6
  exact ⟨⟨N, a, b, T, es, is, ps⟩, ⟨c4, c5, c6, rfl, hE, hI, hP⟩, hN, hT, gE, gI⟩
end

end Go.Proofs.YtppmihnbpmkbnadGreat

/- Placed modules and imports that came in. -/
namespace Go.Proofs.YtppmihnbpmkbnadGreat
open Go.ChangeShapes Go.WideShapes Go.ChangeAt Go.RowKit Go.PlainAid Go.Deep

set_option maxRecDepth 100000

theorem list3 {α : Type} {l : List α} (h : l.length = 3) : ∃ a b c, l = [a, b, c] := by
  match l, h with
  | [a, b, c], _ => exact ⟨a, b, c, rfl⟩
theorem list8 {α : Type} {l : List α} (h : l.length = 8) : ∃ a b c d e f g k, l = [a, b, c, d, e, f, g, k] := by
  match l, h with
  | [a, b, c, d, e, f, g, k], _ => exact ⟨a, b, c, d, e, f, g, k, rfl⟩

section
variable {H : Type} {enc : TypeId × Value → H} {W : World} {spare : Nat → Bool} {held : Bool}

theorem mod_of_trod (n : Nat) (c0 c1 c2 c3 c4 c5 c6 : Value) (z : DataW H × List MemPlace) (h : DataW.trod enc Tryz.prog W 0 spare held n 39 [c0, c1, c2, c3, c4, c5, c6] = some z) :
    ∃ M : Mod, c0 = .string M.name ∧ c1 = .int .i64 M.major ∧ c2 = .int .i64 M.minor ∧ c3 = .string M.text ∧ RowOf 2 Exp.cell W.heap.size W c4 M.exps ∧ RowOf 4 Imp.cell W.heap.size W c5 M.imps ∧ RowOf 4 Pat.cell W.heap.size W c6 M.pats ∧ M.fits := by
  obtain ⟨xs, m, _, _, _, hlen, hf⟩ := DataW.trod_struct Tryz.underlying39 h
  obtain ⟨x0, x1, x2, x3, x4, x5, x6, rfl⟩ := list7 hlen
  have f0 := hf 0 _ rfl
  have f1 := hf 1 _ rfl
  have f2 := hf 2 _ rfl
  have f3 := hf 3 _ rfl
  have f4 := hf 4 _ rfl
  have f5 := hf 5 _ rfl
  have f6 := hf 6 _ rfl
  obtain ⟨N, rfl, hN⟩ := str_of_trod f0
  obtain ⟨a, rfl⟩ := int_of_trod f1
  obtain ⟨b, rfl⟩ := int_of_trod f2
  obtain ⟨T, rfl, hT⟩ := str_of_trod f3
  have _ : Inhabited Exp := ⟨⟨⟨#[]⟩, 0⟩⟩
  have _ : Inhabited Imp := ⟨⟨⟨#[]⟩, ⟨#[]⟩, 0, 0⟩⟩
  have _ : Inhabited Pat := ⟨⟨0, 0, 0, 0⟩⟩
  obtain ⟨es, hE, gE⟩ := row_of_trod (cells := Exp.cell) Tryz.underlying22 (sz := 2) (by kernel_rfl) (by decide) exp_of_trod f4
  obtain ⟨is, hI, gI⟩ := row_of_trod (cells := Imp.cell) Tryz.underlying36 (sz := 4) (by kernel_rfl) (by decide) imp_of_trod f5
  obtain ⟨ps, hP, _⟩ := row_of_trod (cells := Pat.cell) Tryz.underlying37 (sz := 4) (by kernel_rfl) (by decide) pat_of_trod f6
  exact ⟨⟨N, a, b, T, es, is, ps⟩, rfl, rfl, rfl, rfl, hE, hI, hP, hN, hT, gE, gI⟩

theorem plc_of_trod (n : Nat) (cs : List Value) (z : DataW H × List MemPlace) (hl : cs.length = 8) (h : DataW.trod enc Tryz.prog W 0 spare held n 41 cs = some z) : ∃ x : PV, (∀ i, i < 8 → cs[i]? = some (PV.cell x i)) ∧ (PlcAt W.heap.size W x ∧ x.mod.fits) := by
  obtain ⟨xs, m, _, _, _, hlen, hf⟩ := DataW.trod_struct Tryz.underlying41 h
  obtain ⟨x0, x1, rfl⟩ := list2 hlen
  obtain ⟨c0, c1, c2, c3, c4, c5, c6, c7, rfl⟩ := list8 hl
  have h7 : Tryz.prog.cellsOf 39 = 7 := by kernel_rfl
  have f0 : DataW.trod enc Tryz.prog W 0 spare held m 39 (([c0, c1, c2, c3, c4, c5, c6, c7].drop 0).take (Tryz.prog.cellsOf 39)) = some x0 := hf 0 _ rfl
  rw [h7] at f0
  obtain ⟨M, rfl, rfl, rfl, rfl, hE, hI, hP, hF⟩ := mod_of_trod m c0 c1 c2 c3 c4 c5 c6 x0 f0
  obtain ⟨k, rfl⟩ := int_of_trod (hf 1 _ rfl)
  refine ⟨⟨M, c4, c5, c6, k⟩, fun i hi => ?_, ⟨hE, hI, hP⟩, hF⟩
  have : i = 0 ∨ i = 1 ∨ i = 2 ∨ i = 3 ∨ i = 4 ∨ i = 5 ∨ i = 6 ∨ i = 7 := by omega
  rcases this with rfl | rfl | rfl | rfl | rfl | rfl | rfl | rfl <;> rfl

theorem open_import {v : Value} {d : DataW H} {ps : List MemPlace} {base : Nat} (hv : Value.okWide Tryz.prog W .any base 84 v) (h : DataW.Trod enc Tryz.prog W 0 spare held 84 v d ps) : ∃ i : Imp, v = .agg #[.string i.mod, .string i.name, .int .i64 i.major, .int .i64 i.minor] ∧ i.fits := by
  obtain ⟨cs, rfl, hcs⟩ := okWide_struct Tryz.underlying84 hv
  obtain ⟨fuel, hf⟩ := h
  obtain ⟨xs, m, _, _, hl, hlen, hf⟩ := DataW.trod_struct Tryz.underlying84 hf
  have hc4 : Tryz.prog.cellsOf 84 = 4 := by kernel_rfl
  obtain ⟨x0, x1, x2, x3, rfl⟩ := list4 hlen
  rw [hc4] at hl
  obtain ⟨c0, c1, c2, c3, hcl⟩ := list4 hl
  have hcs' : cs.toList = [c0, c1, c2, c3] := hcl
  have hcA : cs = #[c0, c1, c2, c3] := by rw [← Array.toArray_toList (xs := cs), hcs']
  subst hcA
  obtain ⟨s, rfl, hs⟩ := str_of_trod (hf 0 _ rfl)
  obtain ⟨t, rfl, ht⟩ := str_of_trod (hf 1 _ rfl)
  obtain ⟨a, rfl⟩ := int_of_trod (hf 2 _ rfl)
  obtain ⟨b, rfl⟩ := int_of_trod (hf 3 _ rfl)
  exact ⟨⟨s, t, a, b⟩, rfl, hs, ht⟩

theorem open_plc {v : Value} {d : DataW H} {ps : List MemPlace} {base : Nat} (hv : Value.okWide Tryz.prog W .any base 41 v) (h : DataW.Trod enc Tryz.prog W 0 spare held 41 v d ps) : ∃ x : PV, v = x.val ∧ PlcAt W.heap.size W x ∧ x.mod.fits := by
  obtain ⟨cs, rfl, hcs⟩ := okWide_struct Tryz.underlying41 hv
  obtain ⟨fuel, hf⟩ := h
  have hl := (DataW.trod_struct Tryz.underlying41 hf)
  obtain ⟨_, _, _, _, hl, _, _⟩ := hl
  have hc8 : Tryz.prog.cellsOf 41 = 8 := by kernel_rfl
  rw [hc8] at hl
  obtain ⟨x, hx, g1, g2⟩ := plc_of_trod _ _ _ hl hf
  obtain ⟨c0, c1, c2, c3, c4, c5, c6, c7, hcl⟩ := list8 hl
  have hcs' : cs.toList = [c0, c1, c2, c3, c4, c5, c6, c7] := hcl
  have hcA : cs = #[c0, c1, c2, c3, c4, c5, c6, c7] := by rw [← Array.toArray_toList (xs := cs), hcs']
  subst hcA
  have e0 : c0 = _ := Option.some.inj (hx 0 (by omega))
  have e1 : c1 = _ := Option.some.inj (hx 1 (by omega))
  have e2 : c2 = _ := Option.some.inj (hx 2 (by omega))
  have e3 : c3 = _ := Option.some.inj (hx 3 (by omega))
  have e4 : c4 = _ := Option.some.inj (hx 4 (by omega))
  have e5 : c5 = _ := Option.some.inj (hx 5 (by omega))
  have e6 : c6 = _ := Option.some.inj (hx 6 (by omega))
  have e7 : c7 = _ := Option.some.inj (hx 7 (by omega))
  subst e0 e1 e2 e3 e4 e5 e6 e7
  exact ⟨x, rfl, g1, g2⟩

theorem open_placed {v : Value} {d : DataW H} {ps : List MemPlace} {base : Nat} (hv : Value.okWide Tryz.prog W .any base 25 v) (h : DataW.Trod enc Tryz.prog W 0 spare held 25 v d ps) : ∃ l : List PV, IsPlcs W.heap.size W v l ∧ ∀ x ∈ l, x.mod.fits := by
  obtain ⟨a, ln, cp, rfl⟩ := okWide_slice Tryz.underlying25 hv
  obtain ⟨fuel, hf⟩ := h
  have _ : Inhabited PV := ⟨⟨⟨⟨#[]⟩, 0, 0, ⟨#[]⟩, [], [], []⟩, .slice none 0 0, .slice none 0 0, .slice none 0 0, 0⟩⟩
  obtain ⟨l, hL, gL⟩ := row_of_trod (α := PV) (cells := PV.cell) (good := fun x => PlcAt W.heap.size W x ∧ x.mod.fits) (c := .slice a ln cp) Tryz.underlying25 (sz := 8) (by kernel_rfl) (by decide) plc_of_trod hf
  exact ⟨l, ⟨hL, fun x hx => (gL x hx).1⟩, fun x hx => (gL x hx).2⟩
end

end Go.Proofs.YtppmihnbpmkbnadGreat
