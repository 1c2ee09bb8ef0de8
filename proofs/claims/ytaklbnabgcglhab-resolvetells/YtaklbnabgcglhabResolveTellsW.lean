/- The walk of the law ResolveTells: it returns true. -/
import Derived.Test.YtaklbnabgcglhabRrC
import Derived.Test.YtaklbnabgcglhabResI
namespace Go.Proofs.Ytaklbnabgcglhab.resolveTells
open Go.RowKit Go.PlainAid

set_option maxRecDepth 100000

set_option maxHeartbeats 1000000 in
theorem checkFind_any (K : Ker) (vk : Value) (l : List PV) (v : Value) (w : World) (hK : IsKer w.heap.size w vk K) (hf : K.fits) (hrow : IsPlcs w.heap.size w v l) (hfit : ∀ x ∈ l, x.mod.fits) :
    Calls Try.prog 18 #[vk, v] w fun e w' => e = .returned (.int .i64 (chkFind K (l.map PV.plc))) ∧ Below w.heap.size w w' := by
  have HK : Hid (∀ w', Below w.heap.size w w' → Calls Try.prog 25 #[vk] w' fun e w'' => e = .returned (.int .i64 (chkKer K)) ∧ Below w'.heap.size w' w'') := fun w' hb => checkKernel_any K vk w' ((hK.below hb).more hb.size) hf
  have HM : Hid (∀ w', Below w.heap.size w w' → Calls Try.prog 47 #[v, .bool true, .bool false] w' fun e w'' => e = .returned (.int .i64 (chkPlaced (l.map PV.plc))) ∧ Below w'.heap.size w' w'') := fun w' hb => checkModules_any l v w' ((hrow.below hb).more hb.size) hfit
  obtain ⟨vke, rfl, hE⟩ := hK
  obtain ⟨pe, ke, rfl, _, _⟩ := hE
  have key : (chkKer K ≠ 0 ∧ chkFind K (l.map PV.plc) = chkKer K) ∨ (chkKer K = 0 ∧ chkFind K (l.map PV.plc) = chkPlaced (l.map PV.plc)) := by
    unfold chkFind
    by_cases h : chkKer K = 0
    · exact .inr ⟨h, by rw [if_neg (by omega)]⟩
    · exact .inl ⟨h, by rw [if_pos h]⟩
  generalize chkFind K (l.map PV.plc) = R at *
  generalize chkPlaced (l.map PV.plc) = cp at *
  generalize chkKer K = ck at *
  obtain ⟨ma, mi, es⟩ := K
  dsimp only at *
  generalize es.length = le at *
  obtain ⟨⟨a, cap, rfl, _, _⟩, _⟩ := hrow
  have HW : Hid (Below w.heap.size w (w.alloc (.cells #[.int .i64 ma, .int .i64 mi, .slice pe le ke] 37))) := (Below.refl _ _).alloc (Nat.le_refl _) _
  rcases key with ⟨h, rfl⟩ | ⟨rfl, rfl⟩
  · have h' : (R == 0) = false := by simpa using h
    clear h
    go_enter Try.func18, Try.ntmps18
    go_wp2_with fail
    refine (HK.out _ HW.out).mono ?_
    rintro _ w1 ⟨rfl, b1⟩
    go_wp2
    go_ret
    exact ⟨rfl, HW.out.trans (b1.mono HW.out.size)⟩
  · go_enter Try.func18, Try.ntmps18
    go_wp2_with fail
    refine (HK.out _ HW.out).mono ?_
    rintro _ w1 ⟨rfl, b1⟩
    have B1 := HW.out.trans (b1.mono HW.out.size)
    go_wp2_with fail
    refine (HM.out _ B1).mono ?_
    rintro _ w2 ⟨rfl, b2⟩
    go_wp2
    go_ret
    exact ⟨rfl, B1.trans (b2.mono B1.size)⟩

theorem tells_key (K : Ker) (l : List Plc) (i : Imp) (M : Mod) : (chkFind K l ≠ 0 ∧ findRes K l i = (0, chkFind K l) ∧ allRes K l M = ([], chkFind K l)) ∨
    (chkFind K l = 0 ∧ (impOwn i ≠ 0 ∧ findRes K l i = (0, impOwn i) ∨ impOwn i = 0 ∧ findRes K l i = addrOf K l i) ∧ (chkMod M ≠ 0 ∧ allRes K l M = ([], chkMod M) ∨ chkMod M = 0 ∧ allRes K l M = addrsFrom K l [] M.imps)) := by
  by_cases h : chkFind K l = 0
  · refine .inr ⟨h, ?_, ?_⟩
    · rcases findRes_cases K l i with ⟨g, _⟩ | ⟨_, g, e⟩ | ⟨_, g, e⟩
      · exact absurd h g
      · exact .inl ⟨g, e⟩
      · exact .inr ⟨g, e⟩
    · rcases allRes_cases K l M with ⟨g, _⟩ | ⟨_, g, e⟩ | ⟨_, g, e⟩
      · exact absurd h g
      · exact .inl ⟨g, e⟩
      · exact .inr ⟨g, e⟩
  · refine .inl ⟨h, ?_, ?_⟩
    · rcases findRes_cases K l i with ⟨_, e⟩ | ⟨g, _⟩ | ⟨g, _⟩
      · exact e
      · exact absurd g h
      · exact absurd g h
    · rcases allRes_cases K l M with ⟨_, e⟩ | ⟨g, _⟩ | ⟨g, _⟩
      · exact e
      · exact absurd g h
      · exact absurd g h

set_option maxHeartbeats 8000000 in
theorem walk (K : Ker) (vk : Value) (l : List PV) (v : Value) (i : Imp) (M : Mod) (vm : Value) (w : World) (hK : IsKer w.heap.size w vk K) (hf : K.fits) (hrow : IsPlcs w.heap.size w v l) (hfit : ∀ x ∈ l, x.mod.fits) (hi : i.fits) (hM : IsMod w.heap.size w vm M) (hMf : M.fits) :
    Calls Try.prog 5 #[vk, v, .agg #[.string i.mod, .string i.name, .int .i64 i.major, .int .i64 i.minor], vm] w fun e w' => e = .returned (.bool true) ∧ Below w.heap.size w w' := by
  have HF : Hid (∀ W, Below w.heap.size w W → Calls Try.prog 16 #[vk, v, .agg #[.string i.mod, .string i.name, .int .i64 i.major, .int .i64 i.minor]] W fun e w' => e = .returned (.tuple #[.int .i64 (findRes K (l.map PV.plc) i).1, .int .i64 (findRes K (l.map PV.plc) i).2]) ∧ Below W.heap.size W w') :=
    fun W hb => find_any K vk l v i W ((hK.below hb).more hb.size) hf ((hrow.below hb).more hb.size) hfit hi
  have HA : Hid (∀ W, Below w.heap.size w W → Calls Try.prog 17 #[vk, v, vm] W fun e w' => (∃ r, e = .returned (.tuple #[r, .int .i64 (allRes K (l.map PV.plc) M).2]) ∧ RowOf 1 intCell w'.heap.size w' r (allRes K (l.map PV.plc) M).1) ∧ Below W.heap.size W w') :=
    fun W hb => all_any K vk l v M vm W ((hK.below hb).more hb.size) hf ((hrow.below hb).more hb.size) hfit ((hM.below hb).more hb.size) hMf
  have HCF : Hid (∀ W, Below w.heap.size w W → Calls Try.prog 18 #[vk, v] W fun e w' => e = .returned (.int .i64 (chkFind K (l.map PV.plc))) ∧ Below W.heap.size W w') :=
    fun W hb => checkFind_any K vk l v W ((hK.below hb).more hb.size) hf ((hrow.below hb).more hb.size) hfit
  have HCI : Hid (∀ W, Calls Try.prog 19 #[.agg #[.string i.mod, .string i.name, .int .i64 i.major, .int .i64 i.minor]] W fun e w' => e = .returned (.int .i64 (impOwn i)) ∧ Below W.heap.size W w') := fun W => checkImport_any i W hi
  have HCM : Hid (∀ W, Below w.heap.size w W → Calls Try.prog 20 #[vm] W fun e w' => e = .returned (.int .i64 (chkMod M)) ∧ Below W.heap.size W w') := fun W hb => checkModule_any M vm W ((hM.below hb).more hb.size) hMf
  have HAD : Hid (chkFind K (l.map PV.plc) = 0 → ∀ W, Below w.heap.size w W → Calls Try.prog 21 #[vk, v, .agg #[.string i.mod, .string i.name, .int .i64 i.major, .int .i64 i.minor]] W fun e w' => e = .returned (.tuple #[.int .i64 (addrOf K (l.map PV.plc) i).1, .int .i64 (addrOf K (l.map PV.plc) i).2]) ∧ Below W.heap.size W w') :=
    fun h0 W hb => addressOf_any K vk l v i W ((hK.below hb).more hb.size) ((hrow.below hb).more hb.size) h0
  have HAS : Hid (chkFind K (l.map PV.plc) = 0 → chkMod M = 0 → ∀ W, Below w.heap.size w W → Calls Try.prog 22 #[vk, v, vm] W fun e w' => (∃ r, e = .returned (.tuple #[r, .int .i64 (addrsFrom K (l.map PV.plc) [] M.imps).2]) ∧ RowOf 1 intCell w'.heap.size w' r (addrsFrom K (l.map PV.plc) [] M.imps).1) ∧ Below W.heap.size W w') :=
    fun h0 h1 W hb => addressesOf_any K vk l v M vm W ((hK.below hb).more hb.size) ((hrow.below hb).more hb.size) ((hM.below hb).more hb.size) h0 h1
  have HKK : Hid (∀ W, Below w.heap.size w W → Calls Try.prog 24 #[vk] W fun e w' => e = .returned (.int .i64 (chkKer K)) ∧ Below W.heap.size W w') := fun W hb => kernel_any K vk W ((hK.below hb).more hb.size) hf
  have HCK : Hid (∀ W, Below w.heap.size w W → Calls Try.prog 25 #[vk] W fun e w' => e = .returned (.int .i64 (chkKer K)) ∧ Below W.heap.size W w') := fun W hb => checkKernel_any K vk W ((hK.below hb).more hb.size) hf
  have key := tells_key K (l.map PV.plc) i M
  obtain ⟨vke, rfl, hE⟩ := hK
  obtain ⟨pe, ke, rfl, _, _⟩ := hE
  obtain ⟨⟨a, cap, rfl, _, _⟩, _⟩ := hrow
  obtain ⟨me, mi', mp, rfl, hme, hmi, hmp⟩ := hM
  obtain ⟨qe, je, rfl, _, _⟩ := hme
  obtain ⟨qi, ji, rfl, _, _⟩ := hmi
  obtain ⟨qp, jp, rfl, _, _⟩ := hmp
  clear hf hfit hi hMf
  generalize findRes K (l.map PV.plc) i = FR at *
  generalize allRes K (l.map PV.plc) M = AR at *
  generalize addrOf K (l.map PV.plc) i = AO at *
  generalize addrsFrom K (l.map PV.plc) [] M.imps = AS at *
  generalize chkFind K (l.map PV.plc) = cf at *
  generalize chkKer K = ck at *
  generalize chkMod M = cm at *
  generalize impOwn i = io at *
  obtain ⟨ma, mi, es⟩ := K
  obtain ⟨im, inm, ia, ib⟩ := i
  obtain ⟨N, xa, xi, T, xs, is, ps⟩ := M
  dsimp only at *
  generalize es.length = le at *
  generalize xs.length = lx at *
  generalize is.length = li at *
  generalize ps.length = lp at *
  generalize l.length = ll at *
  have BB : Below w.heap.size w (((w.alloc (.cells #[.int .i64 ma, .int .i64 mi, .slice pe le ke] 37)).alloc (.cells #[.string im, .string inm, .int .i64 ia, .int .i64 ib] 40)).alloc (.cells #[.string N, .int .i64 xa, .int .i64 xi, .string T, .slice qe lx je, .slice qi li ji, .slice qp lp jp] 44)) := (((Below.refl _ _).alloc (Nat.le_refl _) _).alloc (by simp) _).alloc (by simp; omega) _
  have KB : CellsAt (((w.alloc (.cells #[.int .i64 ma, .int .i64 mi, .slice pe le ke] 37)).alloc (.cells #[.string im, .string inm, .int .i64 ia, .int .i64 ib] 40)).alloc (.cells #[.string N, .int .i64 xa, .int .i64 xi, .string T, .slice qe lx je, .slice qi li ji, .slice qp lp jp] 44)) w.heap.size 37 #[.int .i64 ma, .int .i64 mi, .slice pe le ke] := ((CellsAt.new w 37 #[.int .i64 ma, .int .i64 mi, .slice pe le ke]).kept (World.grownBy_alloc _ _ none) (by simp)).kept (World.grownBy_alloc _ _ none) (by simp)
  have IB : CellsAt (((w.alloc (.cells #[.int .i64 ma, .int .i64 mi, .slice pe le ke] 37)).alloc (.cells #[.string im, .string inm, .int .i64 ia, .int .i64 ib] 40)).alloc (.cells #[.string N, .int .i64 xa, .int .i64 xi, .string T, .slice qe lx je, .slice qi li ji, .slice qp lp jp] 44)) (w.heap.size + 1) 40 #[.string im, .string inm, .int .i64 ia, .int .i64 ib] := by
    have := (CellsAt.new (w.alloc (.cells #[.int .i64 ma, .int .i64 mi, .slice pe le ke] 37)) 40 #[.string im, .string inm, .int .i64 ia, .int .i64 ib]).kept (World.grownBy_alloc _ (.cells #[.string N, .int .i64 xa, .int .i64 xi, .string T, .slice qe lx je, .slice qi li ji, .slice qp lp jp] 44) none) (by simp)
    rw [World.size_alloc] at this
    exact this
  have MB : CellsAt (((w.alloc (.cells #[.int .i64 ma, .int .i64 mi, .slice pe le ke] 37)).alloc (.cells #[.string im, .string inm, .int .i64 ia, .int .i64 ib] 40)).alloc (.cells #[.string N, .int .i64 xa, .int .i64 xi, .string T, .slice qe lx je, .slice qi li ji, .slice qp lp jp] 44)) (w.heap.size + 1 + 1) 44 #[.string N, .int .i64 xa, .int .i64 xi, .string T, .slice qe lx je, .slice qi li ji, .slice qp lp jp] := by
    have := CellsAt.new ((w.alloc (.cells #[.int .i64 ma, .int .i64 mi, .slice pe le ke] 37)).alloc (.cells #[.string im, .string inm, .int .i64 ia, .int .i64 ib] 40)) 44 #[.string N, .int .i64 xa, .int .i64 xi, .string T, .slice qe lx je, .slice qi li ji, .slice qp lp jp]
    rw [World.size_alloc, World.size_alloc] at this
    exact this
  have HBB : Hid _ := BB
  have HKB : Hid _ := KB
  have HIB : Hid _ := IB
  have HMB : Hid _ := MB
  clear BB KB IB MB
  go_enter Try.func5, Try.ntmps5
  go_wp2_with fail
  refine (HF.out _ HBB.out).mono ?_
  rintro _ w1 ⟨rfl, b1⟩
  have KB := CellsAt.below HKB.out b1 (CellsAt.lt HKB.out)
  have IB := CellsAt.below HIB.out b1 (CellsAt.lt HIB.out)
  have MB := CellsAt.below HMB.out b1 (CellsAt.lt HMB.out)
  have BB := HBB.out.trans (b1.mono HBB.out.size)
  clear b1 HBB HKB HIB HMB HF
  have k0 := KB.cell 0
  have k1 := KB.cell 1
  have k2 := KB.cell 2
  have i0 := IB.cell 0
  have i1 := IB.cell 1
  have i2 := IB.cell 2
  have i3 := IB.cell 3
  have m0 := MB.cell 0
  have m1 := MB.cell 1
  have m2 := MB.cell 2
  have m3 := MB.cell 3
  have m4 := MB.cell 4
  have m5 := MB.cell 5
  have m6 := MB.cell 6
  simp at k0 k1 k2 i0 i1 i2 i3 m0 m1 m2 m3 m4 m5 m6
  go_wp2_with fail
  refine (HA.out _ BB).mono ?_
  rintro _ w2 ⟨⟨r, rfl, hR⟩, b2⟩
  clear k0 k1 k2 i0 i1 i2 i3 m0 m1 m2 m3 m4 m5 m6
  have KB := KB.below b2 KB.lt
  have IB := IB.below b2 IB.lt
  have MB := MB.below b2 MB.lt
  have BB := BB.trans (b2.mono BB.size)
  clear b2 HA
  have k0 := KB.cell 0
  have k1 := KB.cell 1
  have k2 := KB.cell 2
  have i0 := IB.cell 0
  have i1 := IB.cell 1
  have i2 := IB.cell 2
  have i3 := IB.cell 3
  have m0 := MB.cell 0
  have m1 := MB.cell 1
  have m2 := MB.cell 2
  have m3 := MB.cell 3
  have m4 := MB.cell 4
  have m5 := MB.cell 5
  have m6 := MB.cell 6
  simp at k0 k1 k2 i0 i1 i2 i3 m0 m1 m2 m3 m4 m5 m6
  go_wp2_with fail
  refine (HCF.out _ BB).mono ?_
  rintro _ w3 ⟨rfl, b3⟩
  clear k0 k1 k2 i0 i1 i2 i3 m0 m1 m2 m3 m4 m5 m6
  have KB := KB.below b3 KB.lt
  have IB := IB.below b3 IB.lt
  have MB := MB.below b3 MB.lt
  have BB := BB.trans (b3.mono BB.size)
  have hR := (hR.below b3).more b3.size
  clear b3 HCF
  rcases key with ⟨h1, rfl, rfl⟩ | ⟨rfl, k1, k2⟩
  · have h1' : (cf == 0) = false := by simpa using h1
    clear h1 HAD HAS HCI HCM
    dsimp only at hR ⊢
    have hS : RowOf 1 intCell w3.heap.size w3 (.slice none 0 0) [] := ⟨none, 0, rfl, by simp, .inl rfl⟩
    have k0 := KB.cell 0
    have k1 := KB.cell 1
    have k2 := KB.cell 2
    have i0 := IB.cell 0
    have i1 := IB.cell 1
    have i2 := IB.cell 2
    have i3 := IB.cell 3
    have m0 := MB.cell 0
    have m1 := MB.cell 1
    have m2 := MB.cell 2
    have m3 := MB.cell 3
    have m4 := MB.cell 4
    have m5 := MB.cell 5
    have m6 := MB.cell 6
    simp at k0 k1 k2 i0 i1 i2 i3 m0 m1 m2 m3 m4 m5 m6
    have z0 := cell_regrown k0
    have z1 := cell_regrown k1
    have z2 := cell_regrown k2
    have HQB : Hid (∀ d os, _) := fun d os => (fun W' (_ : Below w3.heap.size w3 W') => resolveBegun_any W') _ (below_regrown w3 d os)
    have HQK : Hid (∀ d os, _) := fun d os => HKK.out _ (BB.trans ((below_regrown w3 d os).mono BB.size))
    have HQC : Hid (∀ d os, _) := fun d os => HCK.out _ (BB.trans ((below_regrown w3 d os).mono BB.size))
    have HQS : Hid (∀ d os, _) := fun d os => (fun W' (hb : Below w3.heap.size w3 W') => sameInts_yes _ _ _ W' ((hR.below hb).more hb.size) ((hS.below hb).more hb.size)) _ (below_regrown w3 d os)
    clear hR hS KB IB MB HKK HCK i0 i1 i2 i3 m0 m1 m2 m3 m4 m5 m6
    go_wp2_with fail
    refine wp_region_quiet_below (by kernel_rfl) (by kernel_rfl) ?_
    repeat (quiet_step (first | (go_at_call 23; go_must (exact Calls.regrown_of (HQB.out _ _))) | (go_at_call 24; go_must (exact Calls.regrown_of (HQK.out _ _))) | (go_at_call 25; go_must (exact Calls.regrown_of (HQC.out _ _))) | (go_at_call 26; go_must (exact Calls.regrown_of (HQS.out _ _)))))
    refine wpQuiet_nil ?_
    intro w9 hw9
    obtain ⟨⟨dq, osq⟩, hw9⟩ := hw9
    have B9 := BB.trans ((below_regrown w3 dq osq).mono BB.size)
    rw [← hw9] at B9
    clear hw9
    go_wp2
    go_ret
    exact ⟨rfl, B9⟩
  · have hAD := HAD.out (by first | rfl | trivial)
    have hAS := HAS.out (by first | rfl | trivial)
    clear HAD HAS
    have HAD1 : Hid _ := hAD
    have HAS1 : Hid _ := hAS
    clear hAD hAS
    have k0 := KB.cell 0
    have k1 := KB.cell 1
    have k2 := KB.cell 2
    have i0 := IB.cell 0
    have i1 := IB.cell 1
    have i2 := IB.cell 2
    have i3 := IB.cell 3
    have m0 := MB.cell 0
    have m1 := MB.cell 1
    have m2 := MB.cell 2
    have m3 := MB.cell 3
    have m4 := MB.cell 4
    have m5 := MB.cell 5
    have m6 := MB.cell 6
    simp at k0 k1 k2 i0 i1 i2 i3 m0 m1 m2 m3 m4 m5 m6
    go_wp2_with fail
    refine (HCI.out _).mono ?_
    rintro _ w4 ⟨rfl, b4⟩
    clear k0 k1 k2 i0 i1 i2 i3 m0 m1 m2 m3 m4 m5 m6
    have KB := KB.below b4 KB.lt
    have IB := IB.below b4 IB.lt
    have MB := MB.below b4 MB.lt
    have BB := BB.trans (b4.mono BB.size)
    have hR := (hR.below b4).more b4.size
    clear b4 HCI
    have k0 := KB.cell 0
    have k1 := KB.cell 1
    have k2 := KB.cell 2
    have i0 := IB.cell 0
    have i1 := IB.cell 1
    have i2 := IB.cell 2
    have i3 := IB.cell 3
    have m0 := MB.cell 0
    have m1 := MB.cell 1
    have m2 := MB.cell 2
    have m3 := MB.cell 3
    have m4 := MB.cell 4
    have m5 := MB.cell 5
    have m6 := MB.cell 6
    simp at k0 k1 k2 i0 i1 i2 i3 m0 m1 m2 m3 m4 m5 m6
    go_wp2_with fail
    refine (HCM.out _ BB).mono ?_
    rintro _ w5 ⟨rfl, b5⟩
    clear k0 k1 k2 i0 i1 i2 i3 m0 m1 m2 m3 m4 m5 m6
    have KB := KB.below b5 KB.lt
    have IB := IB.below b5 IB.lt
    have MB := MB.below b5 MB.lt
    have BB := BB.trans (b5.mono BB.size)
    have hR := (hR.below b5).more b5.size
    clear b5 HCM
    rcases k1 with ⟨g1, rfl⟩ | ⟨rfl, rfl⟩ <;> rcases k2 with ⟨g2, rfl⟩ | ⟨rfl, rfl⟩
    · have g1' : (io == 0) = false := by simpa using g1
      have g2' : (cm == 0) = false := by simpa using g2
      clear g1 g2 HAD1 HAS1
      dsimp only at hR ⊢
      have hS : RowOf 1 intCell w5.heap.size w5 (.slice none 0 0) [] := ⟨none, 0, rfl, by simp, .inl rfl⟩
      have k0 := KB.cell 0
      have k1 := KB.cell 1
      have k2 := KB.cell 2
      have i0 := IB.cell 0
      have i1 := IB.cell 1
      have i2 := IB.cell 2
      have i3 := IB.cell 3
      have m0 := MB.cell 0
      have m1 := MB.cell 1
      have m2 := MB.cell 2
      have m3 := MB.cell 3
      have m4 := MB.cell 4
      have m5 := MB.cell 5
      have m6 := MB.cell 6
      simp at k0 k1 k2 i0 i1 i2 i3 m0 m1 m2 m3 m4 m5 m6
      have z0 := cell_regrown k0
      have z1 := cell_regrown k1
      have z2 := cell_regrown k2
      have HQB : Hid (∀ d os, _) := fun d os => (fun W' (_ : Below w5.heap.size w5 W') => resolveBegun_any W') _ (below_regrown w5 d os)
      have HQK : Hid (∀ d os, _) := fun d os => HKK.out _ (BB.trans ((below_regrown w5 d os).mono BB.size))
      have HQC : Hid (∀ d os, _) := fun d os => HCK.out _ (BB.trans ((below_regrown w5 d os).mono BB.size))
      have HQS : Hid (∀ d os, _) := fun d os => (fun W' (hb : Below w5.heap.size w5 W') => sameInts_yes _ _ _ W' ((hR.below hb).more hb.size) ((hS.below hb).more hb.size)) _ (below_regrown w5 d os)
      clear hR hS KB IB MB HKK HCK i0 i1 i2 i3 m0 m1 m2 m3 m4 m5 m6
      go_wp2_with fail
      refine wp_region_quiet_below (by kernel_rfl) (by kernel_rfl) ?_
      repeat (quiet_step (first | (go_at_call 23; go_must (exact Calls.regrown_of (HQB.out _ _))) | (go_at_call 24; go_must (exact Calls.regrown_of (HQK.out _ _))) | (go_at_call 25; go_must (exact Calls.regrown_of (HQC.out _ _))) | (go_at_call 26; go_must (exact Calls.regrown_of (HQS.out _ _)))))
      refine wpQuiet_nil ?_
      intro w9 hw9
      obtain ⟨⟨dq, osq⟩, hw9⟩ := hw9
      have B9 := BB.trans ((below_regrown w5 dq osq).mono BB.size)
      rw [← hw9] at B9
      clear hw9
      go_wp2
      go_ret
      exact ⟨rfl, B9⟩
    · have g1' : (io == 0) = false := by simpa using g1
      have hAS := HAS1.out (by first | rfl | trivial)
      clear g1 HAD1 HAS1
      have HAS2 : Hid _ := hAS
      clear hAS
      dsimp only at hR ⊢
      have k0 := KB.cell 0
      have k1 := KB.cell 1
      have k2 := KB.cell 2
      have i0 := IB.cell 0
      have i1 := IB.cell 1
      have i2 := IB.cell 2
      have i3 := IB.cell 3
      have m0 := MB.cell 0
      have m1 := MB.cell 1
      have m2 := MB.cell 2
      have m3 := MB.cell 3
      have m4 := MB.cell 4
      have m5 := MB.cell 5
      have m6 := MB.cell 6
      simp at k0 k1 k2 i0 i1 i2 i3 m0 m1 m2 m3 m4 m5 m6
      go_wp2_with fail
      refine (HAS2.out _ BB).mono ?_
      rintro _ w7 ⟨⟨r2, rfl, hS⟩, b7⟩
      clear k0 k1 k2 i0 i1 i2 i3 m0 m1 m2 m3 m4 m5 m6
      have KB := KB.below b7 KB.lt
      have IB := IB.below b7 IB.lt
      have MB := MB.below b7 MB.lt
      have BB := BB.trans (b7.mono BB.size)
      have hR := (hR.below b7).more b7.size
      clear b7 HAS2
      have k0 := KB.cell 0
      have k1 := KB.cell 1
      have k2 := KB.cell 2
      have i0 := IB.cell 0
      have i1 := IB.cell 1
      have i2 := IB.cell 2
      have i3 := IB.cell 3
      have m0 := MB.cell 0
      have m1 := MB.cell 1
      have m2 := MB.cell 2
      have m3 := MB.cell 3
      have m4 := MB.cell 4
      have m5 := MB.cell 5
      have m6 := MB.cell 6
      simp at k0 k1 k2 i0 i1 i2 i3 m0 m1 m2 m3 m4 m5 m6
      have z0 := cell_regrown k0
      have z1 := cell_regrown k1
      have z2 := cell_regrown k2
      have HQB : Hid (∀ d os, _) := fun d os => (fun W' (_ : Below w7.heap.size w7 W') => resolveBegun_any W') _ (below_regrown w7 d os)
      have HQK : Hid (∀ d os, _) := fun d os => HKK.out _ (BB.trans ((below_regrown w7 d os).mono BB.size))
      have HQC : Hid (∀ d os, _) := fun d os => HCK.out _ (BB.trans ((below_regrown w7 d os).mono BB.size))
      have HQS : Hid (∀ d os, _) := fun d os => (fun W' (hb : Below w7.heap.size w7 W') => sameInts_yes _ _ _ W' ((hR.below hb).more hb.size) ((hS.below hb).more hb.size)) _ (below_regrown w7 d os)
      clear hR hS KB IB MB HKK HCK i0 i1 i2 i3 m0 m1 m2 m3 m4 m5 m6
      go_wp2_with fail
      refine wp_region_quiet_below (by kernel_rfl) (by kernel_rfl) ?_
      repeat (quiet_step (first | (go_at_call 23; go_must (exact Calls.regrown_of (HQB.out _ _))) | (go_at_call 24; go_must (exact Calls.regrown_of (HQK.out _ _))) | (go_at_call 25; go_must (exact Calls.regrown_of (HQC.out _ _))) | (go_at_call 26; go_must (exact Calls.regrown_of (HQS.out _ _)))))
      refine wpQuiet_nil ?_
      intro w9 hw9
      obtain ⟨⟨dq, osq⟩, hw9⟩ := hw9
      have B9 := BB.trans ((below_regrown w7 dq osq).mono BB.size)
      rw [← hw9] at B9
      clear hw9
      go_wp2
      go_ret
      exact ⟨rfl, B9⟩
    · have g2' : (cm == 0) = false := by simpa using g2
      clear g2 HAS1
      dsimp only at hR ⊢
      have k0 := KB.cell 0
      have k1 := KB.cell 1
      have k2 := KB.cell 2
      have i0 := IB.cell 0
      have i1 := IB.cell 1
      have i2 := IB.cell 2
      have i3 := IB.cell 3
      have m0 := MB.cell 0
      have m1 := MB.cell 1
      have m2 := MB.cell 2
      have m3 := MB.cell 3
      have m4 := MB.cell 4
      have m5 := MB.cell 5
      have m6 := MB.cell 6
      simp at k0 k1 k2 i0 i1 i2 i3 m0 m1 m2 m3 m4 m5 m6
      go_wp2_with fail
      refine (HAD1.out _ BB).mono ?_
      rintro _ w6 ⟨rfl, b6⟩
      clear k0 k1 k2 i0 i1 i2 i3 m0 m1 m2 m3 m4 m5 m6
      have KB := KB.below b6 KB.lt
      have IB := IB.below b6 IB.lt
      have MB := MB.below b6 MB.lt
      have BB := BB.trans (b6.mono BB.size)
      have hR := (hR.below b6).more b6.size
      clear b6 HAD1
      have hS : RowOf 1 intCell w6.heap.size w6 (.slice none 0 0) [] := ⟨none, 0, rfl, by simp, .inl rfl⟩
      have k0 := KB.cell 0
      have k1 := KB.cell 1
      have k2 := KB.cell 2
      have i0 := IB.cell 0
      have i1 := IB.cell 1
      have i2 := IB.cell 2
      have i3 := IB.cell 3
      have m0 := MB.cell 0
      have m1 := MB.cell 1
      have m2 := MB.cell 2
      have m3 := MB.cell 3
      have m4 := MB.cell 4
      have m5 := MB.cell 5
      have m6 := MB.cell 6
      simp at k0 k1 k2 i0 i1 i2 i3 m0 m1 m2 m3 m4 m5 m6
      have z0 := cell_regrown k0
      have z1 := cell_regrown k1
      have z2 := cell_regrown k2
      have HQB : Hid (∀ d os, _) := fun d os => (fun W' (_ : Below w6.heap.size w6 W') => resolveBegun_any W') _ (below_regrown w6 d os)
      have HQK : Hid (∀ d os, _) := fun d os => HKK.out _ (BB.trans ((below_regrown w6 d os).mono BB.size))
      have HQC : Hid (∀ d os, _) := fun d os => HCK.out _ (BB.trans ((below_regrown w6 d os).mono BB.size))
      have HQS : Hid (∀ d os, _) := fun d os => (fun W' (hb : Below w6.heap.size w6 W') => sameInts_yes _ _ _ W' ((hR.below hb).more hb.size) ((hS.below hb).more hb.size)) _ (below_regrown w6 d os)
      clear hR hS KB IB MB HKK HCK i0 i1 i2 i3 m0 m1 m2 m3 m4 m5 m6
      go_wp2_with fail
      refine wp_region_quiet_below (by kernel_rfl) (by kernel_rfl) ?_
      repeat (quiet_step (first | (go_at_call 23; go_must (exact Calls.regrown_of (HQB.out _ _))) | (go_at_call 24; go_must (exact Calls.regrown_of (HQK.out _ _))) | (go_at_call 25; go_must (exact Calls.regrown_of (HQC.out _ _))) | (go_at_call 26; go_must (exact Calls.regrown_of (HQS.out _ _)))))
      refine wpQuiet_nil ?_
      intro w9 hw9
      obtain ⟨⟨dq, osq⟩, hw9⟩ := hw9
      have B9 := BB.trans ((below_regrown w6 dq osq).mono BB.size)
      rw [← hw9] at B9
      clear hw9
      go_wp2
      go_ret
      exact ⟨rfl, B9⟩
    · have hAS := HAS1.out (by first | rfl | trivial)
      clear HAS1
      have HAS2 : Hid _ := hAS
      clear hAS
      dsimp only at hR ⊢
      have k0 := KB.cell 0
      have k1 := KB.cell 1
      have k2 := KB.cell 2
      have i0 := IB.cell 0
      have i1 := IB.cell 1
      have i2 := IB.cell 2
      have i3 := IB.cell 3
      have m0 := MB.cell 0
      have m1 := MB.cell 1
      have m2 := MB.cell 2
      have m3 := MB.cell 3
      have m4 := MB.cell 4
      have m5 := MB.cell 5
      have m6 := MB.cell 6
      simp at k0 k1 k2 i0 i1 i2 i3 m0 m1 m2 m3 m4 m5 m6
      go_wp2_with fail
      refine (HAD1.out _ BB).mono ?_
      rintro _ w6 ⟨rfl, b6⟩
      clear k0 k1 k2 i0 i1 i2 i3 m0 m1 m2 m3 m4 m5 m6
      have KB := KB.below b6 KB.lt
      have IB := IB.below b6 IB.lt
      have MB := MB.below b6 MB.lt
      have BB := BB.trans (b6.mono BB.size)
      have hR := (hR.below b6).more b6.size
      clear b6 HAD1
      have k0 := KB.cell 0
      have k1 := KB.cell 1
      have k2 := KB.cell 2
      have i0 := IB.cell 0
      have i1 := IB.cell 1
      have i2 := IB.cell 2
      have i3 := IB.cell 3
      have m0 := MB.cell 0
      have m1 := MB.cell 1
      have m2 := MB.cell 2
      have m3 := MB.cell 3
      have m4 := MB.cell 4
      have m5 := MB.cell 5
      have m6 := MB.cell 6
      simp at k0 k1 k2 i0 i1 i2 i3 m0 m1 m2 m3 m4 m5 m6
      go_wp2_with fail
      refine (HAS2.out _ BB).mono ?_
      rintro _ w7 ⟨⟨r2, rfl, hS⟩, b7⟩
      clear k0 k1 k2 i0 i1 i2 i3 m0 m1 m2 m3 m4 m5 m6
      have KB := KB.below b7 KB.lt
      have IB := IB.below b7 IB.lt
      have MB := MB.below b7 MB.lt
      have BB := BB.trans (b7.mono BB.size)
      have hR := (hR.below b7).more b7.size
      clear b7 HAS2
      have k0 := KB.cell 0
      have k1 := KB.cell 1
      have k2 := KB.cell 2
      have i0 := IB.cell 0
      have i1 := IB.cell 1
      have i2 := IB.cell 2
      have i3 := IB.cell 3
      have m0 := MB.cell 0
      have m1 := MB.cell 1
      have m2 := MB.cell 2
      have m3 := MB.cell 3
      have m4 := MB.cell 4
      have m5 := MB.cell 5
      have m6 := MB.cell 6
      simp at k0 k1 k2 i0 i1 i2 i3 m0 m1 m2 m3 m4 m5 m6
      have z0 := cell_regrown k0
      have z1 := cell_regrown k1
      have z2 := cell_regrown k2
      have HQB : Hid (∀ d os, _) := fun d os => (fun W' (_ : Below w7.heap.size w7 W') => resolveBegun_any W') _ (below_regrown w7 d os)
      have HQK : Hid (∀ d os, _) := fun d os => HKK.out _ (BB.trans ((below_regrown w7 d os).mono BB.size))
      have HQC : Hid (∀ d os, _) := fun d os => HCK.out _ (BB.trans ((below_regrown w7 d os).mono BB.size))
      have HQS : Hid (∀ d os, _) := fun d os => (fun W' (hb : Below w7.heap.size w7 W') => sameInts_yes _ _ _ W' ((hR.below hb).more hb.size) ((hS.below hb).more hb.size)) _ (below_regrown w7 d os)
      clear hR hS KB IB MB HKK HCK i0 i1 i2 i3 m0 m1 m2 m3 m4 m5 m6
      go_wp2_with fail
      refine wp_region_quiet_below (by kernel_rfl) (by kernel_rfl) ?_
      repeat (quiet_step (first | (go_at_call 23; go_must (exact Calls.regrown_of (HQB.out _ _))) | (go_at_call 24; go_must (exact Calls.regrown_of (HQK.out _ _))) | (go_at_call 25; go_must (exact Calls.regrown_of (HQC.out _ _))) | (go_at_call 26; go_must (exact Calls.regrown_of (HQS.out _ _)))))
      refine wpQuiet_nil ?_
      intro w9 hw9
      obtain ⟨⟨dq, osq⟩, hw9⟩ := hw9
      have B9 := BB.trans ((below_regrown w7 dq osq).mono BB.size)
      rw [← hw9] at B9
      clear hw9
      go_wp2
      go_ret
      exact ⟨rfl, B9⟩

end Go.Proofs.Ytaklbnabgcglhab.resolveTells
