/- The walk of the law RegionTells: it returns true. -/
import Derived.Test.YtaklbnabgcglhacRegT
import Derived.Test.YtaklbnabgcglhacRegB
namespace Go.Proofs.Ytaklbnabgcglhac.regionTells
open Go.RowKit Go.PlainAid

set_option maxRecDepth 100000

theorem row_nil (n₀ : Nat) (W : World) : RowOf 2 runCell n₀ W (.slice none 0 0) [] := ⟨none, 0, rfl, by simp, .inl rfl⟩
theorem cases_all (L : List Plc) (many : Int) : (chkReg L ≠ 0 ∧ freeRes L = [] ∧ firstRes L many = (0, chkReg L)) ∨ (chkReg L = 0 ∧ freeRes L = runsFrom 0 L ∧ many < 1 ∧ firstRes L many = (0, 3)) ∨ (chkReg L = 0 ∧ freeRes L = runsFrom 0 L ∧ 1 ≤ many ∧ 16 < many ∧ firstRes L many = (0, 3)) ∨ (chkReg L = 0 ∧ freeRes L = runsFrom 0 L ∧ 1 ≤ many ∧ many ≤ 16 ∧ fitRes (fitOf many (runsFrom 0 L)) = -1 ∧ firstRes L many = (0, 8)) ∨ (∃ r : Int, chkReg L = 0 ∧ freeRes L = runsFrom 0 L ∧ 1 ≤ many ∧ many ≤ 16 ∧ 0 ≤ r ∧ fitRes (fitOf many (runsFrom 0 L)) = r ∧ firstRes L many = (r, 0)) := by
  rcases firstRes_cases L many with ⟨h, e⟩ | ⟨h, h1, e⟩ | ⟨h, h1, h2, e⟩ | ⟨h, h1, h2, h3, e⟩
  · exact .inl ⟨h, by unfold freeRes; rw [if_neg h], e⟩
  · exact .inr (.inl ⟨h, by unfold freeRes; rw [if_pos h], h1, e⟩)
  · exact .inr (.inr (.inl ⟨h, by unfold freeRes; rw [if_pos h], h1, h2, e⟩))
  · rw [h3] at e
    rcases fit_spec h1 (chkReg_zero.1 h).2.2 with ⟨r, g1, g2, _⟩ | ⟨g1, _⟩
    · rw [g1] at e
      exact .inr (.inr (.inr (.inr ⟨r.1, h, h3, h1, h2, g2, by rw [g1]; rfl, e⟩)))
    · rw [g1] at e
      exact .inr (.inr (.inr (.inl ⟨h, h3, h1, h2, by rw [g1]; rfl, e⟩)))

set_option maxHeartbeats 16000000 in
theorem walk (M : Mod) (vm : Value) (l : List PV) (v : Value) (many : Int) (W : World) (hM : IsMod W.heap.size W vm M) (hMf : M.fits) (hP : IsPlcs W.heap.size W v l) (hfit : ∀ x ∈ l, x.mod.fits) (_ : (Lit.int .i64 many).wf = true) :
    Calls Try.prog 6 #[vm, v, .int .i64 many] W fun e W' => e = .returned (.bool true) ∧ Below W.heap.size W W' := by
  have HS : Hid (∀ W', Below W.heap.size W W' → Calls Try.prog 15 #[vm] W' fun e w' => e = .returned (.tuple #[.int .i64 (if chkMod M = 0 then (szM M : Int) else 0), .int .i64 (chkMod M)]) ∧ Below W'.heap.size W' w') := fun W' hb => size_any M vm W' ((hM.below hb).more hb.size) hMf
  have HF : Hid (∀ W', Below W.heap.size W W' → Calls Try.prog 16 #[v] W' fun e w' => (∃ r, e = .returned (.tuple #[r, .int .i64 (chkReg (l.map PV.plc))]) ∧ RowOf 2 runCell w'.heap.size w' r (freeRes (l.map PV.plc))) ∧ Below W'.heap.size W' w') := fun W' hb => free_any l v W' ((hP.below hb).more hb.size) hfit
  have HI : Hid (∀ W', Below W.heap.size W W' → Calls Try.prog 17 #[v, .int .i64 many] W' fun e w' => e = .returned (.tuple #[.int .i64 (firstRes (l.map PV.plc) many).1, .int .i64 (firstRes (l.map PV.plc) many).2]) ∧ Below W'.heap.size W' w') := fun W' hb => first_any l v many W' ((hP.below hb).more hb.size) hfit
  have HM : Hid (∀ W', Below W.heap.size W W' → Calls Try.prog 18 #[vm] W' fun e w' => e = .returned (.int .i64 (chkMod M)) ∧ Below W'.heap.size W' w') := fun W' hb => checkModule_any M vm W' ((hM.below hb).more hb.size) hMf
  have HR : Hid (∀ W', Below W.heap.size W W' → Calls Try.prog 19 #[v] W' fun e w' => e = .returned (.int .i64 (chkReg (l.map PV.plc))) ∧ Below W'.heap.size W' w') := fun W' hb => checkRegions_any l v W' ((hP.below hb).more hb.size) hfit
  have HZ : Hid (chkMod M = 0 → ∀ W', Calls Try.prog 20 #[vm] W' fun e w' => e = .returned (.int .i64 (szM M : Int)) ∧ Below W'.heap.size W' w') := by
    intro h0 W'
    obtain ⟨ve, vi, vp, rfl, ⟨_, _, rfl, _⟩, ⟨_, _, rfl, _⟩, ⟨_, _, rfl, _⟩⟩ := hM
    exact sizeOf_any _ _ _ _ _ _ _ _ _ _ _ _ _ _ (szM_bd h0).2.2.1
  have HO : Hid (chkReg (l.map PV.plc) = 0 → ∀ W', Below W.heap.size W W' → Calls Try.prog 21 #[v] W' fun e w' => (∃ r, e = .returned r ∧ RowOf 2 runCell w'.heap.size w' r (runsFrom 0 (l.map PV.plc))) ∧ Below W'.heap.size W' w') := fun h0 W' hb => freeOf_any l v W' ((hP.below hb).more hb.size) h0
  have HT : Hid (chkReg (l.map PV.plc) = 0 → ∀ W', Below W.heap.size W W' → Calls Try.prog 22 #[v, .int .i64 many] W' fun e w' => e = .returned (.int .i64 (fitRes (fitOf many (runsFrom 0 (l.map PV.plc))))) ∧ Below W'.heap.size W' w') := fun h0 W' hb => fitOf_any l v many W' ((hP.below hb).more hb.size) h0
  have key := cases_all (l.map PV.plc) many
  have kem : (chkMod M = 0 ∧ (if chkMod M = 0 then (szM M : Int) else 0) = (szM M : Int)) ∨ (chkMod M ≠ 0 ∧ (if chkMod M = 0 then (szM M : Int) else 0) = 0) := by
    by_cases h : chkMod M = 0
    · exact .inl ⟨h, if_pos h⟩
    · exact .inr ⟨h, if_neg h⟩
  generalize (if chkMod M = 0 then (szM M : Int) else 0) = sr at *
  generalize szM M = sz at *
  generalize chkMod M = cm at *
  generalize hq : fitRes (fitOf many (runsFrom 0 (l.map PV.plc))) = fr at *
  clear hq
  generalize hq : firstRes (l.map PV.plc) many = fs at *
  clear hq
  obtain ⟨fn, fe⟩ := fs
  generalize runsFrom 0 (l.map PV.plc) = RF at *
  generalize freeRes (l.map PV.plc) = FR at *
  generalize chkReg (l.map PV.plc) = cr at *
  obtain ⟨ve, vi, vp, rfl, ⟨pe, ke, rfl, _, _⟩, ⟨pi, ki, rfl, _, _⟩, ⟨pp, kp, rfl, _, _⟩⟩ := hM
  obtain ⟨⟨a, cap, rfl, _, _⟩, _⟩ := hP
  obtain ⟨N, ma, mi, T, es, is, ps⟩ := M
  dsimp only at *
  generalize es.length = le at *
  generalize is.length = li at *
  generalize ps.length = lp at *
  generalize l.length = ll at *
  clear hMf hfit
  have HB : Hid (Below W.heap.size W (W.alloc (.cells #[.string N, .int .i64 ma, .int .i64 mi, .string T, .slice pe le ke, .slice pi li ki, .slice pp lp kp] 36))) := (Below.refl _ _).alloc (Nat.le_refl _) _
  have HCA : Hid (CellsAt (W.alloc (.cells #[.string N, .int .i64 ma, .int .i64 mi, .string T, .slice pe le ke, .slice pi li ki, .slice pp lp kp] 36)) W.heap.size 36 #[.string N, .int .i64 ma, .int .i64 mi, .string T, .slice pe le ke, .slice pi li ki, .slice pp lp kp]) := CellsAt.new _ _ _
  go_enter Try.func6, Try.ntmps6
  go_wp2_with fail
  refine (HS.out _ HB.out).mono ?_
  rintro e w1 ⟨rfl, b1⟩
  have B1 := HB.out.trans (b1.mono HB.out.size)
  have C1 := HCA.out.below b1 HCA.out.lt
  clear HS HB HCA b1
  go_wp2_with fail
  refine (HF.out _ B1).mono ?_
  rintro e w2 ⟨⟨r, rfl, R2⟩, b2⟩
  have B2 := B1.trans (b2.mono B1.size)
  have C2 := C1.below b2 C1.lt
  clear HF b2 B1 C1
  obtain ⟨ar, kr, rfl, _⟩ := id R2
  have HR2 : Hid (RowOf 2 runCell w2.heap.size w2 (.slice ar FR.length kr) FR) := R2
  clear R2
  generalize hfl : FR.length = fl at *
  clear hfl
  go_wp2_with fail
  refine (HI.out _ B2).mono ?_
  rintro e w3 ⟨rfl, b3⟩
  have B3 := B2.trans (b3.mono B2.size)
  have C3 := C2.below b3 C2.lt
  have HR3 : Hid (RowOf 2 runCell w3.heap.size w3 (.slice ar fl kr) FR) := (HR2.out.below b3).more b3.size
  clear HI b3 B2 C2 HR2
  have t0 := C3.cell 0
  have t1 := C3.cell 1
  have t2 := C3.cell 2
  have t3 := C3.cell 3
  have t4 := C3.cell 4
  have t5 := C3.cell 5
  have t6 := C3.cell 6
  simp at t0 t1 t2 t3 t4 t5 t6
  go_wp2_with fail
  refine (HM.out _ B3).mono ?_
  rintro e w4 ⟨rfl, b4⟩
  have B4 := B3.trans (b4.mono B3.size)
  have C4 := C3.below b4 C3.lt
  have HR4 : Hid (RowOf 2 runCell w4.heap.size w4 (.slice ar fl kr) FR) := (HR3.out.below b4).more b4.size
  clear HM b4 B3 C3 HR3 t0 t1 t2 t3 t4 t5 t6
  go_wp2_with fail
  refine (HR.out _ B4).mono ?_
  rintro e w5 ⟨rfl, b5⟩
  have B5 := B4.trans (b5.mono B4.size)
  have C5 := C4.below b5 C4.lt
  have HR5 : Hid (RowOf 2 runCell w5.heap.size w5 (.slice ar fl kr) FR) := (HR4.out.below b5).more b5.size
  clear HR b5 B4 C4 HR4
  have t0 := C5.cell 0
  have t1 := C5.cell 1
  have t2 := C5.cell 2
  have t3 := C5.cell 3
  have t4 := C5.cell 4
  have t5 := C5.cell 5
  have t6 := C5.cell 6
  simp at t0 t1 t2 t3 t4 t5 t6
  clear C5
  rcases key with ⟨h0, rfl, he⟩ | ⟨rfl, rfl, h1, he⟩ | ⟨rfl, rfl, h1, h2, he⟩ | ⟨rfl, rfl, h1, h2, rfl, he⟩ | ⟨r, rfl, rfl, h1, h2, h3, rfl, he⟩
  · obtain ⟨rfl, rfl⟩ : fn = 0 ∧ fe = cr := by simpa using he
    have h0' : (fe == 0) = false := beq_eq_false_iff_ne.2 h0
    clear HO HT h0 he
    rcases kem with ⟨rfl, rfl⟩ | ⟨hm, rfl⟩
    · go_wp2_with fail
      refine (HZ.out (by first | rfl | trivial) _).mono ?_
      rintro e w6 ⟨rfl, b6⟩
      have B6 := B5.trans (b6.mono B5.size)
      have HR6 : Hid (RowOf 2 runCell w6.heap.size w6 (.slice ar fl kr) []) := (HR5.out.below b6).more b6.size
      clear HZ b6 B5 HR5 t0 t1 t2 t3 t4 t5 t6
      have B7 := B6
      have HA7 := HR6
      have HB7 : Hid (RowOf 2 runCell w6.heap.size w6 (.slice none 0 0) []) := row_nil _ _
      clear B6 HR6
      have B8 := B7
      have HA8 := HA7
      have HB8 := HB7
      clear B7 HA7 HB7
      go_wp2_with fail
      refine (regionBegun_any _).mono ?_
      rintro e w9 ⟨rfl, b9⟩
      have B9 := B8.trans (b9.mono B8.size)
      have HQ : Hid (Calls Try.prog 24 _ w9 fun e w' => _) := sameRuns_yes _ _ _ w9 ((HA8.out.below b9).more b9.size) ((HB8.out.below b9).more b9.size)
      clear b9 B8 HA8 HB8
      go_wp2_with fail
      refine HQ.out.mono ?_
      rintro e wz ⟨rfl, bz⟩
      have BZ := B9.trans (bz.mono B9.size)
      clear HQ bz B9
      go_wp2
      go_ret
      exact ⟨rfl, BZ⟩
    · have hm' : (cm == 0) = false := beq_eq_false_iff_ne.2 hm
      have B6 := B5
      have HR6 := HR5
      clear HZ B5 HR5 hm t0 t1 t2 t3 t4 t5 t6
      have B7 := B6
      have HA7 := HR6
      have HB7 : Hid (RowOf 2 runCell w5.heap.size w5 (.slice none 0 0) []) := row_nil _ _
      clear B6 HR6
      have B8 := B7
      have HA8 := HA7
      have HB8 := HB7
      clear B7 HA7 HB7
      go_wp2_with fail
      refine (regionBegun_any _).mono ?_
      rintro e w9 ⟨rfl, b9⟩
      have B9 := B8.trans (b9.mono B8.size)
      have HQ : Hid (Calls Try.prog 24 _ w9 fun e w' => _) := sameRuns_yes _ _ _ w9 ((HA8.out.below b9).more b9.size) ((HB8.out.below b9).more b9.size)
      clear b9 B8 HA8 HB8
      go_wp2_with fail
      refine HQ.out.mono ?_
      rintro e wz ⟨rfl, bz⟩
      have BZ := B9.trans (bz.mono B9.size)
      clear HQ bz B9
      go_wp2
      go_ret
      exact ⟨rfl, BZ⟩
  · obtain ⟨rfl, rfl⟩ : fn = 0 ∧ fe = 3 := by simpa using he
    clear HT he
    rcases kem with ⟨rfl, rfl⟩ | ⟨hm, rfl⟩
    · go_wp2_with fail
      refine (HZ.out (by first | rfl | trivial) _).mono ?_
      rintro e w6 ⟨rfl, b6⟩
      have B6 := B5.trans (b6.mono B5.size)
      have HR6 : Hid (RowOf 2 runCell w6.heap.size w6 (.slice ar fl kr) FR) := (HR5.out.below b6).more b6.size
      clear HZ b6 B5 HR5 t0 t1 t2 t3 t4 t5 t6
      go_wp2_with fail
      refine (HO.out (by first | rfl | trivial) _ B6).mono ?_
      rintro e w7 ⟨⟨r7, rfl, R7⟩, b7⟩
      have B7 := B6.trans (b7.mono B6.size)
      have HA7 : Hid (RowOf 2 runCell w7.heap.size w7 (.slice ar fl kr) FR) := (HR6.out.below b7).more b7.size
      obtain ⟨ar7, kr7, rfl, _⟩ := id R7
      have HB7 : Hid (RowOf 2 runCell w7.heap.size w7 (.slice ar7 FR.length kr7) FR) := R7
      clear HO b7 B6 HR6 R7
      generalize hfl7 : FR.length = fl7 at *
      clear hfl7
      have B8 := B7
      have HA8 := HA7
      have HB8 := HB7
      clear B7 HA7 HB7
      go_wp2_with fail
      refine (regionBegun_any _).mono ?_
      rintro e w9 ⟨rfl, b9⟩
      have B9 := B8.trans (b9.mono B8.size)
      have HQ : Hid (Calls Try.prog 24 _ w9 fun e w' => _) := sameRuns_yes _ _ _ w9 ((HA8.out.below b9).more b9.size) ((HB8.out.below b9).more b9.size)
      clear b9 B8 HA8 HB8
      go_wp2_with fail
      refine HQ.out.mono ?_
      rintro e wz ⟨rfl, bz⟩
      have BZ := B9.trans (bz.mono B9.size)
      clear HQ bz B9
      go_wp2
      go_ret
      exact ⟨rfl, BZ⟩
    · have hm' : (cm == 0) = false := beq_eq_false_iff_ne.2 hm
      have B6 := B5
      have HR6 := HR5
      clear HZ B5 HR5 hm t0 t1 t2 t3 t4 t5 t6
      go_wp2_with fail
      refine (HO.out (by first | rfl | trivial) _ B6).mono ?_
      rintro e w7 ⟨⟨r7, rfl, R7⟩, b7⟩
      have B7 := B6.trans (b7.mono B6.size)
      have HA7 : Hid (RowOf 2 runCell w7.heap.size w7 (.slice ar fl kr) FR) := (HR6.out.below b7).more b7.size
      obtain ⟨ar7, kr7, rfl, _⟩ := id R7
      have HB7 : Hid (RowOf 2 runCell w7.heap.size w7 (.slice ar7 FR.length kr7) FR) := R7
      clear HO b7 B6 HR6 R7
      generalize hfl7 : FR.length = fl7 at *
      clear hfl7
      have B8 := B7
      have HA8 := HA7
      have HB8 := HB7
      clear B7 HA7 HB7
      go_wp2_with fail
      refine (regionBegun_any _).mono ?_
      rintro e w9 ⟨rfl, b9⟩
      have B9 := B8.trans (b9.mono B8.size)
      have HQ : Hid (Calls Try.prog 24 _ w9 fun e w' => _) := sameRuns_yes _ _ _ w9 ((HA8.out.below b9).more b9.size) ((HB8.out.below b9).more b9.size)
      clear b9 B8 HA8 HB8
      go_wp2_with fail
      refine HQ.out.mono ?_
      rintro e wz ⟨rfl, bz⟩
      have BZ := B9.trans (bz.mono B9.size)
      clear HQ bz B9
      go_wp2
      go_ret
      exact ⟨rfl, BZ⟩
  · obtain ⟨rfl, rfl⟩ : fn = 0 ∧ fe = 3 := by simpa using he
    have h1' : decide (many < 1) = false := decide_eq_false (by omega)
    clear HT he
    rcases kem with ⟨rfl, rfl⟩ | ⟨hm, rfl⟩
    · go_wp2_with fail
      refine (HZ.out (by first | rfl | trivial) _).mono ?_
      rintro e w6 ⟨rfl, b6⟩
      have B6 := B5.trans (b6.mono B5.size)
      have HR6 : Hid (RowOf 2 runCell w6.heap.size w6 (.slice ar fl kr) FR) := (HR5.out.below b6).more b6.size
      clear HZ b6 B5 HR5 t0 t1 t2 t3 t4 t5 t6
      go_wp2_with fail
      refine (HO.out (by first | rfl | trivial) _ B6).mono ?_
      rintro e w7 ⟨⟨r7, rfl, R7⟩, b7⟩
      have B7 := B6.trans (b7.mono B6.size)
      have HA7 : Hid (RowOf 2 runCell w7.heap.size w7 (.slice ar fl kr) FR) := (HR6.out.below b7).more b7.size
      obtain ⟨ar7, kr7, rfl, _⟩ := id R7
      have HB7 : Hid (RowOf 2 runCell w7.heap.size w7 (.slice ar7 FR.length kr7) FR) := R7
      clear HO b7 B6 HR6 R7
      generalize hfl7 : FR.length = fl7 at *
      clear hfl7
      have B8 := B7
      have HA8 := HA7
      have HB8 := HB7
      clear B7 HA7 HB7
      go_wp2_with fail
      refine (regionBegun_any _).mono ?_
      rintro e w9 ⟨rfl, b9⟩
      have B9 := B8.trans (b9.mono B8.size)
      have HQ : Hid (Calls Try.prog 24 _ w9 fun e w' => _) := sameRuns_yes _ _ _ w9 ((HA8.out.below b9).more b9.size) ((HB8.out.below b9).more b9.size)
      clear b9 B8 HA8 HB8
      go_wp2_with fail
      refine HQ.out.mono ?_
      rintro e wz ⟨rfl, bz⟩
      have BZ := B9.trans (bz.mono B9.size)
      clear HQ bz B9
      go_wp2
      go_ret
      exact ⟨rfl, BZ⟩
    · have hm' : (cm == 0) = false := beq_eq_false_iff_ne.2 hm
      have B6 := B5
      have HR6 := HR5
      clear HZ B5 HR5 hm t0 t1 t2 t3 t4 t5 t6
      go_wp2_with fail
      refine (HO.out (by first | rfl | trivial) _ B6).mono ?_
      rintro e w7 ⟨⟨r7, rfl, R7⟩, b7⟩
      have B7 := B6.trans (b7.mono B6.size)
      have HA7 : Hid (RowOf 2 runCell w7.heap.size w7 (.slice ar fl kr) FR) := (HR6.out.below b7).more b7.size
      obtain ⟨ar7, kr7, rfl, _⟩ := id R7
      have HB7 : Hid (RowOf 2 runCell w7.heap.size w7 (.slice ar7 FR.length kr7) FR) := R7
      clear HO b7 B6 HR6 R7
      generalize hfl7 : FR.length = fl7 at *
      clear hfl7
      have B8 := B7
      have HA8 := HA7
      have HB8 := HB7
      clear B7 HA7 HB7
      go_wp2_with fail
      refine (regionBegun_any _).mono ?_
      rintro e w9 ⟨rfl, b9⟩
      have B9 := B8.trans (b9.mono B8.size)
      have HQ : Hid (Calls Try.prog 24 _ w9 fun e w' => _) := sameRuns_yes _ _ _ w9 ((HA8.out.below b9).more b9.size) ((HB8.out.below b9).more b9.size)
      clear b9 B8 HA8 HB8
      go_wp2_with fail
      refine HQ.out.mono ?_
      rintro e wz ⟨rfl, bz⟩
      have BZ := B9.trans (bz.mono B9.size)
      clear HQ bz B9
      go_wp2
      go_ret
      exact ⟨rfl, BZ⟩
  · obtain ⟨rfl, rfl⟩ : fn = 0 ∧ fe = 8 := by simpa using he
    have h1' : decide (many < 1) = false := decide_eq_false (by omega)
    have h2' : decide (16 < many) = false := decide_eq_false (by omega)
    clear he
    rcases kem with ⟨rfl, rfl⟩ | ⟨hm, rfl⟩
    · go_wp2_with fail
      refine (HZ.out (by first | rfl | trivial) _).mono ?_
      rintro e w6 ⟨rfl, b6⟩
      have B6 := B5.trans (b6.mono B5.size)
      have HR6 : Hid (RowOf 2 runCell w6.heap.size w6 (.slice ar fl kr) FR) := (HR5.out.below b6).more b6.size
      clear HZ b6 B5 HR5 t0 t1 t2 t3 t4 t5 t6
      go_wp2_with fail
      refine (HO.out (by first | rfl | trivial) _ B6).mono ?_
      rintro e w7 ⟨⟨r7, rfl, R7⟩, b7⟩
      have B7 := B6.trans (b7.mono B6.size)
      have HA7 : Hid (RowOf 2 runCell w7.heap.size w7 (.slice ar fl kr) FR) := (HR6.out.below b7).more b7.size
      obtain ⟨ar7, kr7, rfl, _⟩ := id R7
      have HB7 : Hid (RowOf 2 runCell w7.heap.size w7 (.slice ar7 FR.length kr7) FR) := R7
      clear HO b7 B6 HR6 R7
      generalize hfl7 : FR.length = fl7 at *
      clear hfl7
      go_wp2_with fail
      refine (HT.out (by first | rfl | trivial) _ B7).mono ?_
      rintro e w8 ⟨rfl, b8⟩
      have B8 := B7.trans (b8.mono B7.size)
      have HA8 : Hid (RowOf 2 runCell w8.heap.size w8 (.slice ar fl kr) FR) := (HA7.out.below b8).more b8.size
      have HB8 : Hid (RowOf 2 runCell w8.heap.size w8 (.slice ar7 fl7 kr7) FR) := (HB7.out.below b8).more b8.size
      clear HT b8 B7 HA7 HB7
      go_wp2_with fail
      refine (regionBegun_any _).mono ?_
      rintro e w9 ⟨rfl, b9⟩
      have B9 := B8.trans (b9.mono B8.size)
      have HQ : Hid (Calls Try.prog 24 _ w9 fun e w' => _) := sameRuns_yes _ _ _ w9 ((HA8.out.below b9).more b9.size) ((HB8.out.below b9).more b9.size)
      clear b9 B8 HA8 HB8
      go_wp2_with fail
      refine HQ.out.mono ?_
      rintro e wz ⟨rfl, bz⟩
      have BZ := B9.trans (bz.mono B9.size)
      clear HQ bz B9
      go_wp2
      go_ret
      exact ⟨rfl, BZ⟩
    · have hm' : (cm == 0) = false := beq_eq_false_iff_ne.2 hm
      have B6 := B5
      have HR6 := HR5
      clear HZ B5 HR5 hm t0 t1 t2 t3 t4 t5 t6
      go_wp2_with fail
      refine (HO.out (by first | rfl | trivial) _ B6).mono ?_
      rintro e w7 ⟨⟨r7, rfl, R7⟩, b7⟩
      have B7 := B6.trans (b7.mono B6.size)
      have HA7 : Hid (RowOf 2 runCell w7.heap.size w7 (.slice ar fl kr) FR) := (HR6.out.below b7).more b7.size
      obtain ⟨ar7, kr7, rfl, _⟩ := id R7
      have HB7 : Hid (RowOf 2 runCell w7.heap.size w7 (.slice ar7 FR.length kr7) FR) := R7
      clear HO b7 B6 HR6 R7
      generalize hfl7 : FR.length = fl7 at *
      clear hfl7
      go_wp2_with fail
      refine (HT.out (by first | rfl | trivial) _ B7).mono ?_
      rintro e w8 ⟨rfl, b8⟩
      have B8 := B7.trans (b8.mono B7.size)
      have HA8 : Hid (RowOf 2 runCell w8.heap.size w8 (.slice ar fl kr) FR) := (HA7.out.below b8).more b8.size
      have HB8 : Hid (RowOf 2 runCell w8.heap.size w8 (.slice ar7 fl7 kr7) FR) := (HB7.out.below b8).more b8.size
      clear HT b8 B7 HA7 HB7
      go_wp2_with fail
      refine (regionBegun_any _).mono ?_
      rintro e w9 ⟨rfl, b9⟩
      have B9 := B8.trans (b9.mono B8.size)
      have HQ : Hid (Calls Try.prog 24 _ w9 fun e w' => _) := sameRuns_yes _ _ _ w9 ((HA8.out.below b9).more b9.size) ((HB8.out.below b9).more b9.size)
      clear b9 B8 HA8 HB8
      go_wp2_with fail
      refine HQ.out.mono ?_
      rintro e wz ⟨rfl, bz⟩
      have BZ := B9.trans (bz.mono B9.size)
      clear HQ bz B9
      go_wp2
      go_ret
      exact ⟨rfl, BZ⟩
  · obtain ⟨rfl, rfl⟩ : fn = fr ∧ fe = 0 := by simpa using he
    have h1' : decide (many < 1) = false := decide_eq_false (by omega)
    have h2' : decide (16 < many) = false := decide_eq_false (by omega)
    have h3' : decide (fn < 0) = false := decide_eq_false (by omega)
    clear he
    rcases kem with ⟨rfl, rfl⟩ | ⟨hm, rfl⟩
    · go_wp2_with fail
      refine (HZ.out (by first | rfl | trivial) _).mono ?_
      rintro e w6 ⟨rfl, b6⟩
      have B6 := B5.trans (b6.mono B5.size)
      have HR6 : Hid (RowOf 2 runCell w6.heap.size w6 (.slice ar fl kr) FR) := (HR5.out.below b6).more b6.size
      clear HZ b6 B5 HR5 t0 t1 t2 t3 t4 t5 t6
      go_wp2_with fail
      refine (HO.out (by first | rfl | trivial) _ B6).mono ?_
      rintro e w7 ⟨⟨r7, rfl, R7⟩, b7⟩
      have B7 := B6.trans (b7.mono B6.size)
      have HA7 : Hid (RowOf 2 runCell w7.heap.size w7 (.slice ar fl kr) FR) := (HR6.out.below b7).more b7.size
      obtain ⟨ar7, kr7, rfl, _⟩ := id R7
      have HB7 : Hid (RowOf 2 runCell w7.heap.size w7 (.slice ar7 FR.length kr7) FR) := R7
      clear HO b7 B6 HR6 R7
      generalize hfl7 : FR.length = fl7 at *
      clear hfl7
      go_wp2_with fail
      refine (HT.out (by first | rfl | trivial) _ B7).mono ?_
      rintro e w8 ⟨rfl, b8⟩
      have B8 := B7.trans (b8.mono B7.size)
      have HA8 : Hid (RowOf 2 runCell w8.heap.size w8 (.slice ar fl kr) FR) := (HA7.out.below b8).more b8.size
      have HB8 : Hid (RowOf 2 runCell w8.heap.size w8 (.slice ar7 fl7 kr7) FR) := (HB7.out.below b8).more b8.size
      clear HT b8 B7 HA7 HB7
      go_wp2_with fail
      refine (regionBegun_any _).mono ?_
      rintro e w9 ⟨rfl, b9⟩
      have B9 := B8.trans (b9.mono B8.size)
      have HQ : Hid (Calls Try.prog 24 _ w9 fun e w' => _) := sameRuns_yes _ _ _ w9 ((HA8.out.below b9).more b9.size) ((HB8.out.below b9).more b9.size)
      clear b9 B8 HA8 HB8
      go_wp2_with fail
      refine HQ.out.mono ?_
      rintro e wz ⟨rfl, bz⟩
      have BZ := B9.trans (bz.mono B9.size)
      clear HQ bz B9
      go_wp2
      go_ret
      exact ⟨rfl, BZ⟩
    · have hm' : (cm == 0) = false := beq_eq_false_iff_ne.2 hm
      have B6 := B5
      have HR6 := HR5
      clear HZ B5 HR5 hm t0 t1 t2 t3 t4 t5 t6
      go_wp2_with fail
      refine (HO.out (by first | rfl | trivial) _ B6).mono ?_
      rintro e w7 ⟨⟨r7, rfl, R7⟩, b7⟩
      have B7 := B6.trans (b7.mono B6.size)
      have HA7 : Hid (RowOf 2 runCell w7.heap.size w7 (.slice ar fl kr) FR) := (HR6.out.below b7).more b7.size
      obtain ⟨ar7, kr7, rfl, _⟩ := id R7
      have HB7 : Hid (RowOf 2 runCell w7.heap.size w7 (.slice ar7 FR.length kr7) FR) := R7
      clear HO b7 B6 HR6 R7
      generalize hfl7 : FR.length = fl7 at *
      clear hfl7
      go_wp2_with fail
      refine (HT.out (by first | rfl | trivial) _ B7).mono ?_
      rintro e w8 ⟨rfl, b8⟩
      have B8 := B7.trans (b8.mono B7.size)
      have HA8 : Hid (RowOf 2 runCell w8.heap.size w8 (.slice ar fl kr) FR) := (HA7.out.below b8).more b8.size
      have HB8 : Hid (RowOf 2 runCell w8.heap.size w8 (.slice ar7 fl7 kr7) FR) := (HB7.out.below b8).more b8.size
      clear HT b8 B7 HA7 HB7
      go_wp2_with fail
      refine (regionBegun_any _).mono ?_
      rintro e w9 ⟨rfl, b9⟩
      have B9 := B8.trans (b9.mono B8.size)
      have HQ : Hid (Calls Try.prog 24 _ w9 fun e w' => _) := sameRuns_yes _ _ _ w9 ((HA8.out.below b9).more b9.size) ((HB8.out.below b9).more b9.size)
      clear b9 B8 HA8 HB8
      go_wp2_with fail
      refine HQ.out.mono ?_
      rintro e wz ⟨rfl, bz⟩
      have BZ := B9.trans (bz.mono B9.size)
      clear HQ bz B9
      go_wp2
      go_ret
      exact ⟨rfl, BZ⟩

end Go.Proofs.Ytaklbnabgcglhac.regionTells
