/- The contract of module.Check. -/
import Derived.Test.YtaklbnabgcglhabModD
namespace Go.Proofs.Ytaklbnabgcglhab
open Go.RowKit Go.PlainAid

theorem chkMod_cases (M : Mod) : (isNm M.name = false ∧ chkMod M = 1) ∨ (isNm M.name = true ∧ ((M.name == kernelName) = true ∧ chkMod M = 1 ∨ (M.name == kernelName) = false ∧
    (isVer M.major M.minor = false ∧ chkMod M = 3 ∨ isVer M.major M.minor = true ∧ (tooManyB M = true ∧ chkMod M = 2 ∨ tooManyB M = false ∧ M.text.size ≤ 256 ∧ M.exps.length ≤ 6 ∧ M.imps.length ≤ 6 ∧ M.pats.length ≤ 12 ∧
      (M.text.size = 0 ∧ chkMod M = 1 ∨ 0 < M.text.size ∧ (M.text.size % 4 ≠ 0 ∧ chkMod M = 1 ∨ M.text.size % 4 = 0 ∧
        (chkExps M.text.size [] M.exps ≠ 0 ∧ chkMod M = chkExps M.text.size [] M.exps ∨ chkExps M.text.size [] M.exps = 0 ∧
          (chkImps [] M.imps ≠ 0 ∧ chkMod M = chkImps [] M.imps ∨ chkImps [] M.imps = 0 ∧ chkMod M = chkPats M.text.size M.imps.length 0 M.pats)))))))) := by
  unfold chkMod
  cases h1 : isNm M.name
  · exact .inl ⟨rfl, by simp⟩
  refine .inr ⟨rfl, ?_⟩
  by_cases h2 : (M.name == kernelName) = true
  · exact .inl ⟨h2, by simp [h2]⟩
  have h2f : (M.name == kernelName) = false := by simpa using h2
  refine .inr ⟨h2f, ?_⟩
  rw [h2f]
  cases h3 : isVer M.major M.minor
  · exact .inl ⟨rfl, by simp⟩
  refine .inr ⟨rfl, ?_⟩
  by_cases h4 : 256 < M.text.size ∨ 6 < M.exps.length ∨ 6 < M.imps.length ∨ 12 < M.pats.length
  · refine .inl ⟨?_, by simp [h4]⟩
    unfold tooManyB
    rcases h4 with h | h | h | h
    · rw [decide_eq_true (show 256 < (M.text.size : Int) by omega)]; simp
    · rw [decide_eq_true (show 6 < (M.exps.length : Int) by omega)]; simp
    · rw [decide_eq_true (show 6 < (M.imps.length : Int) by omega)]; simp
    · rw [decide_eq_true (show 12 < (M.pats.length : Int) by omega)]; simp
  have t1 : tooManyB M = false := by
    unfold tooManyB
    rw [decide_eq_false (show ¬ 256 < (M.text.size : Int) by omega), decide_eq_false (show ¬ 6 < (M.exps.length : Int) by omega), decide_eq_false (show ¬ 6 < (M.imps.length : Int) by omega), decide_eq_false (show ¬ 12 < (M.pats.length : Int) by omega)]; rfl
  refine .inr ⟨t1, by omega, by omega, by omega, by omega, ?_⟩
  rw [if_neg (by simp), if_neg (by simp), if_neg h4]
  by_cases h5 : M.text.size = 0
  · exact .inl ⟨h5, by rw [if_pos (.inl h5)]⟩
  refine .inr ⟨by omega, ?_⟩
  by_cases h6 : M.text.size % 4 ≠ 0
  · exact .inl ⟨h6, by rw [if_pos (.inr h6)]⟩
  refine .inr ⟨by omega, ?_⟩
  rw [if_neg (by omega)]
  by_cases h7 : chkExps M.text.size [] M.exps ≠ 0
  · exact .inl ⟨h7, by rw [if_pos h7]⟩
  refine .inr ⟨by omega, ?_⟩
  rw [if_neg h7]
  by_cases h8 : chkImps [] M.imps ≠ 0
  · exact .inl ⟨h8, by rw [if_pos h8]⟩
  · exact .inr ⟨by omega, by rw [if_neg h8]⟩

theorem kern_form (N : ByteArray) : (N.toList == [107, 101, 114, 110, 101, 108]) = (N == kernelName) := by
  rw [Bool.eq_iff_iff, ba_beq, beq_iff_eq, ByteArray.toList_eq]
  constructor
  · intro h; exact ByteArray.ext (Array.toList_inj.1 h)
  · rintro rfl; rfl

set_option maxHeartbeats 2000000 in
theorem check_any (M : Mod) (v : Value) (w : World) (hM : IsMod w.heap.size w v M) (hf : M.fits) :
    Calls Try.prog 46 #[v] w fun e w' => e = .returned (.int .i64 (chkMod M)) ∧ Below w.heap.size w w' := by
  have key := chkMod_cases M
  obtain ⟨ve, vi, vp, rfl, hE, hI, hP⟩ := hM
  obtain ⟨z1, z2, z3, z4⟩ := hf
  have HE : Hid (∀ w', Below w.heap.size w w' → M.exps.length ≤ 6 → Calls Try.prog 57 #[ve, .int .i64 M.text.size] w' fun e w'' => e = .returned (.int .i64 (chkExps M.text.size [] M.exps)) ∧ Below w'.heap.size w' w'') :=
    fun w' hb hl => wrongExports_any M.exps ve _ w' ((hE.below hb).more hb.size) z3 (by omega)
  have HI : Hid (∀ w', Below w.heap.size w w' → M.imps.length ≤ 6 → Calls Try.prog 44 #[vi] w' fun e w'' => e = .returned (.int .i64 (chkImps [] M.imps)) ∧ Below w'.heap.size w' w'') :=
    fun w' hb hl => wrongImports_any M.imps vi w' ((hI.below hb).more hb.size) z4 hl
  have HP : Hid (∀ w', Below w.heap.size w w' → M.text.size ≤ 256 → M.pats.length ≤ 12 → Calls Try.prog 80 #[vp, .int .i64 M.text.size, .int .i64 M.imps.length] w' fun e w'' => e = .returned (.int .i64 (chkPats M.text.size M.imps.length 0 M.pats)) ∧ Below w'.heap.size w' w'') :=
    fun w' hb hl hl2 => wrongPatches_any M.pats vp _ _ w' ((hP.below hb).more hb.size) (by omega) (by omega) hl2
  obtain ⟨pe, ke, rfl, _, hE⟩ := hE
  obtain ⟨pi, ki, rfl, _, hI⟩ := hI
  obtain ⟨pp, kp, rfl, _, hP⟩ := hP
  clear hE hI hP
  have HT : Hid (∀ w, Calls Try.prog 79 #[.agg #[.string M.name, .int .i64 M.major, .int .i64 M.minor, .string M.text, .slice pe M.exps.length ke, .slice pi M.imps.length ki, .slice pp M.pats.length kp]] w fun e w' => e = .returned (.bool (tooManyB M)) ∧ Below w.heap.size w w') :=
    fun w => tooMany_any _ _ _ _ _ _ _ _ _ _ _ _ _ w
  rw [← kern_form] at key
  clear z3 z4
  generalize chkExps M.text.size [] M.exps = ce at *
  generalize chkImps [] M.imps = ci at *
  generalize chkPats M.text.size M.imps.length 0 M.pats = cp at *
  generalize tooManyB M = tm at *
  generalize chkMod M = R at *
  obtain ⟨N, a, b, T, es, is, ps⟩ := M
  dsimp only at *
  generalize es.length = le at *
  generalize is.length = li at *
  generalize ps.length = lp at *
  rcases key with ⟨h1, rfl⟩ | ⟨h1, ⟨h2, rfl⟩ | ⟨h2, ⟨h3, rfl⟩ | ⟨h3, ⟨h4, rfl⟩ | ⟨h4, t1, t2, t3, t4, key⟩⟩⟩⟩
  · go_enter Try.func46, Try.ntmps46
    go_wp2_with (go_at_call 75; refine (isName_any _ _ (by assumption)).mono ?_; rintro e w' ⟨rfl, rfl⟩)
    go_ret
    exact ⟨rfl, (Below.refl _ _).alloc (Nat.le_refl _) _⟩
  · go_enter Try.func46, Try.ntmps46
    go_wp2_with (go_at_call 75; refine (isName_any _ _ (by assumption)).mono ?_; rintro e w' ⟨rfl, rfl⟩)
    go_ret
    exact ⟨rfl, (Below.refl _ _).alloc (Nat.le_refl _) _⟩
  · go_enter Try.func46, Try.ntmps46
    go_wp2_with (first
      | (go_at_call 75; refine (isName_any _ _ (by assumption)).mono ?_; rintro e w' ⟨rfl, rfl⟩)
      | (go_at_call 56; refine (isVersion_any _ _ _).mono ?_; rintro e w' ⟨rfl, rfl⟩))
    go_ret
    exact ⟨rfl, (Below.refl _ _).alloc (Nat.le_refl _) _⟩
  · go_enter Try.func46, Try.ntmps46
    go_wp2_with (first
      | (go_at_call 75; refine (isName_any _ _ (by assumption)).mono ?_; rintro e w' ⟨rfl, rfl⟩)
      | (go_at_call 56; refine (isVersion_any _ _ _).mono ?_; rintro e w' ⟨rfl, rfl⟩)
      | (go_at_call 79; refine (HT.out _).mono ?_; rintro e w1 ⟨rfl, b1⟩))
    go_ret
    exact ⟨rfl, ((Below.refl _ _).alloc (Nat.le_refl _) _).trans (b1.mono (by simp))⟩
  · have hfour : (T.size % 4 ≠ 0 → ((T.size : Int) % 4 != 0) = true) ∧ (T.size % 4 = 0 → ((T.size : Int) % 4 != 0) = false) :=
      ⟨fun h => by rw [bne_iff_ne]; omega, fun h => by simp; omega⟩
    have HW1 : Hid (Below w.heap.size w (w.alloc (.cells #[.string N, .int .i64 a, .int .i64 b, .string T, .slice pe le ke, .slice pi li ki, .slice pp lp kp] 44))) := (Below.refl _ _).alloc (Nat.le_refl _) _
    have fin : (((T.size : Int) == 0) = true ∧ R = 1) ∨ (((T.size : Int) == 0) = false ∧ ((T.size : Int) % 4 != 0) = true ∧ R = 1) ∨ (((T.size : Int) == 0) = false ∧ ((T.size : Int) % 4 != 0) = false ∧ (ce != 0) = true ∧ R = ce) ∨ (((T.size : Int) == 0) = false ∧ ((T.size : Int) % 4 != 0) = false ∧ (ce != 0) = false ∧ (ci != 0) = true ∧ R = ci) ∨ (((T.size : Int) == 0) = false ∧ ((T.size : Int) % 4 != 0) = false ∧ (ce != 0) = false ∧ (ci != 0) = false ∧ R = cp) := by
      rcases key with ⟨h5, h⟩ | ⟨h5, ⟨h6, h⟩ | ⟨h6, ⟨h7, h⟩ | ⟨h7, ⟨h8, h⟩ | ⟨h8, h⟩⟩⟩⟩
      · exact .inl ⟨by rw [beq_iff_eq]; omega, h⟩
      · exact .inr (.inl ⟨beq_eq_false_iff_ne.2 (by omega), hfour.1 h6, h⟩)
      · exact .inr (.inr (.inl ⟨beq_eq_false_iff_ne.2 (by omega), hfour.2 h6, by simpa using h7, h⟩))
      · exact .inr (.inr (.inr (.inl ⟨beq_eq_false_iff_ne.2 (by omega), hfour.2 h6, by simpa using h7, by simpa using h8, h⟩)))
      · exact .inr (.inr (.inr (.inr ⟨beq_eq_false_iff_ne.2 (by omega), hfour.2 h6, by simpa using h7, by simpa using h8, h⟩)))
    clear key hfour
    rcases fin with ⟨h5, rfl⟩ | ⟨h5, h6, rfl⟩ | ⟨h5, h6, h7, rfl⟩ | ⟨h5, h6, h7, h8, rfl⟩ | ⟨h5, h6, h7, h8, rfl⟩
    all_goals
      go_enter Try.func46, Try.ntmps46
      go_wp2_with (first
        | (go_at_call 75; refine (isName_any _ _ (by assumption)).mono ?_; rintro e w' ⟨rfl, rfl⟩)
        | (go_at_call 56; refine (isVersion_any _ _ _).mono ?_; rintro e w' ⟨rfl, rfl⟩))
      refine (HT.out _).mono ?_
      rintro e w1 ⟨rfl, b1⟩
      have B1 := HW1.out.trans (b1.mono HW1.out.size)
      have cc : ∀ o, w1.cell? ⟨w.heap.size, o, none⟩ = (w.alloc (.cells #[.string N, .int .i64 a, .int .i64 b, .string T, .slice pe le ke, .slice pi li ki, .slice pp lp kp] 44)).cell? ⟨w.heap.size, o, none⟩ := fun o => b1.cell (p := ⟨w.heap.size, o, none⟩) (by simp)
      have hz1 : w.heap.size < w1.heap.size := by have := b1.size; simp at this; omega
      have d3 := cc 3
      have d4 := cc 4
      have d5 := cc 5
      have d6 := cc 6
      simp at d3 d4 d5 d6
      clear cc b1
      go_wp2_with fail
    · go_ret
      exact ⟨rfl, B1⟩
    · go_ret
      exact ⟨rfl, B1⟩
    · refine (HE.out _ B1 t2).mono ?_
      rintro e w2 ⟨rfl, b2⟩
      go_wp2
      go_ret
      exact ⟨rfl, B1.trans (b2.mono B1.size)⟩
    · refine (HE.out _ B1 t2).mono ?_
      rintro e w2 ⟨rfl, b2⟩
      have B2 := B1.trans (b2.mono B1.size)
      have d5' := (b2.cell (p := ⟨w.heap.size, 5, none⟩) hz1).trans d5
      go_wp2_with fail
      refine (HI.out _ B2 t3).mono ?_
      rintro e w3 ⟨rfl, b3⟩
      go_wp2
      go_ret
      exact ⟨rfl, B2.trans (b3.mono B2.size)⟩
    · refine (HE.out _ B1 t2).mono ?_
      rintro e w2 ⟨rfl, b2⟩
      have B2 := B1.trans (b2.mono B1.size)
      have d5' := (b2.cell (p := ⟨w.heap.size, 5, none⟩) hz1).trans d5
      have d3' := (b2.cell (p := ⟨w.heap.size, 3, none⟩) hz1).trans d3
      have d6' := (b2.cell (p := ⟨w.heap.size, 6, none⟩) hz1).trans d6
      have hz2 : w.heap.size < w2.heap.size := Nat.lt_of_lt_of_le hz1 b2.size
      go_wp2_with fail
      refine (HI.out _ B2 t3).mono ?_
      rintro e w3 ⟨rfl, b3⟩
      have B3 := B2.trans (b3.mono B2.size)
      have d5'' := (b3.cell (p := ⟨w.heap.size, 5, none⟩) hz2).trans d5'
      have d3'' := (b3.cell (p := ⟨w.heap.size, 3, none⟩) hz2).trans d3'
      have d6'' := (b3.cell (p := ⟨w.heap.size, 6, none⟩) hz2).trans d6'
      go_wp2_with fail
      refine (HP.out _ B3 t1 t4).mono ?_
      rintro e w4 ⟨rfl, b4⟩
      go_wp2
      go_ret
      exact ⟨rfl, B3.trans (b4.mono B3.size)⟩

end Go.Proofs.Ytaklbnabgcglhab
