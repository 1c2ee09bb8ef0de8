/- The contract of the document's CheckModule. -/
import Derived.Test.YtaklbnabgcglhabRefD
namespace Go.Proofs.Ytaklbnabgcglhab
open Go.RowKit Go.PlainAid

set_option maxRecDepth 100000 in
set_option maxHeartbeats 2000000 in
theorem checkModule_any (M : Mod) (v : Value) (w : World) (hM : IsMod w.heap.size w v M) (hf : M.fits) :
    Calls Try.prog 20 #[v] w fun e w' => e = .returned (.int .i64 (chkMod M)) ∧ Below w.heap.size w w' := by
  have key := chkMod_cases M
  rw [← kern_form] at key
  obtain ⟨ve, vi, vp, rfl, hE, hI, hP⟩ := hM
  have hE' := hE
  have hI' := hI
  have hP' := hP
  obtain ⟨pe, ke, rfl, _, _⟩ := hE'
  obtain ⟨pi, ki, rfl, _, _⟩ := hI'
  obtain ⟨pp, kp, rfl, _, _⟩ := hP'
  obtain ⟨z1, z2, z3, z4⟩ := hf
  by_cases hgood : isNm M.name = true ∧ (M.name.toList == [107, 101, 114, 110, 101, 108]) = false ∧ isVer M.major M.minor = true ∧ M.text.size ≤ 256 ∧ M.exps.length ≤ 6 ∧ M.imps.length ≤ 6 ∧ M.pats.length ≤ 12 ∧ M.text.size ≠ 0 ∧ M.text.size % 4 = 0 ∧ chkExps M.text.size [] M.exps = 0
  · obtain ⟨h1, h2, h3, t1, t2, t3, t4, h5, h6, h7⟩ := hgood
    have hv : betw M.major 0 255 = true ∧ betw M.minor 0 255 = true := by simpa [isVer] using h3
    have := checkModule_good M pe pi pp ke ki kp w hE hI hP ⟨z1, z2, z3, z4⟩ h1 h2 hv.1 hv.2 t1 t2 t3 t4 (beq_eq_false_iff_ne.2 (by omega)) (decide_eq_false (by omega)) h7
    have e : chkMod M = if chkImps [] M.imps ≠ 0 then chkImps [] M.imps else chkPats M.text.size M.imps.length 0 M.pats := by
      unfold chkMod
      rw [kern_form] at h2
      rw [if_neg (by simp [h1, h2]), if_neg (by simp [h3]), if_neg (by omega), if_neg (by omega), if_neg (by simp [h7])]
    rwa [e]
  · have HE : Hid (∀ w', Below w.heap.size w w' → M.exps.length ≤ 6 → M.text.size ≤ 256 → Calls Try.prog 50 #[.slice pe M.exps.length ke, .int .i64 M.text.size] w' fun e w'' => e = .returned (.int .i64 (chkExps M.text.size [] M.exps)) ∧ Below w'.heap.size w' w'') :=
      fun w' hb hl ht => checkExports_any M.exps _ M.text.size w' ((hE.below hb).more hb.size) z3 (by omega) (by omega) (by omega)
    have fin : (isNm M.name = false ∧ chkMod M = 1) ∨ (isNm M.name = true ∧ (M.name.toList == [107, 101, 114, 110, 101, 108]) = true ∧ chkMod M = 1) ∨ (isNm M.name = true ∧ (M.name.toList == [107, 101, 114, 110, 101, 108]) = false ∧ (betw M.major 0 255 = false ∧ chkMod M = 3 ∨ betw M.major 0 255 = true ∧ (betw M.minor 0 255 = false ∧ chkMod M = 3 ∨ betw M.minor 0 255 = true ∧
        (256 < M.text.size ∧ chkMod M = 2 ∨ M.text.size ≤ 256 ∧ (6 < M.exps.length ∧ chkMod M = 2 ∨ M.exps.length ≤ 6 ∧ (6 < M.imps.length ∧ chkMod M = 2 ∨ M.imps.length ≤ 6 ∧ (12 < M.pats.length ∧ chkMod M = 2 ∨ M.pats.length ≤ 12 ∧
          (M.text.size = 0 ∧ chkMod M = 1 ∨ M.text.size ≠ 0 ∧ (M.text.size % 4 ≠ 0 ∧ chkMod M = 1 ∨ M.text.size % 4 = 0 ∧ (chkExps M.text.size [] M.exps ≠ 0 ∧ chkMod M = chkExps M.text.size [] M.exps)))))))))) := by
      rcases key with ⟨h1, h⟩ | ⟨h1, ⟨h2, h⟩ | ⟨h2, key⟩⟩
      · exact .inl ⟨h1, h⟩
      · exact .inr (.inl ⟨h1, h2, h⟩)
      refine .inr (.inr ⟨h1, h2, ?_⟩)
      rcases key with ⟨h3, h⟩ | ⟨h3, key⟩
      · cases ha : betw M.major 0 255
        · exact .inl ⟨rfl, h⟩
        · cases hb : betw M.minor 0 255
          · exact .inr ⟨rfl, .inl ⟨rfl, h⟩⟩
          · rw [isVer, ha, hb] at h3; cases h3
      have hv : betw M.major 0 255 = true ∧ betw M.minor 0 255 = true := by simpa [isVer] using h3
      refine .inr ⟨hv.1, .inr ⟨hv.2, ?_⟩⟩
      rcases key with ⟨h4, h⟩ | ⟨h4, t1, t2, t3, t4, key⟩
      · by_cases a1 : 256 < M.text.size
        · exact .inl ⟨a1, h⟩
        by_cases a2 : 6 < M.exps.length
        · exact .inr ⟨by omega, .inl ⟨a2, h⟩⟩
        by_cases a3 : 6 < M.imps.length
        · exact .inr ⟨by omega, .inr ⟨by omega, .inl ⟨a3, h⟩⟩⟩
        by_cases a4 : 12 < M.pats.length
        · exact .inr ⟨by omega, .inr ⟨by omega, .inr ⟨by omega, .inl ⟨a4, h⟩⟩⟩⟩
        · exfalso
          unfold tooManyB at h4
          rw [decide_eq_false (show ¬ 256 < (M.text.size : Int) by omega), decide_eq_false (show ¬ 6 < (M.exps.length : Int) by omega), decide_eq_false (show ¬ 6 < (M.imps.length : Int) by omega), decide_eq_false (show ¬ 12 < (M.pats.length : Int) by omega)] at h4
          cases h4
      refine .inr ⟨t1, .inr ⟨t2, .inr ⟨t3, .inr ⟨t4, ?_⟩⟩⟩⟩
      rcases key with ⟨h5, h⟩ | ⟨h5, ⟨h6, h⟩ | ⟨h6, ⟨h7, h⟩ | ⟨h7, _⟩⟩⟩
      · exact .inl ⟨h5, h⟩
      · exact .inr ⟨by omega, .inl ⟨h6, h⟩⟩
      · exact .inr ⟨by omega, .inr ⟨h6, h7, h⟩⟩
      · exact absurd ⟨h1, h2, h3, t1, t2, t3, t4, by omega, h6, h7⟩ hgood
    clear key hgood hE hI hP z3 z4
    generalize chkExps M.text.size [] M.exps = ce at *
    generalize chkMod M = R at *
    obtain ⟨N, a, b, T, es, is, ps⟩ := M
    dsimp only at *
    rename_i q1 q2 q3
    clear q1 q2 q3
    have HW1 : Hid (Below w.heap.size w (w.alloc (.cells #[.string N, .int .i64 a, .int .i64 b, .string T, .slice pe es.length ke, .slice pi is.length ki, .slice pp ps.length kp] 44))) := (Below.refl _ _).alloc (Nat.le_refl _) _
    rcases fin with ⟨h1, rfl⟩ | ⟨h1, h2, rfl⟩ | ⟨h1, h2, ⟨h3, rfl⟩ | ⟨h3, ⟨h4, rfl⟩ | ⟨h4, ⟨k1, rfl⟩ | ⟨k1, ⟨k2, rfl⟩ | ⟨k2, ⟨k3, rfl⟩ | ⟨k3, ⟨k4, rfl⟩ | ⟨k4, ⟨h5, rfl⟩ | ⟨h5, ⟨h6, rfl⟩ | ⟨h6, h7, rfl⟩⟩⟩⟩⟩⟩⟩⟩⟩
    · go_enter Try.func20, Try.ntmps20
      go_wp2_with (first
        | (go_at_call 48; refine (isNameR_any _ _ (by assumption)).mono ?_; rintro e w' ⟨rfl, rfl⟩)
        | (go_at_call 49; refine (between_any _ _ _ _).mono ?_; rintro e w' ⟨rfl, rfl⟩))
      go_ret
      exact ⟨rfl, HW1.out⟩
    · go_enter Try.func20, Try.ntmps20
      go_wp2_with (first
        | (go_at_call 48; refine (isNameR_any _ _ (by assumption)).mono ?_; rintro e w' ⟨rfl, rfl⟩)
        | (go_at_call 49; refine (between_any _ _ _ _).mono ?_; rintro e w' ⟨rfl, rfl⟩))
      go_ret
      exact ⟨rfl, HW1.out⟩
    · go_enter Try.func20, Try.ntmps20
      go_wp2_with (first
        | (go_at_call 48; refine (isNameR_any _ _ (by assumption)).mono ?_; rintro e w' ⟨rfl, rfl⟩)
        | (go_at_call 49; refine (between_any _ _ _ _).mono ?_; rintro e w' ⟨rfl, rfl⟩))
      go_ret
      exact ⟨rfl, HW1.out⟩
    · go_enter Try.func20, Try.ntmps20
      go_wp2_with (first
        | (go_at_call 48; refine (isNameR_any _ _ (by assumption)).mono ?_; rintro e w' ⟨rfl, rfl⟩)
        | (go_at_call 49; refine (between_any _ _ _ _).mono ?_; rintro e w' ⟨rfl, rfl⟩))
      go_ret
      exact ⟨rfl, HW1.out⟩
    · have gt : (256 : Int) < T.size := by omega
      go_enter Try.func20, Try.ntmps20
      go_wp2_with (first
        | (go_at_call 48; refine (isNameR_any _ _ (by assumption)).mono ?_; rintro e w' ⟨rfl, rfl⟩)
        | (go_at_call 49; refine (between_any _ _ _ _).mono ?_; rintro e w' ⟨rfl, rfl⟩))
      go_ret
      exact ⟨rfl, HW1.out⟩
    · have g1 : decide (256 < (T.size : Int)) = false := decide_eq_false (by omega)
      have g1' : decide (256 < T.size) = false := decide_eq_false (by omega)
      have gt : (6 : Int) < es.length := by omega
      go_enter Try.func20, Try.ntmps20
      go_wp2_with (first
        | (go_at_call 48; refine (isNameR_any _ _ (by assumption)).mono ?_; rintro e w' ⟨rfl, rfl⟩)
        | (go_at_call 49; refine (between_any _ _ _ _).mono ?_; rintro e w' ⟨rfl, rfl⟩))
      go_ret
      exact ⟨rfl, HW1.out⟩
    · have g1 : decide (256 < (T.size : Int)) = false := decide_eq_false (by omega)
      have g1' : decide (256 < T.size) = false := decide_eq_false (by omega)
      have g2 : decide (6 < (es.length : Int)) = false := decide_eq_false (by omega)
      have g2' : decide (6 < es.length) = false := decide_eq_false (by omega)
      have gt : (6 : Int) < is.length := by omega
      go_enter Try.func20, Try.ntmps20
      go_wp2_with (first
        | (go_at_call 48; refine (isNameR_any _ _ (by assumption)).mono ?_; rintro e w' ⟨rfl, rfl⟩)
        | (go_at_call 49; refine (between_any _ _ _ _).mono ?_; rintro e w' ⟨rfl, rfl⟩))
      go_ret
      exact ⟨rfl, HW1.out⟩
    · have g1 : decide (256 < (T.size : Int)) = false := decide_eq_false (by omega)
      have g1' : decide (256 < T.size) = false := decide_eq_false (by omega)
      have g2 : decide (6 < (es.length : Int)) = false := decide_eq_false (by omega)
      have g2' : decide (6 < es.length) = false := decide_eq_false (by omega)
      have g3 : decide (6 < (is.length : Int)) = false := decide_eq_false (by omega)
      have g3' : decide (6 < is.length) = false := decide_eq_false (by omega)
      have gt : (12 : Int) < ps.length := by omega
      go_enter Try.func20, Try.ntmps20
      go_wp2_with (first
        | (go_at_call 48; refine (isNameR_any _ _ (by assumption)).mono ?_; rintro e w' ⟨rfl, rfl⟩)
        | (go_at_call 49; refine (between_any _ _ _ _).mono ?_; rintro e w' ⟨rfl, rfl⟩))
      go_ret
      exact ⟨rfl, HW1.out⟩
    · have g1 : decide (256 < (T.size : Int)) = false := decide_eq_false (by omega)
      have g1' : decide (256 < T.size) = false := decide_eq_false (by omega)
      have g2 : decide (6 < (es.length : Int)) = false := decide_eq_false (by omega)
      have g2' : decide (6 < es.length) = false := decide_eq_false (by omega)
      have g3 : decide (6 < (is.length : Int)) = false := decide_eq_false (by omega)
      have g3' : decide (6 < is.length) = false := decide_eq_false (by omega)
      have g4 : decide (12 < (ps.length : Int)) = false := decide_eq_false (by omega)
      have g4' : decide (12 < ps.length) = false := decide_eq_false (by omega)
      have h5' : ((T.size : Int) == 0) = true := by rw [beq_iff_eq]; omega
      clear h5
      go_enter Try.func20, Try.ntmps20
      go_wp2_with (first
        | (go_at_call 48; refine (isNameR_any _ _ (by assumption)).mono ?_; rintro e w' ⟨rfl, rfl⟩)
        | (go_at_call 49; refine (between_any _ _ _ _).mono ?_; rintro e w' ⟨rfl, rfl⟩))
      go_ret
      exact ⟨rfl, HW1.out⟩
    · have g1 : decide (256 < (T.size : Int)) = false := decide_eq_false (by omega)
      have g1' : decide (256 < T.size) = false := decide_eq_false (by omega)
      have g2 : decide (6 < (es.length : Int)) = false := decide_eq_false (by omega)
      have g2' : decide (6 < es.length) = false := decide_eq_false (by omega)
      have g3 : decide (6 < (is.length : Int)) = false := decide_eq_false (by omega)
      have g3' : decide (6 < is.length) = false := decide_eq_false (by omega)
      have g4 : decide (12 < (ps.length : Int)) = false := decide_eq_false (by omega)
      have g4' : decide (12 < ps.length) = false := decide_eq_false (by omega)
      have h5' : ((T.size : Int) == 0) = false := beq_eq_false_iff_ne.2 (by omega)
      have h6' : 0 < (T.size : Int) % 4 := by omega
      clear h5 h6
      go_enter Try.func20, Try.ntmps20
      go_wp2_with (first
        | (go_at_call 48; refine (isNameR_any _ _ (by assumption)).mono ?_; rintro e w' ⟨rfl, rfl⟩)
        | (go_at_call 49; refine (between_any _ _ _ _).mono ?_; rintro e w' ⟨rfl, rfl⟩))
      go_ret
      exact ⟨rfl, HW1.out⟩
    · have g1 : decide (256 < (T.size : Int)) = false := decide_eq_false (by omega)
      have g1' : decide (256 < T.size) = false := decide_eq_false (by omega)
      have g2 : decide (6 < (es.length : Int)) = false := decide_eq_false (by omega)
      have g2' : decide (6 < es.length) = false := decide_eq_false (by omega)
      have g3 : decide (6 < (is.length : Int)) = false := decide_eq_false (by omega)
      have g3' : decide (6 < is.length) = false := decide_eq_false (by omega)
      have g4 : decide (12 < (ps.length : Int)) = false := decide_eq_false (by omega)
      have g4' : decide (12 < ps.length) = false := decide_eq_false (by omega)
      have h5' : ((T.size : Int) == 0) = false := beq_eq_false_iff_ne.2 (by omega)
      have h6' : decide (0 < (T.size : Int) % 4) = false := decide_eq_false (by omega)
      have h7' : (R != 0) = true := by simpa using h7
      clear h5 h6 h7
      go_enter Try.func20, Try.ntmps20
      go_wp2_with (first
        | (go_at_call 48; refine (isNameR_any _ _ (by assumption)).mono ?_; rintro e w' ⟨rfl, rfl⟩)
        | (go_at_call 49; refine (between_any _ _ _ _).mono ?_; rintro e w' ⟨rfl, rfl⟩))
      refine (HE.out _ HW1.out k2 k1).mono ?_
      rintro e w1 ⟨rfl, b1⟩
      go_wp2
      go_ret
      exact ⟨rfl, HW1.out.trans (b1.mono HW1.out.size)⟩

end Go.Proofs.Ytaklbnabgcglhab
