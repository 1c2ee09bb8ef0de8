/- Texts that are laid together. -/
import Derived.Test.YtaklbnabgcglhacMrgE

/- The contract of the document's CheckModule. -/
namespace Go.Proofs.Ytaklbnabgcglhac
open Go.RowKit Go.PlainAid

set_option maxRecDepth 100000 in
set_option maxHeartbeats 2000000 in
theorem checkModule_any (M : Mod) (v : Value) (w : World) (hM : IsMod w.heap.size w v M) (hf : M.fits) :
    Calls Try.prog 18 #[v] w fun e w' => e = .returned (.int .i64 (chkMod M)) ∧ Below w.heap.size w w' := by
  have key := chkMod_cases M
  rw [← kern_form] at key
  obtain ⟨ve, vi, vp, rfl, hE, hI, hP⟩ := hM
  have hE' := hE
  have hI' := hI
  have hP' := hP
  obtain ⟨pe, ke, rfl, _, _⟩ := hE'
  obtain ⟨pi, ki, rfl, _, _⟩ := hI'
  obtain ⟨pp, kp, rfl, _, _⟩ := hP'
  obtain ⟨z1, z2, z3, z4⟩ := hf
  by_cases hgood : isNm M.name = true ∧ (M.name.toList == [107, 101, 114, 110, 101, 108]) = false ∧ isVer M.major M.minor = true ∧ M.text.size ≤ 256 ∧ M.exps.length ≤ 6 ∧ M.imps.length ≤ 6 ∧ M.pats.length ≤ 12 ∧ M.text.size ≠ 0 ∧ M.text.size % 4 = 0 ∧ chkExps M.text.size [] M.exps = 0
  · obtain ⟨h1, h2, h3, t1, t2, t3, t4, h5, h6, h7⟩ := hgood
    have hv : betw M.major 0 255 = true ∧ betw M.minor 0 255 = true := by simpa [isVer] using h3
    have := checkModule_good M pe pi pp ke ki kp w hE hI hP ⟨z1, z2, z3, z4⟩ h1 h2 hv.1 hv.2 t1 t2 t3 t4 (beq_eq_false_iff_ne.2 (by omega)) (decide_eq_false (by omega)) h7
    have e : chkMod M = if chkImps [] M.imps ≠ 0 then chkImps [] M.imps else chkPats M.text.size M.imps.length 0 M.pats := by
      unfold chkMod
      rw [kern_form] at h2
      rw [if_neg (by simp [h1, h2]), if_neg (by simp [h3]), if_neg (by omega), if_neg (by omega), if_neg (by simp [h7])]
    rwa [e]
  · have HE : Hid (∀ w', Below w.heap.size w w' → M.exps.length ≤ 6 → M.text.size ≤ 256 → Calls Try.prog 41 #[.slice pe M.exps.length ke, .int .i64 M.text.size] w' fun e w'' => e = .returned (.int .i64 (chkExps M.text.size [] M.exps)) ∧ Below w'.heap.size w' w'') :=
      fun w' hb hl ht => checkExports_any M.exps _ M.text.size w' ((hE.below hb).more hb.size) z3 (by omega) (by omega) (by omega)
    have fin : (isNm M.name = false ∧ chkMod M = 1) ∨ (isNm M.name = true ∧ (M.name.toList == [107, 101, 114, 110, 101, 108]) = true ∧ chkMod M = 1) ∨ (isNm M.name = true ∧ (M.name.toList == [107, 101, 114, 110, 101, 108]) = false ∧ (betw M.major 0 255 = false ∧ chkMod M = 3 ∨ betw M.major 0 255 = true ∧ (betw M.minor 0 255 = false ∧ chkMod M = 3 ∨ betw M.minor 0 255 = true ∧
        (256 < M.text.size ∧ chkMod M = 2 ∨ M.text.size ≤ 256 ∧ (6 < M.exps.length ∧ chkMod M = 2 ∨ M.exps.length ≤ 6 ∧ (6 < M.imps.length ∧ chkMod M = 2 ∨ M.imps.length ≤ 6 ∧ (12 < M.pats.length ∧ chkMod M = 2 ∨ M.pats.length ≤ 12 ∧
          (M.text.size = 0 ∧ chkMod M = 1 ∨ M.text.size ≠ 0 ∧ (M.text.size % 4 ≠ 0 ∧ chkMod M = 1 ∨ M.text.size % 4 = 0 ∧ (chkExps M.text.size [] M.exps ≠ 0 ∧ chkMod M = chkExps M.text.size [] M.exps)))))))))) := by
      rcases key with ⟨h1, h⟩ | ⟨h1, ⟨h2, h⟩ | ⟨h2, key⟩⟩
      · exact .inl ⟨h1, h⟩
      · exact .inr (.inl ⟨h1, h2, h⟩)
      refine .inr (.inr ⟨h1, h2, ?_⟩)
      rcases key with ⟨h3, h⟩ | ⟨h3, key⟩
      · cases ha : betw M.major 0 255
        · exact .inl ⟨rfl, h⟩
        · cases hb : betw M.minor 0 255
          · exact .inr ⟨rfl, .inl ⟨rfl, h⟩⟩
          · rw [isVer, ha, hb] at h3; cases h3
      have hv : betw M.major 0 255 = true ∧ betw M.minor 0 255 = true := by simpa [isVer] using h3
      refine .inr ⟨hv.1, .inr ⟨hv.2, ?_⟩⟩
      rcases key with ⟨h4, h⟩ | ⟨h4, t1, t2, t3, t4, key⟩
      · by_cases a1 : 256 < M.text.size
        · exact .inl ⟨a1, h⟩
        by_cases a2 : 6 < M.exps.length
        · exact .inr ⟨by omega, .inl ⟨a2, h⟩⟩
        by_cases a3 : 6 < M.imps.length
        · exact .inr ⟨by omega, .inr ⟨by omega, .inl ⟨a3, h⟩⟩⟩
        by_cases a4 : 12 < M.pats.length
        · exact .inr ⟨by omega, .inr ⟨by omega, .inr ⟨by omega, .inl ⟨a4, h⟩⟩⟩⟩
        · exfalso
          unfold tooManyB at h4
          rw [decide_eq_false (show ¬ 256 < (M.text.size : Int) by omega), decide_eq_false (show ¬ 6 < (M.exps.length : Int) by omega), decide_eq_false (show ¬ 6 < (M.imps.length : Int) by omega), decide_eq_false (show ¬ 12 < (M.pats.length : Int) by omega)] at h4
          cases h4
      refine .inr ⟨t1, .inr ⟨t2, .inr ⟨t3, .inr ⟨t4, ?_⟩⟩⟩⟩
      rcases key with ⟨h5, h⟩ | ⟨h5, ⟨h6, h⟩ | ⟨h6, ⟨h7, h⟩ | ⟨h7, _⟩⟩⟩
      · exact .inl ⟨h5, h⟩
      · exact .inr ⟨by omega, .inl ⟨h6, h⟩⟩
      · exact .inr ⟨by omega, .inr ⟨h6, h7, h⟩⟩
      · exact absurd ⟨h1, h2, h3, t1, t2, t3, t4, by omega, h6, h7⟩ hgood
    clear key hgood hE hI hP z3 z4
    generalize chkExps M.text.size [] M.exps = ce at *
    generalize chkMod M = R at *
    obtain ⟨N, a, b, T, es, is, ps⟩ := M
    dsimp only at *
    rename_i q1 q2 q3
    clear q1 q2 q3
    have HW1 : Hid (Below w.heap.size w (w.alloc (.cells #[.string N, .int .i64 a, .int .i64 b, .string T, .slice pe es.length ke, .slice pi is.length ki, .slice pp ps.length kp] 36))) := (Below.refl _ _).alloc (Nat.le_refl _) _
    rcases fin with ⟨h1, rfl⟩ | ⟨h1, h2, rfl⟩ | ⟨h1, h2, ⟨h3, rfl⟩ | ⟨h3, ⟨h4, rfl⟩ | ⟨h4, ⟨k1, rfl⟩ | ⟨k1, ⟨k2, rfl⟩ | ⟨k2, ⟨k3, rfl⟩ | ⟨k3, ⟨k4, rfl⟩ | ⟨k4, ⟨h5, rfl⟩ | ⟨h5, ⟨h6, rfl⟩ | ⟨h6, h7, rfl⟩⟩⟩⟩⟩⟩⟩⟩⟩
    · go_enter Try.func18, Try.ntmps18
      go_wp2_with (first
        | (go_at_call 39; refine (isNameR_any _ _ (by assumption)).mono ?_; rintro e w' ⟨rfl, rfl⟩)
        | (go_at_call 40; refine (between_any _ _ _ _).mono ?_; rintro e w' ⟨rfl, rfl⟩))
      go_ret
      exact ⟨rfl, HW1.out⟩
    · go_enter Try.func18, Try.ntmps18
      go_wp2_with (first
        | (go_at_call 39; refine (isNameR_any _ _ (by assumption)).mono ?_; rintro e w' ⟨rfl, rfl⟩)
        | (go_at_call 40; refine (between_any _ _ _ _).mono ?_; rintro e w' ⟨rfl, rfl⟩))
      go_ret
      exact ⟨rfl, HW1.out⟩
    · go_enter Try.func18, Try.ntmps18
      go_wp2_with (first
        | (go_at_call 39; refine (isNameR_any _ _ (by assumption)).mono ?_; rintro e w' ⟨rfl, rfl⟩)
        | (go_at_call 40; refine (between_any _ _ _ _).mono ?_; rintro e w' ⟨rfl, rfl⟩))
      go_ret
      exact ⟨rfl, HW1.out⟩
    · go_enter Try.func18, Try.ntmps18
      go_wp2_with (first
        | (go_at_call 39; refine (isNameR_any _ _ (by assumption)).mono ?_; rintro e w' ⟨rfl, rfl⟩)
        | (go_at_call 40; refine (between_any _ _ _ _).mono ?_; rintro e w' ⟨rfl, rfl⟩))
      go_ret
      exact ⟨rfl, HW1.out⟩
    · have gt : (256 : Int) < T.size := by omega
      go_enter Try.func18, Try.ntmps18
      go_wp2_with (first
        | (go_at_call 39; refine (isNameR_any _ _ (by assumption)).mono ?_; rintro e w' ⟨rfl, rfl⟩)
        | (go_at_call 40; refine (between_any _ _ _ _).mono ?_; rintro e w' ⟨rfl, rfl⟩))
      go_ret
      exact ⟨rfl, HW1.out⟩
    · have g1 : decide (256 < (T.size : Int)) = false := decide_eq_false (by omega)
      have g1' : decide (256 < T.size) = false := decide_eq_false (by omega)
      have gt : (6 : Int) < es.length := by omega
      go_enter Try.func18, Try.ntmps18
      go_wp2_with (first
        | (go_at_call 39; refine (isNameR_any _ _ (by assumption)).mono ?_; rintro e w' ⟨rfl, rfl⟩)
        | (go_at_call 40; refine (between_any _ _ _ _).mono ?_; rintro e w' ⟨rfl, rfl⟩))
      go_ret
      exact ⟨rfl, HW1.out⟩
    · have g1 : decide (256 < (T.size : Int)) = false := decide_eq_false (by omega)
      have g1' : decide (256 < T.size) = false := decide_eq_false (by omega)
      have g2 : decide (6 < (es.length : Int)) = false := decide_eq_false (by omega)
      have g2' : decide (6 < es.length) = false := decide_eq_false (by omega)
      have gt : (6 : Int) < is.length := by omega
      go_enter Try.func18, Try.ntmps18
      go_wp2_with (first
        | (go_at_call 39; refine (isNameR_any _ _ (by assumption)).mono ?_; rintro e w' ⟨rfl, rfl⟩)
        | (go_at_call 40; refine (between_any _ _ _ _).mono ?_; rintro e w' ⟨rfl, rfl⟩))
      go_ret
      exact ⟨rfl, HW1.out⟩
    · have g1 : decide (256 < (T.size : Int)) = false := decide_eq_false (by omega)
      have g1' : decide (256 < T.size) = false := decide_eq_false (by omega)
      have g2 : decide (6 < (es.length : Int)) = false := decide_eq_false (by omega)
      have g2' : decide (6 < es.length) = false := decide_eq_false (by omega)
      have g3 : decide (6 < (is.length : Int)) = false := decide_eq_false (by omega)
      have g3' : decide (6 < is.length) = false := decide_eq_false (by omega)
      have gt : (12 : Int) < ps.length := by omega
      go_enter Try.func18, Try.ntmps18
      go_wp2_with (first
        | (go_at_call 39; refine (isNameR_any _ _ (by assumption)).mono ?_; rintro e w' ⟨rfl, rfl⟩)
        | (go_at_call 40; refine (between_any _ _ _ _).mono ?_; rintro e w' ⟨rfl, rfl⟩))
      go_ret
      exact ⟨rfl, HW1.out⟩
    · have g1 : decide (256 < (T.size : Int)) = false := decide_eq_false (by omega)
      have g1' : decide (256 < T.size) = false := decide_eq_false (by omega)
      have g2 : decide (6 < (es.length : Int)) = false := decide_eq_false (by omega)
      have g2' : decide (6 < es.length) = false := decide_eq_false (by omega)
      have g3 : decide (6 < (is.length : Int)) = false := decide_eq_false (by omega)
      have g3' : decide (6 < is.length) = false := decide_eq_false (by omega)
      have g4 : decide (12 < (ps.length : Int)) = false := decide_eq_false (by omega)
      have g4' : decide (12 < ps.length) = false := decide_eq_false (by omega)
      have h5' : ((T.size : Int) == 0) = true := by rw [beq_iff_eq]; omega
      clear h5
      go_enter Try.func18, Try.ntmps18
      go_wp2_with (first
        | (go_at_call 39; refine (isNameR_any _ _ (by assumption)).mono ?_; rintro e w' ⟨rfl, rfl⟩)
        | (go_at_call 40; refine (between_any _ _ _ _).mono ?_; rintro e w' ⟨rfl, rfl⟩))
      go_ret
      exact ⟨rfl, HW1.out⟩
    · have g1 : decide (256 < (T.size : Int)) = false := decide_eq_false (by omega)
      have g1' : decide (256 < T.size) = false := decide_eq_false (by omega)
      have g2 : decide (6 < (es.length : Int)) = false := decide_eq_false (by omega)
      have g2' : decide (6 < es.length) = false := decide_eq_false (by omega)
      have g3 : decide (6 < (is.length : Int)) = false := decide_eq_false (by omega)
      have g3' : decide (6 < is.length) = false := decide_eq_false (by omega)
      have g4 : decide (12 < (ps.length : Int)) = false := decide_eq_false (by omega)
      have g4' : decide (12 < ps.length) = false := decide_eq_false (by omega)
      have h5' : ((T.size : Int) == 0) = false := beq_eq_false_iff_ne.2 (by omega)
      have h6' : 0 < (T.size : Int) % 4 := by omega
      clear h5 h6
      go_enter Try.func18, Try.ntmps18
      go_wp2_with (first
        | (go_at_call 39; refine (isNameR_any _ _ (by assumption)).mono ?_; rintro e w' ⟨rfl, rfl⟩)
        | (go_at_call 40; refine (between_any _ _ _ _).mono ?_; rintro e w' ⟨rfl, rfl⟩))
      go_ret
      exact ⟨rfl, HW1.out⟩
    · have g1 : decide (256 < (T.size : Int)) = false := decide_eq_false (by omega)
      have g1' : decide (256 < T.size) = false := decide_eq_false (by omega)
      have g2 : decide (6 < (es.length : Int)) = false := decide_eq_false (by omega)
      have g2' : decide (6 < es.length) = false := decide_eq_false (by omega)
      have g3 : decide (6 < (is.length : Int)) = false := decide_eq_false (by omega)
      have g3' : decide (6 < is.length) = false := decide_eq_false (by omega)
      have g4 : decide (12 < (ps.length : Int)) = false := decide_eq_false (by omega)
      have g4' : decide (12 < ps.length) = false := decide_eq_false (by omega)
      have h5' : ((T.size : Int) == 0) = false := beq_eq_false_iff_ne.2 (by omega)
      have h6' : decide (0 < (T.size : Int) % 4) = false := decide_eq_false (by omega)
      have h7' : (R != 0) = true := by simpa using h7
      clear h5 h6 h7
      go_enter Try.func18, Try.ntmps18
      go_wp2_with (first
        | (go_at_call 39; refine (isNameR_any _ _ (by assumption)).mono ?_; rintro e w' ⟨rfl, rfl⟩)
        | (go_at_call 40; refine (between_any _ _ _ _).mono ?_; rintro e w' ⟨rfl, rfl⟩))
      refine (HE.out _ HW1.out k2 k1).mono ?_
      rintro e w1 ⟨rfl, b1⟩
      go_wp2
      go_ret
      exact ⟨rfl, HW1.out.trans (b1.mono HW1.out.size)⟩

end Go.Proofs.Ytaklbnabgcglhac

/- Kernels, modules that are placed, and who is meant, as data. -/
namespace Go.Proofs.Ytaklbnabgcglhac
open Go.RowKit Go.PlainAid

structure Ker where
  major : Int
  minor : Int
  exps : List Exp
structure Plc where
  mod : Mod
  first : Int

/-- What is wrong with a kernel. -/
def chkKer (k : Ker) : Int := if isVer k.major k.minor = false then 3 else if 8 < k.exps.length then 2 else chkExps 4096 [] k.exps
/-- What is wrong with modules that are placed. -/
def chkPls : List Plc → Int
  | [] => 0
  | p :: l => if chkMod p.mod ≠ 0 then chkMod p.mod else if betw p.first 0 15 = false then 3 else chkPls l
def chkPlaced (l : List Plc) : Int := if 8 < l.length then 2 else chkPls l
def chkFind (k : Ker) (l : List Plc) : Int := if chkKer k ≠ 0 then chkKer k else chkPlaced l

/-- What an import may mean: its version, where it begins, its exports. -/
structure Tgt where
  major : Int
  minor : Int
  beg : Int
  exps : List Exp
def tgtOf (k : Ker) (l : List Plc) (name : ByteArray) : Option Tgt :=
  if (name == kernelName) = true then some ⟨k.major, k.minor, 0, k.exps⟩
  else (l.find? fun p => p.mod.name == name).map fun p => ⟨p.mod.major, p.mod.minor, 4096 + p.first * 64, p.mod.exps⟩
def expOf (l : List Exp) (name : ByteArray) : Option Exp := l.find? fun x => x.name == name
/-- Where the import is, and why not. -/
def addrOf (k : Ker) (l : List Plc) (i : Imp) : Int × Int :=
  match tgtOf k l i.mod with
  | none => (0, 5)
  | some t => if t.major ≠ i.major ∨ t.minor < i.minor then (0, 4) else match expOf t.exps i.name with
    | none => (0, 5)
    | some x => (t.beg + x.pos, 0)

theorem expErr_zero {most : Int} {met : List ByteArray} {e : Exp} (h : expErr most met e = 0) : isNm e.name = true ∧ 0 ≤ e.pos ∧ e.pos < most := by
  obtain ⟨n, p⟩ := e
  rcases expErr_cases most met n p with ⟨_, h1⟩ | ⟨_, _, h1⟩ | ⟨_, _, _, h1⟩ | ⟨_, _, _, _, h1⟩ | ⟨h0, _, h1, h2, _⟩
  all_goals first | (rw [h] at h1; exact absurd h1 (by decide)) | exact ⟨h0, h1, h2⟩
theorem chkExps_pos {most : Int} : ∀ {l : List Exp} {met : List ByteArray}, chkExps most met l = 0 → ∀ e ∈ l, isNm e.name = true ∧ 0 ≤ e.pos ∧ e.pos < most
  | [], _, _, e, he => by simp at he
  | x :: l, met, h, e, he => by
    unfold chkExps at h
    by_cases h0 : expErr most met x = 0
    · rw [if_pos h0] at h
      rcases List.mem_cons.1 he with rfl | he
      · exact expErr_zero h0
      · exact chkExps_pos h e he
    · rw [if_neg h0] at h
      exact absurd h h0
theorem chkMod_exps {M : Mod} (h : chkMod M = 0) : (∀ e ∈ M.exps, isNm e.name = true ∧ 0 ≤ e.pos ∧ e.pos < M.text.size) ∧ M.text.size ≤ 256 ∧ M.exps.length ≤ 6 ∧ M.imps.length ≤ 6 ∧ M.pats.length ≤ 12 ∧ isNm M.name = true ∧ (M.name == kernelName) = false := by
  rcases chkMod_cases M with ⟨_, e⟩ | ⟨g1, ⟨_, e⟩ | ⟨g2, ⟨_, e⟩ | ⟨_, ⟨_, e⟩ | ⟨_, t1, t2, t3, t4, ⟨_, e⟩ | ⟨_, ⟨_, e⟩ | ⟨_, ⟨n, e⟩ | ⟨h7, _⟩⟩⟩⟩⟩⟩⟩
  · omega
  · omega
  · omega
  · omega
  · omega
  · omega
  · exact absurd (e ▸ h) n
  · exact ⟨chkExps_pos h7, t1, t2, t3, t4, g1, g2⟩
theorem chkKer_zero {k : Ker} (h : chkKer k = 0) : k.exps.length ≤ 8 ∧ ∀ e ∈ k.exps, isNm e.name = true ∧ 0 ≤ e.pos ∧ e.pos < 4096 := by
  unfold chkKer at h
  split at h
  · omega
  · split at h
    · omega
    · exact ⟨by omega, chkExps_pos h⟩
theorem chkPls_zero : ∀ {l : List Plc}, chkPls l = 0 → ∀ p ∈ l, chkMod p.mod = 0 ∧ 0 ≤ p.first ∧ p.first ≤ 15
  | [], _, p, hp => by simp at hp
  | x :: l, h, p, hp => by
    unfold chkPls at h
    by_cases h0 : chkMod x.mod = 0
    · rw [if_neg (by omega)] at h
      cases hb : betw x.first 0 15
      · rw [hb, if_pos rfl] at h; omega
      · rw [hb, if_neg (by decide)] at h
        rcases List.mem_cons.1 hp with rfl | hp
        · have := betw_iff.1 hb
          exact ⟨h0, this.1, this.2⟩
        · exact chkPls_zero h p hp
    · rw [if_pos h0] at h
      exact absurd h h0
theorem chkFind_zero {k : Ker} {l : List Plc} (h : chkFind k l = 0) : chkKer k = 0 ∧ l.length ≤ 8 ∧ ∀ p ∈ l, chkMod p.mod = 0 ∧ 0 ≤ p.first ∧ p.first ≤ 15 := by
  unfold chkFind at h
  by_cases h0 : chkKer k = 0
  · rw [if_neg (by omega)] at h
    unfold chkPlaced at h
    split at h
    · omega
    · exact ⟨h0, by omega, chkPls_zero h⟩
  · rw [if_pos h0] at h
    exact absurd h h0

/-- A target's exports lie just behind its beginning. -/
theorem tgt_bd {k : Ker} {l : List Plc} {name : ByteArray} {t : Tgt} (h : chkFind k l = 0) (ht : tgtOf k l name = some t) : 0 ≤ t.beg ∧ t.beg ≤ 5056 ∧ t.exps.length ≤ 8 ∧ ∀ e ∈ t.exps, isNm e.name = true ∧ 0 ≤ e.pos ∧ e.pos < 4096 := by
  obtain ⟨hk, hl, hp⟩ := chkFind_zero h
  unfold tgtOf at ht
  split at ht
  · injection ht with ht
    subst ht
    have := chkKer_zero hk
    exact ⟨Int.le_refl 0, show (0 : Int) ≤ 5056 by decide, this.1, this.2⟩
  · cases hf : l.find? fun p => p.mod.name == name with
    | none => rw [hf] at ht; simp at ht
    | some p =>
      rw [hf] at ht
      simp at ht
      subst ht
      obtain ⟨h1, h2, h3⟩ := hp p (List.mem_of_find?_eq_some hf)
      obtain ⟨h4, h5, h6, _⟩ := chkMod_exps h1
      exact ⟨by dsimp only; omega, by dsimp only; omega, by dsimp only; omega, fun e he => by obtain ⟨g1, g2, g3⟩ := h4 e he; exact ⟨g1, g2, by omega⟩⟩

/-- Kernels and rows of placed modules in memory. -/
structure PV where
  mod : Mod
  ve : Value
  vi : Value
  vp : Value
  first : Int
def PV.plc (x : PV) : Plc := ⟨x.mod, x.first⟩
def PV.cell (x : PV) : Nat → Value
  | 0 => .string x.mod.name
  | 1 => .int .i64 x.mod.major
  | 2 => .int .i64 x.mod.minor
  | 3 => .string x.mod.text
  | 4 => x.ve
  | 5 => x.vi
  | 6 => x.vp
  | _ => .int .i64 x.first
def PV.modV (x : PV) : Value := .agg #[.string x.mod.name, .int .i64 x.mod.major, .int .i64 x.mod.minor, .string x.mod.text, x.ve, x.vi, x.vp]
def PV.val (x : PV) : Value := .agg #[.string x.mod.name, .int .i64 x.mod.major, .int .i64 x.mod.minor, .string x.mod.text, x.ve, x.vi, x.vp, .int .i64 x.first]
def PlcAt (n₀ : Nat) (W : World) (x : PV) : Prop := RowOf 2 Exp.cell n₀ W x.ve x.mod.exps ∧ RowOf 4 Imp.cell n₀ W x.vi x.mod.imps ∧ RowOf 4 Pat.cell n₀ W x.vp x.mod.pats
def IsPlcs (n₀ : Nat) (W : World) (v : Value) (l : List PV) : Prop := RowOf 8 PV.cell n₀ W v l ∧ ∀ x ∈ l, PlcAt n₀ W x
def IsKer (n₀ : Nat) (W : World) (v : Value) (k : Ker) : Prop := ∃ ve, v = .agg #[.int .i64 k.major, .int .i64 k.minor, ve] ∧ RowOf 2 Exp.cell n₀ W ve k.exps
def Ker.fits (k : Ker) : Prop := ∀ e ∈ k.exps, e.name.size ≤ 9223372036854775807

theorem PlcAt.below {n₀ : Nat} {W W' : World} {x : PV} (h : PlcAt n₀ W x) (hb : Below n₀ W W') : PlcAt n₀ W' x := ⟨h.1.below hb, h.2.1.below hb, h.2.2.below hb⟩
theorem PlcAt.more {n₀ n₁ : Nat} {W : World} {x : PV} (h : PlcAt n₀ W x) (hn : n₀ ≤ n₁) : PlcAt n₁ W x := ⟨h.1.more hn, h.2.1.more hn, h.2.2.more hn⟩
theorem PlcAt.isMod {n₀ : Nat} {W : World} {x : PV} (h : PlcAt n₀ W x) : IsMod n₀ W x.modV x.mod := ⟨x.ve, x.vi, x.vp, rfl, h.1, h.2.1, h.2.2⟩
theorem IsPlcs.below {n₀ : Nat} {W W' : World} {v : Value} {l : List PV} (h : IsPlcs n₀ W v l) (hb : Below n₀ W W') : IsPlcs n₀ W' v l := ⟨h.1.below hb, fun x hx => (h.2 x hx).below hb⟩
theorem IsPlcs.more {n₀ n₁ : Nat} {W : World} {v : Value} {l : List PV} (h : IsPlcs n₀ W v l) (hn : n₀ ≤ n₁) : IsPlcs n₁ W v l := ⟨h.1.more hn, fun x hx => (h.2 x hx).more hn⟩
theorem IsKer.below {n₀ : Nat} {W W' : World} {v : Value} {k : Ker} (h : IsKer n₀ W v k) (hb : Below n₀ W W') : IsKer n₀ W' v k := by
  obtain ⟨ve, e, h⟩ := h
  exact ⟨ve, e, h.below hb⟩
theorem IsKer.more {n₀ n₁ : Nat} {W : World} {v : Value} {k : Ker} (h : IsKer n₀ W v k) (hn : n₀ ≤ n₁) : IsKer n₁ W v k := by
  obtain ⟨ve, e, h⟩ := h
  exact ⟨ve, e, h.more hn⟩

end Go.Proofs.Ytaklbnabgcglhac

/- Placed modules and the runs that they leave, as data. -/
namespace Go.Proofs.Ytaklbnabgcglhac
open Go.RowKit Go.PlainAid

/-- What is wrong with placed modules, where each is held to its own and to one thing more. -/
def chkBy (q : Plc → Int) : List Plc → Int
  | [] => 0
  | p :: l => if chkMod p.mod ≠ 0 then chkMod p.mod else if q p ≠ 0 then q p else chkBy q l
theorem chkBy_step (q : Plc → Int) (p : Plc) (l : List Plc) : (chkMod p.mod ≠ 0 ∧ chkBy q (p :: l) = chkMod p.mod) ∨ (chkMod p.mod = 0 ∧ q p ≠ 0 ∧ chkBy q (p :: l) = q p) ∨ (chkMod p.mod = 0 ∧ q p = 0 ∧ chkBy q (p :: l) = chkBy q l) := by
  have hs : chkBy q (p :: l) = if chkMod p.mod ≠ 0 then chkMod p.mod else if q p ≠ 0 then q p else chkBy q l := rfl
  rw [hs]
  by_cases h : chkMod p.mod = 0
  · by_cases h2 : q p = 0
    · exact .inr (.inr ⟨h, h2, by rw [if_neg (by simpa using h), if_neg (by simpa using h2)]⟩)
    · exact .inr (.inl ⟨h, h2, by rw [if_neg (by simpa using h), if_pos h2]⟩)
  · exact .inl ⟨h, by rw [if_pos h]⟩
theorem chkBy_zero {q : Plc → Int} : ∀ {l : List Plc}, chkBy q l = 0 ↔ ∀ p ∈ l, chkMod p.mod = 0 ∧ q p = 0
  | [] => by simp [chkBy]
  | p :: l => by
    rcases chkBy_step q p l with ⟨h, e⟩ | ⟨h, h2, e⟩ | ⟨h, h2, e⟩
    · rw [e]
      exact ⟨fun h' => absurd h' h, fun h' => (h' p (by simp)).1⟩
    · rw [e]
      exact ⟨fun h' => absurd h' h2, fun h' => (h' p (by simp)).2⟩
    · rw [e, chkBy_zero]
      constructor
      · intro h' x hx
        rcases List.mem_cons.1 hx with rfl | hx
        · exact ⟨h, h2⟩
        · exact h' x hx
      · exact fun h' x hx => h' x (List.mem_cons_of_mem _ hx)
theorem chkBy_congr {q q' : Plc → Int} (h : ∀ p, q p = q' p) (l : List Plc) : chkBy q l = chkBy q' l := by
  rw [show q = q' from funext h]
def farErr (p : Plc) : Int := if betw p.first 0 15 = false then 3 else 0
theorem chkPls_by : ∀ l : List Plc, chkPls l = chkBy farErr l
  | [] => rfl
  | p :: l => by
    have h1 : chkPls (p :: l) = if chkMod p.mod ≠ 0 then chkMod p.mod else if betw p.first 0 15 = false then 3 else chkPls l := rfl
    have h2 : chkBy farErr (p :: l) = if chkMod p.mod ≠ 0 then chkMod p.mod else if (if betw p.first 0 15 = false then (3 : Int) else 0) ≠ 0 then (if betw p.first 0 15 = false then (3 : Int) else 0) else chkBy farErr l := rfl
    rw [h1, h2, chkPls_by l]
    generalize chkBy farErr l = x
    cases betw p.first 0 15
    · simp
    · simp

/-- How many sectors a module needs. -/
def szM (m : Mod) : Nat := (m.text.size + 63) / 64
theorem szM_bd {m : Mod} (h : chkMod m = 0) : 1 ≤ szM m ∧ szM m ≤ 4 ∧ m.text.size ≤ 256 ∧ 1 ≤ m.text.size := by
  have h1 := (chkMod_exps h).2.1
  have h2 : m.text.size ≠ 0 := by
    intro h0
    unfold chkMod at h
    split at h
    · omega
    split at h
    · omega
    split at h
    · omega
    split at h
    · omega
    · rename_i _ _ _ h4
      exact h4 (.inl h0)
  unfold szM
  omega
def outErr (p : Plc) : Int := if p.first < 0 ∨ 16 - (szM p.mod : Int) < p.first then 3 else 0
/-- Does each begin behind the one ahead? -/
def behind : Int → List Plc → Bool
  | _, [] => true
  | e, p :: l => !decide (p.first < e) && behind (p.first + szM p.mod) l
def chkReg (l : List Plc) : Int := if 8 < l.length then 2 else if chkBy outErr l ≠ 0 then chkBy outErr l else if behind 0 l = false then 4 else 0
def okPl : Int → List Plc → Prop
  | e, [] => e ≤ 16
  | e, p :: l => e ≤ p.first ∧ 1 ≤ szM p.mod ∧ p.first + szM p.mod ≤ 16 ∧ okPl (p.first + szM p.mod) l
theorem behind_ok : ∀ {l : List Plc} {e : Int}, e ≤ 16 → (∀ p ∈ l, 1 ≤ szM p.mod ∧ p.first + szM p.mod ≤ 16) → behind e l = true → okPl e l
  | [], _, he, _, _ => he
  | p :: l, e, he, h, hb => by
    unfold behind at hb
    simp at hb
    obtain ⟨h1, h2⟩ := h p (by simp)
    exact ⟨hb.1, h1, h2, behind_ok h2 (fun x hx => h x (List.mem_cons_of_mem _ hx)) hb.2⟩
theorem ok_behind : ∀ {l : List Plc} {e : Int}, okPl e l → behind e l = true
  | [], _, _ => rfl
  | p :: l, e, h => by
    obtain ⟨h1, _, _, h4⟩ := h
    unfold behind
    simp [ok_behind h4]
    omega
theorem okPl_first : ∀ {l : List Plc} {e : Int}, okPl e l → ∀ p ∈ l, e ≤ p.first ∧ 1 ≤ szM p.mod ∧ p.first + szM p.mod ≤ 16
  | [], _, _, p, hp => by simp at hp
  | x :: l, e, h, p, hp => by
    obtain ⟨h1, h2, h3, h4⟩ := h
    rcases List.mem_cons.1 hp with rfl | hp
    · exact ⟨h1, h2, h3⟩
    · have := okPl_first h4 p hp
      omega
theorem okPl_end : ∀ {l : List Plc} {e : Int}, okPl e l → e ≤ 16
  | [], _, h => h
  | p :: l, e, h => by
    have := okPl_end h.2.2.2
    have h1 := h.1
    omega
theorem chkReg_zero {l : List Plc} : chkReg l = 0 ↔ l.length ≤ 8 ∧ (∀ p ∈ l, chkMod p.mod = 0) ∧ okPl 0 l := by
  unfold chkReg
  constructor
  · intro h
    split at h
    · omega
    rename_i h8
    split at h
    · omega
    rename_i hb
    have hb : chkBy outErr l = 0 := by omega
    have hz := chkBy_zero.1 hb
    split at h
    · omega
    rename_i hh
    have hh : behind 0 l = true := by simpa using hh
    refine ⟨by omega, fun p hp => (hz p hp).1, behind_ok (by decide) ?_ hh⟩
    intro p hp
    obtain ⟨h1, h2⟩ := hz p hp
    have := szM_bd h1
    unfold outErr at h2
    split at h2
    · omega
    · omega
  · rintro ⟨h1, h2, h3⟩
    have hb : chkBy outErr l = 0 := chkBy_zero.2 fun p hp => ⟨h2 p hp, by
      have := okPl_first h3 p hp
      unfold outErr
      rw [if_neg (by omega)]⟩
    rw [if_neg (by omega), hb, if_neg (by simp), ok_behind h3]
    simp

/-- The runs that are left from a sector on. -/
def gapOf (a b : Int) : List (Int × Int) := if a = b then [] else [(a, b - a)]
def runsFrom : Int → List Plc → List (Int × Int)
  | e, [] => gapOf e 16
  | e, p :: l => gapOf e p.first ++ runsFrom (p.first + szM p.mod) l
def sumRuns (l : List (Int × Int)) : Int := (l.map Prod.snd).sum
def sumSz (l : List Plc) : Int := (l.map fun p => (szM p.mod : Int)).sum
theorem sum_gap (a b : Int) : sumRuns (gapOf a b) = b - a := by
  unfold gapOf sumRuns
  split <;> simp <;> omega
theorem sumRuns_append (a b : List (Int × Int)) : sumRuns (a ++ b) = sumRuns a + sumRuns b := by
  simp [sumRuns]
theorem sum_runs : ∀ (l : List Plc) (e : Int), sumRuns (runsFrom e l) + sumSz l = 16 - e
  | [], e => by simp [runsFrom, sum_gap, sumSz]
  | p :: l, e => by
    have := sum_runs l (p.first + szM p.mod)
    unfold runsFrom
    rw [sumRuns_append, sum_gap]
    simp [sumSz] at *
    omega
/-- Runs rise, and none begins where another one ends. -/
def rises : Int → List (Int × Int) → Prop
  | _, [] => True
  | e, r :: l => e ≤ r.1 ∧ 1 ≤ r.2 ∧ r.1 + r.2 ≤ 16 ∧ rises (r.1 + r.2 + 1) l
theorem rises_le : ∀ {l : List (Int × Int)} {e e' : Int}, e' ≤ e → rises e l → rises e' l
  | [], _, _, _, _ => trivial
  | r :: l, e, e', h, hr => ⟨by have := hr.1; omega, hr.2.1, hr.2.2.1, hr.2.2.2⟩
theorem runs_rise : ∀ {l : List Plc} {e : Int}, okPl e l → rises e (runsFrom e l)
  | [], e, h => by
    unfold runsFrom gapOf
    have h : e ≤ 16 := h
    split
    · trivial
    · exact ⟨by simp, by simp; omega, by simp; omega, trivial⟩
  | p :: l, e, h => by
    obtain ⟨h1, h2, h3, h4⟩ := h
    have := runs_rise h4
    unfold runsFrom gapOf
    split
    · exact rises_le (by omega) this
    · refine ⟨by simp, by simp; omega, by simp; omega, rises_le ?_ this⟩
      simp
      omega
theorem runs_len : ∀ (l : List Plc) (e : Int), (runsFrom e l).length ≤ l.length + 1
  | [], e => by unfold runsFrom gapOf; split <;> simp
  | p :: l, e => by
    have := runs_len l (p.first + szM p.mod)
    unfold runsFrom gapOf
    split <;> simp <;> omega

/-- Is nobody in the way from a sector on? -/
def clearAt (many : Int) (l : List Plc) (x : Int) : Prop := ∀ p ∈ l, p.first + szM p.mod ≤ x ∨ x + many ≤ p.first
def fitOf (many : Int) (l : List (Int × Int)) : Option (Int × Int) := l.find? fun r => decide (many ≤ r.2)
theorem fit_spec {many : Int} (hm : 1 ≤ many) : ∀ {l : List Plc} {e : Int}, okPl e l →
    (∃ r, fitOf many (runsFrom e l) = some r ∧ e ≤ r.1 ∧ r.1 + many ≤ 16 ∧ clearAt many l r.1 ∧ ∀ x, e ≤ x → x < r.1 → ¬ clearAt many l x) ∨
    (fitOf many (runsFrom e l) = none ∧ ∀ x, e ≤ x → x + many ≤ 16 → ¬ clearAt many l x)
  | [], e, h => by
    have h : e ≤ 16 := h
    unfold runsFrom gapOf fitOf
    split
    · rename_i h0
      refine .inr ⟨rfl, fun x h1 h2 => by omega⟩
    · by_cases hx : many ≤ 16 - e
      · refine .inl ⟨(e, 16 - e), by simp [hx], by simp, by simp; omega, fun p hp => by simp at hp, fun x h1 h2 => by simp at h2; omega⟩
      · refine .inr ⟨by simp [hx], fun x h1 h2 => by omega⟩
  | p :: l, e, h => by
    obtain ⟨h1, h2, h3, h4⟩ := h
    by_cases hx : many ≤ p.first - e
    · refine .inl ⟨(e, p.first - e), ?_, by simp, by simp; omega, ?_, fun x h1 h2 => by simp at h2; omega⟩
      · unfold runsFrom gapOf fitOf
        rw [if_neg (by omega)]
        simp [hx]
      · intro q hq
        rcases List.mem_cons.1 hq with rfl | hq
        · right; simp; omega
        · have := okPl_first h4 q hq
          right; simp; omega
    · have hf : fitOf many (runsFrom e (p :: l)) = fitOf many (runsFrom (p.first + szM p.mod) l) := by
        conv => lhs; unfold runsFrom gapOf
        unfold fitOf
        split
        · simp
        · simp [hx]
      have hn : ∀ x, e ≤ x → x < p.first + szM p.mod → ¬ clearAt many (p :: l) x := by
        intro x g1 g2 g3
        rcases g3 p (by simp) with g | g
        · omega
        · omega
      have hc : ∀ x, p.first + szM p.mod ≤ x → clearAt many l x → clearAt many (p :: l) x := by
        intro x g1 g2 q hq
        rcases List.mem_cons.1 hq with rfl | hq
        · exact .inl g1
        · exact g2 q hq
      have hc' : ∀ x, clearAt many (p :: l) x → clearAt many l x := fun x g q hq => g q (List.mem_cons_of_mem _ hq)
      rw [hf]
      rcases fit_spec hm h4 with ⟨r, g1, g2, g3, g4, g5⟩ | ⟨g1, g2⟩
      · refine .inl ⟨r, g1, by omega, g3, hc _ g2 g4, fun x k1 k2 k3 => ?_⟩
        by_cases k : x < p.first + szM p.mod
        · exact hn x k1 k k3
        · exact g5 x (by omega) k2 (hc' _ k3)
      · refine .inr ⟨g1, fun x k1 k2 k3 => ?_⟩
        by_cases k : x < p.first + szM p.mod
        · exact hn x k1 k k3
        · exact g2 x (by omega) k2 (hc' _ k3)

/-- Without one of them. -/
theorem ok_less : ∀ {l : List Plc} {e : Int} (i : Nat), okPl e l → okPl e (l.eraseIdx i)
  | [], _, i, h => by simpa using h
  | p :: l, e, 0, h => by
    obtain ⟨h1, h2, h3, h4⟩ := h
    rw [List.eraseIdx_cons_zero]
    cases l with
    | nil => exact (show e ≤ 16 by omega)
    | cons q l =>
      obtain ⟨g1, g2, g3, g4⟩ := h4
      exact ⟨by omega, g2, g3, g4⟩
  | p :: l, e, i + 1, h => by
    obtain ⟨h1, h2, h3, h4⟩ := h
    rw [List.eraseIdx_cons_succ]
    exact ⟨h1, h2, h3, ok_less i h4⟩
theorem sum_less : ∀ {l : List Plc} {i : Nat} {p : Plc}, l[i]? = some p → sumSz (l.eraseIdx i) + szM p.mod = sumSz l
  | [], i, p, h => by simp at h
  | x :: l, 0, p, h => by
    simp at h
    subst h
    simp [sumSz]
    omega
  | x :: l, i + 1, p, h => by
    simp at h
    have := sum_less h
    simp [sumSz] at *
    omega
theorem chkReg_less {l : List Plc} (i : Nat) (h : chkReg l = 0) : chkReg (l.eraseIdx i) = 0 := by
  obtain ⟨h1, h2, h3⟩ := chkReg_zero.1 h
  refine chkReg_zero.2 ⟨Nat.le_trans (List.length_eraseIdx_le _ _) h1, fun p hp => h2 p (List.mem_of_mem_eraseIdx hp), ok_less i h3⟩

end Go.Proofs.Ytaklbnabgcglhac
