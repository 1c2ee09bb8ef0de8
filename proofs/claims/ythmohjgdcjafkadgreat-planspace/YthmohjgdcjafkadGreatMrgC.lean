/- Texts that are laid together. -/
import Derived.Test.YthmohjgdcjafkadGreatMrgB

/- The contract of module.Check. -/
namespace Go.Proofs.YthmohjgdcjafkadGreat
open Go.RowKit Go.PlainAid

/-- A value that is this module, its slices below block n₀. -/
def IsMod (n₀ : Nat) (W : World) (v : Value) (M : Mod) : Prop :=
  ∃ ve vi vp, v = .agg #[.string M.name, .int .i64 M.major, .int .i64 M.minor, .string M.text, ve, vi, vp] ∧ RowOf 2 Exp.cell n₀ W ve M.exps ∧ RowOf 4 Imp.cell n₀ W vi M.imps ∧ RowOf 4 Pat.cell n₀ W vp M.pats
def Mod.fits (M : Mod) : Prop := M.name.size ≤ 9223372036854775807 ∧ M.text.size ≤ 9223372036854775807 ∧ (∀ e ∈ M.exps, e.name.size ≤ 9223372036854775807) ∧ ∀ i ∈ M.imps, i.fits

theorem IsMod.below {n₀ : Nat} {W W' : World} {v : Value} {M : Mod} (h : IsMod n₀ W v M) (hb : Below n₀ W W') : IsMod n₀ W' v M := by
  obtain ⟨ve, vi, vp, e, h1, h2, h3⟩ := h
  exact ⟨ve, vi, vp, e, h1.below hb, h2.below hb, h3.below hb⟩
theorem IsMod.more {n₀ n₁ : Nat} {W : World} {v : Value} {M : Mod} (h : IsMod n₀ W v M) (hn : n₀ ≤ n₁) : IsMod n₁ W v M := by
  obtain ⟨ve, vi, vp, e, h1, h2, h3⟩ := h
  exact ⟨ve, vi, vp, e, h1.more hn, h2.more hn, h3.more hn⟩

theorem bcell {W w1 : World} (hb : Below W.heap.size W w1) : (∀ b o, b < W.heap.size → w1.cell? ⟨b, o, none⟩ = W.cell? ⟨b, o, none⟩) ∧ (∀ b o, b < W.heap.size → w1.frozen? ⟨b, o, none⟩ = W.frozen? ⟨b, o, none⟩) :=
  ⟨fun b o h => hb.cell (p := ⟨b, o, none⟩) h, fun b o h => hb.frozen (p := ⟨b, o, none⟩) h⟩

def tooManyB (M : Mod) : Bool := decide (256 < (M.text.size : Int)) || decide (6 < (M.exps.length : Int)) || decide (6 < (M.imps.length : Int)) || decide (12 < (M.pats.length : Int))

set_option maxHeartbeats 1000000 in
theorem tooMany_any (N T : ByteArray) (a b : Int) (l1 l2 l3 : Nat) (p1 p2 p3 : Option Addr) (k1 k2 k3 : Nat) (w : World) :
    Calls Tryz.prog 111 #[.agg #[.string N, .int .i64 a, .int .i64 b, .string T, .slice p1 l1 k1, .slice p2 l2 k2, .slice p3 l3 k3]] w fun e w' =>
      e = .returned (.bool (decide (256 < (T.size : Int)) || decide (6 < (l1 : Int)) || decide (6 < (l2 : Int)) || decide (12 < (l3 : Int)))) ∧ Below w.heap.size w w' := by
  by_cases h1 : 256 < (T.size : Int)
  · rw [decide_eq_true h1]
    go_enter Tryz.func111, Tryz.ntmps111
    go_wp2
    go_ret
    exact ⟨rfl, (Below.refl _ _).alloc (Nat.le_refl _) _⟩
  have h1' : decide (256 < (T.size : Int)) = false := decide_eq_false h1
  have g1 : decide (256 < T.size) = false := decide_eq_false (by omega)
  rw [h1']
  by_cases h2 : 6 < (l1 : Int)
  · rw [decide_eq_true h2]
    go_enter Tryz.func111, Tryz.ntmps111
    go_wp2
    go_ret
    exact ⟨rfl, (Below.refl _ _).alloc (Nat.le_refl _) _⟩
  have h2' : decide (6 < (l1 : Int)) = false := decide_eq_false h2
  have g2 : decide (6 < l1) = false := decide_eq_false (by omega)
  rw [h2']
  by_cases h3 : 6 < (l2 : Int)
  · rw [decide_eq_true h3]
    go_enter Tryz.func111, Tryz.ntmps111
    go_wp2
    go_ret
    exact ⟨rfl, (Below.refl _ _).alloc (Nat.le_refl _) _⟩
  have h3' : decide (6 < (l2 : Int)) = false := decide_eq_false h3
  have g3 : decide (6 < l2) = false := decide_eq_false (by omega)
  rw [h3']
  by_cases h4 : 12 < (l3 : Int)
  · rw [decide_eq_true h4]
    go_enter Tryz.func111, Tryz.ntmps111
    go_wp2
    go_ret
    exact ⟨rfl, (Below.refl _ _).alloc (Nat.le_refl _) _⟩
  · have h4' : decide (12 < (l3 : Int)) = false := decide_eq_false h4
    have g4 : decide (12 < l3) = false := decide_eq_false (by omega)
    rw [h4']
    go_enter Tryz.func111, Tryz.ntmps111
    go_wp2
    go_ret
    exact ⟨rfl, (Below.refl _ _).alloc (Nat.le_refl _) _⟩

end Go.Proofs.YthmohjgdcjafkadGreat

/- The contract of module.Check. -/
namespace Go.Proofs.YthmohjgdcjafkadGreat
open Go.RowKit Go.PlainAid

theorem chkMod_cases (M : Mod) : (isNm M.name = false ∧ chkMod M = 1) ∨ (isNm M.name = true ∧ ((M.name == kernelName) = true ∧ chkMod M = 1 ∨ (M.name == kernelName) = false ∧
    (isVer M.major M.minor = false ∧ chkMod M = 3 ∨ isVer M.major M.minor = true ∧ (tooManyB M = true ∧ chkMod M = 2 ∨ tooManyB M = false ∧ M.text.size ≤ 256 ∧ M.exps.length ≤ 6 ∧ M.imps.length ≤ 6 ∧ M.pats.length ≤ 12 ∧
      (M.text.size = 0 ∧ chkMod M = 1 ∨ 0 < M.text.size ∧ (M.text.size % 4 ≠ 0 ∧ chkMod M = 1 ∨ M.text.size % 4 = 0 ∧
        (chkExps M.text.size [] M.exps ≠ 0 ∧ chkMod M = chkExps M.text.size [] M.exps ∨ chkExps M.text.size [] M.exps = 0 ∧
          (chkImps [] M.imps ≠ 0 ∧ chkMod M = chkImps [] M.imps ∨ chkImps [] M.imps = 0 ∧ chkMod M = chkPats M.text.size M.imps.length 0 M.pats)))))))) := by
  unfold chkMod
  cases h1 : isNm M.name
  · exact .inl ⟨rfl, by simp⟩
  refine .inr ⟨rfl, ?_⟩
  by_cases h2 : (M.name == kernelName) = true
  · exact .inl ⟨h2, by simp [h2]⟩
  have h2f : (M.name == kernelName) = false := by simpa using h2
  refine .inr ⟨h2f, ?_⟩
  rw [h2f]
  cases h3 : isVer M.major M.minor
  · exact .inl ⟨rfl, by simp⟩
  refine .inr ⟨rfl, ?_⟩
  by_cases h4 : 256 < M.text.size ∨ 6 < M.exps.length ∨ 6 < M.imps.length ∨ 12 < M.pats.length
  · refine .inl ⟨?_, by simp [h4]⟩
    unfold tooManyB
    rcases h4 with h | h | h | h
    · rw [decide_eq_true (show 256 < (M.text.size : Int) by omega)]; simp
    · rw [decide_eq_true (show 6 < (M.exps.length : Int) by omega)]; simp
    · rw [decide_eq_true (show 6 < (M.imps.length : Int) by omega)]; simp
    · rw [decide_eq_true (show 12 < (M.pats.length : Int) by omega)]; simp
  have t1 : tooManyB M = false := by
    unfold tooManyB
    rw [decide_eq_false (show ¬ 256 < (M.text.size : Int) by omega), decide_eq_false (show ¬ 6 < (M.exps.length : Int) by omega), decide_eq_false (show ¬ 6 < (M.imps.length : Int) by omega), decide_eq_false (show ¬ 12 < (M.pats.length : Int) by omega)]; rfl
  refine .inr ⟨t1, by omega, by omega, by omega, by omega, ?_⟩
  rw [if_neg (by simp), if_neg (by simp), if_neg h4]
  by_cases h5 : M.text.size = 0
  · exact .inl ⟨h5, by rw [if_pos (.inl h5)]⟩
  refine .inr ⟨by omega, ?_⟩
  by_cases h6 : M.text.size % 4 ≠ 0
  · exact .inl ⟨h6, by rw [if_pos (.inr h6)]⟩
  refine .inr ⟨by omega, ?_⟩
  rw [if_neg (by omega)]
  by_cases h7 : chkExps M.text.size [] M.exps ≠ 0
  · exact .inl ⟨h7, by rw [if_pos h7]⟩
  refine .inr ⟨by omega, ?_⟩
  rw [if_neg h7]
  by_cases h8 : chkImps [] M.imps ≠ 0
  · exact .inl ⟨h8, by rw [if_pos h8]⟩
  · exact .inr ⟨by omega, by rw [if_neg h8]⟩

theorem kern_form (N : ByteArray) : (N.toList == [107, 101, 114, 110, 101, 108]) = (N == kernelName) := by
  rw [Bool.eq_iff_iff, ba_beq, beq_iff_eq, ByteArray.toList_eq]
  constructor
  · intro h; exact ByteArray.ext (Array.toList_inj.1 h)
  · rintro rfl; rfl

set_option maxHeartbeats 2000000 in
theorem check_any (M : Mod) (v : Value) (w : World) (hM : IsMod w.heap.size w v M) (hf : M.fits) :
    Calls Tryz.prog 66 #[v] w fun e w' => e = .returned (.int .i64 (chkMod M)) ∧ Below w.heap.size w w' := by
  have key := chkMod_cases M
  obtain ⟨ve, vi, vp, rfl, hE, hI, hP⟩ := hM
  obtain ⟨z1, z2, z3, z4⟩ := hf
  have HE : Hid (∀ w', Below w.heap.size w w' → M.exps.length ≤ 6 → Calls Tryz.prog 93 #[ve, .int .i64 M.text.size] w' fun e w'' => e = .returned (.int .i64 (chkExps M.text.size [] M.exps)) ∧ Below w'.heap.size w' w'') :=
    fun w' hb hl => wrongExports_any M.exps ve _ w' ((hE.below hb).more hb.size) z3 (by omega)
  have HI : Hid (∀ w', Below w.heap.size w w' → M.imps.length ≤ 6 → Calls Tryz.prog 94 #[vi] w' fun e w'' => e = .returned (.int .i64 (chkImps [] M.imps)) ∧ Below w'.heap.size w' w'') :=
    fun w' hb hl => wrongImports_any M.imps vi w' ((hI.below hb).more hb.size) z4 hl
  have HP : Hid (∀ w', Below w.heap.size w w' → M.text.size ≤ 256 → M.pats.length ≤ 12 → Calls Tryz.prog 112 #[vp, .int .i64 M.text.size, .int .i64 M.imps.length] w' fun e w'' => e = .returned (.int .i64 (chkPats M.text.size M.imps.length 0 M.pats)) ∧ Below w'.heap.size w' w'') :=
    fun w' hb hl hl2 => wrongPatches_any M.pats vp _ _ w' ((hP.below hb).more hb.size) (by omega) (by omega) hl2
  obtain ⟨pe, ke, rfl, _, hE⟩ := hE
  obtain ⟨pi, ki, rfl, _, hI⟩ := hI
  obtain ⟨pp, kp, rfl, _, hP⟩ := hP
  clear hE hI hP
  have HT : Hid (∀ w, Calls Tryz.prog 111 #[.agg #[.string M.name, .int .i64 M.major, .int .i64 M.minor, .string M.text, .slice pe M.exps.length ke, .slice pi M.imps.length ki, .slice pp M.pats.length kp]] w fun e w' => e = .returned (.bool (tooManyB M)) ∧ Below w.heap.size w w') :=
    fun w => tooMany_any _ _ _ _ _ _ _ _ _ _ _ _ _ w
  rw [← kern_form] at key
  clear z3 z4
  generalize chkExps M.text.size [] M.exps = ce at *
  generalize chkImps [] M.imps = ci at *
  generalize chkPats M.text.size M.imps.length 0 M.pats = cp at *
  generalize tooManyB M = tm at *
  generalize chkMod M = R at *
  obtain ⟨N, a, b, T, es, is, ps⟩ := M
  dsimp only at *
  generalize es.length = le at *
  generalize is.length = li at *
  generalize ps.length = lp at *
  rcases key with ⟨h1, rfl⟩ | ⟨h1, ⟨h2, rfl⟩ | ⟨h2, ⟨h3, rfl⟩ | ⟨h3, ⟨h4, rfl⟩ | ⟨h4, t1, t2, t3, t4, key⟩⟩⟩⟩
  · go_enter Tryz.func66, Tryz.ntmps66
    go_wp2_with (go_at_call 110; refine (isName_any _ _ (by assumption)).mono ?_; rintro e w' ⟨rfl, rfl⟩)
    go_ret
    exact ⟨rfl, (Below.refl _ _).alloc (Nat.le_refl _) _⟩
  · go_enter Tryz.func66, Tryz.ntmps66
    go_wp2_with (go_at_call 110; refine (isName_any _ _ (by assumption)).mono ?_; rintro e w' ⟨rfl, rfl⟩)
    go_ret
    exact ⟨rfl, (Below.refl _ _).alloc (Nat.le_refl _) _⟩
  · go_enter Tryz.func66, Tryz.ntmps66
    go_wp2_with (first
      | (go_at_call 110; refine (isName_any _ _ (by assumption)).mono ?_; rintro e w' ⟨rfl, rfl⟩)
      | (go_at_call 92; refine (isVersion_any _ _ _).mono ?_; rintro e w' ⟨rfl, rfl⟩))
    go_ret
    exact ⟨rfl, (Below.refl _ _).alloc (Nat.le_refl _) _⟩
  · go_enter Tryz.func66, Tryz.ntmps66
    go_wp2_with (first
      | (go_at_call 110; refine (isName_any _ _ (by assumption)).mono ?_; rintro e w' ⟨rfl, rfl⟩)
      | (go_at_call 92; refine (isVersion_any _ _ _).mono ?_; rintro e w' ⟨rfl, rfl⟩)
      | (go_at_call 111; refine (HT.out _).mono ?_; rintro e w1 ⟨rfl, b1⟩))
    go_ret
    exact ⟨rfl, ((Below.refl _ _).alloc (Nat.le_refl _) _).trans (b1.mono (by simp))⟩
  · have hfour : (T.size % 4 ≠ 0 → ((T.size : Int) % 4 != 0) = true) ∧ (T.size % 4 = 0 → ((T.size : Int) % 4 != 0) = false) :=
      ⟨fun h => by rw [bne_iff_ne]; omega, fun h => by simp; omega⟩
    have HW1 : Hid (Below w.heap.size w (w.alloc (.cells #[.string N, .int .i64 a, .int .i64 b, .string T, .slice pe le ke, .slice pi li ki, .slice pp lp kp] 39))) := (Below.refl _ _).alloc (Nat.le_refl _) _
    have fin : (((T.size : Int) == 0) = true ∧ R = 1) ∨ (((T.size : Int) == 0) = false ∧ ((T.size : Int) % 4 != 0) = true ∧ R = 1) ∨ (((T.size : Int) == 0) = false ∧ ((T.size : Int) % 4 != 0) = false ∧ (ce != 0) = true ∧ R = ce) ∨ (((T.size : Int) == 0) = false ∧ ((T.size : Int) % 4 != 0) = false ∧ (ce != 0) = false ∧ (ci != 0) = true ∧ R = ci) ∨ (((T.size : Int) == 0) = false ∧ ((T.size : Int) % 4 != 0) = false ∧ (ce != 0) = false ∧ (ci != 0) = false ∧ R = cp) := by
      rcases key with ⟨h5, h⟩ | ⟨h5, ⟨h6, h⟩ | ⟨h6, ⟨h7, h⟩ | ⟨h7, ⟨h8, h⟩ | ⟨h8, h⟩⟩⟩⟩
      · exact .inl ⟨by rw [beq_iff_eq]; omega, h⟩
      · exact .inr (.inl ⟨beq_eq_false_iff_ne.2 (by omega), hfour.1 h6, h⟩)
      · exact .inr (.inr (.inl ⟨beq_eq_false_iff_ne.2 (by omega), hfour.2 h6, by simpa using h7, h⟩))
      · exact .inr (.inr (.inr (.inl ⟨beq_eq_false_iff_ne.2 (by omega), hfour.2 h6, by simpa using h7, by simpa using h8, h⟩)))
      · exact .inr (.inr (.inr (.inr ⟨beq_eq_false_iff_ne.2 (by omega), hfour.2 h6, by simpa using h7, by simpa using h8, h⟩)))
    clear key hfour
    rcases fin with ⟨h5, rfl⟩ | ⟨h5, h6, rfl⟩ | ⟨h5, h6, h7, rfl⟩ | ⟨h5, h6, h7, h8, rfl⟩ | ⟨h5, h6, h7, h8, rfl⟩
    all_goals
      go_enter Tryz.func66, Tryz.ntmps66
      go_wp2_with (first
        | (go_at_call 110; refine (isName_any _ _ (by assumption)).mono ?_; rintro e w' ⟨rfl, rfl⟩)
        | (go_at_call 92; refine (isVersion_any _ _ _).mono ?_; rintro e w' ⟨rfl, rfl⟩))
      refine (HT.out _).mono ?_
      rintro e w1 ⟨rfl, b1⟩
      have B1 := HW1.out.trans (b1.mono HW1.out.size)
      have cc : ∀ o, w1.cell? ⟨w.heap.size, o, none⟩ = (w.alloc (.cells #[.string N, .int .i64 a, .int .i64 b, .string T, .slice pe le ke, .slice pi li ki, .slice pp lp kp] 39)).cell? ⟨w.heap.size, o, none⟩ := fun o => b1.cell (p := ⟨w.heap.size, o, none⟩) (by simp)
      have hz1 : w.heap.size < w1.heap.size := by have := b1.size; simp at this; omega
      have d3 := cc 3
      have d4 := cc 4
      have d5 := cc 5
      have d6 := cc 6
      simp at d3 d4 d5 d6
      clear cc b1
      go_wp2_with fail
    · go_ret
      exact ⟨rfl, B1⟩
    · go_ret
      exact ⟨rfl, B1⟩
    · refine (HE.out _ B1 t2).mono ?_
      rintro e w2 ⟨rfl, b2⟩
      go_wp2
      go_ret
      exact ⟨rfl, B1.trans (b2.mono B1.size)⟩
    · refine (HE.out _ B1 t2).mono ?_
      rintro e w2 ⟨rfl, b2⟩
      have B2 := B1.trans (b2.mono B1.size)
      have d5' := (b2.cell (p := ⟨w.heap.size, 5, none⟩) hz1).trans d5
      go_wp2_with fail
      refine (HI.out _ B2 t3).mono ?_
      rintro e w3 ⟨rfl, b3⟩
      go_wp2
      go_ret
      exact ⟨rfl, B2.trans (b3.mono B2.size)⟩
    · refine (HE.out _ B1 t2).mono ?_
      rintro e w2 ⟨rfl, b2⟩
      have B2 := B1.trans (b2.mono B1.size)
      have d5' := (b2.cell (p := ⟨w.heap.size, 5, none⟩) hz1).trans d5
      have d3' := (b2.cell (p := ⟨w.heap.size, 3, none⟩) hz1).trans d3
      have d6' := (b2.cell (p := ⟨w.heap.size, 6, none⟩) hz1).trans d6
      have hz2 : w.heap.size < w2.heap.size := Nat.lt_of_lt_of_le hz1 b2.size
      go_wp2_with fail
      refine (HI.out _ B2 t3).mono ?_
      rintro e w3 ⟨rfl, b3⟩
      have B3 := B2.trans (b3.mono B2.size)
      have d5'' := (b3.cell (p := ⟨w.heap.size, 5, none⟩) hz2).trans d5'
      have d3'' := (b3.cell (p := ⟨w.heap.size, 3, none⟩) hz2).trans d3'
      have d6'' := (b3.cell (p := ⟨w.heap.size, 6, none⟩) hz2).trans d6'
      go_wp2_with fail
      refine (HP.out _ B3 t1 t4).mono ?_
      rintro e w4 ⟨rfl, b4⟩
      go_wp2
      go_ret
      exact ⟨rfl, B3.trans (b4.mono B3.size)⟩

end Go.Proofs.YthmohjgdcjafkadGreat

/- The contract of the document's CheckExports. -/
namespace Go.Proofs.YthmohjgdcjafkadGreat
open Go.RowKit Go.PlainAid

theorem any_take_succ {α : Type} (l : List α) (p : α → Bool) (j : Nat) (x : α) (h : l[j]? = some x) : (l.take (j + 1)).any p = ((l.take j).any p || p x) := by
  rw [List.take_add_one, h]; simp
theorem any_take_le {α : Type} (l : List α) (p : α → Bool) (j k : Nat) (x : α) (h : l[j]? = some x) (hk : j < k) (hp : p x = true) : (l.take k).any p = true := by
  rw [List.any_eq_true]
  refine ⟨x, ?_, hp⟩
  rw [List.mem_iff_getElem?]
  exact ⟨j, by rw [List.getElem?_take_of_lt hk]; exact h⟩

theorem toList_beq2 (x y : ByteArray) : (x.toList == y.toList) = (x == y) := by
  rw [Bool.eq_iff_iff, ba_beq, beq_iff_eq, ByteArray.toList_eq, ByteArray.toList_eq]
  constructor
  · intro h; exact ByteArray.ext (Array.toList_inj.1 h)
  · rintro rfl; rfl

set_option maxHeartbeats 2000000 in
theorem checkExports_any (l : List Exp) (v : Value) (most : Int) (w : World) (hrow : RowOf 2 Exp.cell w.heap.size w v l) (hfit : ∀ e ∈ l, e.name.size ≤ 9223372036854775807) (hl : l.length ≤ 8) (hm0 : 0 ≤ most) (hm1 : most ≤ 140737488351232) :
    Calls Tryz.prog 82 #[v, .int .i64 most] w fun e w' => e = .returned (.int .i64 (chkExps most [] l)) ∧ Below w.heap.size w w' := by
  obtain ⟨a, cap, rfl, _, hrow⟩ := hrow
  go_enter Tryz.func82, Tryz.ntmps82
  go_wp2
  go_loopw [5] (fun i wr => ∃ (k : Nat), k ≤ l.length ∧ i = .int .i64 k ∧ Hid (chkExps most [] l = chkExps most ((l.take k).map (·.name)) (l.drop k)) ∧ Below w.heap.size w wr) (fun i _ => l.length - (intOf i).toNat)
  case atStart => exact ⟨0, Nat.zero_le _, rfl, by show chkExps most [] l = chkExps most [] (l.drop 0); rfl, Below.refl _ _⟩
  case round =>
    obtain ⟨k, hk, rfl, HC, B⟩ := hrel
    by_cases hlt : k < l.length
    · obtain ⟨p, hp⟩ : ∃ p, l[k]? = some p := ⟨_, List.getElem?_eq_getElem hlt⟩
      rcases hrow with h | ⟨b, off, rfl, hbn, hcells⟩
      · subst h; simp at hlt
      obtain ⟨n, A⟩ := p
      have hn := hfit _ (List.mem_of_getElem? hp)
      dsimp only at hn
      have c0 := (B.cell (p := ⟨b, off + k * 2 + 0, none⟩) hbn).trans (hcells k _ hp 0 (by omega))
      have c1 := (B.cell (p := ⟨b, off + k * 2 + 1, none⟩) hbn).trans (hcells k _ hp 1 (by omega))
      dsimp only [Exp.cell] at c0 c1
      rw [Nat.add_zero] at c0
      have HCELL : Hid (∀ j e, l[j]? = some e → w.cell? ⟨b, off + j * 2, none⟩ = some (.string e.name)) := fun j e hj => hcells j e hj 0 (by omega)
      have htk : (l.take (k + 1)).map (·.name) = (l.take k).map (·.name) ++ [n] := by rw [List.take_add_one, hp]; simp
      have HR : Hid (chkExps most [] l = if expErr most ((l.take k).map (·.name)) ⟨n, A⟩ = 0 then chkExps most ((l.take (k + 1)).map (·.name)) (l.drop (k + 1)) else expErr most ((l.take k).map (·.name)) ⟨n, A⟩) := by
        show chkExps most [] l = _
        rw [HC.out, drop_at hp, htk]; rfl
      clear HC hcells htk
      cases h1 : isNm n
      · have HV : Hid (expErr most ((l.take k).map (·.name)) ⟨n, A⟩ = 1) := by show expErr _ _ _ = 1; simp [expErr, h1]
        go_wp2_with (go_at_call 131; refine (isNameR_any _ _ (by assumption)).mono ?_; rintro e w' ⟨rfl, rfl⟩)
        go_ret
        exact ⟨by rw [HR.out, HV.out]; rfl, B⟩
      · go_wp2_with (go_at_call 131; refine (isNameR_any _ _ (by assumption)).mono ?_; rintro e w' ⟨rfl, rfl⟩)
        go_loopw [6] (fun i wr2 => ∃ (j : Nat), j ≤ k ∧ i = .int .i64 j ∧ Hid (((l.take j).map (·.name)).any (fun x => x == n) = false) ∧ Below w.heap.size w wr2) (fun i _ => k - (intOf i).toNat)
        case atStart => exact ⟨0, Nat.zero_le _, rfl, by show (((l.take 0).map (·.name)).any (fun x => x == n) = false); rfl, B⟩
        case round =>
          obtain ⟨j, hj, rfl, HN, B2⟩ := hrel
          by_cases hjk : j < k
          · obtain ⟨q, hq⟩ : ∃ q, l[j]? = some q := ⟨_, List.getElem?_eq_getElem (by omega)⟩
            obtain ⟨n', A'⟩ := q
            have d0 := (B2.cell (p := ⟨b, off + j * 2, none⟩) hbn).trans (HCELL.out j _ hq)
            have d1 := (B2.cell (p := ⟨b, off + k * 2, none⟩) hbn).trans (HCELL.out k _ hp)
            dsimp only at d0 d1
            have hel := toList_beq2 n' n
            cases he : n' == n
            all_goals rw [he] at hel
            · have HN2 : Hid (((l.take (j + 1)).map (·.name)).any (fun x => x == n) = false) := by
                show ((l.take (j + 1)).map (·.name)).any (fun x => x == n) = false
                rw [List.take_add_one, hq]
                have := HN.out
                simp only [List.map_append, List.any_append, this]
                simp [he]
              clear hq hp c0 c1
              go_wp2
              go_quiet (fail)
              go_wp2
              exact ⟨⟨j + 1, by omega, by go_num, HN2, below_drewN B2 _⟩, by simp [intOf]; omega⟩
            · have HV : Hid (expErr most ((l.take k).map (·.name)) ⟨n, A⟩ = 6) := by
                show expErr _ _ _ = 6
                have : ((l.take k).map (·.name)).any (fun x => x == n) = true := by
                  rw [List.any_map]
                  exact any_take_le l _ j k _ hq hjk he
                simp only [expErr, h1, this]; rfl
              clear hq hp c0 c1
              go_wp2
              go_quiet (fail)
              go_wp2
              go_ret
              exact ⟨by rw [HR.out, HV.out]; rfl, below_drewN B2 _⟩
          · obtain rfl : j = k := by omega
            have d1 := (B2.cell (p := ⟨b, off + j * 2 + 1, none⟩) hbn).trans ((B.cell (p := ⟨b, off + j * 2 + 1, none⟩) hbn).symm.trans c1)
            cases h3 : betw A 0 (most - 1)
            · have HV : Hid (expErr most ((l.take j).map (·.name)) ⟨n, A⟩ = 3) := by show expErr _ _ _ = 3; simp only [expErr, h1, HN.out, h3]; rfl
              clear hp c0 c1
              go_wp2_with (go_at_call 81; refine (between_any _ _ _ _).mono ?_; rintro e w' ⟨rfl, rfl⟩)
              go_ret
              exact ⟨by rw [HR.out, HV.out]; rfl, B2⟩
            · have HV : Hid (expErr most ((l.take j).map (·.name)) ⟨n, A⟩ = 0) := by show expErr _ _ _ = 0; simp only [expErr, h1, HN.out, h3]; rfl
              clear hp c0 c1
              go_wp2_with (go_at_call 81; refine (between_any _ _ _ _).mono ?_; rintro e w' ⟨rfl, rfl⟩)
              exact ⟨⟨j + 1, by omega, by go_num, by show chkExps most [] l = _; rw [HR.out, if_pos HV.out], B2⟩, by simp [intOf]; omega⟩
    · obtain rfl : k = l.length := by omega
      have HZ : Hid (chkExps most [] l = 0) := by
        show chkExps most [] l = 0
        rw [HC.out, List.drop_length]; rfl
      go_wp2
      go_ret
      exact ⟨by rw [HZ.out]; rfl, B⟩

end Go.Proofs.YthmohjgdcjafkadGreat

/- The contract of the document's CheckModule. -/
namespace Go.Proofs.YthmohjgdcjafkadGreat
open Go.RowKit Go.PlainAid

theorem impErr_own (met : List (ByteArray × ByteArray)) (i : Imp) : impErr met i = if impOwn i = 1 then 1 else if (met.any fun x => x.1 == i.mod && x.2 == i.name) = true then 6 else impOwn i := by
  unfold impErr impOwn
  cases h1 : isNm i.mod && isNm i.name
  · simp
  · cases h2 : isVer i.major i.minor
    · simp
    · simp
theorem impOwn_three (i : Imp) : impOwn i = 1 ∨ impOwn i = 3 ∨ impOwn i = 0 := by
  unfold impOwn
  cases h1 : isNm i.mod && isNm i.name
  · simp
  · cases h2 : isVer i.major i.minor <;> simp

set_option maxRecDepth 100000 in
set_option maxHeartbeats 4000000 in
/-- CheckModule's loops: where nothing is wrong ahead of the imports. -/
theorem checkModule_good (M : Mod) (pe pi pp : Option Addr) (ke ki kp : Nat) (w : World)
    (hE : RowOf 2 Exp.cell w.heap.size w (.slice pe M.exps.length ke) M.exps) (hI : RowOf 4 Imp.cell w.heap.size w (.slice pi M.imps.length ki) M.imps) (hP : RowOf 4 Pat.cell w.heap.size w (.slice pp M.pats.length kp) M.pats) (hf : M.fits)
    (h1 : isNm M.name = true) (h2 : (M.name.toList == [107, 101, 114, 110, 101, 108]) = false) (h3 : betw M.major 0 255 = true) (h4 : betw M.minor 0 255 = true) (t1 : M.text.size ≤ 256) (t2 : M.exps.length ≤ 6) (t3 : M.imps.length ≤ 6) (t4 : M.pats.length ≤ 12)
    (h5 : ((M.text.size : Int) == 0) = false) (h6 : decide (0 < (M.text.size : Int) % 4) = false) (h7 : chkExps M.text.size [] M.exps = 0) :
    Calls Tryz.prog 132 #[.agg #[.string M.name, .int .i64 M.major, .int .i64 M.minor, .string M.text, .slice pe M.exps.length ke, .slice pi M.imps.length ki, .slice pp M.pats.length kp]] w fun e w' =>
      e = .returned (.int .i64 (if chkImps [] M.imps ≠ 0 then chkImps [] M.imps else chkPats M.text.size M.imps.length 0 M.pats)) ∧ Below w.heap.size w w' := by
  generalize hRES : (if chkImps [] M.imps ≠ 0 then chkImps [] M.imps else chkPats M.text.size M.imps.length 0 M.pats) = RES
  have HRES : Hid ((if chkImps [] M.imps ≠ 0 then chkImps [] M.imps else chkPats M.text.size M.imps.length 0 M.pats) = RES) := hRES
  clear hRES
  obtain ⟨z1, z2, z3, z4⟩ := hf
  have HE : Hid (∀ w', Below w.heap.size w w' → Calls Tryz.prog 82 #[.slice pe M.exps.length ke, .int .i64 M.text.size] w' fun e w'' => e = .returned (.int .i64 0) ∧ Below w'.heap.size w' w'') := by
    intro w' hb
    have := checkExports_any M.exps _ M.text.size w' ((hE.below hb).more hb.size) z3 (by omega) (by omega) (by omega)
    rwa [h7] at this
  clear hE z3 h7
  obtain ⟨N, a, b, T, es, is, ps⟩ := M
  dsimp only at *
  have HZ4 : Hid (∀ e ∈ is, e.fits) := z4
  have g1 : decide (256 < (T.size : Int)) = false := decide_eq_false (by omega)
  have g1' : decide (256 < T.size) = false := decide_eq_false (by omega)
  have g2 : decide (6 < (es.length : Int)) = false := decide_eq_false (by omega)
  have g2' : decide (6 < es.length) = false := decide_eq_false (by omega)
  have g3 : decide (6 < (is.length : Int)) = false := decide_eq_false (by omega)
  have g3' : decide (6 < is.length) = false := decide_eq_false (by omega)
  have g4 : decide (12 < (ps.length : Int)) = false := decide_eq_false (by omega)
  have g4' : decide (12 < ps.length) = false := decide_eq_false (by omega)
  have HII : Hid (RowOf 4 Imp.cell w.heap.size w (.slice pi is.length ki) is) := hI
  have HPP : Hid (RowOf 4 Pat.cell w.heap.size w (.slice pp ps.length kp) ps) := hP
  have HW1 : Hid (Below w.heap.size w (w.alloc (.cells #[.string N, .int .i64 a, .int .i64 b, .string T, .slice pe es.length ke, .slice pi is.length ki, .slice pp ps.length kp] 39))) := (Below.refl _ _).alloc (Nat.le_refl _) _
  clear hI hP z4
  go_enter Tryz.func132, Tryz.ntmps132
  go_wp2_with (first
    | (go_at_call 131; refine (isNameR_any _ _ (by assumption)).mono ?_; rintro e w' ⟨rfl, rfl⟩)
    | (go_at_call 81; refine (between_any _ _ _ _).mono ?_; rintro e w' ⟨rfl, rfl⟩))
  refine (HE.out _ HW1.out).mono ?_
  rintro e w1 ⟨rfl, b1⟩
  have B1 := HW1.out.trans (b1.mono HW1.out.size)
  have cc : ∀ o, w1.cell? ⟨w.heap.size, o, none⟩ = (w.alloc (.cells #[.string N, .int .i64 a, .int .i64 b, .string T, .slice pe es.length ke, .slice pi is.length ki, .slice pp ps.length kp] 39)).cell? ⟨w.heap.size, o, none⟩ := fun o => b1.cell (p := ⟨w.heap.size, o, none⟩) (by simp)
  have hz1 : w.heap.size < w1.heap.size := by have := b1.size; simp at this; omega
  have d3 := cc 3
  have d5 := cc 5
  have d6 := cc 6
  simp at d3 d5 d6
  obtain ⟨_, _, e0, _, hI⟩ := (HII.out.below B1).more B1.size
  obtain ⟨_, _, e1, _, hP⟩ := (HPP.out.below B1).more B1.size
  cases e0; cases e1
  clear cc b1 HE HII HPP HW1 g1 g1' g2 g2' g3 g3' g4 g4' h1 h2 h3 h4 h6
  go_wp2
  go_loopw [4] (fun i wr => ∃ (k : Nat), k ≤ is.length ∧ i = .int .i64 k ∧ Hid (chkImps [] is = chkImps ((is.take k).map fun x => (x.mod, x.name)) (is.drop k)) ∧ Below w1.heap.size w1 wr) (fun i _ => is.length - (intOf i).toNat)
  case atStart => exact ⟨0, Nat.zero_le _, rfl, by show chkImps [] is = chkImps [] (is.drop 0); rfl, Below.refl _ _⟩
  case round =>
    obtain ⟨k, hk, rfl, HC, B⟩ := hrel
    have k5 := (B.cell (p := ⟨w.heap.size, 5, none⟩) hz1).trans d5
    by_cases hlt : k < is.length
    · obtain ⟨p, hp⟩ : ∃ p, is[k]? = some p := ⟨_, List.getElem?_eq_getElem hlt⟩
      rcases hI with h | ⟨bb, off, rfl, hbn, hcells⟩
      · subst h; simp at hlt
      have hpf := HZ4.out _ (List.mem_of_getElem? hp)
      obtain ⟨m, n, va, vb⟩ := p
      have HCELL : Hid (∀ j e, is[j]? = some e → w1.cell? ⟨bb, off + j * 4, none⟩ = some (.string e.mod) ∧ w1.cell? ⟨bb, off + j * 4 + 1, none⟩ = some (.string e.name)) := fun j e hj => ⟨hcells j e hj 0 (by omega), hcells j e hj 1 (by omega)⟩
      have c0 := (B.cell (p := ⟨bb, off + k * 4 + 0, none⟩) hbn).trans (hcells k _ hp 0 (by omega))
      have c1 := (B.cell (p := ⟨bb, off + k * 4 + 1, none⟩) hbn).trans (hcells k _ hp 1 (by omega))
      have c2 := (B.cell (p := ⟨bb, off + k * 4 + 2, none⟩) hbn).trans (hcells k _ hp 2 (by omega))
      have c3 := (B.cell (p := ⟨bb, off + k * 4 + 3, none⟩) hbn).trans (hcells k _ hp 3 (by omega))
      dsimp only [Imp.cell] at c0 c1 c2 c3
      rw [Nat.add_zero] at c0
      have htk : ((is.take (k + 1)).map fun x => (x.mod, x.name)) = ((is.take k).map fun x => (x.mod, x.name)) ++ [(m, n)] := by rw [List.take_add_one, hp]; simp
      have HR : Hid (chkImps [] is = if impErr ((is.take k).map fun x => (x.mod, x.name)) ⟨m, n, va, vb⟩ = 0 then chkImps ((is.take (k + 1)).map fun x => (x.mod, x.name)) (is.drop (k + 1)) else impErr ((is.take k).map fun x => (x.mod, x.name)) ⟨m, n, va, vb⟩) := by
        show chkImps [] is = _
        rw [HC.out, drop_at hp, htk]; rfl
      have HCI : Hid (∀ w, Calls Tryz.prog 161 #[.agg #[.string m, .string n, .int .i64 va, .int .i64 vb]] w fun e w' => e = .returned (.int .i64 (impOwn ⟨m, n, va, vb⟩)) ∧ Below w.heap.size w w') := fun w => checkImport_any ⟨m, n, va, vb⟩ w hpf
      have how := impOwn_three ⟨m, n, va, vb⟩
      have HIO := impErr_own ((is.take k).map fun x => (x.mod, x.name)) ⟨m, n, va, vb⟩
      dsimp only at HIO
      have HIO2 : Hid (impErr ((is.take k).map fun x => (x.mod, x.name)) ⟨m, n, va, vb⟩ = if impOwn ⟨m, n, va, vb⟩ = 1 then 1 else if (((is.take k).map fun x => (x.mod, x.name)).any fun x => x.1 == m && x.2 == n) = true then 6 else impOwn ⟨m, n, va, vb⟩) := HIO
      clear HC hcells htk HIO hpf
      generalize impErr ((is.take k).map fun x => (x.mod, x.name)) ⟨m, n, va, vb⟩ = IE at *
      generalize impOwn ⟨m, n, va, vb⟩ = IW at *
      by_cases ho : IW = 1
      · subst ho
        have HV : Hid (chkImps [] is = 1) := by show chkImps [] is = 1; rw [HR.out, HIO2.out]; rfl
        go_wp2_with fail
        refine (HCI.out _).mono ?_
        rintro e w2 ⟨rfl, b2⟩
        go_wp2
        go_ret
        exact ⟨by rw [← HRES.out, HV.out]; rfl, B1.trans ((B.trans (b2.mono B.size)).mono B1.size)⟩
      · have ho' : (IW == 1) = false := beq_eq_false_iff_ne.2 ho
        go_wp2_with fail
        refine (HCI.out _).mono ?_
        rintro e w2 ⟨rfl, b2⟩
        have B2 := B.trans (b2.mono B.size)
        clear c0 c1 c2 c3 k5
        go_wp2
        go_loopw [6] (fun i wr2 => ∃ (j : Nat), j ≤ k ∧ i = .int .i64 j ∧ Hid ((((is.take j).map fun x => (x.mod, x.name)).any fun x => x.1 == m && x.2 == n) = false) ∧ Below w1.heap.size w1 wr2) (fun i _ => k - (intOf i).toNat)
        case atStart => exact ⟨0, Nat.zero_le _, rfl, by show (((is.take 0).map fun x => (x.mod, x.name)).any fun x => x.1 == m && x.2 == n) = false; rfl, B2⟩
        case round =>
          obtain ⟨j, hj, rfl, HN, B3⟩ := hrel
          have k5 := (B3.cell (p := ⟨w.heap.size, 5, none⟩) hz1).trans d5
          by_cases hjk : j < k
          · obtain ⟨q, hq⟩ : ∃ q, is[j]? = some q := ⟨_, List.getElem?_eq_getElem (by omega)⟩
            obtain ⟨m', n', va', vb'⟩ := q
            have x0 := (B3.cell (p := ⟨bb, off + j * 4, none⟩) hbn).trans (HCELL.out j _ hq).1
            have x1 := (B3.cell (p := ⟨bb, off + j * 4 + 1, none⟩) hbn).trans (HCELL.out j _ hq).2
            have y0 := (B3.cell (p := ⟨bb, off + k * 4, none⟩) hbn).trans (HCELL.out k _ hp).1
            have y1 := (B3.cell (p := ⟨bb, off + k * 4 + 1, none⟩) hbn).trans (HCELL.out k _ hp).2
            dsimp only at x0 x1 y0 y1
            have hm := toList_beq2 m' m
            have hn := toList_beq2 n' n
            cases he : (m' == m && n' == n)
            · have HN2 : Hid ((((is.take (j + 1)).map fun x => (x.mod, x.name)).any fun x => x.1 == m && x.2 == n) = false) := by
                show (((is.take (j + 1)).map fun x => (x.mod, x.name)).any fun x => x.1 == m && x.2 == n) = false
                rw [List.take_add_one, hq]
                have := HN.out
                simp only [List.map_append, List.any_append, this]
                simp [he]
              have hsplit : (m'.toList == m.toList) = false ∨ ((m'.toList == m.toList) = true ∧ (n'.toList == n.toList) = false) := by
                rw [hm, hn]
                cases e1 : m' == m
                · exact .inl rfl
                · rw [e1] at he; exact .inr ⟨rfl, he⟩
              clear hq hp hm hn he
              rcases hsplit with hs1 | ⟨hs1, hs2⟩
              all_goals
                go_wp2
                go_quiet (fail)
                go_wp2
                exact ⟨⟨j + 1, by omega, by go_num, HN2, below_drewN B3 _⟩, by simp [intOf]; omega⟩
            · have HV : Hid (chkImps [] is = 6) := by
                show chkImps [] is = 6
                have : (((is.take k).map fun x => (x.mod, x.name)).any fun x => x.1 == m && x.2 == n) = true := by
                  rw [List.any_map]
                  exact any_take_le is _ j k _ hq hjk he
                have e6 : IE = 6 := by rw [HIO2.out, if_neg ho, if_pos this]
                rw [HR.out, e6]; rfl
              have hs1 : (m'.toList == m.toList) = true := by rw [hm]; exact (Bool.and_eq_true _ _ ▸ he).1
              have hs2 : (n'.toList == n.toList) = true := by rw [hn]; exact (Bool.and_eq_true _ _ ▸ he).2
              clear hq hp hm hn he
              go_wp2
              go_quiet (fail)
              go_wp2
              go_ret
              exact ⟨by rw [← HRES.out, HV.out]; rfl, B1.trans ((below_drewN B3 _).mono B1.size)⟩
          · obtain rfl : j = k := by omega
            have hIE : IE = IW := by rw [HIO2.out, if_neg ho, if_neg (by rw [HN.out]; simp)]
            have HIE : Hid (IE = IW) := hIE
            clear hIE
            rcases how with h | h | h
            · exact absurd h ho
            · subst h
              have HV : Hid (chkImps [] is = 3) := by show chkImps [] is = 3; rw [HR.out, HIE.out]; rfl
              go_wp2
              go_ret
              exact ⟨by rw [← HRES.out, HV.out]; rfl, B1.trans (B3.mono B1.size)⟩
            · subst h
              have HV : Hid (chkImps [] is = chkImps ((is.take (j + 1)).map fun x => (x.mod, x.name)) (is.drop (j + 1))) := by show chkImps [] is = _; rw [HR.out, if_pos HIE.out]
              go_wp2
              exact ⟨⟨j + 1, by omega, by go_num, HV, B3⟩, by simp [intOf]; omega⟩
    · obtain rfl : k = is.length := by omega
      have HV : Hid (chkPats T.size is.length 0 ps = RES) := by
        show chkPats T.size is.length 0 ps = RES
        rw [← HRES.out, if_neg]
        rw [HC.out, List.drop_length]
        simp [chkImps]
      clear HC HRES hI
      go_wp2
      have k6 := (B.cell (p := ⟨w.heap.size, 6, none⟩) hz1).trans d6
      go_loopw [7, 8] (fun en i wr => ∃ (k : Nat) (E : Int), k ≤ ps.length ∧ i = .int .i64 k ∧ en = .int .i64 E ∧ 0 ≤ E ∧ E ≤ 140737488351232 ∧ Hid (RES = chkPats T.size is.length E (ps.drop k)) ∧ Below w1.heap.size w1 wr) (fun _ i _ => ps.length - (intOf i).toNat)
      case atStart => exact ⟨0, 0, Nat.zero_le _, rfl, rfl, by omega, by omega, by show RES = _; rw [← HV.out]; rfl, B⟩
      case round =>
        obtain ⟨k, E, hk, rfl, rfl, e0, e1, HC, B2⟩ := hrel
        have k6 := (B2.cell (p := ⟨w.heap.size, 6, none⟩) hz1).trans d6
        have k5 := (B2.cell (p := ⟨w.heap.size, 5, none⟩) hz1).trans d5
        have k3 := (B2.cell (p := ⟨w.heap.size, 3, none⟩) hz1).trans d3
        by_cases hlt : k < ps.length
        · obtain ⟨p, hp⟩ : ∃ p, ps[k]? = some p := ⟨_, List.getElem?_eq_getElem hlt⟩
          rcases hP with h | ⟨bb, off, rfl, hbn, hcells⟩
          · subst h; simp at hlt
          obtain ⟨K, A, S, D⟩ := p
          have c0 := (B2.cell (p := ⟨bb, off + k * 4 + 0, none⟩) hbn).trans (hcells k _ hp 0 (by omega))
          have c1 := (B2.cell (p := ⟨bb, off + k * 4 + 1, none⟩) hbn).trans (hcells k _ hp 1 (by omega))
          have c2 := (B2.cell (p := ⟨bb, off + k * 4 + 2, none⟩) hbn).trans (hcells k _ hp 2 (by omega))
          have c3 := (B2.cell (p := ⟨bb, off + k * 4 + 3, none⟩) hbn).trans (hcells k _ hp 3 (by omega))
          dsimp only [Pat.cell] at c0 c1 c2 c3
          rw [Nat.add_zero] at c0
          have HR : Hid (RES = if patErr T.size is.length E ⟨K, A, S, D⟩ = 0 then chkPats T.size is.length (A + width K) (ps.drop (k + 1)) else patErr T.size is.length E ⟨K, A, S, D⟩) := by
            show RES = _
            rw [HC.out, drop_at hp]; rfl
          have key := patErr_cases T.size is.length E K A S D
          have hwd := width_bd K
          have PW : Hid (∀ w, Calls Tryz.prog 16 #[.int .i64 K] w fun e w' => e = .returned (.int .i64 (width K)) ∧ w' = w) := fun w => widthOf_any K w
          clear HC hcells hp HV
          generalize patErr T.size is.length E ⟨K, A, S, D⟩ = R at key HR
          generalize width K = Wd at *
          have cases5 : (Wd = 0 ∧ R = 7) ∨ ((Wd == 0) = false ∧ (betw S (-1) ((is.length : Int) - 1) = false ∧ R = 3 ∨ betw S (-1) ((is.length : Int) - 1) = true ∧ (betw D 0 65535 = false ∧ R = 3 ∨ betw D 0 65535 = true ∧ (betw A 0 ((T.size : Int) - Wd) = false ∧ R = 3 ∨ betw A 0 ((T.size : Int) - Wd) = true ∧ 0 ≤ A ∧ A ≤ (T.size : Int) - Wd ∧ (A < E ∧ R = 4 ∨ E ≤ A ∧ R = 0))))) := by
            rcases key with ⟨h0, h⟩ | ⟨h0, ⟨h1, h⟩ | ⟨h1, h2, h⟩ | ⟨h1, h2, h3, h⟩ | ⟨h1, h2, h3, h4, h⟩ | ⟨h1, h2, h3, h4, ⟨h5, h⟩ | ⟨h5, h6, h⟩ | ⟨h5, h6, h7, h⟩ | ⟨h5, h6, h7, h⟩⟩⟩
            · exact .inl ⟨h0, h⟩
            all_goals refine .inr ⟨beq_eq_false_iff_ne.2 h0, ?_⟩
            · exact .inl ⟨betw_false (.inl h1), h⟩
            · exact .inl ⟨betw_false (.inr (by omega)), h⟩
            all_goals refine .inr ⟨betw_true (by omega) (by omega), ?_⟩
            · exact .inl ⟨betw_false (.inl h3), h⟩
            · exact .inl ⟨betw_false (.inr h4), h⟩
            all_goals refine .inr ⟨betw_true (by omega) (by omega), ?_⟩
            · exact .inl ⟨betw_false (.inl h5), h⟩
            · exact .inl ⟨betw_false (.inr h6), h⟩
            · exact .inr ⟨betw_true h5 h6, h5, h6, .inl ⟨h7, h⟩⟩
            · exact .inr ⟨betw_true h5 h6, h5, h6, .inr ⟨h7, h⟩⟩
          clear key
          obtain ⟨hw0, hw4⟩ := hwd
          have ka5 : ∀ o, (wr.alloc o).cell? ⟨w.heap.size, 5, none⟩ = some (.slice pi is.length ki) := fun o => cell_kept k5 (World.grownBy_alloc wr o none) (fun r e => by cases e)
          have ka3 : ∀ o, (wr.alloc o).cell? ⟨w.heap.size, 3, none⟩ = some (.string T) := fun o => cell_kept k3 (World.grownBy_alloc wr o none) (fun r e => by cases e)
          rcases cases5 with ⟨rfl, rfl⟩ | ⟨h0, ⟨q1, rfl⟩ | ⟨q1, ⟨q2, rfl⟩ | ⟨q2, ⟨q3, rfl⟩ | ⟨q3, a0, a1, ⟨q4, rfl⟩ | ⟨q4, rfl⟩⟩⟩⟩⟩
          all_goals
            go_wp2_with (first
              | (go_at_call 16; refine (PW.out _).mono ?_; rintro e w' ⟨rfl, rfl⟩)
              | (go_at_call 81; refine (between_any _ _ _ _).mono ?_; rintro e w' ⟨rfl, rfl⟩))
          case roundEnd =>
            exact ⟨⟨k + 1, A + Wd, by omega, by go_num, rfl, by omega, by omega, HR.out, B2.alloc B2.size _⟩, by simp [intOf]; omega⟩
          all_goals
            go_ret
            exact ⟨by rw [HR.out]; rfl, B1.trans ((B2.alloc B2.size _).mono B1.size)⟩
        · obtain rfl : k = ps.length := by omega
          have HZ : Hid (RES = 0) := by
            show RES = 0
            rw [HC.out, List.drop_length]; rfl
          go_wp2
          go_ret
          exact ⟨by rw [HZ.out]; rfl, B1.trans (B2.mono B1.size)⟩

end Go.Proofs.YthmohjgdcjafkadGreat

/- The contract of the document's CheckModule. -/
namespace Go.Proofs.YthmohjgdcjafkadGreat
open Go.RowKit Go.PlainAid

set_option maxRecDepth 100000 in
set_option maxHeartbeats 2000000 in
theorem checkModule_any (M : Mod) (v : Value) (w : World) (hM : IsMod w.heap.size w v M) (hf : M.fits) :
    Calls Tryz.prog 132 #[v] w fun e w' => e = .returned (.int .i64 (chkMod M)) ∧ Below w.heap.size w w' := by
  have key := chkMod_cases M
  rw [← kern_form] at key
  obtain ⟨ve, vi, vp, rfl, hE, hI, hP⟩ := hM
  have hE' := hE
  have hI' := hI
  have hP' := hP
  obtain ⟨pe, ke, rfl, _, _⟩ := hE'
  obtain ⟨pi, ki, rfl, _, _⟩ := hI'
  obtain ⟨pp, kp, rfl, _, _⟩ := hP'
  obtain ⟨z1, z2, z3, z4⟩ := hf
  by_cases hgood : isNm M.name = true ∧ (M.name.toList == [107, 101, 114, 110, 101, 108]) = false ∧ isVer M.major M.minor = true ∧ M.text.size ≤ 256 ∧ M.exps.length ≤ 6 ∧ M.imps.length ≤ 6 ∧ M.pats.length ≤ 12 ∧ M.text.size ≠ 0 ∧ M.text.size % 4 = 0 ∧ chkExps M.text.size [] M.exps = 0
  · obtain ⟨h1, h2, h3, t1, t2, t3, t4, h5, h6, h7⟩ := hgood
    have hv : betw M.major 0 255 = true ∧ betw M.minor 0 255 = true := by simpa [isVer] using h3
    have := checkModule_good M pe pi pp ke ki kp w hE hI hP ⟨z1, z2, z3, z4⟩ h1 h2 hv.1 hv.2 t1 t2 t3 t4 (beq_eq_false_iff_ne.2 (by omega)) (decide_eq_false (by omega)) h7
    have e : chkMod M = if chkImps [] M.imps ≠ 0 then chkImps [] M.imps else chkPats M.text.size M.imps.length 0 M.pats := by
      unfold chkMod
      rw [kern_form] at h2
      rw [if_neg (by simp [h1, h2]), if_neg (by simp [h3]), if_neg (by omega), if_neg (by omega), if_neg (by simp [h7])]
    rwa [e]
  · have HE : Hid (∀ w', Below w.heap.size w w' → M.exps.length ≤ 6 → M.text.size ≤ 256 → Calls Tryz.prog 82 #[.slice pe M.exps.length ke, .int .i64 M.text.size] w' fun e w'' => e = .returned (.int .i64 (chkExps M.text.size [] M.exps)) ∧ Below w'.heap.size w' w'') :=
      fun w' hb hl ht => checkExports_any M.exps _ M.text.size w' ((hE.below hb).more hb.size) z3 (by omega) (by omega) (by omega)
    have fin : (isNm M.name = false ∧ chkMod M = 1) ∨ (isNm M.name = true ∧ (M.name.toList == [107, 101, 114, 110, 101, 108]) = true ∧ chkMod M = 1) ∨ (isNm M.name = true ∧ (M.name.toList == [107, 101, 114, 110, 101, 108]) = false ∧ (betw M.major 0 255 = false ∧ chkMod M = 3 ∨ betw M.major 0 255 = true ∧ (betw M.minor 0 255 = false ∧ chkMod M = 3 ∨ betw M.minor 0 255 = true ∧
        (256 < M.text.size ∧ chkMod M = 2 ∨ M.text.size ≤ 256 ∧ (6 < M.exps.length ∧ chkMod M = 2 ∨ M.exps.length ≤ 6 ∧ (6 < M.imps.length ∧ chkMod M = 2 ∨ M.imps.length ≤ 6 ∧ (12 < M.pats.length ∧ chkMod M = 2 ∨ M.pats.length ≤ 12 ∧
          (M.text.size = 0 ∧ chkMod M = 1 ∨ M.text.size ≠ 0 ∧ (M.text.size % 4 ≠ 0 ∧ chkMod M = 1 ∨ M.text.size % 4 = 0 ∧ (chkExps M.text.size [] M.exps ≠ 0 ∧ chkMod M = chkExps M.text.size [] M.exps)))))))))) := by
      rcases key with ⟨h1, h⟩ | ⟨h1, ⟨h2, h⟩ | ⟨h2, key⟩⟩
      · exact .inl ⟨h1, h⟩
      · exact .inr (.inl ⟨h1, h2, h⟩)
      refine .inr (.inr ⟨h1, h2, ?_⟩)
      rcases key with ⟨h3, h⟩ | ⟨h3, key⟩
      · cases ha : betw M.major 0 255
        · exact .inl ⟨rfl, h⟩
        · cases hb : betw M.minor 0 255
          · exact .inr ⟨rfl, .inl ⟨rfl, h⟩⟩
          · rw [isVer, ha, hb] at h3; cases h3
      have hv : betw M.major 0 255 = true ∧ betw M.minor 0 255 = true := by simpa [isVer] using h3
      refine .inr ⟨hv.1, .inr ⟨hv.2, ?_⟩⟩
      rcases key with ⟨h4, h⟩ | ⟨h4, t1, t2, t3, t4, key⟩
      · by_cases a1 : 256 < M.text.size
        · exact .inl ⟨a1, h⟩
        by_cases a2 : 6 < M.exps.length
        · exact .inr ⟨by omega, .inl ⟨a2, h⟩⟩
        by_cases a3 : 6 < M.imps.length
        · exact .inr ⟨by omega, .inr ⟨by omega, .inl ⟨a3, h⟩⟩⟩
        by_cases a4 : 12 < M.pats.length
        · exact .inr ⟨by omega, .inr ⟨by omega, .inr ⟨by omega, .inl ⟨a4, h⟩⟩⟩⟩
        · exfalso
          unfold tooManyB at h4
          rw [decide_eq_false (show ¬ 256 < (M.text.size : Int) by omega), decide_eq_false (show ¬ 6 < (M.exps.length : Int) by omega), decide_eq_false (show ¬ 6 < (M.imps.length : Int) by omega), decide_eq_false (show ¬ 12 < (M.pats.length : Int) by omega)] at h4
          cases h4
      refine .inr ⟨t1, .inr ⟨t2, .inr ⟨t3, .inr ⟨t4, ?_⟩⟩⟩⟩
      rcases key with ⟨h5, h⟩ | ⟨h5, ⟨h6, h⟩ | ⟨h6, ⟨h7, h⟩ | ⟨h7, _⟩⟩⟩
      · exact .inl ⟨h5, h⟩
      · exact .inr ⟨by omega, .inl ⟨h6, h⟩⟩
      · exact .inr ⟨by omega, .inr ⟨h6, h7, h⟩⟩
      · exact absurd ⟨h1, h2, h3, t1, t2, t3, t4, by omega, h6, h7⟩ hgood
    clear key hgood hE hI hP z3 z4
    generalize chkExps M.text.size [] M.exps = ce at *
    generalize chkMod M = R at *
    obtain ⟨N, a, b, T, es, is, ps⟩ := M
    dsimp only at *
    rename_i q1 q2 q3
    clear q1 q2 q3
    have HW1 : Hid (Below w.heap.size w (w.alloc (.cells #[.string N, .int .i64 a, .int .i64 b, .string T, .slice pe es.length ke, .slice pi is.length ki, .slice pp ps.length kp] 39))) := (Below.refl _ _).alloc (Nat.le_refl _) _
    rcases fin with ⟨h1, rfl⟩ | ⟨h1, h2, rfl⟩ | ⟨h1, h2, ⟨h3, rfl⟩ | ⟨h3, ⟨h4, rfl⟩ | ⟨h4, ⟨k1, rfl⟩ | ⟨k1, ⟨k2, rfl⟩ | ⟨k2, ⟨k3, rfl⟩ | ⟨k3, ⟨k4, rfl⟩ | ⟨k4, ⟨h5, rfl⟩ | ⟨h5, ⟨h6, rfl⟩ | ⟨h6, h7, rfl⟩⟩⟩⟩⟩⟩⟩⟩⟩
    · go_enter Tryz.func132, Tryz.ntmps132
      go_wp2_with (first
        | (go_at_call 131; refine (isNameR_any _ _ (by assumption)).mono ?_; rintro e w' ⟨rfl, rfl⟩)
        | (go_at_call 81; refine (between_any _ _ _ _).mono ?_; rintro e w' ⟨rfl, rfl⟩))
      go_ret
      exact ⟨rfl, HW1.out⟩
    · go_enter Tryz.func132, Tryz.ntmps132
      go_wp2_with (first
        | (go_at_call 131; refine (isNameR_any _ _ (by assumption)).mono ?_; rintro e w' ⟨rfl, rfl⟩)
        | (go_at_call 81; refine (between_any _ _ _ _).mono ?_; rintro e w' ⟨rfl, rfl⟩))
      go_ret
      exact ⟨rfl, HW1.out⟩
    · go_enter Tryz.func132, Tryz.ntmps132
      go_wp2_with (first
        | (go_at_call 131; refine (isNameR_any _ _ (by assumption)).mono ?_; rintro e w' ⟨rfl, rfl⟩)
        | (go_at_call 81; refine (between_any _ _ _ _).mono ?_; rintro e w' ⟨rfl, rfl⟩))
      go_ret
      exact ⟨rfl, HW1.out⟩
    · go_enter Tryz.func132, Tryz.ntmps132
      go_wp2_with (first
        | (go_at_call 131; refine (isNameR_any _ _ (by assumption)).mono ?_; rintro e w' ⟨rfl, rfl⟩)
        | (go_at_call 81; refine (between_any _ _ _ _).mono ?_; rintro e w' ⟨rfl, rfl⟩))
      go_ret
      exact ⟨rfl, HW1.out⟩
    · have gt : (256 : Int) < T.size := by omega
      go_enter Tryz.func132, Tryz.ntmps132
      go_wp2_with (first
        | (go_at_call 131; refine (isNameR_any _ _ (by assumption)).mono ?_; rintro e w' ⟨rfl, rfl⟩)
        | (go_at_call 81; refine (between_any _ _ _ _).mono ?_; rintro e w' ⟨rfl, rfl⟩))
      go_ret
      exact ⟨rfl, HW1.out⟩
    · have g1 : decide (256 < (T.size : Int)) = false := decide_eq_false (by omega)
      have g1' : decide (256 < T.size) = false := decide_eq_false (by omega)
      have gt : (6 : Int) < es.length := by omega
      go_enter Tryz.func132, Tryz.ntmps132
      go_wp2_with (first
        | (go_at_call 131; refine (isNameR_any _ _ (by assumption)).mono ?_; rintro e w' ⟨rfl, rfl⟩)
        | (go_at_call 81; refine (between_any _ _ _ _).mono ?_; rintro e w' ⟨rfl, rfl⟩))
      go_ret
      exact ⟨rfl, HW1.out⟩
    · have g1 : decide (256 < (T.size : Int)) = false := decide_eq_false (by omega)
      have g1' : decide (256 < T.size) = false := decide_eq_false (by omega)
      have g2 : decide (6 < (es.length : Int)) = false := decide_eq_false (by omega)
      have g2' : decide (6 < es.length) = false := decide_eq_false (by omega)
      have gt : (6 : Int) < is.length := by omega
      go_enter Tryz.func132, Tryz.ntmps132
      go_wp2_with (first
        | (go_at_call 131; refine (isNameR_any _ _ (by assumption)).mono ?_; rintro e w' ⟨rfl, rfl⟩)
        | (go_at_call 81; refine (between_any _ _ _ _).mono ?_; rintro e w' ⟨rfl, rfl⟩))
      go_ret
      exact ⟨rfl, HW1.out⟩
    · have g1 : decide (256 < (T.size : Int)) = false := decide_eq_false (by omega)
      have g1' : decide (256 < T.size) = false := decide_eq_false (by omega)
      have g2 : decide (6 < (es.length : Int)) = false := decide_eq_false (by omega)
      have g2' : decide (6 < es.length) = false := decide_eq_false (by omega)
      have g3 : decide (6 < (is.length : Int)) = false := decide_eq_false (by omega)
      have g3' : decide (6 < is.length) = false := decide_eq_false (by omega)
      have gt : (12 : Int) < ps.length := by omega
      go_enter Tryz.func132, Tryz.ntmps132
      go_wp2_with (first
        | (go_at_call 131; refine (isNameR_any _ _ (by assumption)).mono ?_; rintro e w' ⟨rfl, rfl⟩)
        | (go_at_call 81; refine (between_any _ _ _ _).mono ?_; rintro e w' ⟨rfl, rfl⟩))
      go_ret
      exact ⟨rfl, HW1.out⟩
    · have g1 : decide (256 < (T.size : Int)) = false := decide_eq_false (by omega)
      have g1' : decide (256 < T.size) = false := decide_eq_false (by omega)
      have g2 : decide (6 < (es.length : Int)) = false := decide_eq_false (by omega)
      have g2' : decide (6 < es.length) = false := decide_eq_false (by omega)
      have g3 : decide (6 < (is.length : Int)) = false := decide_eq_false (by omega)
      have g3' : decide (6 < is.length) = false := decide_eq_false (by omega)
      have g4 : decide (12 < (ps.length : Int)) = false := decide_eq_false (by omega)
      have g4' : decide (12 < ps.length) = false := decide_eq_false (by omega)
      have h5' : ((T.size : Int) == 0) = true := by rw [beq_iff_eq]; omega
      clear h5
      go_enter Tryz.func132, Tryz.ntmps132
      go_wp2_with (first
        | (go_at_call 131; refine (isNameR_any _ _ (by assumption)).mono ?_; rintro e w' ⟨rfl, rfl⟩)
        | (go_at_call 81; refine (between_any _ _ _ _).mono ?_; rintro e w' ⟨rfl, rfl⟩))
      go_ret
      exact ⟨rfl, HW1.out⟩
    · have g1 : decide (256 < (T.size : Int)) = false := decide_eq_false (by omega)
      have g1' : decide (256 < T.size) = false := decide_eq_false (by omega)
      have g2 : decide (6 < (es.length : Int)) = false := decide_eq_false (by omega)
      have g2' : decide (6 < es.length) = false := decide_eq_false (by omega)
      have g3 : decide (6 < (is.length : Int)) = false := decide_eq_false (by omega)
      have g3' : decide (6 < is.length) = false := decide_eq_false (by omega)
      have g4 : decide (12 < (ps.length : Int)) = false := decide_eq_false (by omega)
      have g4' : decide (12 < ps.length) = false := decide_eq_false (by omega)
      have h5' : ((T.size : Int) == 0) = false := beq_eq_false_iff_ne.2 (by omega)
      have h6' : 0 < (T.size : Int) % 4 := by omega
      clear h5 h6
      go_enter Tryz.func132, Tryz.ntmps132
      go_wp2_with (first
        | (go_at_call 131; refine (isNameR_any _ _ (by assumption)).mono ?_; rintro e w' ⟨rfl, rfl⟩)
        | (go_at_call 81; refine (between_any _ _ _ _).mono ?_; rintro e w' ⟨rfl, rfl⟩))
      go_ret
      exact ⟨rfl, HW1.out⟩
    · have g1 : decide (256 < (T.size : Int)) = false := decide_eq_false (by omega)
      have g1' : decide (256 < T.size) = false := decide_eq_false (by omega)
      have g2 : decide (6 < (es.length : Int)) = false := decide_eq_false (by omega)
      have g2' : decide (6 < es.length) = false := decide_eq_false (by omega)
      have g3 : decide (6 < (is.length : Int)) = false := decide_eq_false (by omega)
      have g3' : decide (6 < is.length) = false := decide_eq_false (by omega)
      have g4 : decide (12 < (ps.length : Int)) = false := decide_eq_false (by omega)
      have g4' : decide (12 < ps.length) = false := decide_eq_false (by omega)
      have h5' : ((T.size : Int) == 0) = false := beq_eq_false_iff_ne.2 (by omega)
      have h6' : decide (0 < (T.size : Int) % 4) = false := decide_eq_false (by omega)
      have h7' : (R != 0) = true := by simpa using h7
      clear h5 h6 h7
      go_enter Tryz.func132, Tryz.ntmps132
      go_wp2_with (first
        | (go_at_call 131; refine (isNameR_any _ _ (by assumption)).mono ?_; rintro e w' ⟨rfl, rfl⟩)
        | (go_at_call 81; refine (between_any _ _ _ _).mono ?_; rintro e w' ⟨rfl, rfl⟩))
      refine (HE.out _ HW1.out k2 k1).mono ?_
      rintro e w1 ⟨rfl, b1⟩
      go_wp2
      go_ret
      exact ⟨rfl, HW1.out.trans (b1.mono HW1.out.size)⟩

end Go.Proofs.YthmohjgdcjafkadGreat
