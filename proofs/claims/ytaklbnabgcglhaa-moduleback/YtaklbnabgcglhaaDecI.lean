/- The contracts of the reader's readAll and of module.Decode. -/
import Derived.Test.YtaklbnabgcglhaaDecG
import Derived.Laws.ResultCell
namespace Go.Proofs.Ytaklbnabgcglhaa
open Go.RowKit Go.PlainAid Go.Lib

theorem rdTimes_mem {α : Type} {f : (Nat × Bool) → α × (Nat × Bool)} {p : α → Prop} (hf : ∀ σ, p (f σ).1) (q : List α × (Nat × Bool)) (hq : ∀ x ∈ q.1, p x) : ∀ k, ∀ x ∈ (rdTimes f k q).1, p x
  | 0 => hq
  | k + 1 => by
    have ih := rdTimes_mem hf q hq k
    show ∀ x ∈ (rdStep f (rdTimes f k q)).1, p x
    unfold rdStep
    split
    · exact ih
    · intro x hx
      rcases List.mem_append.1 hx with hx | hx
      · exact ih x hx
      · obtain rfl : x = _ := by simpa using hx
        exact hf _
theorem rdMod_fits (c : Bool) (s : ByteArray) (σ : (Nat × Bool)) : (rdMod c s σ).1.fits := by
  refine ⟨?_, ?_, ?_, ?_⟩
  · exact Nat.le_trans (rdName_size c s σ) (by decide)
  · have h1 := rdPiece_size c s (rdNum c s 2 (rdNum c s 1 (rdNum c s 1 (rdName c s σ).2).2).2).1.toNat (rdNum c s 2 (rdNum c s 1 (rdNum c s 1 (rdName c s σ).2).2).2).2
    have h2 := rdNum_bd c s 2 (rdNum c s 1 (rdNum c s 1 (rdName c s σ).2).2).2
    show (rdPiece c s (rdNum c s 2 (rdNum c s 1 (rdNum c s 1 (rdName c s σ).2).2).2).1.toNat (rdNum c s 2 (rdNum c s 1 (rdNum c s 1 (rdName c s σ).2).2).2).2).1.size ≤ _
    omega
  · refine rdTimes_mem (p := fun e : Exp => e.name.size ≤ 9223372036854775807) (fun σ => ?_) _ (by simp) _
    exact Nat.le_trans (rdName_size c s σ) (by decide)
  · refine rdTimes_mem (p := Imp.fits) (fun σ => ?_) _ (by simp) _
    exact ⟨Nat.le_trans (rdName_size c s σ) (by decide), Nat.le_trans (rdName_size c s _) (by decide)⟩

set_option maxHeartbeats 1000000 in
theorem readAll_any (R : Nat) (s : ByteArray) (σ : (Nat × Bool)) (w : World) (h : RdAt 68 w R s σ) :
    Calls Try.prog 40 #[.pointer (some ⟨R, 0, none⟩)] w fun e w' => e = .returned (.bool (!σ.2 && ((σ.1 : Int) == s.size))) ∧ Below w.heap.size w w' := by
  obtain ⟨c0, c1, c2, f1, f2⟩ := h.parts
  clear h
  obtain ⟨a, b⟩ := σ
  dsimp only at c1 c2 ⊢
  cases b with
  | true =>
    go_enter Try.func40, Try.ntmps40
    go_wp2
    go_quiet (fail)
    go_wp2
    go_ret
    exact ⟨rfl, below_drewN (Below.refl _ _) _⟩
  | false =>
    go_enter Try.func40, Try.ntmps40
    go_wp2
    go_quiet (fail)
    go_wp2
    go_ret
    exact ⟨rfl, below_drewN (Below.refl _ _) _⟩

def zeroMod : Mod := ⟨⟨#[]⟩, 0, 0, ⟨#[]⟩, [], [], []⟩
/-- What is answered of what was read. -/
def told (s : ByteArray) (p : Mod × (Nat × Bool)) : Mod × Int := if (!p.2.2 && ((p.2.1 : Int) == s.size)) = true then (if chkMod p.1 = 0 then (p.1, 0) else (zeroMod, chkMod p.1)) else (zeroMod, 1)
theorem zero_owns (n : Nat) (W : World) : OwnsMod n W (.agg #[.string ⟨#[]⟩, .int .i64 0, .int .i64 0, .string ⟨#[]⟩, .slice none 0 0, .slice none 0 0, .slice none 0 0]) zeroMod :=
  ⟨_, _, _, rfl, ⟨⟨rfl, .inl ⟨rfl, rfl⟩⟩, ⟨rfl, .inl ⟨rfl, rfl⟩⟩, ⟨rfl, .inl ⟨rfl, rfl⟩⟩⟩, by decide, by decide, by decide⟩

set_option maxRecDepth 100000 in
set_option maxHeartbeats 2000000 in
theorem decode_any (s : ByteArray) (w : World) (hs : s.size ≤ 140737488351232) :
    Calls Try.prog 18 #[.string s] w fun e w' => ∃ v, e = .returned (.tuple #[v, .int .i64 (told s (rdMod false s (0, false))).2]) ∧ OwnsMod w.heap.size w' v (told s (rdMod false s (0, false))).1 ∧ Below w.heap.size w w' := by
  have H1 : Hid (∀ W R, RdAt 68 W R s (0, false) → Calls Try.prog 39 #[.pointer (some ⟨R, 0, none⟩)] W fun e w' => ∃ v, e = .returned v ∧ OwnsMod W.heap.size w' v (rdMod false s (0, false)).1 ∧ RdAt 68 w' R s (rdMod false s (0, false)).2 ∧ W.grownBy w' (some R)) := fun W R h => rmodule_any R s _ W h hs (Nat.zero_le _)
  have HF : Hid ((rdMod false s (0, false)).1.fits) := rdMod_fits _ _ _
  generalize rdMod false s (0, false) = p at *
  obtain ⟨M, σ⟩ := p
  dsimp only at H1 HF
  clear hs
  have HW : Hid (∃ w1, w1 = ((w.alloc (.cells #[.string ⟨#[]⟩, .int .i64 0, .int .i64 0, .string ⟨#[]⟩, .slice none 0 0, .slice none 0 0, .slice none 0 0] 39)).alloc (.cells #[.string s, .int .i64 0, .bool false] 68)) ∧ Below w.heap.size w w1 ∧ RdAt 68 w1 (w.heap.size + 1) s (0, false) ∧ CellsAt w1 w.heap.size 39 #[.string ⟨#[]⟩, .int .i64 0, .int .i64 0, .string ⟨#[]⟩, .slice none 0 0, .slice none 0 0, .slice none 0 0] ∧ w1.heap.size = w.heap.size + 2) := by
    have hz : (w.alloc (.cells #[.string ⟨#[]⟩, .int .i64 0, .int .i64 0, .string ⟨#[]⟩, .slice none 0 0, .slice none 0 0, .slice none 0 0] 39)).heap.size = w.heap.size + 1 := by simp
    have g2 := World.grownBy_alloc (w.alloc (.cells #[.string ⟨#[]⟩, .int .i64 0, .int .i64 0, .string ⟨#[]⟩, .slice none 0 0, .slice none 0 0, .slice none 0 0] 39)) (.cells #[.string s, .int .i64 0, .bool false] 68) none
    refine ⟨_, rfl, ((Below.refl _ _).alloc (Nat.le_refl _) _).alloc (by simp) _, ?_, (CellsAt.new w _ _).kept g2 (by simp), by simp⟩
    have := CellsAt.new (w.alloc (.cells #[.string ⟨#[]⟩, .int .i64 0, .int .i64 0, .string ⟨#[]⟩, .slice none 0 0, .slice none 0 0, .slice none 0 0] 39)) 68 #[.string s, .int .i64 0, .bool false]
    rwa [hz] at this
  go_enter Try.func18, Try.ntmps18
  go_wp2_with fail
  obtain ⟨w1, hw1, B1, hrd1, ho1, hz1⟩ := HW.out
  rw [← hw1]
  clear hw1 HW
  refine (H1.out _ _ hrd1).mono ?_
  rintro e w2 ⟨v, rfl, hM, hrd2, hg2⟩
  have ho2 := ho1.kept hg2 (fun e => by have := Option.some.inj e; omega)
  have B2 : Below w.heap.size w w2 := B1.trans ⟨hg2.os, hg2.tape, hg2.output, hg2.size, fun k hk => hg2.block k (by omega) (fun e => by have := Option.some.inj e; omega)⟩
  have hz2 := hg2.size
  obtain ⟨pe, ke, pi, ki, pp, kp, rfl⟩ := hM.form
  have g3 := World.grownBy_alloc w2 (.cells #[.string M.name, .int .i64 M.major, .int .i64 M.minor, .string M.text, .slice pe M.exps.length ke, .slice pi M.imps.length ki, .slice pp M.pats.length kp] 39) none
  have HRD3 : Hid (RdAt 68 (w2.alloc (.cells #[.string M.name, .int .i64 M.major, .int .i64 M.minor, .string M.text, .slice pe M.exps.length ke, .slice pi M.imps.length ki, .slice pp M.pats.length kp] 39)) (w.heap.size + 1) s σ) := CellsAt.kept hrd2 g3 (by simp)
  have HO3 : Hid (CellsAt (w2.alloc (.cells #[.string M.name, .int .i64 M.major, .int .i64 M.minor, .string M.text, .slice pe M.exps.length ke, .slice pi M.imps.length ki, .slice pp M.pats.length kp] 39)) w.heap.size 39 #[.string ⟨#[]⟩, .int .i64 0, .int .i64 0, .string ⟨#[]⟩, .slice none 0 0, .slice none 0 0, .slice none 0 0]) := CellsAt.kept ho2 g3 (by simp)
  have HM3 : Hid (CellsAt (w2.alloc (.cells #[.string M.name, .int .i64 M.major, .int .i64 M.minor, .string M.text, .slice pe M.exps.length ke, .slice pi M.imps.length ki, .slice pp M.pats.length kp] 39)) w2.heap.size 39 #[.string M.name, .int .i64 M.major, .int .i64 M.minor, .string M.text, .slice pe M.exps.length ke, .slice pi M.imps.length ki, .slice pp M.pats.length kp]) := CellsAt.new w2 _ _
  have HI3 : Hid (Below w2.heap.size w2 (w2.alloc (.cells #[.string M.name, .int .i64 M.major, .int .i64 M.minor, .string M.text, .slice pe M.exps.length ke, .slice pi M.imps.length ki, .slice pp M.pats.length kp] 39))) := (Below.refl _ _).alloc (Nat.le_refl _) _
  have HIM : Hid (OwnsMod w1.heap.size w2 (.agg #[.string M.name, .int .i64 M.major, .int .i64 M.minor, .string M.text, .slice pe M.exps.length ke, .slice pi M.imps.length ki, .slice pp M.pats.length kp]) M) := hM
  clear hM hrd1 hrd2 hg2 ho1 ho2 B1 H1 g3
  go_wp2_with fail
  refine (readAll_any _ _ _ _ HRD3.out).mono ?_
  rintro e w4 ⟨rfl, b4⟩
  have B4 : Below w2.heap.size w2 w4 := HI3.out.trans (b4.mono HI3.out.size)
  have hz4 := b4.size
  have ho4 : CellsAt w4 w.heap.size 39 #[.string ⟨#[]⟩, .int .i64 0, .int .i64 0, .string ⟨#[]⟩, .slice none 0 0, .slice none 0 0, .slice none 0 0] := CellsAt.below HO3.out b4 (by simp; omega)
  have hm4 : CellsAt w4 w2.heap.size 39 #[.string M.name, .int .i64 M.major, .int .i64 M.minor, .string M.text, .slice pe M.exps.length ke, .slice pi M.imps.length ki, .slice pp M.pats.length kp] := CellsAt.below HM3.out b4 (by simp)
  have hI4 : OwnsMod w1.heap.size w4 (.agg #[.string M.name, .int .i64 M.major, .int .i64 M.minor, .string M.text, .slice pe M.exps.length ke, .slice pi M.imps.length ki, .slice pp M.pats.length kp]) M := HIM.out.below B4
  have B04 : Below w.heap.size w w4 := B2.trans (B4.mono (by omega))
  rw [World.size_alloc] at hz4
  clear HRD3 HO3 HM3 HI3 HIM b4 B4 B2
  cases hok : (!σ.2 && ((σ.1 : Int) == s.size)) with
  | false =>
    have HT : Hid (told s (M, σ) = (zeroMod, 1)) := by
      show told s (M, σ) = _
      unfold told
      rw [if_neg (by dsimp only; rw [hok]; simp)]
    obtain ⟨p0, p1, p2, p3, p4, p5, p6⟩ := box7 ho4
    have f := ho4.frozen
    have HFz : Hid (CellsAt _ w.heap.size 39 _) := sets7 ho4 (.string ⟨#[]⟩) (.int .i64 0) (.int .i64 0) (.string ⟨#[]⟩) (.slice none 0 0) (.slice none 0 0) (.slice none 0 0)
    have HGz : Hid (w4.grownBy _ (some w.heap.size)) := sets7_grown w4 w.heap.size (.string ⟨#[]⟩) (.int .i64 0) (.int .i64 0) (.string ⟨#[]⟩) (.slice none 0 0) (.slice none 0 0) (.slice none 0 0)
    clear ho4 hm4 hI4 HF hok
    go_wp2
    clear p0 p1 p2 p3 p4 p5 p6 f
    have hF := HFz.out
    have hG := HGz.out
    clear HFz HGz
    generalize World.setCell _ ⟨w.heap.size, 6, none⟩ _ = w5 at hF hG ⊢
    (try simp only [Exit.inBlock, Exit.then])
    refine bodyPost_ret (results_cell_tmp_row rfl _ _ _ _ _ _ _ rfl hF Try.underlying39 rfl (by kernel_rfl)) rfl ?_
    rw [HT.out]
    refine ⟨_, rfl, zero_owns _ _, ?_⟩
    exact B04.trans ⟨hG.os, hG.tape, hG.output, hG.size, fun k hk => hG.block k (by omega) (fun e => by have := Option.some.inj e; omega)⟩
  | true =>
    have hmz := hm4.lt
    have HO4 : Hid (CellsAt w4 w.heap.size 39 #[.string ⟨#[]⟩, .int .i64 0, .int .i64 0, .string ⟨#[]⟩, .slice none 0 0, .slice none 0 0, .slice none 0 0]) := ho4
    have HM4 : Hid (CellsAt w4 w2.heap.size 39 #[.string M.name, .int .i64 M.major, .int .i64 M.minor, .string M.text, .slice pe M.exps.length ke, .slice pi M.imps.length ki, .slice pp M.pats.length kp]) := hm4
    have HI4 : Hid (OwnsMod w1.heap.size w4 (.agg #[.string M.name, .int .i64 M.major, .int .i64 M.minor, .string M.text, .slice pe M.exps.length ke, .slice pi M.imps.length ki, .slice pp M.pats.length kp]) M) := hI4
    have HC : Hid (Calls Try.prog 23 #[.agg #[.string M.name, .int .i64 M.major, .int .i64 M.minor, .string M.text, .slice pe M.exps.length ke, .slice pi M.imps.length ki, .slice pp M.pats.length kp]] w4 fun e w' => e = .returned (.int .i64 (chkMod M)) ∧ Below w4.heap.size w4 w') := check_any M _ w4 hI4.isMod HF.out
    obtain ⟨q0, q1, q2, q3, q4, q5, q6⟩ := box7 hm4
    by_cases h0 : chkMod M = 0
    · have HT : Hid (told s (M, σ) = (M, 0)) := by
        show told s (M, σ) = _
        unfold told
        rw [if_pos hok, if_pos h0]
      rw [h0] at HC
      clear h0 hok ho4 hm4 hI4
      go_wp2_with fail
      clear q0 q1 q2 q3 q4 q5 q6
      refine (HC.out).mono ?_
      rintro e w5 ⟨rfl, b5⟩
      have hz5 := b5.size
      have ho5 : CellsAt w5 w.heap.size 39 #[.string ⟨#[]⟩, .int .i64 0, .int .i64 0, .string ⟨#[]⟩, .slice none 0 0, .slice none 0 0, .slice none 0 0] := CellsAt.below HO4.out b5 (by omega)
      have hm5 : CellsAt w5 w2.heap.size 39 #[.string M.name, .int .i64 M.major, .int .i64 M.minor, .string M.text, .slice pe M.exps.length ke, .slice pi M.imps.length ki, .slice pp M.pats.length kp] := CellsAt.below HM4.out b5 (by omega)
      have hI5 : Hid (OwnsMod w1.heap.size w5 (.agg #[.string M.name, .int .i64 M.major, .int .i64 M.minor, .string M.text, .slice pe M.exps.length ke, .slice pi M.imps.length ki, .slice pp M.pats.length kp]) M) := HI4.out.below b5
      have B5 : Below w.heap.size w w5 := B04.trans (b5.mono (by omega))
      obtain ⟨p0, p1, p2, p3, p4, p5, p6⟩ := box7 ho5
      obtain ⟨q0, q1, q2, q3, q4, q5, q6⟩ := box7 hm5
      have f := ho5.frozen
      have HFz : Hid (CellsAt _ w.heap.size 39 _) := sets7 ho5 (.string M.name) (.int .i64 M.major) (.int .i64 M.minor) (.string M.text) (.slice pe M.exps.length ke) (.slice pi M.imps.length ki) (.slice pp M.pats.length kp)
      have HGz : Hid (w5.grownBy _ (some w.heap.size)) := sets7_grown w5 w.heap.size (.string M.name) (.int .i64 M.major) (.int .i64 M.minor) (.string M.text) (.slice pe M.exps.length ke) (.slice pi M.imps.length ki) (.slice pp M.pats.length kp)
      clear ho5 hm5
      go_wp2
      clear p0 p1 p2 p3 p4 p5 p6 q0 q1 q2 q3 q4 q5 q6 f
      have hF := HFz.out
      have hG := HGz.out
      clear HFz HGz
      generalize World.setCell _ ⟨w.heap.size, 6, none⟩ _ = w6 at hF hG ⊢
      (try simp only [Exit.inBlock, Exit.then])
      refine bodyPost_ret (results_cell_tmp_row rfl _ _ _ _ _ _ _ rfl hF Try.underlying39 rfl (by kernel_rfl)) rfl ?_
      rw [HT.out]
      have hIM5 := (hI5.out.grown hG (fun k e => by have := Option.some.inj e; omega)).less (show w.heap.size ≤ w1.heap.size by omega)
      refine ⟨_, rfl, hIM5, ?_⟩
      exact B5.trans ⟨hG.os, hG.tape, hG.output, hG.size, fun k hk => hG.block k (by omega) (fun e => by have := Option.some.inj e; omega)⟩
    · have HT : Hid (told s (M, σ) = (zeroMod, chkMod M)) := by
        show told s (M, σ) = _
        unfold told
        rw [if_pos hok, if_neg h0]
      have hne : (chkMod M != 0) = true := by simpa using h0
      clear h0 hok ho4 hm4 hI4
      go_wp2_with fail
      clear q0 q1 q2 q3 q4 q5 q6
      refine (HC.out).mono ?_
      rintro e w5 ⟨rfl, b5⟩
      have hz5 := b5.size
      have ho5 : CellsAt w5 w.heap.size 39 #[.string ⟨#[]⟩, .int .i64 0, .int .i64 0, .string ⟨#[]⟩, .slice none 0 0, .slice none 0 0, .slice none 0 0] := CellsAt.below HO4.out b5 (by omega)
      have hm5 : CellsAt w5 w2.heap.size 39 #[.string M.name, .int .i64 M.major, .int .i64 M.minor, .string M.text, .slice pe M.exps.length ke, .slice pi M.imps.length ki, .slice pp M.pats.length kp] := CellsAt.below HM4.out b5 (by omega)
      have hI5 : Hid (OwnsMod w1.heap.size w5 (.agg #[.string M.name, .int .i64 M.major, .int .i64 M.minor, .string M.text, .slice pe M.exps.length ke, .slice pi M.imps.length ki, .slice pp M.pats.length kp]) M) := HI4.out.below b5
      have B5 : Below w.heap.size w w5 := B04.trans (b5.mono (by omega))
      obtain ⟨p0, p1, p2, p3, p4, p5, p6⟩ := box7 ho5
      obtain ⟨q0, q1, q2, q3, q4, q5, q6⟩ := box7 hm5
      have f := ho5.frozen
      have HFz : Hid (CellsAt _ w.heap.size 39 _) := sets7 ho5 (.string ⟨#[]⟩) (.int .i64 0) (.int .i64 0) (.string ⟨#[]⟩) (.slice none 0 0) (.slice none 0 0) (.slice none 0 0)
      have HGz : Hid (w5.grownBy _ (some w.heap.size)) := sets7_grown w5 w.heap.size (.string ⟨#[]⟩) (.int .i64 0) (.int .i64 0) (.string ⟨#[]⟩) (.slice none 0 0) (.slice none 0 0) (.slice none 0 0)
      clear ho5 hm5
      go_wp2
      clear p0 p1 p2 p3 p4 p5 p6 q0 q1 q2 q3 q4 q5 q6 f
      have hF := HFz.out
      have hG := HGz.out
      clear HFz HGz
      generalize World.setCell _ ⟨w.heap.size, 6, none⟩ _ = w6 at hF hG ⊢
      (try simp only [Exit.inBlock, Exit.then])
      refine bodyPost_ret (results_cell_tmp_row rfl _ _ _ _ _ _ _ rfl hF Try.underlying39 rfl (by kernel_rfl)) rfl ?_
      rw [HT.out]
      refine ⟨_, rfl, zero_owns _ _, ?_⟩
      exact B5.trans ⟨hG.os, hG.tape, hG.output, hG.size, fun k hk => hG.block k (by omega) (fun e => by have := Option.some.inj e; omega)⟩

end Go.Proofs.Ytaklbnabgcglhaa
