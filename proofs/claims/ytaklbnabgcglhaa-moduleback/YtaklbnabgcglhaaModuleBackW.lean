/- The walk of ModuleBack. -/
import Derived.Test.YtaklbnabgcglhaaBegA
namespace Go.Proofs.Ytaklbnabgcglhaa.moduleBack
open Go.RowKit Go.PlainAid Go.Lib Go.Proofs.Ytaklbnabgcglhaa

/-- Either nothing is wrong, and these are the bytes of what is told; or it is the empty module. -/
theorem told_cases (s : ByteArray) : ((told s (rdMod false s (0, false))).2 = 0 ∧ chkMod (told s (rdMod false s (0, false))).1 = 0 ∧ encS (told s (rdMod false s (0, false))).1 = s) ∨ ((told s (rdMod false s (0, false))).2 ≠ 0 ∧ (told s (rdMod false s (0, false))).1 = zeroMod) := by
  unfold told
  split
  · rename_i hok
    split
    · rename_i h0
      refine .inl ⟨rfl, h0, enc_of_read false s ?_⟩
      rw [Bool.and_eq_true] at hok
      obtain ⟨h1, h2⟩ := hok
      have e2 : (rdMod false s (0, false)).2.2 = false := by simpa using h1
      have e1 : (rdMod false s (0, false)).2.1 = s.size := by
        have : ((rdMod false s (0, false)).2.1 : Int) = s.size := by simpa using h2
        omega
      exact Prod.ext e1 e2
    · rename_i h0
      exact .inr ⟨h0, rfl⟩
  · exact .inr ⟨by decide, rfl⟩

theorem encL_le {M : Mod} (h : M.small) : (encL M).length ≤ 140737488351232 := by
  have h1 := flatMap_take_le expB 1003 M.exps (fun x hx => by rw [expB_length]; have := h.exps x hx; omega)
  have h2 := flatMap_take_le impB 2004 M.imps (fun x hx => by rw [impB_length]; have := h.imps x hx; omega)
  have h3 := flatMap_take_le patB 6 M.pats (fun x _ => by rw [patB_length]; omega)
  have n1 := h.name
  have n2 := h.text
  have n3 := h.nexps
  have n4 := h.nimps
  have n5 := h.npats
  have hl : M.text.data.toList.length = M.text.size := by simp
  rw [encL_form]
  simp only [List.length_append, nameB_length, numsBytes_length, List.length_cons, List.length_nil, hl]
  omega

set_option maxRecDepth 100000 in
set_option maxHeartbeats 8000000 in
theorem walk (M : Mod) (v : Value) (s : ByteArray) (w : World) (hM : IsMod w.heap.size w v M) (hf : M.fits) (hs : s.size ≤ 140737488351232) :
    Calls Try.prog 7 #[v, .string s] w fun e w' => e = .returned (.bool true) ∧ Below w.heap.size w w' := by
  have hM0 := hM
  obtain ⟨ve, vi, vp, rfl, hE, hI, hP⟩ := hM0
  obtain ⟨pe, ke, rfl, _, _⟩ := hE
  obtain ⟨pi, ki, rfl, _, _⟩ := hI
  obtain ⟨pp, kp, rfl, _, _⟩ := hP
  have HI : Hid (∀ W, Below w.heap.size w W → IsMod W.heap.size W (.agg #[.string M.name, .int .i64 M.major, .int .i64 M.minor, .string M.text, .slice pe M.exps.length ke, .slice pi M.imps.length ki, .slice pp M.pats.length kp]) M) := fun W hb => (hM.below hb).more hb.size
  have HD : Hid (∀ W, Calls Try.prog 18 #[.string s] W fun e w' => ∃ v, e = .returned (.tuple #[v, .int .i64 (told s (rdMod false s (0, false))).2]) ∧ OwnsMod W.heap.size w' v (told s (rdMod false s (0, false))).1 ∧ Below W.heap.size W w') := fun W => decode_any s W hs
  have HE : Hid (∀ W, Below w.heap.size w W → Calls Try.prog 17 #[.agg #[.string M.name, .int .i64 M.major, .int .i64 M.minor, .string M.text, .slice pe M.exps.length ke, .slice pi M.imps.length ki, .slice pp M.pats.length kp]] W fun e w' => e = .returned (.tuple #[.string (encR M), .int .i64 (chkMod M)]) ∧ Below W.heap.size W w') := fun W hb => encode_any M _ W (HI.out W hb) hf
  have HET0 : Hid (∀ T v W, chkMod T = 0 → IsMod W.heap.size W v T → Calls Try.prog 17 #[v] W fun e w' => e = .returned (.tuple #[.string (encS T), .int .i64 0]) ∧ Below W.heap.size W w') := fun T v W h hv => by
    have := encode_any T v W hv (fits_of_small (small_of_chk h))
    rwa [encR, if_pos h, h] at this
  have HW : Hid (∃ w1, w1 = w.alloc (.cells #[.string M.name, .int .i64 M.major, .int .i64 M.minor, .string M.text, .slice pe M.exps.length ke, .slice pi M.imps.length ki, .slice pp M.pats.length kp] 39) ∧ CellsAt w1 w.heap.size 39 #[.string M.name, .int .i64 M.major, .int .i64 M.minor, .string M.text, .slice pe M.exps.length ke, .slice pi M.imps.length ki, .slice pp M.pats.length kp] ∧ Below w.heap.size w w1 ∧ w.heap.size < w1.heap.size) := ⟨_, rfl, CellsAt.new _ _ _, (Below.refl _ _).alloc (Nat.le_refl _) _, by simp⟩
  have key := told_cases s
  generalize (told s (rdMod false s (0, false))).2 = F at *
  generalize (told s (rdMod false s (0, false))).1 = T at *
  clear hM hf hs
  by_cases h0 : chkMod M = 0
  · have HDX : Hid (∀ W, Calls Try.prog 18 #[.string (encS M)] W fun e w' => ∃ v, e = .returned (.tuple #[v, .int .i64 0]) ∧ OwnsMod W.heap.size w' v M ∧ Below W.heap.size W w') := fun W => by
      have hl : (encS M).size ≤ 140737488351232 := by
        have h1 := small_of_chk h0
        show (toBa (encL M)).size ≤ _
        rw [toBa_size]
        exact encL_le h1
      have := decode_any (encS M) W hl
      rwa [told_enc M h0] at this
    have e1 : encR M = encS M := by rw [encR, if_pos h0]
    rw [e1, h0] at HE
    generalize encS M = X at *
    clear h0 e1
    rcases key with ⟨rfl, h1, h2⟩ | ⟨h1, rfl⟩
    · have HET : Hid (∀ v W, IsMod W.heap.size W v T → Calls Try.prog 17 #[v] W fun e w' => e = .returned (.tuple #[.string s, .int .i64 0]) ∧ Below W.heap.size W w') := fun v W hv => by
        have := HET0.out T v W h1 hv
        rwa [h2] at this
      clear h1 h2 HET0
      go_enter Try.func7, Try.ntmps7
      obtain ⟨w1, hw1, m1, B1, hz1⟩ := HW.out
      go_wp2_with fail
      rw [← hw1]
      clear hw1
      refine (moduleBegun_any _).mono ?_
      rintro e w2 ⟨rfl, b2⟩
      have B2 := B1.trans (b2.mono B1.size)
      have m2 := m1.below b2 hz1
      have hz2 := b2.size
      obtain ⟨p0, p1, p2, p3, p4, p5, p6⟩ := box7 m2
      go_wp2_with fail
      clear p0 p1 p2 p3 p4 p5 p6
      refine (HE.out _ B2).mono ?_
      rintro e w3 ⟨rfl, b3⟩
      have B3 := B2.trans (b3.mono B2.size)
      have m3 := m2.below b3 (by omega)
      have hz3 := b3.size
      go_wp2_with fail
      refine (HDX.out _).mono ?_
      rintro e w4 ⟨vx, rfl, hx, b4⟩
      obtain ⟨a1, a2, a3, a4, a5, a6, rfl⟩ := hx.form
      have B4 := B3.trans (b4.mono B3.size)
      have m4 := m3.below b4 (by omega)
      have hz4 := b4.size
      have HX5 : Hid (∃ w5, w5 = w4.alloc (.cells #[.string M.name, .int .i64 M.major, .int .i64 M.minor, .string M.text, .slice a1 M.exps.length a2, .slice a3 M.imps.length a4, .slice a5 M.pats.length a6] 39) ∧ CellsAt w5 w4.heap.size 39 #[.string M.name, .int .i64 M.major, .int .i64 M.minor, .string M.text, .slice a1 M.exps.length a2, .slice a3 M.imps.length a4, .slice a5 M.pats.length a6] ∧ CellsAt w5 w.heap.size 39 #[.string M.name, .int .i64 M.major, .int .i64 M.minor, .string M.text, .slice pe M.exps.length ke, .slice pi M.imps.length ki, .slice pp M.pats.length kp] ∧ OwnsMod w3.heap.size w5 (.agg #[.string M.name, .int .i64 M.major, .int .i64 M.minor, .string M.text, .slice a1 M.exps.length a2, .slice a3 M.imps.length a4, .slice a5 M.pats.length a6]) M ∧ Below w.heap.size w w5 ∧ w4.heap.size < w5.heap.size) :=
        ⟨_, rfl, CellsAt.new _ _ _, m4.kept (World.grownBy_alloc _ _ none) (by simp), hx.below ((Below.refl _ _).alloc (Nat.le_refl _) _), B4.alloc B4.size _, by simp⟩
      obtain ⟨w5, hw5, x5, m5, hx5, B5, hz5⟩ := HX5.out
      have q5 := box7 m5
      have r5 := box7 x5
      rw [hw5] at q5 r5
      obtain ⟨p0, p1, p2, p3, p4, p5, p6⟩ := q5
      obtain ⟨q0, q1, q2, q3, q4, q5, q6⟩ := r5
      have HS5 : Hid (Calls Try.prog 24 _ w5 _) := sameModule_yes M _ _ w5 hx5.isMod (HI.out w5 B5)
      clear hx hx5 HX5
      go_wp2_with fail
      rw [← hw5]
      clear hw5 p0 p1 p2 p3 p4 p5 p6 q0 q1 q2 q3 q4 q5 q6
      refine HS5.out.mono ?_
      rintro e w6 ⟨rfl, b6⟩
      have B6 := B5.trans (b6.mono B5.size)
      have hz6 := b6.size
      go_wp2_with fail
      refine (HD.out _).mono ?_
      rintro e w7 ⟨vy, rfl, hy, b7⟩
      have B7 := B6.trans (b7.mono B6.size)
      obtain ⟨c1, c2, c3, c4, c5, c6, rfl⟩ := hy.form
      have HY8 : Hid (∃ w8, w8 = w7.alloc (.cells #[.string T.name, .int .i64 T.major, .int .i64 T.minor, .string T.text, .slice c1 T.exps.length c2, .slice c3 T.imps.length c4, .slice c5 T.pats.length c6] 39) ∧ CellsAt w8 w7.heap.size 39 #[.string T.name, .int .i64 T.major, .int .i64 T.minor, .string T.text, .slice c1 T.exps.length c2, .slice c3 T.imps.length c4, .slice c5 T.pats.length c6] ∧ OwnsMod w6.heap.size w8 (.agg #[.string T.name, .int .i64 T.major, .int .i64 T.minor, .string T.text, .slice c1 T.exps.length c2, .slice c3 T.imps.length c4, .slice c5 T.pats.length c6]) T ∧ Below w.heap.size w w8) :=
        ⟨_, rfl, CellsAt.new _ _ _, hy.below ((Below.refl _ _).alloc (Nat.le_refl _) _), B7.alloc B7.size _⟩
      obtain ⟨w8, hw8, y8, hy8, B8⟩ := HY8.out
      have q8 := box7 y8
      rw [hw8] at q8
      obtain ⟨p0, p1, p2, p3, p4, p5, p6⟩ := q8
      have HY9 : Hid (IsMod w8.heap.size w8 _ T) := hy8.isMod
      clear hy HY8 hy8
      go_wp2_with fail
      rw [← hw8]
      clear hw8 p0 p1 p2 p3 p4 p5 p6
      refine (HET.out _ _ HY9.out).mono ?_
      rintro e w9 ⟨rfl, b9⟩
      go_wp2
      go_ret
      exact ⟨rfl, B8.trans (b9.mono B8.size)⟩
    · have hne : (F != 0) = true := by simpa using h1
      clear h1 HET0
      go_enter Try.func7, Try.ntmps7
      obtain ⟨w1, hw1, m1, B1, hz1⟩ := HW.out
      go_wp2_with fail
      rw [← hw1]
      clear hw1
      refine (moduleBegun_any _).mono ?_
      rintro e w2 ⟨rfl, b2⟩
      have B2 := B1.trans (b2.mono B1.size)
      have m2 := m1.below b2 hz1
      have hz2 := b2.size
      obtain ⟨p0, p1, p2, p3, p4, p5, p6⟩ := box7 m2
      go_wp2_with fail
      clear p0 p1 p2 p3 p4 p5 p6
      refine (HE.out _ B2).mono ?_
      rintro e w3 ⟨rfl, b3⟩
      have B3 := B2.trans (b3.mono B2.size)
      have m3 := m2.below b3 (by omega)
      have hz3 := b3.size
      go_wp2_with fail
      refine (HDX.out _).mono ?_
      rintro e w4 ⟨vx, rfl, hx, b4⟩
      obtain ⟨a1, a2, a3, a4, a5, a6, rfl⟩ := hx.form
      have B4 := B3.trans (b4.mono B3.size)
      have m4 := m3.below b4 (by omega)
      have hz4 := b4.size
      have HX5 : Hid (∃ w5, w5 = w4.alloc (.cells #[.string M.name, .int .i64 M.major, .int .i64 M.minor, .string M.text, .slice a1 M.exps.length a2, .slice a3 M.imps.length a4, .slice a5 M.pats.length a6] 39) ∧ CellsAt w5 w4.heap.size 39 #[.string M.name, .int .i64 M.major, .int .i64 M.minor, .string M.text, .slice a1 M.exps.length a2, .slice a3 M.imps.length a4, .slice a5 M.pats.length a6] ∧ CellsAt w5 w.heap.size 39 #[.string M.name, .int .i64 M.major, .int .i64 M.minor, .string M.text, .slice pe M.exps.length ke, .slice pi M.imps.length ki, .slice pp M.pats.length kp] ∧ OwnsMod w3.heap.size w5 (.agg #[.string M.name, .int .i64 M.major, .int .i64 M.minor, .string M.text, .slice a1 M.exps.length a2, .slice a3 M.imps.length a4, .slice a5 M.pats.length a6]) M ∧ Below w.heap.size w w5 ∧ w4.heap.size < w5.heap.size) :=
        ⟨_, rfl, CellsAt.new _ _ _, m4.kept (World.grownBy_alloc _ _ none) (by simp), hx.below ((Below.refl _ _).alloc (Nat.le_refl _) _), B4.alloc B4.size _, by simp⟩
      obtain ⟨w5, hw5, x5, m5, hx5, B5, hz5⟩ := HX5.out
      have q5 := box7 m5
      have r5 := box7 x5
      rw [hw5] at q5 r5
      obtain ⟨p0, p1, p2, p3, p4, p5, p6⟩ := q5
      obtain ⟨q0, q1, q2, q3, q4, q5, q6⟩ := r5
      have HS5 : Hid (Calls Try.prog 24 _ w5 _) := sameModule_yes M _ _ w5 hx5.isMod (HI.out w5 B5)
      clear hx hx5 HX5
      go_wp2_with fail
      rw [← hw5]
      clear hw5 p0 p1 p2 p3 p4 p5 p6 q0 q1 q2 q3 q4 q5 q6
      refine HS5.out.mono ?_
      rintro e w6 ⟨rfl, b6⟩
      have B6 := B5.trans (b6.mono B5.size)
      have hz6 := b6.size
      go_wp2_with fail
      refine (HD.out _).mono ?_
      rintro e w7 ⟨vy, rfl, hy, b7⟩
      have B7 := B6.trans (b7.mono B6.size)
      have hfz : ∃ c1 c2 c3 c4 c5 c6, vy = .agg #[.string ⟨#[]⟩, .int .i64 0, .int .i64 0, .string ⟨#[]⟩, .slice c1 0 c2, .slice c3 0 c4, .slice c5 0 c6] := hy.form
      obtain ⟨c1, c2, c3, c4, c5, c6, rfl⟩ := hfz
      clear hy
      go_wp2
      go_ret
      exact ⟨rfl, B7.alloc B7.size _⟩
  · have hC : (chkMod M == 0) = false := by simpa using h0
    generalize chkMod M = C at *
    generalize encR M = X at *
    clear h0 HI
    rcases key with ⟨rfl, h1, h2⟩ | ⟨h1, rfl⟩
    · have HET : Hid (∀ v W, IsMod W.heap.size W v T → Calls Try.prog 17 #[v] W fun e w' => e = .returned (.tuple #[.string s, .int .i64 0]) ∧ Below W.heap.size W w') := fun v W hv => by
        have := HET0.out T v W h1 hv
        rwa [h2] at this
      clear h1 h2 HET0
      go_enter Try.func7, Try.ntmps7
      obtain ⟨w1, hw1, m1, B1, hz1⟩ := HW.out
      go_wp2_with fail
      rw [← hw1]
      clear hw1
      refine (moduleBegun_any _).mono ?_
      rintro e w2 ⟨rfl, b2⟩
      have B2 := B1.trans (b2.mono B1.size)
      have m2 := m1.below b2 hz1
      have hz2 := b2.size
      obtain ⟨p0, p1, p2, p3, p4, p5, p6⟩ := box7 m2
      go_wp2_with fail
      clear p0 p1 p2 p3 p4 p5 p6
      refine (HE.out _ B2).mono ?_
      rintro e w3 ⟨rfl, b3⟩
      have B3 := B2.trans (b3.mono B2.size)
      have m3 := m2.below b3 (by omega)
      have hz3 := b3.size
      go_wp2_with fail
      refine (HD.out _).mono ?_
      rintro e w7 ⟨vy, rfl, hy, b7⟩
      have B7 := B3.trans (b7.mono B3.size)
      obtain ⟨c1, c2, c3, c4, c5, c6, rfl⟩ := hy.form
      have HY8 : Hid (∃ w8, w8 = w7.alloc (.cells #[.string T.name, .int .i64 T.major, .int .i64 T.minor, .string T.text, .slice c1 T.exps.length c2, .slice c3 T.imps.length c4, .slice c5 T.pats.length c6] 39) ∧ CellsAt w8 w7.heap.size 39 #[.string T.name, .int .i64 T.major, .int .i64 T.minor, .string T.text, .slice c1 T.exps.length c2, .slice c3 T.imps.length c4, .slice c5 T.pats.length c6] ∧ OwnsMod w3.heap.size w8 (.agg #[.string T.name, .int .i64 T.major, .int .i64 T.minor, .string T.text, .slice c1 T.exps.length c2, .slice c3 T.imps.length c4, .slice c5 T.pats.length c6]) T ∧ Below w.heap.size w w8) :=
        ⟨_, rfl, CellsAt.new _ _ _, hy.below ((Below.refl _ _).alloc (Nat.le_refl _) _), B7.alloc B7.size _⟩
      obtain ⟨w8, hw8, y8, hy8, B8⟩ := HY8.out
      have q8 := box7 y8
      rw [hw8] at q8
      obtain ⟨p0, p1, p2, p3, p4, p5, p6⟩ := q8
      have HY9 : Hid (IsMod w8.heap.size w8 _ T) := hy8.isMod
      clear hy HY8 hy8
      go_wp2_with fail
      rw [← hw8]
      clear hw8 p0 p1 p2 p3 p4 p5 p6
      refine (HET.out _ _ HY9.out).mono ?_
      rintro e w9 ⟨rfl, b9⟩
      go_wp2
      go_ret
      exact ⟨rfl, B8.trans (b9.mono B8.size)⟩
    · have hne : (F != 0) = true := by simpa using h1
      clear h1 HET0
      go_enter Try.func7, Try.ntmps7
      obtain ⟨w1, hw1, m1, B1, hz1⟩ := HW.out
      go_wp2_with fail
      rw [← hw1]
      clear hw1
      refine (moduleBegun_any _).mono ?_
      rintro e w2 ⟨rfl, b2⟩
      have B2 := B1.trans (b2.mono B1.size)
      have m2 := m1.below b2 hz1
      have hz2 := b2.size
      obtain ⟨p0, p1, p2, p3, p4, p5, p6⟩ := box7 m2
      go_wp2_with fail
      clear p0 p1 p2 p3 p4 p5 p6
      refine (HE.out _ B2).mono ?_
      rintro e w3 ⟨rfl, b3⟩
      have B3 := B2.trans (b3.mono B2.size)
      have m3 := m2.below b3 (by omega)
      have hz3 := b3.size
      go_wp2_with fail
      refine (HD.out _).mono ?_
      rintro e w7 ⟨vy, rfl, hy, b7⟩
      have B7 := B3.trans (b7.mono B3.size)
      have hfz : ∃ c1 c2 c3 c4 c5 c6, vy = .agg #[.string ⟨#[]⟩, .int .i64 0, .int .i64 0, .string ⟨#[]⟩, .slice c1 0 c2, .slice c3 0 c4, .slice c5 0 c6] := hy.form
      obtain ⟨c1, c2, c3, c4, c5, c6, rfl⟩ := hfz
      clear hy
      go_wp2
      go_ret
      exact ⟨rfl, B7.alloc B7.size _⟩

end Go.Proofs.Ytaklbnabgcglhaa.moduleBack
