/- The walk of ModuleTells. -/
import Derived.Test.YtaklbnabgcglhaaBegA
namespace Go.Proofs.Ytaklbnabgcglhaa.moduleTells
open Go.RowKit Go.PlainAid Go.Lib Go.Proofs.Ytaklbnabgcglhaa

set_option maxRecDepth 100000 in
set_option maxHeartbeats 8000000 in
theorem walk (M : Mod) (v : Value) (s : ByteArray) (w : World) (hM : IsMod w.heap.size w v M) (hf : M.fits) (hs : s.size ≤ 140737488351232) :
    Calls Try.prog 6 #[v, .string s] w fun e w' => e = .returned (.bool true) ∧ Below w.heap.size w w' := by
  have hM0 := hM
  obtain ⟨ve, vi, vp, rfl, hE, hI, hP⟩ := hM0
  obtain ⟨pe, ke, rfl, _, _⟩ := hE
  obtain ⟨pi, ki, rfl, _, _⟩ := hI
  obtain ⟨pp, kp, rfl, _, _⟩ := hP
  have HI : Hid (∀ W, Below w.heap.size w W → IsMod W.heap.size W (.agg #[.string M.name, .int .i64 M.major, .int .i64 M.minor, .string M.text, .slice pe M.exps.length ke, .slice pi M.imps.length ki, .slice pp M.pats.length kp]) M) := fun W hb => (hM.below hb).more hb.size
  have HD : Hid (∀ W, Calls Try.prog 18 #[.string s] W fun e w' => ∃ v, e = .returned (.tuple #[v, .int .i64 (told s (rdMod true s (0, false))).2]) ∧ OwnsMod W.heap.size w' v (told s (rdMod true s (0, false))).1 ∧ Below W.heap.size W w') := fun W => by rw [← told_alike]; exact decode_any s W hs
  have HO : Hid (∀ W, Calls Try.prog 21 #[.string s] W fun e w' => ∃ v, e = .returned (.tuple #[v, .int .i64 (told s (rdMod true s (0, false))).2]) ∧ OwnsMod W.heap.size w' v (told s (rdMod true s (0, false))).1 ∧ Below W.heap.size W w') := fun W => decodeOf_any s W hs
  have HE : Hid (∀ W, Below w.heap.size w W → Calls Try.prog 17 #[.agg #[.string M.name, .int .i64 M.major, .int .i64 M.minor, .string M.text, .slice pe M.exps.length ke, .slice pi M.imps.length ki, .slice pp M.pats.length kp]] W fun e w' => e = .returned (.tuple #[.string (encR M), .int .i64 (chkMod M)]) ∧ Below W.heap.size W w') := fun W hb => encode_any M _ W (HI.out W hb) hf
  have HC : Hid (∀ W, Below w.heap.size w W → Calls Try.prog 19 #[.agg #[.string M.name, .int .i64 M.major, .int .i64 M.minor, .string M.text, .slice pe M.exps.length ke, .slice pi M.imps.length ki, .slice pp M.pats.length kp]] W fun e w' => e = .returned (.int .i64 (chkMod M)) ∧ Below W.heap.size W w') := fun W hb => checkModule_any M _ W (HI.out W hb) hf
  have HK : Hid (∀ W, Below w.heap.size w W → Calls Try.prog 23 #[.agg #[.string M.name, .int .i64 M.major, .int .i64 M.minor, .string M.text, .slice pe M.exps.length ke, .slice pi M.imps.length ki, .slice pp M.pats.length kp]] W fun e w' => e = .returned (.int .i64 (chkMod M)) ∧ Below W.heap.size W w') := fun W hb => check_any M _ W (HI.out W hb) hf
  have HW : Hid (∃ w1, w1 = w.alloc (.cells #[.string M.name, .int .i64 M.major, .int .i64 M.minor, .string M.text, .slice pe M.exps.length ke, .slice pi M.imps.length ki, .slice pp M.pats.length kp] 39) ∧ CellsAt w1 w.heap.size 39 #[.string M.name, .int .i64 M.major, .int .i64 M.minor, .string M.text, .slice pe M.exps.length ke, .slice pi M.imps.length ki, .slice pp M.pats.length kp] ∧ Below w.heap.size w w1 ∧ w.heap.size < w1.heap.size) := ⟨_, rfl, CellsAt.new _ _ _, (Below.refl _ _).alloc (Nat.le_refl _) _, by simp⟩
  generalize (told s (rdMod true s (0, false))).2 = F at *
  generalize (told s (rdMod true s (0, false))).1 = T at *
  clear hM hf hs
  by_cases h0 : chkMod M = 0
  · have HN : Hid (∀ W, Below w.heap.size w W → Calls Try.prog 20 #[.agg #[.string M.name, .int .i64 M.major, .int .i64 M.minor, .string M.text, .slice pe M.exps.length ke, .slice pi M.imps.length ki, .slice pp M.pats.length kp]] W fun e w' => e = .returned (.string (encS M)) ∧ Below W.heap.size W w') := fun W hb => encodeOf_any M _ W (HI.out W hb) (small_of_chk h0)
    have e1 : encR M = encS M := by rw [encR, if_pos h0]
    rw [e1, h0] at HE
    rw [h0] at HC HK
    generalize encS M = X at *
    clear h0 e1 HI
    go_enter Try.func6, Try.ntmps6
    obtain ⟨w1, hw1, m1, B1, hz1⟩ := HW.out
    go_wp2_with fail
    rw [← hw1]
    clear hw1
    refine (HE.out _ B1).mono ?_
    rintro e w2 ⟨rfl, b2⟩
    have B2 := B1.trans (b2.mono B1.size)
    have m2 := m1.below b2 hz1
    have hz2 := b2.size
    obtain ⟨p0, p1, p2, p3, p4, p5, p6⟩ := box7 m2
    go_wp2_with fail
    refine (HD.out _).mono ?_
    rintro e w3 ⟨vx, rfl, hx, b3⟩
    clear p0 p1 p2 p3 p4 p5 p6
    obtain ⟨a1, a2, a3, a4, a5, a6, rfl⟩ := hx.form
    have B3 := B2.trans (b3.mono B2.size)
    have m3 := m2.below b3 (by omega)
    have hz3 := b3.size
    have HX4 : Hid (∃ w4, w4 = w3.alloc (.cells #[.string T.name, .int .i64 T.major, .int .i64 T.minor, .string T.text, .slice a1 T.exps.length a2, .slice a3 T.imps.length a4, .slice a5 T.pats.length a6] 39) ∧ CellsAt w4 w3.heap.size 39 #[.string T.name, .int .i64 T.major, .int .i64 T.minor, .string T.text, .slice a1 T.exps.length a2, .slice a3 T.imps.length a4, .slice a5 T.pats.length a6] ∧ CellsAt w4 w.heap.size 39 #[.string M.name, .int .i64 M.major, .int .i64 M.minor, .string M.text, .slice pe M.exps.length ke, .slice pi M.imps.length ki, .slice pp M.pats.length kp] ∧ OwnsMod w2.heap.size w4 (.agg #[.string T.name, .int .i64 T.major, .int .i64 T.minor, .string T.text, .slice a1 T.exps.length a2, .slice a3 T.imps.length a4, .slice a5 T.pats.length a6]) T ∧ Below w.heap.size w w4 ∧ w3.heap.size < w4.heap.size) :=
      ⟨_, rfl, CellsAt.new _ _ _, m3.kept (World.grownBy_alloc _ _ none) (by simp), hx.below ((Below.refl _ _).alloc (Nat.le_refl _) _), B3.alloc B3.size _, by simp⟩
    obtain ⟨w4, hw4, x4, m4, hx4, B4, hz4⟩ := HX4.out
    have q4 := box7 m4
    rw [hw4] at q4
    obtain ⟨p0, p1, p2, p3, p4, p5, p6⟩ := q4
    have HX : Hid (OwnsMod w2.heap.size w4 _ T) := hx4
    clear hx HX4 hx4
    go_wp2_with fail
    rw [← hw4]
    clear hw4 p0 p1 p2 p3 p4 p5 p6
    refine (HC.out _ B4).mono ?_
    rintro e w5 ⟨rfl, b5⟩
    have B5 := B4.trans (b5.mono B4.size)
    have m5 := m4.below b5 (by omega)
    have x5 := x4.below b5 (by omega)
    have HX5 : Hid (OwnsMod w2.heap.size w5 _ T) := HX.out.below b5
    have hz5 := b5.size
    obtain ⟨p0, p1, p2, p3, p4, p5, p6⟩ := box7 m5
    go_wp2_with fail
    clear p0 p1 p2 p3 p4 p5 p6
    refine (HN.out _ B5).mono ?_
    rintro e w6 ⟨rfl, b6⟩
    have B6 := B5.trans (b6.mono B5.size)
    have m6 := m5.below b6 (by omega)
    have x6 := x5.below b6 (by omega)
    have HX6 : Hid (OwnsMod w2.heap.size w6 _ T) := HX5.out.below b6
    have hz6 := b6.size
    go_wp2_with fail
    refine (HO.out _).mono ?_
    rintro e w7 ⟨vy, rfl, hy, b7⟩
    obtain ⟨c1, c2, c3, c4, c5, c6, rfl⟩ := hy.form
    have B7 := B6.trans (b7.mono B6.size)
    have m7 := m6.below b7 (by omega)
    have x7 := x6.below b7 (by omega)
    have hX7 := HX6.out.below b7
    have hz7 := b7.size
    have HY8 : Hid (∃ w8, w8 = w7.alloc (.cells #[.string T.name, .int .i64 T.major, .int .i64 T.minor, .string T.text, .slice c1 T.exps.length c2, .slice c3 T.imps.length c4, .slice c5 T.pats.length c6] 39) ∧ CellsAt w8 w7.heap.size 39 #[.string T.name, .int .i64 T.major, .int .i64 T.minor, .string T.text, .slice c1 T.exps.length c2, .slice c3 T.imps.length c4, .slice c5 T.pats.length c6] ∧ CellsAt w8 w3.heap.size 39 #[.string T.name, .int .i64 T.major, .int .i64 T.minor, .string T.text, .slice a1 T.exps.length a2, .slice a3 T.imps.length a4, .slice a5 T.pats.length a6] ∧ CellsAt w8 w.heap.size 39 #[.string M.name, .int .i64 M.major, .int .i64 M.minor, .string M.text, .slice pe M.exps.length ke, .slice pi M.imps.length ki, .slice pp M.pats.length kp] ∧ OwnsMod w2.heap.size w8 (.agg #[.string T.name, .int .i64 T.major, .int .i64 T.minor, .string T.text, .slice a1 T.exps.length a2, .slice a3 T.imps.length a4, .slice a5 T.pats.length a6]) T ∧ OwnsMod w6.heap.size w8 (.agg #[.string T.name, .int .i64 T.major, .int .i64 T.minor, .string T.text, .slice c1 T.exps.length c2, .slice c3 T.imps.length c4, .slice c5 T.pats.length c6]) T ∧ Below w.heap.size w w8 ∧ w7.heap.size < w8.heap.size) :=
      ⟨_, rfl, CellsAt.new _ _ _, x7.kept (World.grownBy_alloc _ _ none) (by simp), m7.kept (World.grownBy_alloc _ _ none) (by simp), hX7.below ((Below.refl _ _).alloc (Nat.le_refl _) _), hy.below ((Below.refl _ _).alloc (Nat.le_refl _) _), B7.alloc B7.size _, by simp⟩
    obtain ⟨w8, hw8, y8, x8, m8, hx8, hy8, B8, hz8⟩ := HY8.out
    have HX8 : Hid (OwnsMod w2.heap.size w8 _ T) := hx8
    have HY9 : Hid (OwnsMod w6.heap.size w8 _ T) := hy8
    clear hy HY8 hx8 hy8 hX7
    go_wp2_with fail
    rw [← hw8]
    clear hw8
    refine (moduleBegun_any _).mono ?_
    rintro e w9 ⟨rfl, b9⟩
    have B9 := B8.trans (b9.mono B8.size)
    have m9 := m8.below b9 (by omega)
    have x9 := x8.below b9 (by omega)
    have y9 := y8.below b9 (by omega)
    have HX9 : Hid (OwnsMod w2.heap.size w9 _ T) := HX8.out.below b9
    have HZ9 : Hid (OwnsMod w6.heap.size w9 _ T) := HY9.out.below b9
    have hz9 := b9.size
    obtain ⟨p0, p1, p2, p3, p4, p5, p6⟩ := box7 m9
    go_wp2_with fail
    clear p0 p1 p2 p3 p4 p5 p6
    refine (HK.out _ B9).mono ?_
    rintro e v1 ⟨rfl, d1⟩
    have D1 := B9.trans (d1.mono B9.size)
    obtain ⟨p0, p1, p2, p3, p4, p5, p6⟩ := box7 (x9.below d1 (by omega))
    obtain ⟨q0, q1, q2, q3, q4, q5, q6⟩ := box7 (y9.below d1 (by omega))
    have HS1 : Hid (Calls Try.prog 24 _ v1 _) := sameModule_yes T _ _ v1 (HX9.out.below d1).isMod (HZ9.out.below d1).isMod
    clear m1 m2 m3 m4 m5 m7 m8 m9 x4 x5 x7 x8 x9 y8 y9 m6 x6
    go_wp2_with fail
    refine HS1.out.mono ?_
    rintro e v2 ⟨rfl, d2⟩
    go_wp2
    go_ret
    exact ⟨rfl, D1.trans (d2.mono D1.size)⟩
  · have e1 : encR M = ⟨#[]⟩ := by rw [encR, if_neg h0]
    rw [e1] at HE
    have hne : (chkMod M == 0) = false := by simpa using h0
    generalize chkMod M = C at *
    clear h0 e1 HI
    go_enter Try.func6, Try.ntmps6
    obtain ⟨w1, hw1, m1, B1, hz1⟩ := HW.out
    go_wp2_with fail
    rw [← hw1]
    clear hw1
    refine (HE.out _ B1).mono ?_
    rintro e w2 ⟨rfl, b2⟩
    have B2 := B1.trans (b2.mono B1.size)
    have m2 := m1.below b2 hz1
    have hz2 := b2.size
    obtain ⟨p0, p1, p2, p3, p4, p5, p6⟩ := box7 m2
    go_wp2_with fail
    refine (HD.out _).mono ?_
    rintro e w3 ⟨vx, rfl, hx, b3⟩
    clear p0 p1 p2 p3 p4 p5 p6
    obtain ⟨a1, a2, a3, a4, a5, a6, rfl⟩ := hx.form
    have B3 := B2.trans (b3.mono B2.size)
    have m3 := m2.below b3 (by omega)
    have hz3 := b3.size
    have HX4 : Hid (∃ w4, w4 = w3.alloc (.cells #[.string T.name, .int .i64 T.major, .int .i64 T.minor, .string T.text, .slice a1 T.exps.length a2, .slice a3 T.imps.length a4, .slice a5 T.pats.length a6] 39) ∧ CellsAt w4 w3.heap.size 39 #[.string T.name, .int .i64 T.major, .int .i64 T.minor, .string T.text, .slice a1 T.exps.length a2, .slice a3 T.imps.length a4, .slice a5 T.pats.length a6] ∧ CellsAt w4 w.heap.size 39 #[.string M.name, .int .i64 M.major, .int .i64 M.minor, .string M.text, .slice pe M.exps.length ke, .slice pi M.imps.length ki, .slice pp M.pats.length kp] ∧ OwnsMod w2.heap.size w4 (.agg #[.string T.name, .int .i64 T.major, .int .i64 T.minor, .string T.text, .slice a1 T.exps.length a2, .slice a3 T.imps.length a4, .slice a5 T.pats.length a6]) T ∧ Below w.heap.size w w4 ∧ w3.heap.size < w4.heap.size) :=
      ⟨_, rfl, CellsAt.new _ _ _, m3.kept (World.grownBy_alloc _ _ none) (by simp), hx.below ((Below.refl _ _).alloc (Nat.le_refl _) _), B3.alloc B3.size _, by simp⟩
    obtain ⟨w4, hw4, x4, m4, hx4, B4, hz4⟩ := HX4.out
    have q4 := box7 m4
    rw [hw4] at q4
    obtain ⟨p0, p1, p2, p3, p4, p5, p6⟩ := q4
    have HX : Hid (OwnsMod w2.heap.size w4 _ T) := hx4
    clear hx HX4 hx4
    go_wp2_with fail
    rw [← hw4]
    clear hw4 p0 p1 p2 p3 p4 p5 p6
    refine (HC.out _ B4).mono ?_
    rintro e w5 ⟨rfl, b5⟩
    have B5 := B4.trans (b5.mono B4.size)
    have m5 := m4.below b5 (by omega)
    have x5 := x4.below b5 (by omega)
    have HX5 : Hid (OwnsMod w2.heap.size w5 _ T) := HX.out.below b5
    have hz5 := b5.size
    go_wp2_with fail
    refine (HO.out _).mono ?_
    rintro e w7 ⟨vy, rfl, hy, b7⟩
    obtain ⟨c1, c2, c3, c4, c5, c6, rfl⟩ := hy.form
    have B7 := B5.trans (b7.mono B5.size)
    have m7 := m5.below b7 (by omega)
    have x7 := x5.below b7 (by omega)
    have hX7 := HX5.out.below b7
    have hz7 := b7.size
    have HY8 : Hid (∃ w8, w8 = w7.alloc (.cells #[.string T.name, .int .i64 T.major, .int .i64 T.minor, .string T.text, .slice c1 T.exps.length c2, .slice c3 T.imps.length c4, .slice c5 T.pats.length c6] 39) ∧ CellsAt w8 w7.heap.size 39 #[.string T.name, .int .i64 T.major, .int .i64 T.minor, .string T.text, .slice c1 T.exps.length c2, .slice c3 T.imps.length c4, .slice c5 T.pats.length c6] ∧ CellsAt w8 w3.heap.size 39 #[.string T.name, .int .i64 T.major, .int .i64 T.minor, .string T.text, .slice a1 T.exps.length a2, .slice a3 T.imps.length a4, .slice a5 T.pats.length a6] ∧ CellsAt w8 w.heap.size 39 #[.string M.name, .int .i64 M.major, .int .i64 M.minor, .string M.text, .slice pe M.exps.length ke, .slice pi M.imps.length ki, .slice pp M.pats.length kp] ∧ OwnsMod w2.heap.size w8 (.agg #[.string T.name, .int .i64 T.major, .int .i64 T.minor, .string T.text, .slice a1 T.exps.length a2, .slice a3 T.imps.length a4, .slice a5 T.pats.length a6]) T ∧ OwnsMod w5.heap.size w8 (.agg #[.string T.name, .int .i64 T.major, .int .i64 T.minor, .string T.text, .slice c1 T.exps.length c2, .slice c3 T.imps.length c4, .slice c5 T.pats.length c6]) T ∧ Below w.heap.size w w8 ∧ w7.heap.size < w8.heap.size) :=
      ⟨_, rfl, CellsAt.new _ _ _, x7.kept (World.grownBy_alloc _ _ none) (by simp), m7.kept (World.grownBy_alloc _ _ none) (by simp), hX7.below ((Below.refl _ _).alloc (Nat.le_refl _) _), hy.below ((Below.refl _ _).alloc (Nat.le_refl _) _), B7.alloc B7.size _, by simp⟩
    obtain ⟨w8, hw8, y8, x8, m8, hx8, hy8, B8, hz8⟩ := HY8.out
    have HX8 : Hid (OwnsMod w2.heap.size w8 _ T) := hx8
    have HY9 : Hid (OwnsMod w5.heap.size w8 _ T) := hy8
    clear hy HY8 hx8 hy8 hX7
    go_wp2_with fail
    rw [← hw8]
    clear hw8
    refine (moduleBegun_any _).mono ?_
    rintro e w9 ⟨rfl, b9⟩
    have B9 := B8.trans (b9.mono B8.size)
    have m9 := m8.below b9 (by omega)
    have x9 := x8.below b9 (by omega)
    have y9 := y8.below b9 (by omega)
    have HX9 : Hid (OwnsMod w2.heap.size w9 _ T) := HX8.out.below b9
    have HZ9 : Hid (OwnsMod w5.heap.size w9 _ T) := HY9.out.below b9
    have hz9 := b9.size
    obtain ⟨p0, p1, p2, p3, p4, p5, p6⟩ := box7 m9
    go_wp2_with fail
    clear p0 p1 p2 p3 p4 p5 p6
    refine (HK.out _ B9).mono ?_
    rintro e v1 ⟨rfl, d1⟩
    have D1 := B9.trans (d1.mono B9.size)
    obtain ⟨p0, p1, p2, p3, p4, p5, p6⟩ := box7 (x9.below d1 (by omega))
    obtain ⟨q0, q1, q2, q3, q4, q5, q6⟩ := box7 (y9.below d1 (by omega))
    have HS1 : Hid (Calls Try.prog 24 _ v1 _) := sameModule_yes T _ _ v1 (HX9.out.below d1).isMod (HZ9.out.below d1).isMod
    clear m1 m2 m3 m4 m5 m7 m8 m9 x4 x5 x7 x8 x9 y8 y9
    go_wp2_with fail
    refine HS1.out.mono ?_
    rintro e v2 ⟨rfl, d2⟩
    go_wp2
    go_ret
    exact ⟨rfl, D1.trans (d2.mono D1.size)⟩

end Go.Proofs.Ytaklbnabgcglhaa.moduleTells
