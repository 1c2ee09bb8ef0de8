/- The contracts of the document's answers to patches. -/
import Derived.Test.YtaklbnabgcglhaaPatE
import Derived.Test.YtaklbnabgcglhaaRefB
import Derived.Test.YtaklbnabgcglhaaNameR
import Derived.Lib.QuietBelow
namespace Go.Proofs.Ytaklbnabgcglhaa
open Go.RowKit Go.PlainAid

set_option maxRecDepth 100000

theorem power_lit (k : Nat) (p : Int) (hk : k ≤ 32) (hp : (2 : Int) ^ k = p) (w : World) : Calls Try.prog 35 #[.int .i64 k] w fun e w' => e = .returned (.int .i64 p) ∧ w' = w := by
  have := power_any k hk w
  rwa [hp] at this

set_option maxHeartbeats 2000000 in
theorem valueOf_any (kind sym add place : Int) (w : World) :
    Calls Try.prog 29 #[.int .i64 kind, .int .i64 sym, .int .i64 add, .int .i64 place] w fun e w' => e = .returned (.tuple #[.int .i64 (valNum kind sym add place), .int .i64 (valErr kind sym add place)]) ∧ w' = w := by
  rcases val_cases kind sym add place with ⟨h0, hE, hN⟩ | ⟨h0, hr, hE, hN⟩ | ⟨hr, key⟩
  · rw [hE, hN]
    have HW : Hid (∀ w, Calls Try.prog 28 #[.int .i64 kind] w fun e w' => e = .returned (.int .i64 0) ∧ w' = w) := fun w => by
      have := widthOf_any kind w
      rwa [h0] at this
    clear h0 hE hN
    go_enter Try.func29, Try.ntmps29
    go_wp2_with (go_at_call 28; refine (HW.out _).mono ?_; rintro e w' ⟨rfl, rfl⟩)
    go_ret2
    exact ⟨rfl, rfl⟩
  · rw [hE, hN]
    have HW : Hid (∀ w, Calls Try.prog 28 #[.int .i64 kind] w fun e w' => e = .returned (.int .i64 (width kind)) ∧ w' = w) := fun w => widthOf_any kind w
    have h0' : (width kind == 0) = false := beq_eq_false_iff_ne.2 h0
    clear h0 hE hN
    generalize width kind = wd at HW h0'
    unfold valRange at hr
    cases h1 : betw sym 0 65535
    · clear hr
      go_enter Try.func29, Try.ntmps29
      go_wp2_with (first | (go_at_call 28; refine (HW.out _).mono ?_; rintro e w' ⟨rfl, rfl⟩) | (go_at_call 34; refine (between_any _ _ _ _).mono ?_; rintro e w' ⟨rfl, rfl⟩))
      go_ret2
      exact ⟨rfl, rfl⟩
    cases h2 : betw place 0 65535
    · clear hr
      go_enter Try.func29, Try.ntmps29
      go_wp2_with (first | (go_at_call 28; refine (HW.out _).mono ?_; rintro e w' ⟨rfl, rfl⟩) | (go_at_call 34; refine (between_any _ _ _ _).mono ?_; rintro e w' ⟨rfl, rfl⟩))
      go_ret2
      exact ⟨rfl, rfl⟩
    rw [h1, h2] at hr
    have h3 : betw add 0 65535 = false := by simpa using hr
    clear hr
    go_enter Try.func29, Try.ntmps29
    go_wp2_with (first | (go_at_call 28; refine (HW.out _).mono ?_; rintro e w' ⟨rfl, rfl⟩) | (go_at_call 34; refine (between_any _ _ _ _).mono ?_; rintro e w' ⟨rfl, rfl⟩))
    go_ret2
    exact ⟨rfl, rfl⟩
  · obtain ⟨s0, s1, p0, p1, a0, a1⟩ := valRange_true hr
    have h1 : betw sym 0 65535 = true := betw_true s0 s1
    have h2 : betw place 0 65535 = true := betw_true p0 p1
    have h3 : betw add 0 65535 = true := betw_true a0 a1
    clear hr
    rcases key with ⟨rfl, hE, hN⟩ | ⟨rfl, hE, hN⟩ | ⟨rfl, hE, hN⟩ | ⟨rfl, hE, hN⟩ | ⟨rfl, hp, hE, hN⟩ | ⟨rfl, hp, hE, hN⟩
    all_goals rw [hE, hN]; clear hE hN
    · have HW : Hid (∀ w, Calls Try.prog 28 #[.int .i64 1] w fun e w' => e = .returned (.int .i64 4) ∧ w' = w) := fun w => widthOf_any 1 w
      have HP : Hid (∀ w, Calls Try.prog 35 #[.int .i64 32] w fun e w' => e = .returned (.int .i64 4294967296) ∧ w' = w) := fun w => power_lit 32 _ (by decide) (by decide) w
      have HM : Hid (∀ w, Calls Try.prog 36 #[.int .i64 (sym + add), .int .i64 4294967296] w fun e w' => e = .returned (.int .i64 (sym + add)) ∧ w' = w) := fun w => by
        have := modulo_any (sym + add) 4294967296 (by decide) (by decide) w
        rwa [Int.emod_eq_of_lt (by omega) (by omega)] at this
      go_enter Try.func29, Try.ntmps29
      go_wp2_with (first | (go_at_call 28; refine (HW.out _).mono ?_; rintro e w' ⟨rfl, rfl⟩) | (go_at_call 34; refine (between_any _ _ _ _).mono ?_; rintro e w' ⟨rfl, rfl⟩) | (go_at_call 35; refine (HP.out _).mono ?_; rintro e w' ⟨rfl, rfl⟩) | (go_at_call 36; refine (HM.out _).mono ?_; rintro e w' ⟨rfl, rfl⟩))
      go_ret2
      exact ⟨rfl, rfl⟩
    · have HW : Hid (∀ w, Calls Try.prog 28 #[.int .i64 2] w fun e w' => e = .returned (.int .i64 4) ∧ w' = w) := fun w => widthOf_any 2 w
      have HP : Hid (∀ w, Calls Try.prog 35 #[.int .i64 32] w fun e w' => e = .returned (.int .i64 4294967296) ∧ w' = w) := fun w => power_lit 32 _ (by decide) (by decide) w
      have HM : Hid (∀ w, Calls Try.prog 36 #[.int .i64 (sym + add - place), .int .i64 4294967296] w fun e w' => e = .returned (.int .i64 ((sym + add - place) % 4294967296)) ∧ w' = w) := fun w => modulo_any _ 4294967296 (by decide) (by decide) w
      generalize (sym + add - place) % 4294967296 = R at HM ⊢
      go_enter Try.func29, Try.ntmps29
      go_wp2_with (first | (go_at_call 28; refine (HW.out _).mono ?_; rintro e w' ⟨rfl, rfl⟩) | (go_at_call 34; refine (between_any _ _ _ _).mono ?_; rintro e w' ⟨rfl, rfl⟩) | (go_at_call 35; refine (HP.out _).mono ?_; rintro e w' ⟨rfl, rfl⟩) | (go_at_call 36; refine (HM.out _).mono ?_; rintro e w' ⟨rfl, rfl⟩))
      go_ret2
      exact ⟨rfl, rfl⟩
    · have HW : Hid (∀ w, Calls Try.prog 28 #[.int .i64 3] w fun e w' => e = .returned (.int .i64 2) ∧ w' = w) := fun w => widthOf_any 3 w
      have HP : Hid (∀ w, Calls Try.prog 35 #[.int .i64 16] w fun e w' => e = .returned (.int .i64 65536) ∧ w' = w) := fun w => power_lit 16 _ (by decide) (by decide) w
      have HM : Hid (∀ w, Calls Try.prog 36 #[.int .i64 ((sym + add) / 65536), .int .i64 65536] w fun e w' => e = .returned (.int .i64 ((sym + add) / 65536)) ∧ w' = w) := fun w => by
        have := modulo_any ((sym + add) / 65536) 65536 (by decide) (by decide) w
        rwa [Int.emod_eq_of_lt (by omega) (by omega)] at this
      go_enter Try.func29, Try.ntmps29
      go_wp2_with (first | (go_at_call 28; refine (HW.out _).mono ?_; rintro e w' ⟨rfl, rfl⟩) | (go_at_call 34; refine (between_any _ _ _ _).mono ?_; rintro e w' ⟨rfl, rfl⟩) | (go_at_call 35; refine (HP.out _).mono ?_; rintro e w' ⟨rfl, rfl⟩) | (go_at_call 36; refine (HM.out _).mono ?_; rintro e w' ⟨rfl, rfl⟩))
      go_ret2
      exact ⟨rfl, rfl⟩
    · have HW : Hid (∀ w, Calls Try.prog 28 #[.int .i64 4] w fun e w' => e = .returned (.int .i64 2) ∧ w' = w) := fun w => widthOf_any 4 w
      have HP : Hid (∀ w, Calls Try.prog 35 #[.int .i64 16] w fun e w' => e = .returned (.int .i64 65536) ∧ w' = w) := fun w => power_lit 16 _ (by decide) (by decide) w
      have HM : Hid (∀ w, Calls Try.prog 36 #[.int .i64 (sym + add), .int .i64 65536] w fun e w' => e = .returned (.int .i64 ((sym + add) % 65536)) ∧ w' = w) := fun w => modulo_any _ 65536 (by decide) (by decide) w
      generalize (sym + add) % 65536 = R at HM ⊢
      go_enter Try.func29, Try.ntmps29
      go_wp2_with (first | (go_at_call 28; refine (HW.out _).mono ?_; rintro e w' ⟨rfl, rfl⟩) | (go_at_call 34; refine (between_any _ _ _ _).mono ?_; rintro e w' ⟨rfl, rfl⟩) | (go_at_call 35; refine (HP.out _).mono ?_; rintro e w' ⟨rfl, rfl⟩) | (go_at_call 36; refine (HM.out _).mono ?_; rintro e w' ⟨rfl, rfl⟩))
      go_ret2
      exact ⟨rfl, rfl⟩
    · have HW : Hid (∀ w, Calls Try.prog 28 #[.int .i64 5] w fun e w' => e = .returned (.int .i64 3) ∧ w' = w) := fun w => widthOf_any 5 w
      have HM : Hid (∀ w, Calls Try.prog 36 #[.int .i64 (sym + add - place), .int .i64 2] w fun e w' => e = .returned (.int .i64 1) ∧ w' = w) := fun w => by
        have := modulo_any (sym + add - place) 2 (by decide) (by decide) w
        rwa [hp] at this
      clear hp
      go_enter Try.func29, Try.ntmps29
      go_wp2_with (first | (go_at_call 28; refine (HW.out _).mono ?_; rintro e w' ⟨rfl, rfl⟩) | (go_at_call 34; refine (between_any _ _ _ _).mono ?_; rintro e w' ⟨rfl, rfl⟩) | (go_at_call 36; refine (HM.out _).mono ?_; rintro e w' ⟨rfl, rfl⟩))
      go_ret2
      exact ⟨rfl, rfl⟩
    · have HW : Hid (∀ w, Calls Try.prog 28 #[.int .i64 5] w fun e w' => e = .returned (.int .i64 3) ∧ w' = w) := fun w => widthOf_any 5 w
      have HM : Hid (∀ w, Calls Try.prog 36 #[.int .i64 (sym + add - place), .int .i64 2] w fun e w' => e = .returned (.int .i64 0) ∧ w' = w) := fun w => by
        have := modulo_any (sym + add - place) 2 (by decide) (by decide) w
        rwa [hp] at this
      have HP : Hid (∀ w, Calls Try.prog 35 #[.int .i64 24] w fun e w' => e = .returned (.int .i64 16777216) ∧ w' = w) := fun w => power_lit 24 _ (by decide) (by decide) w
      have HM2 : Hid (∀ w, Calls Try.prog 36 #[.int .i64 ((sym + add - place).tdiv 2), .int .i64 16777216] w fun e w' => e = .returned (.int .i64 (((sym + add - place) / 2) % 16777216)) ∧ w' = w) := fun w => by
        have := modulo_any ((sym + add - place).tdiv 2) 16777216 (by decide) (by decide) w
        rwa [tdiv2_even _ hp] at this ⊢
      have hb : betw (sym + add - place) (-16777216) 16777215 = true := betw_true (by omega) (by omega)
      generalize ((sym + add - place) / 2) % 16777216 = R at HM2 ⊢
      clear hp
      go_enter Try.func29, Try.ntmps29
      go_wp2_with (first | (go_at_call 28; refine (HW.out _).mono ?_; rintro e w' ⟨rfl, rfl⟩) | (go_at_call 34; refine (between_any _ _ _ _).mono ?_; rintro e w' ⟨rfl, rfl⟩))
      refine (HM.out _).mono ?_
      rintro e w1 ⟨rfl, rfl⟩
      go_wp2_with (first | (go_at_call 34; refine (between_any _ _ _ _).mono ?_; rintro e w' ⟨rfl, rfl⟩) | (go_at_call 35; refine (HP.out _).mono ?_; rintro e w' ⟨rfl, rfl⟩))
      refine (HM2.out _).mono ?_
      rintro e w2 ⟨rfl, rfl⟩
      go_wp2
      go_ret2
      exact ⟨rfl, rfl⟩

theorem joined_put (s : ByteArray) (a m : Nat) (n : Int) (h : a + m ≤ s.size) : s.extract 0 a ++ bytesN n m ++ s.extract (a + m) s.size = putS s a m n := by
  apply ByteArray.ext
  apply Array.toList_inj.1
  have e1 : (putS s a m n).data.toList = putFold s a n (List.range m) := by simp [putS]
  have hl : s.data.toList.length = s.size := by simp
  rw [e1]
  have e2 : (s.extract 0 a ++ bytesN n m ++ s.extract (a + m) s.size).data.toList = s.data.toList.take a ++ (List.range m).map (byteOf n) ++ s.data.toList.drop (a + m) := by
    simp only [ByteArray.data_append, ByteArray.data_extract, Array.toList_append, Array.toList_extract, bytesN, List.extract_eq_take_drop, List.drop_zero, Nat.sub_zero]
    rw [List.take_of_length_le (l := List.drop (a + m) s.data.toList) (by rw [List.length_drop]; omega)]
  rw [e2]
  apply List.ext_getElem?
  intro i
  rw [putFold_at s a n m i h]
  have l1 : (s.data.toList.take a).length = a := by rw [List.length_take]; omega
  by_cases c1 : i < a
  · rw [if_neg (by omega), List.append_assoc, List.getElem?_append_left (by omega), List.getElem?_take_of_lt c1]
  · rw [List.append_assoc, List.getElem?_append_right (by omega), l1]
    by_cases c2 : i < a + m
    · rw [if_pos (by omega), List.getElem?_append_left (by simp; omega)]
      have hi : i - a < m := by omega
      simp [hi]
    · rw [if_neg (by omega), List.getElem?_append_right (by simp; omega), List.getElem?_drop]
      simp
      congr 1
      omega

theorem addr_cases (p : Pat) (len base : Int) : (betw p.add 0 65535 && betw p.pos 0 (len - width p.kind) && betw base 0 65279) = false → betw p.add 0 65535 = false ∨ betw p.add 0 65535 = true ∧ betw p.pos 0 (len - width p.kind) = false ∨ betw p.add 0 65535 = true ∧ betw p.pos 0 (len - width p.kind) = true ∧ betw base 0 65279 = false := by
  intro h
  cases h1 : betw p.add 0 65535
  · exact .inl rfl
  cases h2 : betw p.pos 0 (len - width p.kind)
  · exact .inr (.inl ⟨rfl, rfl⟩)
  · rw [h1, h2] at h
    exact .inr (.inr ⟨rfl, rfl, by simpa using h⟩)

set_option maxHeartbeats 2000000 in
theorem applyOf_good (s E t : ByteArray) (K S D sym base n : Int) (a m : Nat) (w : World) (hs : s.size ≤ 140737488351232) (hm0 : 1 ≤ m) (hm : m ≤ 4) (ha : a + m ≤ s.size) (hE : E.size ≤ 4) (hT : s.extract 0 a ++ E ++ s.extract (a + m) s.size = t)
    (h1 : betw D 0 65535 = true) (h2 : betw a 0 (s.size - m) = true) (h3 : betw base 0 65279 = true) (b0 : 0 ≤ base) (b1 : base ≤ 65279)
    (HW : Hid (∀ w, Calls Try.prog 28 #[.int .i64 K] w fun e w' => e = .returned (.int .i64 m) ∧ w' = w))
    (HV : Hid (∀ w, Calls Try.prog 29 #[.int .i64 K, .int .i64 sym, .int .i64 D, .int .i64 (base + a)] w fun e w' => e = .returned (.tuple #[.int .i64 n, .int .i64 0]) ∧ w' = w))
    (HB : Hid (∀ w, Calls Try.prog 14 #[.int .i64 n, .int .i64 m] w fun e w' => e = .returned (.string E) ∧ Below w.heap.size w w')) :
    Calls Try.prog 30 #[.string s, .agg #[.int .i64 K, .int .i64 a, .int .i64 S, .int .i64 D], .int .i64 sym, .int .i64 base] w fun e w' => e = .returned (.tuple #[.string t, .int .i64 0]) ∧ Below w.heap.size w w' := by
  have i0 : IntKind.i64.wrap ((a : Int) + m) = (a : Int) + m := by rw [i64_is]; unfold wrap64; omega
  have f0 : (a : Int) ≤ s.size := by omega
  have f1 : (a : Int) + m ≤ s.size := by omega
  have f2 : 0 ≤ (a : Int) + m := by omega
  have c1 : ¬ (9223372036854775807 < min a s.size + E.size) := by omega
  have c2 : ¬ (9223372036854775807 < min a s.size + E.size + (s.size - (a + m))) := by omega
  have f3 : ((a : Int) + m).toNat = a + m := by omega
  have hne : ((m : Int) == 0) = false := beq_eq_false_iff_ne.2 (by omega)
  go_enter Try.func30, Try.ntmps30
  go_wp2_with (first | (go_at_call 28; refine (HW.out _).mono ?_; rintro e w' ⟨rfl, rfl⟩) | (go_at_call 34; refine (between_any _ _ _ _).mono ?_; rintro e w' ⟨rfl, rfl⟩) | (go_at_call 29; refine (HV.out _).mono ?_; rintro e w' ⟨rfl, rfl⟩))
  have g1 : (w.alloc (.cells #[.int .i64 K, .int .i64 a, .int .i64 S, .int .i64 D] 48)).cell? ⟨w.heap.size, 1, none⟩ = some (.int .i64 a) := by simp
  have B0 : Below w.heap.size w (w.alloc (.cells #[.int .i64 K, .int .i64 a, .int .i64 S, .int .i64 D] 48)) := (Below.refl _ _).alloc (Nat.le_refl _) _
  have z0 : w.heap.size < (w.alloc (.cells #[.int .i64 K, .int .i64 a, .int .i64 S, .int .i64 D] 48)).heap.size := by simp
  generalize w.alloc (.cells #[.int .i64 K, .int .i64 a, .int .i64 S, .int .i64 D] 48) = W1 at g1 B0 z0 ⊢
  have k1 := cell_regrown g1
  refine wp_region_quiet_below (by kernel_rfl) (by kernel_rfl) ?_
  repeat (quiet_step ((go_at_call 14; go_must (exact Calls.regrown_of (HB.out _)))))
  refine wpQuiet_nil ?_
  intro _ hw'
  obtain ⟨⟨dq, osq⟩, hw''⟩ := hw'
  have B5 := B0.trans ((below_regrown W1 dq osq).mono B0.size)
  rw [← hw''] at B5
  clear hw''
  go_wp2
  go_ret2
  exact ⟨rfl, B5⟩

set_option maxHeartbeats 2000000 in
theorem applyOf_any (s : ByteArray) (p : Pat) (sym base : Int) (w : World) (hs : s.size ≤ 140737488351232) :
    Calls Try.prog 30 #[.string s, .agg #[.int .i64 p.kind, .int .i64 p.pos, .int .i64 p.sym, .int .i64 p.add], .int .i64 sym, .int .i64 base] w fun e w' => e = .returned (.tuple #[.string (appStr s p sym base), .int .i64 (appErr s.size p sym base)]) ∧ Below w.heap.size w w' := by
  have HW : Hid (∀ w, Calls Try.prog 28 #[.int .i64 p.kind] w fun e w' => e = .returned (.int .i64 (width p.kind)) ∧ w' = w) := fun w => widthOf_any _ w
  have HV : Hid (∀ w, Calls Try.prog 29 #[.int .i64 p.kind, .int .i64 sym, .int .i64 p.add, .int .i64 (base + p.pos)] w fun e w' => e = .returned (.tuple #[.int .i64 (valNum p.kind sym p.add (base + p.pos)), .int .i64 (valErr p.kind sym p.add (base + p.pos))]) ∧ w' = w) := fun w => valueOf_any _ _ _ _ w
  have hB := width_bd p.kind
  by_cases h0 : width p.kind = 0
  · have e1 : appErr s.size p sym base = 7 := by rw [appErr, if_pos h0]
    have e2 : appStr s p sym base = ⟨#[]⟩ := by rw [appStr, e1, if_neg (by decide)]
    rw [e1, e2]
    rw [h0] at HW
    clear e1 e2 h0 hB HV
    obtain ⟨K, A, S, D⟩ := p
    dsimp only at *
    go_enter Try.func30, Try.ntmps30
    go_wp2_with (go_at_call 28; refine (HW.out _).mono ?_; rintro e w' ⟨rfl, rfl⟩)
    go_ret2
    exact ⟨rfl, (Below.refl _ _).alloc (Nat.le_refl _) _⟩
  have hne : (width p.kind == 0) = false := beq_eq_false_iff_ne.2 h0
  cases hr : (betw p.add 0 65535 && betw p.pos 0 (s.size - width p.kind) && betw base 0 65279)
  · have e1 : appErr s.size p sym base = 3 := by rw [appErr, if_neg h0, if_pos hr]
    have e2 : appStr s p sym base = ⟨#[]⟩ := by rw [appStr, e1, if_neg (by decide)]
    rw [e1, e2]
    have key := addr_cases p s.size base hr
    clear e1 e2 h0 HV hr
    obtain ⟨K, A, S, D⟩ := p
    dsimp only at *
    generalize width K = wd at *
    rcases key with h1 | ⟨h1, h2⟩ | ⟨h1, h2, h3⟩
    all_goals
      go_enter Try.func30, Try.ntmps30
      go_wp2_with (first | (go_at_call 28; refine (HW.out _).mono ?_; rintro e w' ⟨rfl, rfl⟩) | (go_at_call 34; refine (between_any _ _ _ _).mono ?_; rintro e w' ⟨rfl, rfl⟩))
      go_ret2
      exact ⟨rfl, (Below.refl _ _).alloc (Nat.le_refl _) _⟩
  have hr' := hr
  simp only [Bool.and_eq_true] at hr'
  obtain ⟨⟨h1, h2⟩, h3⟩ := hr'
  have q1 := betw_iff.1 h2
  have q2 := betw_iff.1 h3
  have e1 : appErr s.size p sym base = valErr p.kind sym p.add (base + p.pos) := by rw [appErr, if_neg h0, hr, if_neg (by decide)]
  by_cases hv : valErr p.kind sym p.add (base + p.pos) = 0
  · have e2 : appStr s p sym base = putS s p.pos.toNat (width p.kind).toNat (valNum p.kind sym p.add (base + p.pos)) := by rw [appStr, e1, hv, if_pos rfl]
    rw [e1, hv, e2]
    rw [hv] at HV
    obtain ⟨m, em⟩ := Int.eq_ofNat_of_zero_le hB.1
    obtain ⟨K, A, S, D⟩ := p
    dsimp only at *
    obtain ⟨a, rfl⟩ := Int.eq_ofNat_of_zero_le q1.1
    rw [em] at HW h2 q1 hB h0 ⊢
    rw [Int.toNat_natCast, Int.toNat_natCast]
    have ha : a + m ≤ s.size := by omega
    exact applyOf_good s (bytesN (valNum K sym D (base + a)) m) _ K S D sym base (valNum K sym D (base + a)) a m w hs (by omega) (by omega) ha (by rw [bytesN_size]; omega) (joined_put s a m _ ha) h1 h2 h3 q2.1 q2.2 HW HV (fun w => bytesOf_any _ m w (by omega))
  · have e2 : appStr s p sym base = ⟨#[]⟩ := by rw [appStr, e1, if_neg hv]
    rw [e1, e2]
    have hv' : (valErr p.kind sym p.add (base + p.pos) != 0) = true := by simpa using hv
    clear e1 e2 h0 hr hv
    obtain ⟨K, A, S, D⟩ := p
    dsimp only at *
    generalize valErr K sym D (base + A) = ve at *
    generalize valNum K sym D (base + A) = vn at *
    generalize width K = wd at *
    go_enter Try.func30, Try.ntmps30
    go_wp2_with (first | (go_at_call 28; refine (HW.out _).mono ?_; rintro e w' ⟨rfl, rfl⟩) | (go_at_call 34; refine (between_any _ _ _ _).mono ?_; rintro e w' ⟨rfl, rfl⟩) | (go_at_call 29; refine (HV.out _).mono ?_; rintro e w' ⟨rfl, rfl⟩))
    go_ret2
    exact ⟨rfl, (Below.refl _ _).alloc (Nat.le_refl _) _⟩

end Go.Proofs.Ytaklbnabgcglhaa
