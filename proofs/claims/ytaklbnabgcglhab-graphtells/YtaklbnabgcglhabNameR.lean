/- The contracts of the document's names and imports. -/
import Derived.Test.YtaklbnabgcglhabNameW
namespace Go.Proofs.Ytaklbnabgcglhab
open Go.RowKit Go.PlainAid

theorem wrap_bt (s : ByteArray) (k : Nat) : wrap64 (bt s k) = bt s k := by
  have a := bt_nonneg s k
  have b := bt_le s k
  unfold wrap64; omega

theorem okc_parts {c : Int} (hc : okc c = true) : betw c 97 122 = true ∨ (betw c 97 122 = false ∧ (betw c 48 57 = true ∨ (betw c 48 57 = false ∧ (c != 95) = false))) := by
  unfold okc at hc
  cases ha : betw c 97 122
  · cases hb : betw c 48 57
    · rw [ha, hb] at hc
      refine .inr ⟨rfl, .inr ⟨rfl, ?_⟩⟩
      simpa using hc
    · exact .inr ⟨rfl, .inl rfl⟩
  · exact .inl rfl
theorem okc_none {c : Int} (hcf : okc c = false) : betw c 97 122 = false ∧ betw c 48 57 = false ∧ (c != 95) = true := by
  unfold okc at hcf
  rw [Bool.or_eq_false_iff, Bool.or_eq_false_iff] at hcf
  exact ⟨hcf.1, hcf.2.1, by simpa using hcf.2.2⟩

set_option maxHeartbeats 1000000 in
theorem isNameR_any (s : ByteArray) (w : World) (hs : s.size ≤ 9223372036854775807) : Calls Try.prog 48 #[.string s] w fun e w' => e = .returned (.bool (isNm s)) ∧ w' = w := by
  by_cases h0 : betw s.size 1 10 = true
  · obtain ⟨h1, h2⟩ := betw_iff.1 h0
    have hbs := get_bt s
    have w0 := wrap_bt s 0
    by_cases h3 : betw (bt s 0) 97 122 = true
    · go_enter Try.func48, Try.ntmps48
      go_wp2_with (go_at_call 49; refine (between_any _ _ _ _).mono ?_; rintro e w ⟨rfl, rfl⟩)
      go_loop [3] (fun i => ∃ k : Nat, k ≤ s.size ∧ i = .int .i64 k ∧ Hid (okFrom s k = true)) (fun i => s.size - (intOf i).toNat)
      case atStart => exact ⟨0, Nat.zero_le _, rfl, by show okFrom s 0 = true; rfl⟩
      case round =>
        obtain ⟨k, hk, rfl, HO⟩ := hrel
        have wk := wrap_bt s k
        by_cases hlt : k < s.size
        · by_cases hc : okc (bt s k) = true
          · have HO2 : Hid (okFrom s (k + 1) = true) := by show okFrom s (k + 1) = true; rw [okFrom_succ, HO.out, hc]; rfl
            have parts := okc_parts hc
            clear hc
            rcases parts with p1 | ⟨p1, p2 | ⟨p2, p3⟩⟩
            all_goals
              go_wp2_with (go_at_call 49; refine (between_any _ _ _ _).mono ?_; rintro e w ⟨rfl, rfl⟩)
              go_round
              case rel => exact ⟨k + 1, by omega, by go_num, HO2⟩
              case measure => simp [intOf]; omega
          · have hcf : okc (bt s k) = false := by simpa using hc
            have HF : Hid (isNm s = false) := isNm_other (okFrom_false s k s.size hlt hcf)
            obtain ⟨p1, p2, p3⟩ := okc_none hcf
            clear hc hcf
            go_wp2_with (go_at_call 49; refine (between_any _ _ _ _).mono ?_; rintro e w ⟨rfl, rfl⟩)
            go_ret
            exact ⟨by rw [HF.out]; rfl, rfl⟩
        · obtain rfl : k = s.size := by omega
          have HF : Hid (isNm s = true) := isNm_yes h0 h3 HO.out
          go_wp2
          go_ret
          exact ⟨by rw [HF.out]; rfl, rfl⟩
    · have h3f : betw (bt s 0) 97 122 = false := by simpa using h3
      rw [isNm_first h3f]
      clear h3
      go_enter Try.func48, Try.ntmps48
      go_wp2_with (go_at_call 49; refine (between_any _ _ _ _).mono ?_; rintro e w ⟨rfl, rfl⟩)
      go_ret
      exact ⟨rfl, rfl⟩
  · have h0f : betw s.size 1 10 = false := by simpa using h0
    rw [isNm_long h0f]
    clear h0
    go_enter Try.func48, Try.ntmps48
    go_wp2_with (go_at_call 49; refine (between_any _ _ _ _).mono ?_; rintro e w ⟨rfl, rfl⟩)
    go_ret
    exact ⟨rfl, rfl⟩

/-- What is wrong with an import by itself. -/
def impOwn (i : Imp) : Int := if (isNm i.mod && isNm i.name) = false then 1 else if isVer i.major i.minor = false then 3 else 0
def Imp.fits (i : Imp) : Prop := i.mod.size ≤ 9223372036854775807 ∧ i.name.size ≤ 9223372036854775807

set_option maxHeartbeats 1000000 in
theorem checkImport_any (i : Imp) (w : World) (hi : i.fits) : Calls Try.prog 19 #[.agg #[.string i.mod, .string i.name, .int .i64 i.major, .int .i64 i.minor]] w fun e w' => e = .returned (.int .i64 (impOwn i)) ∧ Below w.heap.size w w' := by
  obtain ⟨m, n, a, b⟩ := i
  obtain ⟨z1, z2⟩ := hi
  dsimp only at z1 z2 ⊢
  have key : (isNm m = false ∧ impOwn ⟨m, n, a, b⟩ = 1) ∨ (isNm m = true ∧ isNm n = false ∧ impOwn ⟨m, n, a, b⟩ = 1) ∨ (isNm m = true ∧ isNm n = true ∧ betw a 0 255 = false ∧ impOwn ⟨m, n, a, b⟩ = 3) ∨
      (isNm m = true ∧ isNm n = true ∧ betw a 0 255 = true ∧ betw b 0 255 = false ∧ impOwn ⟨m, n, a, b⟩ = 3) ∨ (isNm m = true ∧ isNm n = true ∧ betw a 0 255 = true ∧ betw b 0 255 = true ∧ impOwn ⟨m, n, a, b⟩ = 0) := by
    cases hm : isNm m
    · exact .inl ⟨rfl, by simp [impOwn, hm]⟩
    cases hn : isNm n
    · exact .inr (.inl ⟨rfl, rfl, by simp [impOwn, hn]⟩)
    cases ha : betw a 0 255
    · exact .inr (.inr (.inl ⟨rfl, rfl, rfl, by simp [impOwn, isVer, hm, hn, ha]⟩))
    cases hb : betw b 0 255
    · exact .inr (.inr (.inr (.inl ⟨rfl, rfl, rfl, rfl, by simp [impOwn, isVer, hm, hn, hb]⟩)))
    · exact .inr (.inr (.inr (.inr ⟨rfl, rfl, rfl, rfl, by simp [impOwn, isVer, hm, hn, ha, hb]⟩)))
  generalize impOwn ⟨m, n, a, b⟩ = R at key ⊢
  rcases key with ⟨hm, rfl⟩ | ⟨hm, hn, rfl⟩ | ⟨hm, hn, ha, rfl⟩ | ⟨hm, hn, ha, hb, rfl⟩ | ⟨hm, hn, ha, hb, rfl⟩
  all_goals
    go_enter Try.func19, Try.ntmps19
    go_wp2_with (first
      | (go_at_call 48; refine (isNameR_any _ _ (by assumption)).mono ?_; rintro e w' ⟨rfl, rfl⟩)
      | (go_at_call 49; refine (between_any _ _ _ _).mono ?_; rintro e w' ⟨rfl, rfl⟩))
    go_ret
    exact ⟨rfl, (Below.refl _ _).alloc (Nat.le_refl _) _⟩

end Go.Proofs.Ytaklbnabgcglhab
