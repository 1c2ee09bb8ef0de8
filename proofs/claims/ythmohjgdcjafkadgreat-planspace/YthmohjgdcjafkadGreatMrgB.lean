/- Texts that are laid together. -/
import Derived.Test.YthmohjgdcjafkadGreatMrgA
import Derived.Maps.OwnSet
import Derived.DeepKeys4

/- The contracts of small functions: names, versions, widths. -/
namespace Go.Proofs.YthmohjgdcjafkadGreat
open Go.RowKit Go.PlainAid

set_option maxHeartbeats 400000 in
theorem isLetter_any (c : Int) (w : World) : Calls Tryz.prog 145 #[.int .u8 c] w fun e w' => e = .returned (.bool (betw c 97 122)) ∧ w' = w := by
  by_cases h1 : 97 ≤ c
  · by_cases h2 : c ≤ 122
    · rw [betw_true h1 h2]
      go_enter Tryz.func145, Tryz.ntmps145
      go_wp2
      go_ret
      exact ⟨rfl, rfl⟩
    · rw [betw_false (.inr (by omega))]
      have h3 : decide (c ≤ 122) = false := decide_eq_false h2
      go_enter Tryz.func145, Tryz.ntmps145
      go_wp2
      go_ret
      exact ⟨rfl, rfl⟩
  · rw [betw_false (.inl (by omega))]
    have h3 : decide (97 ≤ c) = false := decide_eq_false h1
    go_enter Tryz.func145, Tryz.ntmps145
    go_wp2
    go_ret
    exact ⟨rfl, rfl⟩

set_option maxHeartbeats 400000 in
theorem isDigit_any (c : Int) (w : World) : Calls Tryz.prog 146 #[.int .u8 c] w fun e w' => e = .returned (.bool (betw c 48 57)) ∧ w' = w := by
  by_cases h1 : 48 ≤ c
  · by_cases h2 : c ≤ 57
    · rw [betw_true h1 h2]
      go_enter Tryz.func146, Tryz.ntmps146
      go_wp2
      go_ret
      exact ⟨rfl, rfl⟩
    · rw [betw_false (.inr (by omega))]
      have h3 : decide (c ≤ 57) = false := decide_eq_false h2
      go_enter Tryz.func146, Tryz.ntmps146
      go_wp2
      go_ret
      exact ⟨rfl, rfl⟩
  · rw [betw_false (.inl (by omega))]
    have h3 : decide (48 ≤ c) = false := decide_eq_false h1
    go_enter Tryz.func146, Tryz.ntmps146
    go_wp2
    go_ret
    exact ⟨rfl, rfl⟩

set_option maxHeartbeats 400000 in
theorem isVersion_any (a b : Int) (w : World) : Calls Tryz.prog 92 #[.int .i64 a, .int .i64 b] w fun e w' => e = .returned (.bool (isVer a b)) ∧ w' = w := by
  have key : isVer a b = (decide (0 ≤ a) && decide (a ≤ 255) && decide (0 ≤ b) && decide (b ≤ 255)) := by unfold isVer betw; simp [Bool.and_assoc]
  rw [key]
  clear key
  by_cases h1 : 0 ≤ a
  · by_cases h2 : a ≤ 255
    · by_cases h3 : 0 ≤ b
      · by_cases h4 : b ≤ 255
        · rw [decide_eq_true h1, decide_eq_true h2, decide_eq_true h3, decide_eq_true h4]
          go_enter Tryz.func92, Tryz.ntmps92
          go_wp2
          go_ret
          exact ⟨rfl, rfl⟩
        · have h5 : decide (b ≤ 255) = false := decide_eq_false h4
          rw [decide_eq_true h1, decide_eq_true h2, decide_eq_true h3, h5]
          go_enter Tryz.func92, Tryz.ntmps92
          go_wp2
          go_ret
          exact ⟨rfl, rfl⟩
      · have h5 : decide (0 ≤ b) = false := decide_eq_false h3
        rw [decide_eq_true h1, decide_eq_true h2, h5]
        go_enter Tryz.func92, Tryz.ntmps92
        go_wp2
        go_ret
        exact ⟨rfl, rfl⟩
    · have h5 : decide (a ≤ 255) = false := decide_eq_false h2
      rw [decide_eq_true h1, h5]
      go_enter Tryz.func92, Tryz.ntmps92
      go_wp2
      go_ret
      exact ⟨rfl, rfl⟩
  · have h5 : decide (0 ≤ a) = false := decide_eq_false h1
    rw [h5]
    go_enter Tryz.func92, Tryz.ntmps92
    go_wp2
    go_ret
    exact ⟨rfl, rfl⟩

theorem width_cases (k : Int) : (k = 1 ∧ width k = 4) ∨ (k = 2 ∧ width k = 4) ∨ (k = 3 ∧ width k = 2) ∨ (k = 4 ∧ width k = 2) ∨ (k = 5 ∧ width k = 3) ∨ (k ≠ 1 ∧ k ≠ 2 ∧ k ≠ 3 ∧ k ≠ 4 ∧ k ≠ 5 ∧ width k = 0) := by
  by_cases h1 : k = 1
  · subst h1; exact .inl ⟨rfl, by decide⟩
  by_cases h2 : k = 2
  · subst h2; exact .inr (.inl ⟨rfl, by decide⟩)
  by_cases h3 : k = 3
  · subst h3; exact .inr (.inr (.inl ⟨rfl, by decide⟩))
  by_cases h4 : k = 4
  · subst h4; exact .inr (.inr (.inr (.inl ⟨rfl, by decide⟩)))
  by_cases h5 : k = 5
  · subst h5; exact .inr (.inr (.inr (.inr (.inl ⟨rfl, by decide⟩))))
  · refine .inr (.inr (.inr (.inr (.inr ⟨h1, h2, h3, h4, h5, ?_⟩))))
    unfold width
    rw [if_neg (by omega), if_neg (by omega), if_neg h5]

set_option maxHeartbeats 400000 in
theorem patched_any (k : Int) (w : World) : Calls Tryz.prog 147 #[.int .i64 k] w fun e w' => e = .returned (.int .i64 (width k)) ∧ w' = w := by
  rcases width_cases k with ⟨rfl, h⟩ | ⟨rfl, h⟩ | ⟨rfl, h⟩ | ⟨rfl, h⟩ | ⟨rfl, h⟩ | ⟨h1, h2, h3, h4, h5, h⟩
  all_goals rw [h]; clear h
  case inr.inr.inr.inr.inr =>
    have e1 : (k == 1) = false := beq_eq_false_iff_ne.2 h1
    have e2 : (k == 2) = false := beq_eq_false_iff_ne.2 h2
    have e3 : (k == 3) = false := beq_eq_false_iff_ne.2 h3
    have e4 : (k == 4) = false := beq_eq_false_iff_ne.2 h4
    have e5 : (k == 5) = false := beq_eq_false_iff_ne.2 h5
    clear h1 h2 h3 h4 h5
    go_enter Tryz.func147, Tryz.ntmps147
    go_wp2
    go_ret
    exact ⟨rfl, rfl⟩
  all_goals
    go_enter Tryz.func147, Tryz.ntmps147
    go_wp2
    go_ret
    exact ⟨rfl, rfl⟩

set_option maxHeartbeats 400000 in
theorem widthOf_any (k : Int) (w : World) : Calls Tryz.prog 16 #[.int .i64 k] w fun e w' => e = .returned (.int .i64 (width k)) ∧ w' = w := by
  rcases width_cases k with ⟨rfl, h⟩ | ⟨rfl, h⟩ | ⟨rfl, h⟩ | ⟨rfl, h⟩ | ⟨rfl, h⟩ | ⟨h1, h2, h3, h4, h5, h⟩
  all_goals rw [h]; clear h
  case inr.inr.inr.inr.inr =>
    have e1 : (k == 1) = false := beq_eq_false_iff_ne.2 h1
    have e2 : (k == 2) = false := beq_eq_false_iff_ne.2 h2
    have e3 : (k == 3) = false := beq_eq_false_iff_ne.2 h3
    have e4 : (k == 4) = false := beq_eq_false_iff_ne.2 h4
    have e5 : (k == 5) = false := beq_eq_false_iff_ne.2 h5
    clear h1 h2 h3 h4 h5
    go_enter Tryz.func16, Tryz.ntmps16
    go_wp2
    go_ret
    exact ⟨rfl, rfl⟩
  all_goals
    go_enter Tryz.func16, Tryz.ntmps16
    go_wp2
    go_ret
    exact ⟨rfl, rfl⟩

set_option maxHeartbeats 1000000 in
theorem isName_any (s : ByteArray) (w : World) (hs : s.size ≤ 9223372036854775807) : Calls Tryz.prog 110 #[.string s] w fun e w' => e = .returned (.bool (isNm s)) ∧ w' = w := by
  by_cases h1 : (1 : Int) ≤ s.size
  · by_cases h2 : (s.size : Int) ≤ 10
    · have hbs := get_bt s
      have hbt := betw_true h1 h2
      by_cases h3 : betw (bt s 0) 97 122 = true
      · go_enter Tryz.func110, Tryz.ntmps110
        go_wp2_with (go_at_call 145; refine (isLetter_any _ _).mono ?_; rintro e w ⟨rfl, rfl⟩)
        go_loop [21] (fun i => ∃ k : Nat, k ≤ s.size ∧ i = .int .i64 k ∧ Hid (okFrom s k = true)) (fun i => s.size - (intOf i).toNat)
        case atStart => exact ⟨0, Nat.zero_le _, rfl, by show okFrom s 0 = true; rfl⟩
        case round =>
          obtain ⟨k, hk, rfl, HO⟩ := hrel
          by_cases hlt : k < s.size
          · by_cases hc : okc (bt s k) = true
            · have HO2 : Hid (okFrom s (k + 1) = true) := by show okFrom s (k + 1) = true; rw [okFrom_succ, HO.out, hc]; rfl
              have parts : betw (bt s k) 97 122 = true ∨ (betw (bt s k) 97 122 = false ∧ (betw (bt s k) 48 57 = true ∨ (betw (bt s k) 48 57 = false ∧ (bt s k != 95) = false))) := by
                unfold okc at hc
                cases ha : betw (bt s k) 97 122
                · cases hb : betw (bt s k) 48 57
                  · rw [ha, hb] at hc
                    refine .inr ⟨rfl, .inr ⟨rfl, ?_⟩⟩
                    simpa using hc
                  · exact .inr ⟨rfl, .inl rfl⟩
                · exact .inl rfl
              clear hc
              rcases parts with p1 | ⟨p1, p2 | ⟨p2, p3⟩⟩
              all_goals
                go_wp2_with (first
                  | (go_at_call 145; refine (isLetter_any _ _).mono ?_; rintro e w ⟨rfl, rfl⟩)
                  | (go_at_call 146; refine (isDigit_any _ _).mono ?_; rintro e w ⟨rfl, rfl⟩))
                go_round
                case rel => exact ⟨k + 1, by omega, by go_num, HO2⟩
                case measure => simp [intOf]; omega
            · have hcf : okc (bt s k) = false := by simpa using hc
              have HF : Hid (isNm s = false) := isNm_other (okFrom_false s k s.size hlt hcf)
              have p1 : betw (bt s k) 97 122 = false := by unfold okc at hcf; rw [Bool.or_eq_false_iff] at hcf; exact hcf.1
              have p2 : betw (bt s k) 48 57 = false := by unfold okc at hcf; rw [Bool.or_eq_false_iff, Bool.or_eq_false_iff] at hcf; exact hcf.2.1
              have p3 : (bt s k != 95) = true := by unfold okc at hcf; rw [Bool.or_eq_false_iff, Bool.or_eq_false_iff] at hcf; simpa using hcf.2.2
              clear hc hcf
              go_wp2_with (first
                | (go_at_call 145; refine (isLetter_any _ _).mono ?_; rintro e w ⟨rfl, rfl⟩)
                | (go_at_call 146; refine (isDigit_any _ _).mono ?_; rintro e w ⟨rfl, rfl⟩))
              go_ret
              exact ⟨by rw [HF.out]; rfl, rfl⟩
          · obtain rfl : k = s.size := by omega
            have HF : Hid (isNm s = true) := isNm_yes hbt h3 HO.out
            go_wp2
            go_ret
            exact ⟨by rw [HF.out]; rfl, rfl⟩
      · have h3f : betw (bt s 0) 97 122 = false := by simpa using h3
        rw [isNm_first h3f]
        clear h3
        go_enter Tryz.func110, Tryz.ntmps110
        go_wp2_with (go_at_call 145; refine (isLetter_any _ _).mono ?_; rintro e w ⟨rfl, rfl⟩)
        go_ret
        exact ⟨rfl, rfl⟩
    · rw [isNm_long (betw_false (.inr (by omega)))]
      have hd : decide ((s.size : Int) < 1) = false := decide_eq_false (by omega)
      have h2' : (10 : Int) < s.size := by omega
      go_enter Tryz.func110, Tryz.ntmps110
      go_wp2
      go_ret
      exact ⟨rfl, rfl⟩
  · rw [isNm_long (betw_false (.inl (by omega)))]
    have h1' : (s.size : Int) < 1 := by omega
    go_enter Tryz.func110, Tryz.ntmps110
    go_wp2
    go_ret
    exact ⟨rfl, rfl⟩

end Go.Proofs.YthmohjgdcjafkadGreat

/- The contracts of the document's names and imports. -/
namespace Go.Proofs.YthmohjgdcjafkadGreat
open Go.RowKit Go.PlainAid

theorem wrap_bt (s : ByteArray) (k : Nat) : wrap64 (bt s k) = bt s k := by
  have a := bt_nonneg s k
  have b := bt_le s k
  unfold wrap64; omega

theorem okc_parts {c : Int} (hc : okc c = true) : betw c 97 122 = true ∨ (betw c 97 122 = false ∧ (betw c 48 57 = true ∨ (betw c 48 57 = false ∧ (c != 95) = false))) := by
  unfold okc at hc
  cases ha : betw c 97 122
  · cases hb : betw c 48 57
    · rw [ha, hb] at hc
      refine .inr ⟨rfl, .inr ⟨rfl, ?_⟩⟩
      simpa using hc
    · exact .inr ⟨rfl, .inl rfl⟩
  · exact .inl rfl
theorem okc_none {c : Int} (hcf : okc c = false) : betw c 97 122 = false ∧ betw c 48 57 = false ∧ (c != 95) = true := by
  unfold okc at hcf
  rw [Bool.or_eq_false_iff, Bool.or_eq_false_iff] at hcf
  exact ⟨hcf.1, hcf.2.1, by simpa using hcf.2.2⟩

set_option maxHeartbeats 1000000 in
theorem isNameR_any (s : ByteArray) (w : World) (hs : s.size ≤ 9223372036854775807) : Calls Tryz.prog 131 #[.string s] w fun e w' => e = .returned (.bool (isNm s)) ∧ w' = w := by
  by_cases h0 : betw s.size 1 10 = true
  · obtain ⟨h1, h2⟩ := betw_iff.1 h0
    have hbs := get_bt s
    have w0 := wrap_bt s 0
    by_cases h3 : betw (bt s 0) 97 122 = true
    · go_enter Tryz.func131, Tryz.ntmps131
      go_wp2_with (go_at_call 81; refine (between_any _ _ _ _).mono ?_; rintro e w ⟨rfl, rfl⟩)
      go_loop [3] (fun i => ∃ k : Nat, k ≤ s.size ∧ i = .int .i64 k ∧ Hid (okFrom s k = true)) (fun i => s.size - (intOf i).toNat)
      case atStart => exact ⟨0, Nat.zero_le _, rfl, by show okFrom s 0 = true; rfl⟩
      case round =>
        obtain ⟨k, hk, rfl, HO⟩ := hrel
        have wk := wrap_bt s k
        by_cases hlt : k < s.size
        · by_cases hc : okc (bt s k) = true
          · have HO2 : Hid (okFrom s (k + 1) = true) := by show okFrom s (k + 1) = true; rw [okFrom_succ, HO.out, hc]; rfl
            have parts := okc_parts hc
            clear hc
            rcases parts with p1 | ⟨p1, p2 | ⟨p2, p3⟩⟩
            all_goals
              go_wp2_with (go_at_call 81; refine (between_any _ _ _ _).mono ?_; rintro e w ⟨rfl, rfl⟩)
              go_round
              case rel => exact ⟨k + 1, by omega, by go_num, HO2⟩
              case measure => simp [intOf]; omega
          · have hcf : okc (bt s k) = false := by simpa using hc
            have HF : Hid (isNm s = false) := isNm_other (okFrom_false s k s.size hlt hcf)
            obtain ⟨p1, p2, p3⟩ := okc_none hcf
            clear hc hcf
            go_wp2_with (go_at_call 81; refine (between_any _ _ _ _).mono ?_; rintro e w ⟨rfl, rfl⟩)
            go_ret
            exact ⟨by rw [HF.out]; rfl, rfl⟩
        · obtain rfl : k = s.size := by omega
          have HF : Hid (isNm s = true) := isNm_yes h0 h3 HO.out
          go_wp2
          go_ret
          exact ⟨by rw [HF.out]; rfl, rfl⟩
    · have h3f : betw (bt s 0) 97 122 = false := by simpa using h3
      rw [isNm_first h3f]
      clear h3
      go_enter Tryz.func131, Tryz.ntmps131
      go_wp2_with (go_at_call 81; refine (between_any _ _ _ _).mono ?_; rintro e w ⟨rfl, rfl⟩)
      go_ret
      exact ⟨rfl, rfl⟩
  · have h0f : betw s.size 1 10 = false := by simpa using h0
    rw [isNm_long h0f]
    clear h0
    go_enter Tryz.func131, Tryz.ntmps131
    go_wp2_with (go_at_call 81; refine (between_any _ _ _ _).mono ?_; rintro e w ⟨rfl, rfl⟩)
    go_ret
    exact ⟨rfl, rfl⟩

/-- What is wrong with an import by itself. -/
def impOwn (i : Imp) : Int := if (isNm i.mod && isNm i.name) = false then 1 else if isVer i.major i.minor = false then 3 else 0
def Imp.fits (i : Imp) : Prop := i.mod.size ≤ 9223372036854775807 ∧ i.name.size ≤ 9223372036854775807

set_option maxHeartbeats 1000000 in
theorem checkImport_any (i : Imp) (w : World) (hi : i.fits) : Calls Tryz.prog 161 #[.agg #[.string i.mod, .string i.name, .int .i64 i.major, .int .i64 i.minor]] w fun e w' => e = .returned (.int .i64 (impOwn i)) ∧ Below w.heap.size w w' := by
  obtain ⟨m, n, a, b⟩ := i
  obtain ⟨z1, z2⟩ := hi
  dsimp only at z1 z2 ⊢
  have key : (isNm m = false ∧ impOwn ⟨m, n, a, b⟩ = 1) ∨ (isNm m = true ∧ isNm n = false ∧ impOwn ⟨m, n, a, b⟩ = 1) ∨ (isNm m = true ∧ isNm n = true ∧ betw a 0 255 = false ∧ impOwn ⟨m, n, a, b⟩ = 3) ∨
      (isNm m = true ∧ isNm n = true ∧ betw a 0 255 = true ∧ betw b 0 255 = false ∧ impOwn ⟨m, n, a, b⟩ = 3) ∨ (isNm m = true ∧ isNm n = true ∧ betw a 0 255 = true ∧ betw b 0 255 = true ∧ impOwn ⟨m, n, a, b⟩ = 0) := by
    cases hm : isNm m
    · exact .inl ⟨rfl, by simp [impOwn, hm]⟩
    cases hn : isNm n
    · exact .inr (.inl ⟨rfl, rfl, by simp [impOwn, hn]⟩)
    cases ha : betw a 0 255
    · exact .inr (.inr (.inl ⟨rfl, rfl, rfl, by simp [impOwn, isVer, hm, hn, ha]⟩))
    cases hb : betw b 0 255
    · exact .inr (.inr (.inr (.inl ⟨rfl, rfl, rfl, rfl, by simp [impOwn, isVer, hm, hn, hb]⟩)))
    · exact .inr (.inr (.inr (.inr ⟨rfl, rfl, rfl, rfl, by simp [impOwn, isVer, hm, hn, ha, hb]⟩)))
  generalize impOwn ⟨m, n, a, b⟩ = R at key ⊢
  rcases key with ⟨hm, rfl⟩ | ⟨hm, hn, rfl⟩ | ⟨hm, hn, ha, rfl⟩ | ⟨hm, hn, ha, hb, rfl⟩ | ⟨hm, hn, ha, hb, rfl⟩
  all_goals
    go_enter Tryz.func161, Tryz.ntmps161
    go_wp2_with (first
      | (go_at_call 131; refine (isNameR_any _ _ (by assumption)).mono ?_; rintro e w' ⟨rfl, rfl⟩)
      | (go_at_call 81; refine (between_any _ _ _ _).mono ?_; rintro e w' ⟨rfl, rfl⟩))
    go_ret
    exact ⟨rfl, (Below.refl _ _).alloc (Nat.le_refl _) _⟩

end Go.Proofs.YthmohjgdcjafkadGreat

/- Modules in memory. -/
namespace Go.Proofs.YthmohjgdcjafkadGreat
open Go.RowKit Go.PlainAid

/-- A slice of things of so many cells each: below block n₀. -/
def RowOf {α : Type} (sz : Nat) (cells : α → Nat → Value) (n₀ : Nat) (W : World) (v : Value) (l : List α) : Prop :=
  ∃ a cap, v = .slice a l.length cap ∧ l.length ≤ 9223372036854775807 ∧ (l = [] ∨ ∃ b off, a = some ⟨b, off, none⟩ ∧ b < n₀ ∧ ∀ j x, l[j]? = some x → ∀ i, i < sz → W.cell? ⟨b, off + j * sz + i, none⟩ = some (cells x i))

theorem RowOf.below {α : Type} {sz : Nat} {cells : α → Nat → Value} {n₀ : Nat} {W W' : World} {v : Value} {l : List α} (h : RowOf sz cells n₀ W v l) (hb : Below n₀ W W') : RowOf sz cells n₀ W' v l := by
  obtain ⟨a, cap, e, hl, h | ⟨b, off, e2, hlt, hc⟩⟩ := h
  · exact ⟨a, cap, e, hl, .inl h⟩
  · exact ⟨a, cap, e, hl, .inr ⟨b, off, e2, hlt, fun j x hj i hi => (hb.cell (p := ⟨b, off + j * sz + i, none⟩) hlt).trans (hc j x hj i hi)⟩⟩

theorem RowOf.more {α : Type} {sz : Nat} {cells : α → Nat → Value} {n₀ n₁ : Nat} {W : World} {v : Value} {l : List α} (h : RowOf sz cells n₀ W v l) (hn : n₀ ≤ n₁) : RowOf sz cells n₁ W v l := by
  obtain ⟨a, cap, e, hl, h | ⟨b, off, e2, hlt, hc⟩⟩ := h
  · exact ⟨a, cap, e, hl, .inl h⟩
  · exact ⟨a, cap, e, hl, .inr ⟨b, off, e2, by omega, hc⟩⟩

def Exp.cell (e : Exp) : Nat → Value
  | 0 => .string e.name
  | _ => .int .i64 e.pos
def Imp.cell (i : Imp) : Nat → Value
  | 0 => .string i.mod
  | 1 => .string i.name
  | 2 => .int .i64 i.major
  | _ => .int .i64 i.minor
def Pat.cell (p : Pat) : Nat → Value
  | 0 => .int .i64 p.kind
  | 1 => .int .i64 p.pos
  | 2 => .int .i64 p.sym
  | _ => .int .i64 p.add

theorem drop_at {α : Type} {l : List α} {k : Nat} {x : α} (h : l[k]? = some x) : l.drop k = x :: l.drop (k + 1) := by
  obtain ⟨hk, rfl⟩ := List.getElem?_eq_some_iff.1 h
  exact List.drop_eq_getElem_cons hk

theorem patErr_cases (bytes imports E K A S D : Int) : (width K = 0 ∧ patErr bytes imports E ⟨K, A, S, D⟩ = 7) ∨
    (width K ≠ 0 ∧ ((S < -1 ∧ patErr bytes imports E ⟨K, A, S, D⟩ = 3) ∨ (-1 ≤ S ∧ imports ≤ S ∧ patErr bytes imports E ⟨K, A, S, D⟩ = 3) ∨ (-1 ≤ S ∧ S < imports ∧ D < 0 ∧ patErr bytes imports E ⟨K, A, S, D⟩ = 3) ∨ (-1 ≤ S ∧ S < imports ∧ 0 ≤ D ∧ 65535 < D ∧ patErr bytes imports E ⟨K, A, S, D⟩ = 3) ∨
      (-1 ≤ S ∧ S < imports ∧ 0 ≤ D ∧ D ≤ 65535 ∧ ((A < 0 ∧ patErr bytes imports E ⟨K, A, S, D⟩ = 3) ∨ (0 ≤ A ∧ bytes - width K < A ∧ patErr bytes imports E ⟨K, A, S, D⟩ = 3) ∨ (0 ≤ A ∧ A ≤ bytes - width K ∧ A < E ∧ patErr bytes imports E ⟨K, A, S, D⟩ = 4) ∨
        (0 ≤ A ∧ A ≤ bytes - width K ∧ E ≤ A ∧ patErr bytes imports E ⟨K, A, S, D⟩ = 0))))) := by
  unfold patErr
  dsimp only
  by_cases h0 : width K = 0
  · exact .inl ⟨h0, by rw [if_pos h0]⟩
  refine .inr ⟨h0, ?_⟩
  rw [if_neg h0]
  by_cases h1 : S < -1
  · exact .inl ⟨h1, by rw [betw_false (n := S) (.inl h1)]; rfl⟩
  by_cases h2 : imports ≤ S
  · exact .inr (.inl ⟨by omega, h2, by rw [betw_false (n := S) (.inr (by omega))]; rfl⟩)
  have hS : betw S (-1) (imports - 1) = true := betw_true (by omega) (by omega)
  by_cases h3 : D < 0
  · exact .inr (.inr (.inl ⟨by omega, by omega, h3, by rw [hS, betw_false (n := D) (.inl h3)]; rfl⟩))
  by_cases h4 : 65535 < D
  · exact .inr (.inr (.inr (.inl ⟨by omega, by omega, by omega, h4, by rw [hS, betw_false (n := D) (.inr h4)]; rfl⟩)))
  have hD : betw D 0 65535 = true := betw_true (by omega) (by omega)
  refine .inr (.inr (.inr (.inr ⟨by omega, by omega, by omega, by omega, ?_⟩)))
  rw [hS, hD]
  by_cases h5 : A < 0
  · exact .inl ⟨h5, by rw [betw_false (n := A) (.inl h5)]; rfl⟩
  by_cases h6 : bytes - width K < A
  · exact .inr (.inl ⟨by omega, h6, by rw [betw_false (n := A) (.inr h6)]; rfl⟩)
  have hA : betw A 0 (bytes - width K) = true := betw_true (by omega) (by omega)
  rw [hA]
  by_cases h7 : A < E
  · exact .inr (.inr (.inl ⟨by omega, by omega, h7, by rw [if_pos h7]; rfl⟩))
  · exact .inr (.inr (.inr ⟨by omega, by omega, by omega, by rw [if_neg h7]; rfl⟩))

theorem width_bd (k : Int) : 0 ≤ width k ∧ width k ≤ 4 := by
  rcases width_cases k with ⟨_, h⟩ | ⟨_, h⟩ | ⟨_, h⟩ | ⟨_, h⟩ | ⟨_, h⟩ | ⟨_, _, _, _, _, h⟩ <;> omega

set_option maxHeartbeats 2000000 in
theorem wrongPatches_any (l : List Pat) (v : Value) (bytes imports : Int) (w : World) (hrow : RowOf 4 Pat.cell w.heap.size w v l) (hb0 : 0 ≤ bytes) (hb1 : bytes ≤ 140737488351232) (hl : l.length ≤ 12) :
    Calls Tryz.prog 112 #[v, .int .i64 bytes, .int .i64 imports] w fun e w' => e = .returned (.int .i64 (chkPats bytes imports 0 l)) ∧ Below w.heap.size w w' := by
  obtain ⟨a, cap, rfl, _, hrow⟩ := hrow
  go_enter Tryz.func112, Tryz.ntmps112
  go_wp2
  go_loopw [7, 13] (fun en i wr => ∃ (k : Nat) (E : Int), k ≤ l.length ∧ i = .int .i64 k ∧ en = .int .i64 E ∧ 0 ≤ E ∧ E ≤ 140737488351232 ∧ Hid (chkPats bytes imports 0 l = chkPats bytes imports E (l.drop k)) ∧ Below w.heap.size w wr) (fun _ i _ => l.length - (intOf i).toNat)
  case atStart => exact ⟨0, 0, Nat.zero_le _, rfl, rfl, by omega, by omega, by show chkPats bytes imports 0 l = chkPats bytes imports 0 (l.drop 0); rfl, Below.refl _ _⟩
  case round =>
    obtain ⟨k, E, hk, rfl, rfl, e0, e1, HC, B⟩ := hrel
    by_cases hlt : k < l.length
    · obtain ⟨p, hp⟩ : ∃ p, l[k]? = some p := ⟨_, List.getElem?_eq_getElem hlt⟩
      rcases hrow with h | ⟨b, off, rfl, hbn, hcells⟩
      · subst h; simp at hlt
      obtain ⟨K, A, S, D⟩ := p
      have c0 := (B.cell (p := ⟨b, off + k * 4 + 0, none⟩) hbn).trans (hcells k _ hp 0 (by omega))
      have c1 := (B.cell (p := ⟨b, off + k * 4 + 1, none⟩) hbn).trans (hcells k _ hp 1 (by omega))
      have c2 := (B.cell (p := ⟨b, off + k * 4 + 2, none⟩) hbn).trans (hcells k _ hp 2 (by omega))
      have c3 := (B.cell (p := ⟨b, off + k * 4 + 3, none⟩) hbn).trans (hcells k _ hp 3 (by omega))
      dsimp only [Pat.cell] at c0 c1 c2 c3
      rw [Nat.add_zero] at c0
      have HR : Hid (chkPats bytes imports 0 l = if patErr bytes imports E ⟨K, A, S, D⟩ = 0 then chkPats bytes imports (A + width K) (l.drop (k + 1)) else patErr bytes imports E ⟨K, A, S, D⟩) := by
        show chkPats bytes imports 0 l = _
        rw [HC.out, drop_at hp]; rfl
      have key := patErr_cases bytes imports E K A S D
      have hwd := width_bd K
      have PW : Hid (∀ w, Calls Tryz.prog 147 #[.int .i64 K] w fun e w' => e = .returned (.int .i64 (width K)) ∧ w' = w) := fun w => patched_any K w
      clear HC hcells hp
      generalize patErr bytes imports E ⟨K, A, S, D⟩ = R at key HR
      generalize width K = Wd at *
      rcases key with ⟨h0, rfl⟩ | ⟨h0, ⟨h1, rfl⟩ | ⟨h1, h2, rfl⟩ | ⟨h1, h2, h3, rfl⟩ | ⟨h1, h2, h3, h4, rfl⟩ | ⟨h1, h2, h3, h4, ⟨h5, rfl⟩ | ⟨h5, h6, rfl⟩ | ⟨h5, h6, h7, rfl⟩ | ⟨h5, h6, h7, rfl⟩⟩⟩
      case inl =>
        subst h0
        go_wp2_with (go_at_call 147; refine (PW.out _).mono ?_; rintro e w' ⟨rfl, rfl⟩)
        go_ret
        exact ⟨by rw [HR.out]; rfl, B.alloc B.size _⟩
      all_goals
        have h0' : (Wd == 0) = false := beq_eq_false_iff_ne.2 h0
        obtain ⟨hw0, hw4⟩ := hwd
      all_goals
        go_wp2_with (go_at_call 147; refine (PW.out _).mono ?_; rintro e w' ⟨rfl, rfl⟩)
      case roundEnd =>
        exact ⟨⟨k + 1, A + Wd, by omega, by go_num, rfl, by omega, by omega, HR.out, B.alloc B.size _⟩, by simp [intOf]; omega⟩
      all_goals
        go_ret
        exact ⟨by rw [HR.out]; rfl, B.alloc B.size _⟩
    · obtain rfl : k = l.length := by omega
      have HZ : Hid (chkPats bytes imports 0 l = 0) := by
        show chkPats bytes imports 0 l = 0
        rw [HC.out, List.drop_length]; rfl
      go_wp2
      go_ret
      exact ⟨by rw [HZ.out]; rfl, B⟩

end Go.Proofs.YthmohjgdcjafkadGreat

/- The contract of module.wrongExports. -/
namespace Go.Proofs.YthmohjgdcjafkadGreat
open Go.RowKit Go.PlainAid Go.Maps Go.WideMaps

theorem lawS : Keyed Tryz.prog 9 := string_keyed Tryz.underlying9
theorem zeroI (w : World) : (zeroValue 3).run Tryz.prog w = .ok (.int .i64 0) w := by kernel_rfl

theorem expErr_cases (most : Int) (met : List ByteArray) (n : ByteArray) (p : Int) :
    (isNm n = false ∧ expErr most met ⟨n, p⟩ = 1) ∨ (isNm n = true ∧ (met.any fun x => x == n) = true ∧ expErr most met ⟨n, p⟩ = 6) ∨
    (isNm n = true ∧ (met.any fun x => x == n) = false ∧ p < 0 ∧ expErr most met ⟨n, p⟩ = 3) ∨ (isNm n = true ∧ (met.any fun x => x == n) = false ∧ 0 ≤ p ∧ most ≤ p ∧ expErr most met ⟨n, p⟩ = 3) ∨
    (isNm n = true ∧ (met.any fun x => x == n) = false ∧ 0 ≤ p ∧ p < most ∧ expErr most met ⟨n, p⟩ = 0) := by
  unfold expErr
  dsimp only
  cases h1 : isNm n
  · exact .inl ⟨rfl, by simp⟩
  cases h2 : met.any fun x => x == n
  · by_cases h3 : p < 0
    · exact .inr (.inr (.inl ⟨rfl, rfl, h3, by rw [betw_false (n := p) (.inl h3)]; simp⟩))
    by_cases h4 : most ≤ p
    · exact .inr (.inr (.inr (.inl ⟨rfl, rfl, by omega, h4, by rw [betw_false (n := p) (.inr (by omega))]; simp⟩)))
    · exact .inr (.inr (.inr (.inr ⟨rfl, rfl, by omega, by omega, by rw [betw_true (n := p) (by omega) (by omega)]; simp⟩)))
  · exact .inr (.inl ⟨rfl, rfl, by simp⟩)

theorem ba_beq (x y : ByteArray) : (x == y) = true ↔ x = y := Go.MapKept.bytes_beq x y
theorem ba_bne {x y : ByteArray} (h : x ≠ y) : (x == y) = false := by
  cases e : x == y
  · rfl
  · exact absurd ((ba_beq x y).1 e) h
theorem ba_self (x : ByteArray) : (x == x) = true := (ba_beq x x).2 rfl
theorem lit_inj {x y : ByteArray} (h : Lit.string x.data.toList = Lit.string y.data.toList) : x = y := by
  injection h with h
  exact ByteArray.ext (Array.toList_inj.1 h)

/-- The map has just these names. -/
def HasNames (D : DataW Unit) (met : List ByteArray) : Prop := ∀ x : ByteArray, Maps.has D (.string x.data.toList) = met.any fun y => y == x
theorem HasNames.none : HasNames (.map []) [] := fun _ => rfl
theorem HasNames.put {D : DataW Unit} {met : List ByteArray} (h : HasNames D met) (hD : IsMap D) (n : ByteArray) (d : DataW Unit) : HasNames (D.put (.string n.data.toList) d) (met ++ [n]) := by
  intro x
  rw [List.any_append]
  by_cases e : x = n
  · subst e
    rw [has_put_same hD (show WideAt.IsKeyLit (.string x.data.toList) from trivial)]
    simp [ba_self]
  · rw [has_put_other (fun he => e (lit_inj he)), h x]
    have : (n == x) = false := ba_bne (fun he => e he.symm)
    simp [this]

set_option maxRecDepth 100000 in
set_option maxHeartbeats 2000000 in
theorem wrongExports_any (l : List Exp) (v : Value) (bytes : Int) (w : World) (hrow : RowOf 2 Exp.cell w.heap.size w v l) (hfit : ∀ e ∈ l, e.name.size ≤ 9223372036854775807) (hl : l.length ≤ 8) :
    Calls Tryz.prog 93 #[v, .int .i64 bytes] w fun e w' => e = .returned (.int .i64 (chkExps bytes [] l)) ∧ Below w.heap.size w w' := by
  obtain ⟨a, cap, rfl, _, hrow⟩ := hrow
  have hmm := @run_makeMap Tryz.prog
  go_enter Tryz.func93, Tryz.ntmps93
  go_wp2
  go_loopw [13] (fun i wr => ∃ (k : Nat) (D : DataW Unit), k ≤ l.length ∧ i = .int .i64 k ∧ wr.ownsMap Tryz.prog 9 (plainElem Tryz.prog 3) w.heap.size k D ∧ HasNames D ((l.take k).map (·.name)) ∧ Hid (chkExps bytes [] l = chkExps bytes ((l.take k).map (·.name)) (l.drop k)) ∧ Below w.heap.size w wr) (fun i _ => l.length - (intOf i).toNat)
  case atStart => exact ⟨0, .map [], Nat.zero_le _, rfl, World.ownsMap_made _ _ _ _, HasNames.none, by show chkExps bytes [] l = chkExps bytes [] (l.drop 0); rfl, (Below.refl _ _).alloc (Nat.le_refl _) _⟩
  case round =>
    obtain ⟨k, D, hk, rfl, hown, hD, HC, B⟩ := hrel
    by_cases hlt : k < l.length
    · obtain ⟨p, hp⟩ : ∃ p, l[k]? = some p := ⟨_, List.getElem?_eq_getElem hlt⟩
      rcases hrow with h | ⟨b, off, rfl, hbn, hcells⟩
      · subst h; simp at hlt
      obtain ⟨n, A⟩ := p
      have hn := hfit _ (List.mem_of_getElem? hp)
      dsimp only at hn
      have c0 := (B.cell (p := ⟨b, off + k * 2 + 0, none⟩) hbn).trans (hcells k _ hp 0 (by omega))
      have c1 := (B.cell (p := ⟨b, off + k * 2 + 1, none⟩) hbn).trans (hcells k _ hp 1 (by omega))
      dsimp only [Exp.cell] at c0 c1
      rw [Nat.add_zero] at c0
      have hkey : keyOf Tryz.prog 9 (.string n) = some (.string n.data.toList) := keyOf_string_mk Tryz.underlying9 hn
      have htk : (l.take (k + 1)).map (·.name) = (l.take k).map (·.name) ++ [n] := by rw [List.take_add_one, hp]; simp
      have HR : Hid (chkExps bytes [] l = if expErr bytes ((l.take k).map (·.name)) ⟨n, A⟩ = 0 then chkExps bytes ((l.take (k + 1)).map (·.name)) (l.drop (k + 1)) else expErr bytes ((l.take k).map (·.name)) ⟨n, A⟩) := by
        show chkExps bytes [] l = _
        rw [HC.out, drop_at hp, htk]; rfl
      have key := expErr_cases bytes ((l.take k).map (·.name)) n A
      have hhas := hD n
      have hput : ∀ d, HasNames (D.put (.string n.data.toList) d) ((l.take (k + 1)).map (·.name)) := fun d => by rw [htk]; exact hD.put hown.isMap n d
      clear HC hcells hp htk hD
      have HPUT : Hid (∀ d, HasNames (D.put (.string n.data.toList) d) ((l.take (k + 1)).map (·.name))) := hput
      clear hput
      generalize expErr bytes ((l.take k).map (·.name)) ⟨n, A⟩ = R at key HR
      generalize ((l.take k).map (·.name)).any (fun x => x == n) = T at key hhas
      rcases key with ⟨h1, rfl⟩ | ⟨h1, rfl, rfl⟩ | ⟨h1, rfl, h2, rfl⟩ | ⟨h1, rfl, h2, h3, rfl⟩ | ⟨h1, rfl, h2, h3, rfl⟩
      all_goals
        go_wp2_with (first
          | (at_lookup; refine wpList_lookup_own_ok_int _ rfl _ _ 132 rfl 9 3 .i64 lawS Tryz.underlying132 Tryz.underlying3 (zeroI _) w.heap.size k D rfl (hown.kept (World.grownBy_alloc _ _ none) (by simp)) _ _ rfl hkey ?_; intro c hat hwc; clear hat hwc)
          | (at_mapUpdate; refine wpList_mapUpdate_own _ rfl _ _ _ 132 rfl 9 3 lawS Tryz.underlying132 _ w.heap.size k _ rfl (hown.kept (World.grownBy_alloc _ _ none) (by simp)) (by unfold maxLen; omega) _ _ _ rfl rfl hkey _ [] (plainElem_int Tryz.underlying3 (WalkArith.wf_i64 (by omega))) ?_; intro w1 hown1 hgrow1)
          | (go_at_call 110; refine (isName_any _ _ (by assumption)).mono ?_; rintro e w' ⟨rfl, rfl⟩))
      case roundEnd =>
        exact ⟨⟨k + 1, _, by omega, by go_num, hown1, HPUT.out _, HR.out, (B.alloc B.size _).grown hgrow1 (by simp; have := B.size; omega) (fun j hj => by cases hj; exact Nat.le_refl _)⟩, by simp [intOf]; omega⟩
      all_goals
        go_ret
        exact ⟨by rw [HR.out]; rfl, B.alloc B.size _⟩
    · obtain rfl : k = l.length := by omega
      have HZ : Hid (chkExps bytes [] l = 0) := by
        show chkExps bytes [] l = 0
        rw [HC.out, List.drop_length]; rfl
      go_wp2
      go_ret
      exact ⟨by rw [HZ.out]; rfl, B⟩

end Go.Proofs.YthmohjgdcjafkadGreat

/- The contract of module.wrongImports. -/
namespace Go.Proofs.YthmohjgdcjafkadGreat
open Go.RowKit Go.PlainAid Go.Maps Go.WideMaps

set_option maxRecDepth 100000

theorem laidOut : laidOutB Tryz.prog = true := by kernel_rfl
theorem lawP : Keyed Tryz.prog 174 := Keyed.of_law (deep_law_laid laidOut (m := 8) (by decide) (of_decide_eq_true (by kernel_rfl)) (by kernel_rfl) (by rw [Tryz.underlying174]))

theorem pair_key (m n : ByteArray) (hm : m.size ≤ 9223372036854775807) (hn : n.size ≤ 9223372036854775807) : ∃ l, keyOf Tryz.prog 174 (.agg #[.string m, .string n]) = some l := by
  have hc : Tryz.prog.cellsOf 174 = 2 := by kernel_rfl
  have hs : Tryz.prog.cellsOf 9 = 1 := by kernel_rfl
  have hk : Tryz.prog.keyType 174 = true := by kernel_rfl
  have hm' : m.size ≤ maxLen := hm
  have hn' : n.size ≤ maxLen := hn
  have e : ∀ d, Tryz.prog.keyLits (d + 1 + 1) 174 [.string m, .string n] = some [.string m.data.toList, .string n.data.toList] := by
    intro d
    simp [Program.keyLits, Tryz.underlying174, Tryz.underlying9, hc, hs, hm', hn']
  unfold keyOf
  rw [Tryz.underlying174]
  simp [hk, Value.formed, Tryz.underlying174, hc, Value.cells]
  exact ⟨_, _, e _, rfl⟩

/-- The map has just these pairs. -/
def HasPairs (D : DataW Unit) (met : List (ByteArray × ByteArray)) : Prop := ∀ m n l, keyOf Tryz.prog 174 (.agg #[.string m, .string n]) = some l → Maps.has D l = met.any fun x => x.1 == m && x.2 == n
theorem HasPairs.none : HasPairs (.map []) [] := fun _ _ _ _ => rfl
theorem HasPairs.put {D : DataW Unit} {met : List (ByteArray × ByteArray)} (h : HasPairs D met) (hD : IsMap D) (m n : ByteArray) (l : Lit) (hl : keyOf Tryz.prog 174 (.agg #[.string m, .string n]) = some l) (d : DataW Unit) : HasPairs (D.put l d) (met ++ [(m, n)]) := by
  intro m' n' l' hl'
  rw [List.any_append]
  by_cases e : l' = l
  · subst e
    have := lawP.inj hl hl'
    injection this with this
    have e2 := congrArg Array.toList this
    simp at e2
    obtain ⟨rfl, rfl⟩ := e2
    rw [has_put_same hD (lawP.key hl)]
    simp [ba_self]
  · rw [has_put_other e, h m' n' l' hl']
    have : (m == m' && n == n') = false := by
      cases e1 : m == m'
      · rfl
      · cases e2 : n == n'
        · rfl
        · rw [ba_beq] at e1 e2
          subst e1; subst e2
          rw [hl] at hl'
          exact absurd (Option.some.inj hl').symm e
    simp [this]

theorem impErr_cases (met : List (ByteArray × ByteArray)) (m n : ByteArray) (a b : Int) :
    (isNm m = false ∧ impErr met ⟨m, n, a, b⟩ = 1) ∨ (isNm m = true ∧ isNm n = false ∧ impErr met ⟨m, n, a, b⟩ = 1) ∨ (isNm m = true ∧ isNm n = true ∧ (met.any fun x => x.1 == m && x.2 == n) = true ∧ impErr met ⟨m, n, a, b⟩ = 6) ∨
    (isNm m = true ∧ isNm n = true ∧ (met.any fun x => x.1 == m && x.2 == n) = false ∧ isVer a b = false ∧ impErr met ⟨m, n, a, b⟩ = 3) ∨ (isNm m = true ∧ isNm n = true ∧ (met.any fun x => x.1 == m && x.2 == n) = false ∧ isVer a b = true ∧ impErr met ⟨m, n, a, b⟩ = 0) := by
  unfold impErr
  dsimp only
  cases h1 : isNm m
  · exact .inl ⟨rfl, by simp⟩
  cases h2 : isNm n
  · exact .inr (.inl ⟨rfl, rfl, by simp⟩)
  cases h3 : met.any fun x => x.1 == m && x.2 == n
  · cases h4 : isVer a b
    · exact .inr (.inr (.inr (.inl ⟨rfl, rfl, rfl, rfl, by simp⟩)))
    · exact .inr (.inr (.inr (.inr ⟨rfl, rfl, rfl, rfl, by simp⟩)))
  · exact .inr (.inr (.inl ⟨rfl, rfl, rfl, by simp⟩))

set_option maxRecDepth 100000 in
set_option maxHeartbeats 2000000 in
theorem wrongImports_any (l : List Imp) (v : Value) (w : World) (hrow : RowOf 4 Imp.cell w.heap.size w v l) (hfit : ∀ e ∈ l, e.fits) (hl : l.length ≤ 6) :
    Calls Tryz.prog 94 #[v] w fun e w' => e = .returned (.int .i64 (chkImps [] l)) ∧ Below w.heap.size w w' := by
  obtain ⟨a, cap, rfl, _, hrow⟩ := hrow
  have hmm := @run_makeMap Tryz.prog
  go_enter Tryz.func94, Tryz.ntmps94
  go_wp2
  go_loopw [12] (fun i wr => ∃ (k : Nat) (D : DataW Unit), k ≤ l.length ∧ i = .int .i64 k ∧ wr.ownsMap Tryz.prog 174 (plainElem Tryz.prog 3) w.heap.size k D ∧ HasPairs D ((l.take k).map fun x => (x.mod, x.name)) ∧ Hid (chkImps [] l = chkImps ((l.take k).map fun x => (x.mod, x.name)) (l.drop k)) ∧ Below w.heap.size w wr) (fun i _ => l.length - (intOf i).toNat)
  case atStart => exact ⟨0, .map [], Nat.zero_le _, rfl, World.ownsMap_made _ _ _ _, HasPairs.none, by show chkImps [] l = chkImps [] (l.drop 0); rfl, (Below.refl _ _).alloc (Nat.le_refl _) _⟩
  case round =>
    obtain ⟨k, D, hk, rfl, hown, hD, HC, B⟩ := hrel
    by_cases hlt : k < l.length
    · obtain ⟨p, hp⟩ : ∃ p, l[k]? = some p := ⟨_, List.getElem?_eq_getElem hlt⟩
      rcases hrow with h | ⟨b, off, rfl, hbn, hcells⟩
      · subst h; simp at hlt
      obtain ⟨m, n, va, vb⟩ := p
      obtain ⟨hm, hn⟩ := hfit _ (List.mem_of_getElem? hp)
      dsimp only at hm hn
      have c0 := (B.cell (p := ⟨b, off + k * 4 + 0, none⟩) hbn).trans (hcells k _ hp 0 (by omega))
      have c1 := (B.cell (p := ⟨b, off + k * 4 + 1, none⟩) hbn).trans (hcells k _ hp 1 (by omega))
      have c2 := (B.cell (p := ⟨b, off + k * 4 + 2, none⟩) hbn).trans (hcells k _ hp 2 (by omega))
      have c3 := (B.cell (p := ⟨b, off + k * 4 + 3, none⟩) hbn).trans (hcells k _ hp 3 (by omega))
      dsimp only [Imp.cell] at c0 c1 c2 c3
      rw [Nat.add_zero] at c0
      obtain ⟨kl, hkey⟩ := pair_key m n hm hn
      have htk : ((l.take (k + 1)).map fun x => (x.mod, x.name)) = ((l.take k).map fun x => (x.mod, x.name)) ++ [(m, n)] := by rw [List.take_add_one, hp]; simp
      have HR : Hid (chkImps [] l = if impErr ((l.take k).map fun x => (x.mod, x.name)) ⟨m, n, va, vb⟩ = 0 then chkImps ((l.take (k + 1)).map fun x => (x.mod, x.name)) (l.drop (k + 1)) else impErr ((l.take k).map fun x => (x.mod, x.name)) ⟨m, n, va, vb⟩) := by
        show chkImps [] l = _
        rw [HC.out, drop_at hp, htk]; rfl
      have key := impErr_cases ((l.take k).map fun x => (x.mod, x.name)) m n va vb
      have hhas := hD m n kl hkey
      have HPUT : Hid (∀ d, HasPairs (D.put kl d) ((l.take (k + 1)).map fun x => (x.mod, x.name))) := fun d => by rw [htk]; exact hD.put hown.isMap m n kl hkey d
      clear HC hcells hp htk hD
      generalize impErr ((l.take k).map fun x => (x.mod, x.name)) ⟨m, n, va, vb⟩ = R at key HR
      generalize (((l.take k).map fun x => (x.mod, x.name)).any fun x => x.1 == m && x.2 == n) = T at key hhas
      have HK : Hid (keyOf Tryz.prog 174 (.agg #[.string m, .string n]) = some kl) := hkey
      clear hkey
      rcases key with ⟨h1, rfl⟩ | ⟨h1, h2, rfl⟩ | ⟨h1, h2, rfl, rfl⟩ | ⟨h1, h2, rfl, h3, rfl⟩ | ⟨h1, h2, rfl, h3, rfl⟩
      all_goals
        go_wp2_with (first
          | (at_lookup; refine wpList_lookup_own_ok_int _ rfl _ _ 172 rfl 174 3 .i64 lawP Tryz.underlying172 Tryz.underlying3 (zeroI _) w.heap.size k D rfl ((hown.kept (World.grownBy_alloc _ _ none) (by simp)).kept (World.grownBy_alloc _ _ none) (by simp)) _ _ rfl HK.out ?_; intro c hat hwc; clear hat hwc)
          | (at_mapUpdate; refine wpList_mapUpdate_own _ rfl _ _ _ 172 rfl 174 3 lawP Tryz.underlying172 _ w.heap.size k _ rfl ((hown.kept (World.grownBy_alloc _ _ none) (by simp)).kept (World.grownBy_alloc _ _ none) (by simp)) (by unfold maxLen; omega) _ _ _ rfl rfl HK.out _ [] (plainElem_int Tryz.underlying3 (WalkArith.wf_i64 (by omega))) ?_; intro w1 hown1 hgrow1)
          | (go_at_call 110; refine (isName_any _ _ (by assumption)).mono ?_; rintro e w' ⟨rfl, rfl⟩)
          | (go_at_call 92; refine (isVersion_any _ _ _).mono ?_; rintro e w' ⟨rfl, rfl⟩))
      case roundEnd =>
        exact ⟨⟨k + 1, _, by omega, by go_num, hown1, HPUT.out _, HR.out, ((B.alloc B.size _).alloc (by simp; have := B.size; omega) _).grown hgrow1 (by simp; have := B.size; omega) (fun j hj => by cases hj; exact Nat.le_refl _)⟩, by simp [intOf]; omega⟩
      all_goals
        go_ret
        exact ⟨by rw [HR.out]; rfl, (B.alloc B.size _).alloc (by simp; have := B.size; omega) _⟩
    · obtain rfl : k = l.length := by omega
      have HZ : Hid (chkImps [] l = 0) := by
        show chkImps [] l = 0
        rw [HC.out, List.drop_length]; rfl
      go_wp2
      go_ret
      exact ⟨by rw [HZ.out]; rfl, B⟩

end Go.Proofs.YthmohjgdcjafkadGreat
