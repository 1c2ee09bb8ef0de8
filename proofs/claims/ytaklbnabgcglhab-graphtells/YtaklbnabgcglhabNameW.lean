/- The contracts of small functions: names, versions, widths. -/
import Derived.Test.YtaklbnabgcglhabBtw
namespace Go.Proofs.Ytaklbnabgcglhab
open Go.RowKit Go.PlainAid

set_option maxHeartbeats 400000 in
theorem isLetter_any (c : Int) (w : World) : Calls Try.prog 104 #[.int .u8 c] w fun e w' => e = .returned (.bool (betw c 97 122)) ∧ w' = w := by
  by_cases h1 : 97 ≤ c
  · by_cases h2 : c ≤ 122
    · rw [betw_true h1 h2]
      go_enter Try.func104, Try.ntmps104
      go_wp2
      go_ret
      exact ⟨rfl, rfl⟩
    · rw [betw_false (.inr (by omega))]
      have h3 : decide (c ≤ 122) = false := decide_eq_false h2
      go_enter Try.func104, Try.ntmps104
      go_wp2
      go_ret
      exact ⟨rfl, rfl⟩
  · rw [betw_false (.inl (by omega))]
    have h3 : decide (97 ≤ c) = false := decide_eq_false h1
    go_enter Try.func104, Try.ntmps104
    go_wp2
    go_ret
    exact ⟨rfl, rfl⟩

set_option maxHeartbeats 400000 in
theorem isDigit_any (c : Int) (w : World) : Calls Try.prog 105 #[.int .u8 c] w fun e w' => e = .returned (.bool (betw c 48 57)) ∧ w' = w := by
  by_cases h1 : 48 ≤ c
  · by_cases h2 : c ≤ 57
    · rw [betw_true h1 h2]
      go_enter Try.func105, Try.ntmps105
      go_wp2
      go_ret
      exact ⟨rfl, rfl⟩
    · rw [betw_false (.inr (by omega))]
      have h3 : decide (c ≤ 57) = false := decide_eq_false h2
      go_enter Try.func105, Try.ntmps105
      go_wp2
      go_ret
      exact ⟨rfl, rfl⟩
  · rw [betw_false (.inl (by omega))]
    have h3 : decide (48 ≤ c) = false := decide_eq_false h1
    go_enter Try.func105, Try.ntmps105
    go_wp2
    go_ret
    exact ⟨rfl, rfl⟩

set_option maxHeartbeats 400000 in
theorem isVersion_any (a b : Int) (w : World) : Calls Try.prog 56 #[.int .i64 a, .int .i64 b] w fun e w' => e = .returned (.bool (isVer a b)) ∧ w' = w := by
  have key : isVer a b = (decide (0 ≤ a) && decide (a ≤ 255) && decide (0 ≤ b) && decide (b ≤ 255)) := by unfold isVer betw; simp [Bool.and_assoc]
  rw [key]
  clear key
  by_cases h1 : 0 ≤ a
  · by_cases h2 : a ≤ 255
    · by_cases h3 : 0 ≤ b
      · by_cases h4 : b ≤ 255
        · rw [decide_eq_true h1, decide_eq_true h2, decide_eq_true h3, decide_eq_true h4]
          go_enter Try.func56, Try.ntmps56
          go_wp2
          go_ret
          exact ⟨rfl, rfl⟩
        · have h5 : decide (b ≤ 255) = false := decide_eq_false h4
          rw [decide_eq_true h1, decide_eq_true h2, decide_eq_true h3, h5]
          go_enter Try.func56, Try.ntmps56
          go_wp2
          go_ret
          exact ⟨rfl, rfl⟩
      · have h5 : decide (0 ≤ b) = false := decide_eq_false h3
        rw [decide_eq_true h1, decide_eq_true h2, h5]
        go_enter Try.func56, Try.ntmps56
        go_wp2
        go_ret
        exact ⟨rfl, rfl⟩
    · have h5 : decide (a ≤ 255) = false := decide_eq_false h2
      rw [decide_eq_true h1, h5]
      go_enter Try.func56, Try.ntmps56
      go_wp2
      go_ret
      exact ⟨rfl, rfl⟩
  · have h5 : decide (0 ≤ a) = false := decide_eq_false h1
    rw [h5]
    go_enter Try.func56, Try.ntmps56
    go_wp2
    go_ret
    exact ⟨rfl, rfl⟩

theorem width_cases (k : Int) : (k = 1 ∧ width k = 4) ∨ (k = 2 ∧ width k = 4) ∨ (k = 3 ∧ width k = 2) ∨ (k = 4 ∧ width k = 2) ∨ (k = 5 ∧ width k = 3) ∨ (k ≠ 1 ∧ k ≠ 2 ∧ k ≠ 3 ∧ k ≠ 4 ∧ k ≠ 5 ∧ width k = 0) := by
  by_cases h1 : k = 1
  · subst h1; exact .inl ⟨rfl, by decide⟩
  by_cases h2 : k = 2
  · subst h2; exact .inr (.inl ⟨rfl, by decide⟩)
  by_cases h3 : k = 3
  · subst h3; exact .inr (.inr (.inl ⟨rfl, by decide⟩))
  by_cases h4 : k = 4
  · subst h4; exact .inr (.inr (.inr (.inl ⟨rfl, by decide⟩)))
  by_cases h5 : k = 5
  · subst h5; exact .inr (.inr (.inr (.inr (.inl ⟨rfl, by decide⟩))))
  · refine .inr (.inr (.inr (.inr (.inr ⟨h1, h2, h3, h4, h5, ?_⟩))))
    unfold width
    rw [if_neg (by omega), if_neg (by omega), if_neg h5]

set_option maxHeartbeats 400000 in
theorem patched_any (k : Int) (w : World) : Calls Try.prog 38 #[.int .i64 k] w fun e w' => e = .returned (.int .i64 (width k)) ∧ w' = w := by
  rcases width_cases k with ⟨rfl, h⟩ | ⟨rfl, h⟩ | ⟨rfl, h⟩ | ⟨rfl, h⟩ | ⟨rfl, h⟩ | ⟨h1, h2, h3, h4, h5, h⟩
  all_goals rw [h]; clear h
  case inr.inr.inr.inr.inr =>
    have e1 : (k == 1) = false := beq_eq_false_iff_ne.2 h1
    have e2 : (k == 2) = false := beq_eq_false_iff_ne.2 h2
    have e3 : (k == 3) = false := beq_eq_false_iff_ne.2 h3
    have e4 : (k == 4) = false := beq_eq_false_iff_ne.2 h4
    have e5 : (k == 5) = false := beq_eq_false_iff_ne.2 h5
    clear h1 h2 h3 h4 h5
    go_enter Try.func38, Try.ntmps38
    go_wp2
    go_ret
    exact ⟨rfl, rfl⟩
  all_goals
    go_enter Try.func38, Try.ntmps38
    go_wp2
    go_ret
    exact ⟨rfl, rfl⟩

set_option maxHeartbeats 400000 in
theorem widthOf_any (k : Int) (w : World) : Calls Try.prog 51 #[.int .i64 k] w fun e w' => e = .returned (.int .i64 (width k)) ∧ w' = w := by
  rcases width_cases k with ⟨rfl, h⟩ | ⟨rfl, h⟩ | ⟨rfl, h⟩ | ⟨rfl, h⟩ | ⟨rfl, h⟩ | ⟨h1, h2, h3, h4, h5, h⟩
  all_goals rw [h]; clear h
  case inr.inr.inr.inr.inr =>
    have e1 : (k == 1) = false := beq_eq_false_iff_ne.2 h1
    have e2 : (k == 2) = false := beq_eq_false_iff_ne.2 h2
    have e3 : (k == 3) = false := beq_eq_false_iff_ne.2 h3
    have e4 : (k == 4) = false := beq_eq_false_iff_ne.2 h4
    have e5 : (k == 5) = false := beq_eq_false_iff_ne.2 h5
    clear h1 h2 h3 h4 h5
    go_enter Try.func51, Try.ntmps51
    go_wp2
    go_ret
    exact ⟨rfl, rfl⟩
  all_goals
    go_enter Try.func51, Try.ntmps51
    go_wp2
    go_ret
    exact ⟨rfl, rfl⟩

set_option maxHeartbeats 1000000 in
theorem isName_any (s : ByteArray) (w : World) (hs : s.size ≤ 9223372036854775807) : Calls Try.prog 75 #[.string s] w fun e w' => e = .returned (.bool (isNm s)) ∧ w' = w := by
  by_cases h1 : (1 : Int) ≤ s.size
  · by_cases h2 : (s.size : Int) ≤ 10
    · have hbs := get_bt s
      have hbt := betw_true h1 h2
      by_cases h3 : betw (bt s 0) 97 122 = true
      · go_enter Try.func75, Try.ntmps75
        go_wp2_with (go_at_call 104; refine (isLetter_any _ _).mono ?_; rintro e w ⟨rfl, rfl⟩)
        go_loop [21] (fun i => ∃ k : Nat, k ≤ s.size ∧ i = .int .i64 k ∧ Hid (okFrom s k = true)) (fun i => s.size - (intOf i).toNat)
        case atStart => exact ⟨0, Nat.zero_le _, rfl, by show okFrom s 0 = true; rfl⟩
        case round =>
          obtain ⟨k, hk, rfl, HO⟩ := hrel
          by_cases hlt : k < s.size
          · by_cases hc : okc (bt s k) = true
            · have HO2 : Hid (okFrom s (k + 1) = true) := by show okFrom s (k + 1) = true; rw [okFrom_succ, HO.out, hc]; rfl
              have parts : betw (bt s k) 97 122 = true ∨ (betw (bt s k) 97 122 = false ∧ (betw (bt s k) 48 57 = true ∨ (betw (bt s k) 48 57 = false ∧ (bt s k != 95) = false))) := by
                unfold okc at hc
                cases ha : betw (bt s k) 97 122
                · cases hb : betw (bt s k) 48 57
                  · rw [ha, hb] at hc
                    refine .inr ⟨rfl, .inr ⟨rfl, ?_⟩⟩
                    simpa using hc
                  · exact .inr ⟨rfl, .inl rfl⟩
                · exact .inl rfl
              clear hc
              rcases parts with p1 | ⟨p1, p2 | ⟨p2, p3⟩⟩
              all_goals
                go_wp2_with (first
                  | (go_at_call 104; refine (isLetter_any _ _).mono ?_; rintro e w ⟨rfl, rfl⟩)
                  | (go_at_call 105; refine (isDigit_any _ _).mono ?_; rintro e w ⟨rfl, rfl⟩))
                go_round
                case rel => exact ⟨k + 1, by omega, by go_num, HO2⟩
                case measure => simp [intOf]; omega
            · have hcf : okc (bt s k) = false := by simpa using hc
              have HF : Hid (isNm s = false) := isNm_other (okFrom_false s k s.size hlt hcf)
              have p1 : betw (bt s k) 97 122 = false := by unfold okc at hcf; rw [Bool.or_eq_false_iff] at hcf; exact hcf.1
              have p2 : betw (bt s k) 48 57 = false := by unfold okc at hcf; rw [Bool.or_eq_false_iff, Bool.or_eq_false_iff] at hcf; exact hcf.2.1
              have p3 : (bt s k != 95) = true := by unfold okc at hcf; rw [Bool.or_eq_false_iff, Bool.or_eq_false_iff] at hcf; simpa using hcf.2.2
              clear hc hcf
              go_wp2_with (first
                | (go_at_call 104; refine (isLetter_any _ _).mono ?_; rintro e w ⟨rfl, rfl⟩)
                | (go_at_call 105; refine (isDigit_any _ _).mono ?_; rintro e w ⟨rfl, rfl⟩))
              go_ret
              exact ⟨by rw [HF.out]; rfl, rfl⟩
          · obtain rfl : k = s.size := by omega
            have HF : Hid (isNm s = true) := isNm_yes hbt h3 HO.out
            go_wp2
            go_ret
            exact ⟨by rw [HF.out]; rfl, rfl⟩
      · have h3f : betw (bt s 0) 97 122 = false := by simpa using h3
        rw [isNm_first h3f]
        clear h3
        go_enter Try.func75, Try.ntmps75
        go_wp2_with (go_at_call 104; refine (isLetter_any _ _).mono ?_; rintro e w ⟨rfl, rfl⟩)
        go_ret
        exact ⟨rfl, rfl⟩
    · rw [isNm_long (betw_false (.inr (by omega)))]
      have hd : decide ((s.size : Int) < 1) = false := decide_eq_false (by omega)
      have h2' : (10 : Int) < s.size := by omega
      go_enter Try.func75, Try.ntmps75
      go_wp2
      go_ret
      exact ⟨rfl, rfl⟩
  · rw [isNm_long (betw_false (.inl (by omega)))]
    have h1' : (s.size : Int) < 1 := by omega
    go_enter Try.func75, Try.ntmps75
    go_wp2
    go_ret
    exact ⟨rfl, rfl⟩

end Go.Proofs.Ytaklbnabgcglhab
