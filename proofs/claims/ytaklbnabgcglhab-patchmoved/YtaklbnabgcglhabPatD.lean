/- The contract of patch.Value. -/
import Derived.Test.YtaklbnabgcglhabPatC
namespace Go.Proofs.Ytaklbnabgcglhab
open Go.RowKit Go.PlainAid

set_option maxRecDepth 100000

theorem width_range {k : Int} (h : width k ≠ 0) : 1 ≤ k ∧ k ≤ 5 := by
  rcases width_cases k with ⟨rfl, _⟩ | ⟨rfl, _⟩ | ⟨rfl, _⟩ | ⟨rfl, _⟩ | ⟨rfl, _⟩ | ⟨_, _, _, _, _, h0⟩
  all_goals first | exact absurd h0 h | omega

set_option maxHeartbeats 1000000 in
theorem value_good (kind sym add place wd n R E : Int) (fits : Bool) (g : FuncId) (w : World) (hK : ∀ w x y, Sem.run Try.prog (callFunc g #[x, y]) w = .ok (.enter g #[x, y]) w) (s0 : 0 ≤ sym) (s1 : sym ≤ 65535) (a0 : 0 ≤ add) (a1 : add ≤ 65535) (h1 : betw sym 0 65535 = true) (h2 : betw place 0 65535 = true)
    (HW : Hid (∀ w, Calls Try.prog 12 #[.int .i64 kind] w fun e w' => e = .returned (.tuple #[.int .i64 wd, .int .i64 0]) ∧ w' = w))
    (HF : Hid (∀ w, Calls Try.prog 42 #[.int .i64 kind] w fun e w' => e = .returned (.agg #[.int .i64 kind, .func (.func g) #[] #[]]) ∧ Below w.heap.size w w'))
    (HG : Hid (∀ w, Calls Try.prog g #[.int .i64 (sym + add), .int .i64 place] w fun e w' => e = .returned (.tuple #[.int .i64 n, .bool fits]) ∧ w' = w))
    (n0 : -65535 ≤ n) (hres : (fits = false ∧ R = 0 ∧ E = 4) ∨ (fits = true ∧ 0 ≤ n ∧ R = n ∧ E = 0) ∨ (fits = true ∧ n < 0 ∧ wd = 4 ∧ R = n + 4294967296 ∧ E = 0) ∨ (fits = true ∧ n < 0 ∧ wd = 3 ∧ R = n + 16777216 ∧ E = 0)) :
    Calls Try.prog 15 #[.int .i64 kind, .int .i64 sym, .int .i64 add, .int .i64 place] w fun e w' => e = .returned (.tuple #[.int .i64 R, .int .i64 E]) ∧ Below w.heap.size w w' := by
  have hfd : ∀ w : World, (Instr.field 80 (.agg #[.int .i64 kind, .func (.func g) #[] #[]]) 1).run Try.prog w = .ok (.func (.func g) #[] #[]) w := fun _ => by kernel_rfl
  rcases hres with ⟨rfl, rfl, rfl⟩ | ⟨rfl, hn, rfl, rfl⟩ | ⟨rfl, hn, rfl, rfl, rfl⟩ | ⟨rfl, hn, rfl, rfl, rfl⟩
  all_goals
    go_enter Try.func15, Try.ntmps15
    go_wp2_with (first | (go_at_call 12; refine (HW.out _).mono ?_; rintro e w' ⟨rfl, rfl⟩) | (go_at_call 41; refine (isAddress_any _ _).mono ?_; rintro e w' ⟨rfl, rfl⟩))
    refine (HF.out _).mono ?_
    rintro e w1 ⟨rfl, b1⟩
    go_wp2_with fail
    refine Calls.mono (HG.out _) ?_
    rintro e w2 ⟨rfl, rfl⟩
    go_wp2
    go_ret2
    exact ⟨rfl, b1⟩

set_option maxHeartbeats 1000000 in
theorem value_any (kind sym add place : Int) (w : World) :
    Calls Try.prog 15 #[.int .i64 kind, .int .i64 sym, .int .i64 add, .int .i64 place] w fun e w' => e = .returned (.tuple #[.int .i64 (valNum kind sym add place), .int .i64 (valErr kind sym add place)]) ∧ Below w.heap.size w w' := by
  rcases val_cases kind sym add place with ⟨h0, hE, hN⟩ | ⟨h0, hr, hE, hN⟩ | ⟨hr, key⟩
  · rw [hE, hN]
    have HW : Hid (∀ w, Calls Try.prog 12 #[.int .i64 kind] w fun e w' => e = .returned (.tuple #[.int .i64 0, .int .i64 7]) ∧ w' = w) := fun w => by
      have := patchWidth_any kind w
      rwa [widthErr, if_pos h0, h0] at this
    clear h0 hE hN
    go_enter Try.func15, Try.ntmps15
    go_wp2_with (go_at_call 12; refine (HW.out _).mono ?_; rintro e w' ⟨rfl, rfl⟩)
    go_ret2
    exact ⟨rfl, Below.refl _ _⟩
  · rw [hE, hN]
    have HW : Hid (∀ w, Calls Try.prog 12 #[.int .i64 kind] w fun e w' => e = .returned (.tuple #[.int .i64 (width kind), .int .i64 0]) ∧ w' = w) := fun w => by
      have := patchWidth_any kind w
      rwa [widthErr, if_neg h0] at this
    clear h0 hE hN
    generalize width kind = wd at HW
    unfold valRange at hr
    cases h1 : betw sym 0 65535
    · clear hr
      go_enter Try.func15, Try.ntmps15
      go_wp2_with (first | (go_at_call 12; refine (HW.out _).mono ?_; rintro e w' ⟨rfl, rfl⟩) | (go_at_call 41; refine (isAddress_any _ _).mono ?_; rintro e w' ⟨rfl, rfl⟩))
      go_ret2
      exact ⟨rfl, Below.refl _ _⟩
    cases h2 : betw place 0 65535
    · clear hr
      go_enter Try.func15, Try.ntmps15
      go_wp2_with (first | (go_at_call 12; refine (HW.out _).mono ?_; rintro e w' ⟨rfl, rfl⟩) | (go_at_call 41; refine (isAddress_any _ _).mono ?_; rintro e w' ⟨rfl, rfl⟩))
      go_ret2
      exact ⟨rfl, Below.refl _ _⟩
    rw [h1, h2] at hr
    have h3 := betw_not (n := add) (l := 0) (m := 65535) (by simpa using hr)
    clear hr
    by_cases h4 : add < 0
    · go_enter Try.func15, Try.ntmps15
      go_wp2_with (first | (go_at_call 12; refine (HW.out _).mono ?_; rintro e w' ⟨rfl, rfl⟩) | (go_at_call 41; refine (isAddress_any _ _).mono ?_; rintro e w' ⟨rfl, rfl⟩))
      go_ret2
      exact ⟨rfl, Below.refl _ _⟩
    · have h5 : 65535 < add := by omega
      clear h3
      go_enter Try.func15, Try.ntmps15
      go_wp2_with (first | (go_at_call 12; refine (HW.out _).mono ?_; rintro e w' ⟨rfl, rfl⟩) | (go_at_call 41; refine (isAddress_any _ _).mono ?_; rintro e w' ⟨rfl, rfl⟩))
      go_ret2
      exact ⟨rfl, Below.refl _ _⟩
  · obtain ⟨s0, s1, p0, p1, a0, a1⟩ := valRange_true hr
    have h1 : betw sym 0 65535 = true := betw_true s0 s1
    have h2 : betw place 0 65535 = true := betw_true p0 p1
    clear hr
    rcases key with ⟨rfl, hE, hN⟩ | ⟨rfl, hE, hN⟩ | ⟨rfl, hE, hN⟩ | ⟨rfl, hE, hN⟩ | ⟨rfl, hp, hE, hN⟩ | ⟨rfl, hp, hE, hN⟩
    all_goals rw [hE, hN]; clear hE hN
    · exact value_good 1 sym add place 4 (sym + add) _ _ true 98 w (fun w x y => enters_of Try.func98 (by kernel_rfl) rfl _ w) s0 s1 a0 a1 h1 h2 (fun w => patchWidth_any 1 w) (fun w => formulaOf_any 1 (by omega) (by omega) w) (fun w => formula1_any _ _ w) (by omega) (.inr (.inl ⟨rfl, by omega, rfl, rfl⟩))
    · refine value_good 2 sym add place 4 (sym + add - place) _ _ true 99 w (fun w x y => enters_of Try.func99 (by kernel_rfl) rfl _ w) s0 s1 a0 a1 h1 h2 (fun w => patchWidth_any 2 w) (fun w => formulaOf_any 2 (by omega) (by omega) w) (fun w => formula2_any _ _ (by omega) (by omega) p0 p1 w) (by omega) ?_
      by_cases hneg : sym + add - place < 0
      · exact .inr (.inr (.inl ⟨rfl, hneg, rfl, by omega, rfl⟩))
      · exact .inr (.inl ⟨rfl, by omega, by omega, rfl⟩)
    · exact value_good 3 sym add place 2 ((sym + add) / 65536) _ _ true 100 w (fun w x y => enters_of Try.func100 (by kernel_rfl) rfl _ w) s0 s1 a0 a1 h1 h2 (fun w => patchWidth_any 3 w) (fun w => formulaOf_any 3 (by omega) (by omega) w) (fun w => formula3_any _ _ w) (by omega) (.inr (.inl ⟨rfl, by omega, rfl, rfl⟩))
    · exact value_good 4 sym add place 2 ((sym + add) % 65536) _ _ true 101 w (fun w x y => enters_of Try.func101 (by kernel_rfl) rfl _ w) s0 s1 a0 a1 h1 h2 (fun w => patchWidth_any 4 w) (fun w => formulaOf_any 4 (by omega) (by omega) w) (fun w => formula4_any _ _ (by omega) (by omega) w) (by omega) (.inr (.inl ⟨rfl, by omega, rfl, rfl⟩))
    · have hb := tdiv2_bd (sym + add - place)
      refine value_good 5 sym add place 3 ((sym + add - place).tdiv 2) _ _ ((sym + add - place).tmod 2 == 0) 102 w (fun w x y => enters_of Try.func102 (by kernel_rfl) rfl _ w) s0 s1 a0 a1 h1 h2 (fun w => patchWidth_any 5 w) (fun w => formulaOf_any 5 (by omega) (by omega) w) (fun w => formula5_any _ _ (by omega) (by omega) p0 p1 w) (by omega) ?_
      exact .inl ⟨by rw [tmod2_even, hp]; rfl, rfl, rfl⟩
    · have hb := tdiv2_bd (sym + add - place)
      have he := tdiv2_even _ hp
      refine value_good 5 sym add place 3 ((sym + add - place).tdiv 2) _ _ ((sym + add - place).tmod 2 == 0) 102 w (fun w x y => enters_of Try.func102 (by kernel_rfl) rfl _ w) s0 s1 a0 a1 h1 h2 (fun w => patchWidth_any 5 w) (fun w => formulaOf_any 5 (by omega) (by omega) w) (fun w => formula5_any _ _ (by omega) (by omega) p0 p1 w) (by omega) ?_
      have ht : ((sym + add - place).tmod 2 == 0) = true := by rw [tmod2_even, hp]; rfl
      rw [ht, he]
      by_cases hneg : sym + add - place < 0
      · exact .inr (.inr (.inr ⟨rfl, by omega, rfl, by omega, rfl⟩))
      · exact .inr (.inl ⟨rfl, by omega, by omega, rfl⟩)

end Go.Proofs.Ytaklbnabgcglhab
