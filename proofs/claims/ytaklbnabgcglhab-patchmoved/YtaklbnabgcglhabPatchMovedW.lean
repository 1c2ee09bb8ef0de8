/- The walk of the law PatchMoved: it returns true. -/
import Derived.Test.YtaklbnabgcglhabPatE
namespace Go.Proofs.Ytaklbnabgcglhab.patchMoved
open Go.RowKit Go.PlainAid

set_option maxRecDepth 100000

theorem valErr_zero {kind sym add place : Int} (h : valErr kind sym add place = 0) : width kind ≠ 0 ∧ valRange sym add place = true ∧ ¬ (kind = 5 ∧ (sym + add - place) % 2 = 1) := by
  rcases val_cases kind sym add place with ⟨_, e, _⟩ | ⟨_, _, e, _⟩ | ⟨hr, key⟩
  · omega
  · omega
  · rcases key with ⟨rfl, _⟩ | ⟨rfl, _⟩ | ⟨rfl, _⟩ | ⟨rfl, _⟩ | ⟨rfl, _, e, _⟩ | ⟨rfl, hp, _⟩
    · exact ⟨by decide, hr, by omega⟩
    · exact ⟨by decide, hr, by omega⟩
    · exact ⟨by decide, hr, by omega⟩
    · exact ⟨by decide, hr, by omega⟩
    · omega
    · exact ⟨by decide, hr, by omega⟩
theorem valErr_is {kind sym add place : Int} (h0 : width kind ≠ 0) (h1 : ¬ (kind = 5 ∧ (sym + add - place) % 2 = 1)) : valErr kind sym add place = if valRange sym add place = false then 3 else 0 := by
  unfold valErr
  rw [if_neg h0, if_neg h1]

set_option maxHeartbeats 1000000 in
theorem walk (kind sym add place by' : Int) (_ : (Lit.int .i64 kind).wf = true) (_ : (Lit.int .i64 sym).wf = true) (_ : (Lit.int .i64 add).wf = true) (_ : (Lit.int .i64 place).wf = true) (_ : (Lit.int .i64 by').wf = true) (w : World) :
    Calls Try.prog 4 #[.int .i64 kind, .int .i64 sym, .int .i64 add, .int .i64 place, .int .i64 by'] w fun e w' => e = .returned (.bool true) ∧ Below w.heap.size w w' := by
  have HV : Hid (∀ w, Calls Try.prog 15 #[.int .i64 kind, .int .i64 sym, .int .i64 add, .int .i64 place] w fun e w' => e = .returned (.tuple #[.int .i64 (valNum kind sym add place), .int .i64 (valErr kind sym add place)]) ∧ Below w.heap.size w w') := fun w => value_any _ _ _ _ w
  by_cases h0 : valErr kind sym add place = 0
  · obtain ⟨hw, hr, hp⟩ := valErr_zero h0
    obtain ⟨s0, s1, p0, p1, a0, a1⟩ := valRange_true hr
    rw [h0] at HV
    have fin : by' < -65536 ∨ 65536 < by' ∨ (-65536 ≤ by' ∧ by' ≤ 65536 ∧ (valErr kind (sym + by') add (place + by') = 3 ∨
        (valErr kind (sym + by') add (place + by') = 0 ∧ ((kind = 2 ∨ kind = 5) ∧ valNum kind (sym + by') add (place + by') = valNum kind sym add place ∨
          (kind ≠ 2 ∧ kind ≠ 5 ∧ valErr kind sym add (place + by') = 0 ∧ valNum kind sym add (place + by') = valNum kind sym add place))))) := by
      by_cases b1 : by' < -65536
      · exact .inl b1
      by_cases b2 : 65536 < by'
      · exact .inr (.inl b2)
      refine .inr (.inr ⟨by omega, by omega, ?_⟩)
      have e1 : sym + by' + add - (place + by') = sym + add - place := by omega
      have hp' : ¬ (kind = 5 ∧ (sym + by' + add - (place + by')) % 2 = 1) := by rw [e1]; exact hp
      have hv := valErr_is hw hp'
      cases hr2 : valRange (sym + by') add (place + by')
      · rw [hr2] at hv
        exact .inl hv
      · rw [hr2] at hv
        have hv0 : valErr kind (sym + by') add (place + by') = 0 := hv
        refine .inr ⟨hv0, ?_⟩
        obtain ⟨s2, s3, p2, p3, _, _⟩ := valRange_true hr2
        by_cases hk : kind = 2 ∨ kind = 5
        · refine .inl ⟨hk, ?_⟩
          unfold valNum
          rw [if_pos hv0, if_pos h0]
          unfold rawVal
          rw [e1]
          rcases hk with rfl | rfl <;> rfl
        · have hr3 : valRange sym add (place + by') = true := by
            unfold valRange
            rw [betw_true s0 s1, betw_true p2 p3, betw_true a0 a1]; rfl
          have hv3 : valErr kind sym add (place + by') = 0 := by
            rw [valErr_is hw (by omega), hr3]; rfl
          refine .inr ⟨by omega, by omega, hv3, ?_⟩
          unfold valNum
          rw [if_pos hv3, if_pos h0]
          unfold rawVal
          have k5 : ¬ kind = 5 := by omega
          have k2 : ¬ kind = 2 := by omega
          by_cases k1 : kind = 1
          · rw [if_pos k1, if_pos k1]
          rw [if_neg k1, if_neg k1, if_neg k2, if_neg k2]
          by_cases k3 : kind = 3
          · rw [if_pos k3, if_pos k3]
          rw [if_neg k3, if_neg k3]
          by_cases k4 : kind = 4
          · rw [if_pos k4, if_pos k4]
          · have := width_range hw
            omega
    have HV2 : Hid (∀ w, Calls Try.prog 15 #[.int .i64 kind, .int .i64 (sym + by'), .int .i64 add, .int .i64 (place + by')] w fun e w' => e = .returned (.tuple #[.int .i64 (valNum kind (sym + by') add (place + by')), .int .i64 (valErr kind (sym + by') add (place + by'))]) ∧ Below w.heap.size w w') := fun w => value_any _ _ _ _ w
    have HV3 : Hid (∀ w, Calls Try.prog 15 #[.int .i64 kind, .int .i64 sym, .int .i64 add, .int .i64 (place + by')] w fun e w' => e = .returned (.tuple #[.int .i64 (valNum kind sym add (place + by')), .int .i64 (valErr kind sym add (place + by'))]) ∧ Below w.heap.size w w') := fun w => value_any _ _ _ _ w
    clear h0 hw hr hp
    generalize valNum kind sym add place = n at *
    generalize valNum kind (sym + by') add (place + by') = n2 at *
    generalize valErr kind (sym + by') add (place + by') = e2 at *
    generalize valNum kind sym add (place + by') = n3 at *
    generalize valErr kind sym add (place + by') = e3 at *
    rcases fin with b1 | b1 | ⟨b1, b2, rfl | ⟨rfl, ⟨hk, rfl⟩ | ⟨k2, k5, rfl, rfl⟩⟩⟩
    · go_enter Try.func4, Try.ntmps4
      go_wp2_with fail
      refine (HV.out _).mono ?_
      rintro e w1 ⟨rfl, c1⟩
      go_wp2_with fail
      refine (patchBegun_any _).mono ?_
      rintro e w2 ⟨rfl, c2⟩
      go_wp2
      go_ret
      exact ⟨rfl, c1.trans (c2.mono c1.size)⟩
    · go_enter Try.func4, Try.ntmps4
      go_wp2_with fail
      refine (HV.out _).mono ?_
      rintro e w1 ⟨rfl, c1⟩
      go_wp2_with fail
      refine (patchBegun_any _).mono ?_
      rintro e w2 ⟨rfl, c2⟩
      go_wp2
      go_ret
      exact ⟨rfl, c1.trans (c2.mono c1.size)⟩
    · go_enter Try.func4, Try.ntmps4
      go_wp2_with fail
      refine (HV.out _).mono ?_
      rintro e w1 ⟨rfl, c1⟩
      go_wp2_with fail
      refine (patchBegun_any _).mono ?_
      rintro e w2 ⟨rfl, c2⟩
      have C2 := c1.trans (c2.mono c1.size)
      go_wp2_with fail
      refine (HV2.out _).mono ?_
      rintro e w3 ⟨rfl, c3⟩
      go_wp2
      go_ret
      exact ⟨rfl, C2.trans (c3.mono C2.size)⟩
    · rcases hk with rfl | rfl
      all_goals
        go_enter Try.func4, Try.ntmps4
        go_wp2_with fail
        refine (HV.out _).mono ?_
        rintro e w1 ⟨rfl, c1⟩
        go_wp2_with fail
        refine (patchBegun_any _).mono ?_
        rintro e w2 ⟨rfl, c2⟩
        have C2 := c1.trans (c2.mono c1.size)
        go_wp2_with fail
        refine (HV2.out _).mono ?_
        rintro e w3 ⟨rfl, c3⟩
        go_wp2
        go_ret
        exact ⟨by simp, C2.trans (c3.mono C2.size)⟩
    · have k2' : (kind == 2) = false := beq_eq_false_iff_ne.2 k2
      have k5' : (kind == 5) = false := beq_eq_false_iff_ne.2 k5
      clear k2 k5
      go_enter Try.func4, Try.ntmps4
      go_wp2_with fail
      refine (HV.out _).mono ?_
      rintro e w1 ⟨rfl, c1⟩
      go_wp2_with fail
      refine (patchBegun_any _).mono ?_
      rintro e w2 ⟨rfl, c2⟩
      have C2 := c1.trans (c2.mono c1.size)
      go_wp2_with fail
      refine (HV2.out _).mono ?_
      rintro e w3 ⟨rfl, c3⟩
      have C3 := C2.trans (c3.mono C2.size)
      go_wp2_with fail
      refine (HV3.out _).mono ?_
      rintro e w4 ⟨rfl, c4⟩
      go_wp2
      go_ret
      exact ⟨by simp, C3.trans (c4.mono C3.size)⟩
  · have hn : valNum kind sym add place = 0 := by rw [valNum, if_neg h0]
    rw [hn] at HV
    have h0' : (valErr kind sym add place != 0) = true := by simpa using h0
    clear hn h0
    generalize valErr kind sym add place = e0 at *
    go_enter Try.func4, Try.ntmps4
    go_wp2_with fail
    refine (HV.out _).mono ?_
    rintro e w1 ⟨rfl, c1⟩
    go_wp2_with fail
    refine (patchBegun_any _).mono ?_
    rintro e w2 ⟨rfl, c2⟩
    go_wp2
    go_ret
    exact ⟨rfl, c1.trans (c2.mono c1.size)⟩

end Go.Proofs.Ytaklbnabgcglhab.patchMoved
