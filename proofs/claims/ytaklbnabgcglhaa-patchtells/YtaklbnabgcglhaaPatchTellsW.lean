/- The walk of the law PatchTells: it returns true. -/
import Derived.Test.YtaklbnabgcglhaaPatR
namespace Go.Proofs.Ytaklbnabgcglhaa.patchTells
open Go.RowKit Go.PlainAid

set_option maxRecDepth 100000

set_option maxHeartbeats 2000000 in
theorem core (s t : ByteArray) (K A S D sym base wd we vn ve ae : Int) (w : World) (hwe : (wd == 0) = true ∧ we = 7 ∨ (wd == 0) = false ∧ we = 0)
    (HW : Hid (∀ w, Calls Try.prog 25 #[.int .i64 K] w fun e w' => e = .returned (.tuple #[.int .i64 wd, .int .i64 we]) ∧ w' = w))
    (HV : Hid (∀ w, Calls Try.prog 26 #[.int .i64 K, .int .i64 sym, .int .i64 D, .int .i64 base] w fun e w' => e = .returned (.tuple #[.int .i64 vn, .int .i64 ve]) ∧ Below w.heap.size w w'))
    (HA : Hid (∀ w, Calls Try.prog 27 #[.string s, .agg #[.int .i64 K, .int .i64 A, .int .i64 S, .int .i64 D], .int .i64 sym, .int .i64 base] w fun e w' => e = .returned (.tuple #[.string t, .int .i64 ae]) ∧ Below w.heap.size w w'))
    (RW : Hid (∀ w, Calls Try.prog 28 #[.int .i64 K] w fun e w' => e = .returned (.int .i64 wd) ∧ w' = w))
    (RV : Hid (∀ w, Calls Try.prog 29 #[.int .i64 K, .int .i64 sym, .int .i64 D, .int .i64 base] w fun e w' => e = .returned (.tuple #[.int .i64 vn, .int .i64 ve]) ∧ w' = w))
    (RA : Hid (∀ w, Calls Try.prog 30 #[.string s, .agg #[.int .i64 K, .int .i64 A, .int .i64 S, .int .i64 D], .int .i64 sym, .int .i64 base] w fun e w' => e = .returned (.tuple #[.string t, .int .i64 ae]) ∧ Below w.heap.size w w')) :
    Calls Try.prog 8 #[.string s, .agg #[.int .i64 K, .int .i64 A, .int .i64 S, .int .i64 D], .int .i64 sym, .int .i64 base] w fun e w' => e = .returned (.bool true) ∧ Below w.heap.size w w' := by
  rcases hwe with ⟨hw, rfl⟩ | ⟨hw, rfl⟩
  all_goals
    go_enter Try.func8, Try.ntmps8
    have X0 : (w.alloc (.cells #[.int .i64 K, .int .i64 A, .int .i64 S, .int .i64 D] 48)).cell? ⟨w.heap.size, 0, none⟩ = some (.int .i64 K) := by simp
    have X1 : (w.alloc (.cells #[.int .i64 K, .int .i64 A, .int .i64 S, .int .i64 D] 48)).cell? ⟨w.heap.size, 1, none⟩ = some (.int .i64 A) := by simp
    have X2 : (w.alloc (.cells #[.int .i64 K, .int .i64 A, .int .i64 S, .int .i64 D] 48)).cell? ⟨w.heap.size, 2, none⟩ = some (.int .i64 S) := by simp
    have X3 : (w.alloc (.cells #[.int .i64 K, .int .i64 A, .int .i64 S, .int .i64 D] 48)).cell? ⟨w.heap.size, 3, none⟩ = some (.int .i64 D) := by simp
    have X4 : w.heap.size < (w.alloc (.cells #[.int .i64 K, .int .i64 A, .int .i64 S, .int .i64 D] 48)).heap.size := by simp
    have B0 : Below w.heap.size w (w.alloc (.cells #[.int .i64 K, .int .i64 A, .int .i64 S, .int .i64 D] 48)) := (Below.refl _ _).alloc (Nat.le_refl _) _
    go_wp2_with fail
    refine (HW.out _).mono ?_
    rintro e w1 ⟨rfl, h1⟩
    rw [← h1] at X0 X1 X2 X3 X4 B0
    clear h1
    go_wp2_with fail
    refine (HV.out _).mono ?_
    rintro e w2 ⟨rfl, c2⟩
    have Y0 := (c2.cell (p := ⟨w.heap.size, 0, none⟩) X4).trans X0
    have Y1 := (c2.cell (p := ⟨w.heap.size, 1, none⟩) X4).trans X1
    have Y2 := (c2.cell (p := ⟨w.heap.size, 2, none⟩) X4).trans X2
    have Y3 := (c2.cell (p := ⟨w.heap.size, 3, none⟩) X4).trans X3
    have Y4 := Nat.lt_of_lt_of_le X4 c2.size
    have B2 := B0.trans (c2.mono B0.size)
    clear c2 X0 X1 X2 X3 X4 B0
    go_wp2_with fail
    refine (HA.out _).mono ?_
    rintro e w3 ⟨rfl, c3⟩
    have X0 := (c3.cell (p := ⟨w.heap.size, 0, none⟩) Y4).trans Y0
    have X1 := (c3.cell (p := ⟨w.heap.size, 1, none⟩) Y4).trans Y1
    have X2 := (c3.cell (p := ⟨w.heap.size, 2, none⟩) Y4).trans Y2
    have X3 := (c3.cell (p := ⟨w.heap.size, 3, none⟩) Y4).trans Y3
    have B3 := B2.trans (c3.mono B2.size)
    clear c3 Y0 Y1 Y2 Y3 Y4 B2
    go_wp2_with fail
    refine (RW.out _).mono ?_
    rintro e w4 ⟨rfl, rfl⟩
    go_wp2_with fail
    refine (RV.out _).mono ?_
    rintro e w5 ⟨rfl, rfl⟩
    go_wp2_with fail
    refine (RA.out _).mono ?_
    rintro e w6 ⟨rfl, c6⟩
    have B6 := B3.trans (c6.mono B3.size)
    clear c6 X0 X1 X2 X3 B3
    go_wp2_with fail
    refine (patchBegun_any _).mono ?_
    rintro e w7 ⟨rfl, c7⟩
    go_wp2
    go_ret
    exact ⟨by simp, B6.trans (c7.mono B6.size)⟩

theorem walk (s : ByteArray) (p : Pat) (sym base : Int) (w : World) (hs : s.size ≤ 140737488351232) (_ : (Lit.int .i64 sym).wf = true) (_ : (Lit.int .i64 base).wf = true) :
    Calls Try.prog 8 #[.string s, .agg #[.int .i64 p.kind, .int .i64 p.pos, .int .i64 p.sym, .int .i64 p.add], .int .i64 sym, .int .i64 base] w fun e w' => e = .returned (.bool true) ∧ Below w.heap.size w w' := by
  refine core s (appStr s p sym base) _ _ _ _ sym base (width p.kind) (widthErr p.kind) (valNum p.kind sym p.add base) (valErr p.kind sym p.add base) (appErr s.size p sym base) w ?_ (fun w => patchWidth_any _ w) (fun w => value_any _ _ _ _ w) (fun w => apply_any s p sym base w hs) (fun w => widthOf_any _ w) (fun w => valueOf_any _ _ _ _ w) (fun w => applyOf_any s p sym base w hs)
  unfold widthErr
  by_cases h : width p.kind = 0
  · exact .inl ⟨by rw [h]; rfl, if_pos h⟩
  · exact .inr ⟨beq_eq_false_iff_ne.2 h, if_neg h⟩

end Go.Proofs.Ytaklbnabgcglhaa.patchTells
