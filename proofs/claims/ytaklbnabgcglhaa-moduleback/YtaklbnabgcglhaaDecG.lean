/- The contract of the reader's module: the region in which the head is read. -/
import Derived.Test.YtaklbnabgcglhaaDecH
import Derived.Laws.Rows
namespace Go.Proofs.Ytaklbnabgcglhaa
open Go.RowKit Go.PlainAid Go.Lib

theorem sets7 {W : World} {B : Nat} {t : TypeId} {a0 a1 a2 a3 a4 a5 a6 : Value} (h : CellsAt W B t #[a0, a1, a2, a3, a4, a5, a6]) (v0 v1 v2 v3 v4 v5 v6 : Value) :
    CellsAt (((((((W.setCell ⟨B, 0, none⟩ v0).setCell ⟨B, 1, none⟩ v1).setCell ⟨B, 2, none⟩ v2).setCell ⟨B, 3, none⟩ v3).setCell ⟨B, 4, none⟩ v4).setCell ⟨B, 5, none⟩ v5).setCell ⟨B, 6, none⟩ v6) B t #[v0, v1, v2, v3, v4, v5, v6] := by
  have h6 := CellsAt.set 6 v6 (CellsAt.set 5 v5 (CellsAt.set 4 v4 (CellsAt.set 3 v3 (CellsAt.set 2 v2 (CellsAt.set 1 v1 (CellsAt.set 0 v0 h))))))
  simp only [List.setIfInBounds_toArray, List.set_cons_zero, List.set_cons_succ] at h6
  exact h6
theorem sets7_grown (W : World) (B : Nat) (v0 v1 v2 v3 v4 v5 v6 : Value) :
    W.grownBy (((((((W.setCell ⟨B, 0, none⟩ v0).setCell ⟨B, 1, none⟩ v1).setCell ⟨B, 2, none⟩ v2).setCell ⟨B, 3, none⟩ v3).setCell ⟨B, 4, none⟩ v4).setCell ⟨B, 5, none⟩ v5).setCell ⟨B, 6, none⟩ v6) (some B) :=
  (((((((grown_set W B 0 v0).trans (grown_set _ B 1 v1)).trans (grown_set _ B 2 v2)).trans (grown_set _ B 3 v3)).trans (grown_set _ B 4 v4)).trans (grown_set _ B 5 v5)).trans (grown_set _ B 6 v6))

set_option maxRecDepth 100000 in
set_option maxHeartbeats 16000000 in
theorem rmodule_any (R : Nat) (s : ByteArray) (τ : (Nat × Bool)) (w : World) (h : RdAt 68 w R s τ) (hs : s.size ≤ 140737488351232) (ha : τ.1 ≤ s.size) :
    Calls Try.prog 39 #[.pointer (some ⟨R, 0, none⟩)] w fun e w' => ∃ v, e = .returned v ∧ OwnsMod w.heap.size w' v (rdMod false s τ).1 ∧ RdAt 68 w' R s (rdMod false s τ).2 ∧ w.grownBy w' (some R) := by
  have hlt := CellsAt.lt h
  have H1 : Hid (∀ w W, RdAt 68 w R s τ → Below w.heap.size w W → Calls Try.prog 64 #[.pointer (some ⟨R, 0, none⟩)] W fun e w1 => e = .returned (.string (rdName false s τ).1) ∧ RdAt 68 w1 R s (rdName false s τ).2 ∧ w.grownBy w1 (some R)) := fun w W h hB => name_from R s _ hs ha w W h hB
  have H2 : Hid (∀ w W, RdAt 68 w R s (rdName false s τ).2 → Below w.heap.size w W → Calls Try.prog 65 #[.pointer (some ⟨R, 0, none⟩), .int .i64 1] W fun e w1 => e = .returned (.int .i64 (rdNum false s 1 (rdName false s τ).2).1) ∧ RdAt 68 w1 R s (rdNum false s 1 (rdName false s τ).2).2 ∧ w.grownBy w1 (some R)) := fun w W h hB => number_from R s _ 1 (.inl rfl) hs (rdName_le false s _ ha) _ rfl w W h hB
  have H3 : Hid (∀ w W, RdAt 68 w R s (rdNum false s 1 (rdName false s τ).2).2 → Below w.heap.size w W → Calls Try.prog 65 #[.pointer (some ⟨R, 0, none⟩), .int .i64 1] W fun e w1 => e = .returned (.int .i64 (rdNum false s 1 (rdNum false s 1 (rdName false s τ).2).2).1) ∧ RdAt 68 w1 R s (rdNum false s 1 (rdNum false s 1 (rdName false s τ).2).2).2 ∧ w.grownBy w1 (some R)) := fun w W h hB => number_from R s _ 1 (.inl rfl) hs (rdNum_le false s 1 _ (rdName_le false s _ ha)) _ rfl w W h hB
  have H4 : Hid (∀ w W, RdAt 68 w R s (rdNum false s 1 (rdNum false s 1 (rdName false s τ).2).2).2 → Below w.heap.size w W → Calls Try.prog 65 #[.pointer (some ⟨R, 0, none⟩), .int .i64 2] W fun e w1 => e = .returned (.int .i64 (rdNum false s 2 (rdNum false s 1 (rdNum false s 1 (rdName false s τ).2).2).2).1) ∧ RdAt 68 w1 R s (rdNum false s 2 (rdNum false s 1 (rdNum false s 1 (rdName false s τ).2).2).2).2 ∧ w.grownBy w1 (some R)) := fun w W h hB => number_from R s _ 2 (.inr rfl) hs (rdNum_le false s 1 _ (rdNum_le false s 1 _ (rdName_le false s _ ha))) _ rfl w W h hB
  have H5 : Hid (∀ w W, RdAt 68 w R s (rdNum false s 2 (rdNum false s 1 (rdNum false s 1 (rdName false s τ).2).2).2).2 → Below w.heap.size w W → Calls Try.prog 66 #[.pointer (some ⟨R, 0, none⟩), .int .i64 (rdNum false s 2 (rdNum false s 1 (rdNum false s 1 (rdName false s τ).2).2).2).1] W fun e w1 => e = .returned (.string (rdPiece false s (rdNum false s 2 (rdNum false s 1 (rdNum false s 1 (rdName false s τ).2).2).2).1.toNat (rdNum false s 2 (rdNum false s 1 (rdNum false s 1 (rdName false s τ).2).2).2).2).1) ∧ RdAt 68 w1 R s (rdPiece false s (rdNum false s 2 (rdNum false s 1 (rdNum false s 1 (rdName false s τ).2).2).2).1.toNat (rdNum false s 2 (rdNum false s 1 (rdNum false s 1 (rdName false s τ).2).2).2).2).2 ∧ w.grownBy w1 (some R)) := fun w W h hB => piece_from R s _ hs (rdNum_le false s 2 _ (rdNum_le false s 1 _ (rdNum_le false s 1 _ (rdName_le false s _ ha)))) _ (rdNum_bd false s 2 _).1 (rdNum_bd false s 2 _).2 w W h hB
  have HLE : Hid (((rdPiece false s (rdNum false s 2 (rdNum false s 1 (rdNum false s 1 (rdName false s τ).2).2).2).1.toNat (rdNum false s 2 (rdNum false s 1 (rdNum false s 1 (rdName false s τ).2).2).2).2).2).1 ≤ s.size) := (rdPiece_le false s _ _ (rdNum_le false s 2 _ (rdNum_le false s 1 _ (rdNum_le false s 1 _ (rdName_le false s _ ha)))))
  have HV : Hid (rdMod false s τ = (⟨(rdName false s τ).1, (rdNum false s 1 (rdName false s τ).2).1, (rdNum false s 1 (rdNum false s 1 (rdName false s τ).2).2).1, (rdPiece false s (rdNum false s 2 (rdNum false s 1 (rdNum false s 1 (rdName false s τ).2).2).2).1.toNat (rdNum false s 2 (rdNum false s 1 (rdNum false s 1 (rdName false s τ).2).2).2).2).1, (rdMany false s (rdExp false s) (rdPiece false s (rdNum false s 2 (rdNum false s 1 (rdNum false s 1 (rdName false s τ).2).2).2).1.toNat (rdNum false s 2 (rdNum false s 1 (rdNum false s 1 (rdName false s τ).2).2).2).2).2).1, (rdMany false s (rdImp false s) (rdMany false s (rdExp false s) (rdPiece false s (rdNum false s 2 (rdNum false s 1 (rdNum false s 1 (rdName false s τ).2).2).2).1.toNat (rdNum false s 2 (rdNum false s 1 (rdNum false s 1 (rdName false s τ).2).2).2).2).2).2).1, (rdMany false s (rdPat false s) (rdMany false s (rdImp false s) (rdMany false s (rdExp false s) (rdPiece false s (rdNum false s 2 (rdNum false s 1 (rdNum false s 1 (rdName false s τ).2).2).2).1.toNat (rdNum false s 2 (rdNum false s 1 (rdNum false s 1 (rdName false s τ).2).2).2).2).2).2).2).1⟩, (rdMany false s (rdPat false s) (rdMany false s (rdImp false s) (rdMany false s (rdExp false s) (rdPiece false s (rdNum false s 2 (rdNum false s 1 (rdNum false s 1 (rdName false s τ).2).2).2).1.toNat (rdNum false s 2 (rdNum false s 1 (rdNum false s 1 (rdName false s τ).2).2).2).2).2).2).2).2)) := rfl
  generalize rdMod false s τ = E at *
  generalize (rdPiece false s (rdNum false s 2 (rdNum false s 1 (rdNum false s 1 (rdName false s τ).2).2).2).1.toNat (rdNum false s 2 (rdNum false s 1 (rdNum false s 1 (rdName false s τ).2).2).2).2).1 = X5 at *
  generalize (rdPiece false s (rdNum false s 2 (rdNum false s 1 (rdNum false s 1 (rdName false s τ).2).2).2).1.toNat (rdNum false s 2 (rdNum false s 1 (rdNum false s 1 (rdName false s τ).2).2).2).2).2 = σ5 at *
  generalize (rdNum false s 2 (rdNum false s 1 (rdNum false s 1 (rdName false s τ).2).2).2).1 = X4 at *
  generalize (rdNum false s 2 (rdNum false s 1 (rdNum false s 1 (rdName false s τ).2).2).2).2 = σ4 at *
  generalize (rdNum false s 1 (rdNum false s 1 (rdName false s τ).2).2).1 = X3 at *
  generalize (rdNum false s 1 (rdNum false s 1 (rdName false s τ).2).2).2 = σ3 at *
  generalize (rdNum false s 1 (rdName false s τ).2).1 = X2 at *
  generalize (rdNum false s 1 (rdName false s τ).2).2 = σ2 at *
  generalize (rdName false s τ).1 = X1 at *
  generalize (rdName false s τ).2 = σ1 at *
  have HW : Hid (∃ w0, w0 = ((w.alloc (.cells #[.pointer (some ⟨R, 0, none⟩)] 95)).alloc (.cells #[.string ⟨#[]⟩, .int .i64 0, .int .i64 0, .string ⟨#[]⟩, .slice none 0 0, .slice none 0 0, .slice none 0 0] 39)) ∧ w.grownBy w0 (some R) ∧ RdAt 68 w0 R s τ ∧ CellsAt w0 w.heap.size 95 #[.pointer (some ⟨R, 0, none⟩)] ∧ CellsAt w0 (w.heap.size + 1) 39 #[.string ⟨#[]⟩, .int .i64 0, .int .i64 0, .string ⟨#[]⟩, .slice none 0 0, .slice none 0 0, .slice none 0 0] ∧ w0.heap.size = w.heap.size + 2) := by
    have g1 := World.grownBy_alloc w (.cells #[.pointer (some ⟨R, 0, none⟩)] 95) (some R)
    have g2 := World.grownBy_alloc (w.alloc (.cells #[.pointer (some ⟨R, 0, none⟩)] 95)) (.cells #[.string ⟨#[]⟩, .int .i64 0, .int .i64 0, .string ⟨#[]⟩, .slice none 0 0, .slice none 0 0, .slice none 0 0] 39) none
    have hz : (w.alloc (.cells #[.pointer (some ⟨R, 0, none⟩)] 95)).heap.size = w.heap.size + 1 := by simp
    refine ⟨_, rfl, g1.trans (g2.but _), ?_, (CellsAt.new w _ _).kept g2 (by simp), ?_, by simp⟩
    · exact CellsAt.kept (CellsAt.kept h (World.grownBy_alloc w (.cells #[.pointer (some ⟨R, 0, none⟩)] 95) none) (by simp)) g2 (by simp)
    · have := CellsAt.new (w.alloc (.cells #[.pointer (some ⟨R, 0, none⟩)] 95)) 39 #[.string ⟨#[]⟩, .int .i64 0, .int .i64 0, .string ⟨#[]⟩, .slice none 0 0, .slice none 0 0, .slice none 0 0]
      rwa [hz] at this
  have HS0 : Hid (s.size ≤ 140737488351232) := hs
  clear h hs ha
  go_enter Try.func39, Try.ntmps39
  go_wp2_with fail
  obtain ⟨w0, hw0, gw0, hrd0, hbr0, hbo0, hsz0⟩ := HW.out
  rw [← hw0]
  clear hw0 HW
  refine Code.wp_mono (Q := fun e a' w' => e = .normal ∧ ∃ Bm : Nat, a' = ⟨#[.pointer (some ⟨R, 0, none⟩), .pointer (some ⟨w.heap.size, 0, none⟩), .pointer (some ⟨w.heap.size + 1, 0, none⟩), .pointer (some ⟨Bm, 0, none⟩), .pointer (some ⟨R, 0, none⟩), .string X1, .pointer (some ⟨R, 0, none⟩), .int .i64 X2, .pointer (some ⟨R, 0, none⟩), .int .i64 X3, .pointer (some ⟨R, 0, none⟩), .pointer (some ⟨R, 0, none⟩), .int .i64 X4, .string X5, .agg #[.string X1, .int .i64 X2, .int .i64 X3, .string X5, .slice none 0 0, .slice none 0 0, .slice none 0 0], undef, undef, undef, undef, undef, undef, undef, undef, undef, undef], []⟩ ∧ w0.heap.size ≤ Bm ∧ CellsAt w' Bm 39 #[.string X1, .int .i64 X2, .int .i64 X3, .string X5, .slice none 0 0, .slice none 0 0, .slice none 0 0] ∧ RdAt 68 w' R s σ5 ∧ w0.grownBy w' (some R)) ?_ ?_
  case refine_2 =>
    have z0 : w0.cell? ⟨w.heap.size, 0, none⟩ = some (.pointer (some ⟨R, 0, none⟩)) := hbr0.cell 0
    have nBr : R ≠ w.heap.size := by omega
    have HRD : Hid (RdAt 68 w0 R s τ) := hrd0
    have hsz : w.heap.size < w0.heap.size := by omega
    clear hbr0 hbo0 gw0 hrd0
    refine wp_region_noPanic ?_
    refine wp_region_L (S := fun w' => w'.cell? ⟨w.heap.size, 0, none⟩ = some (.pointer (some ⟨R, 0, none⟩))) (x := 12) (by kernel_rfl) ?_
    have k0 : w0.grownBy w0.drew (some R) := ⟨rfl, rfl, rfl, Nat.le_refl _, fun _ _ _ => rfl⟩
    have r0 : RdAt 68 w0.drew R s τ := HRD.out
    generalize w0.drew = wd at k0 r0 ⊢
    have hS0 : wd.cell? ⟨w.heap.size, 0, none⟩ = some (.pointer (some ⟨R, 0, none⟩)) := k0.cell z0 (fun e => nBr (by cases e; rfl))
    refine wpL_take 0 4 (.pointer (some ⟨R, 0, none⟩)) rfl (by kernel_rfl) (fun _ _ _ h => h) hS0 rfl rfl (fun w' hSw => by (try dsimp only at hSw); go_simp) ?_
    simp only [List.setIfInBounds_toArray, List.set_cons_zero, List.set_cons_succ]
    refine wpL_take 2 6 (.pointer (some ⟨R, 0, none⟩)) rfl (by kernel_rfl) (fun _ _ _ h => h) hS0 rfl rfl (fun w' hSw => by (try dsimp only at hSw); go_simp) ?_
    simp only [List.setIfInBounds_toArray, List.set_cons_zero, List.set_cons_succ]
    refine wpL_take 4 8 (.pointer (some ⟨R, 0, none⟩)) rfl (by kernel_rfl) (fun _ _ _ h => h) hS0 rfl rfl (fun w' hSw => by (try dsimp only at hSw); go_simp) ?_
    simp only [List.setIfInBounds_toArray, List.set_cons_zero, List.set_cons_succ]
    refine wpL_take 6 10 (.pointer (some ⟨R, 0, none⟩)) rfl (by kernel_rfl) (fun _ _ _ h => h) hS0 rfl rfl (fun w' hSw => by (try dsimp only at hSw); go_simp) ?_
    simp only [List.setIfInBounds_toArray, List.set_cons_zero, List.set_cons_succ]
    refine wpL_take 7 11 (.pointer (some ⟨R, 0, none⟩)) rfl (by kernel_rfl) (fun _ _ _ h => h) hS0 rfl rfl (fun w' hSw => by (try dsimp only at hSw); go_simp) ?_
    simp only [List.setIfInBounds_toArray, List.set_cons_zero, List.set_cons_succ]
    refine wpL_two (i := 1) (j := 11) rfl rfl (by kernel_rfl) (fun K hK => ?_) (fun K hK => ?_)
    rotate_left
    ·
      go_simp
      have mk : CellsAt (wd.alloc (.cells #[.string ⟨#[]⟩, .int .i64 0, .int .i64 0, .string ⟨#[]⟩, .slice none 0 0, .slice none 0 0, .slice none 0 0] 39)) wd.heap.size 39 #[.string ⟨#[]⟩, .int .i64 0, .int .i64 0, .string ⟨#[]⟩, .slice none 0 0, .slice none 0 0, .slice none 0 0] := CellsAt.new wd _ _
      have ga : w0.grownBy (wd.alloc (.cells #[.string ⟨#[]⟩, .int .i64 0, .int .i64 0, .string ⟨#[]⟩, .slice none 0 0, .slice none 0 0, .slice none 0 0] 39)) (some R) := k0.trans (World.grownBy_alloc wd _ _)
      have ra : RdAt 68 (wd.alloc (.cells #[.string ⟨#[]⟩, .int .i64 0, .int .i64 0, .string ⟨#[]⟩, .slice none 0 0, .slice none 0 0, .slice none 0 0] 39)) R s τ := CellsAt.kept r0 (World.grownBy_alloc wd _ none) (by simp)
      have hle : w0.heap.size ≤ wd.heap.size := k0.size
      have hSa : (wd.alloc (.cells #[.string ⟨#[]⟩, .int .i64 0, .int .i64 0, .string ⟨#[]⟩, .slice none 0 0, .slice none 0 0, .slice none 0 0] 39)).cell? ⟨w.heap.size, 0, none⟩ = some (.pointer (some ⟨R, 0, none⟩)) := ga.cell z0 (fun e => nBr (by cases e; rfl))
      refine hK.out _ _ hSa (fun _ => ?_)
      clear hK K
      refine wpL_step (i := 1) rfl (by kernel_rfl) (fun K hK => ?_)
      go_simp
      refine (H1.out (wd.alloc (.cells #[.string ⟨#[]⟩, .int .i64 0, .int .i64 0, .string ⟨#[]⟩, .slice none 0 0, .slice none 0 0, .slice none 0 0] 39)) _ ra (Below.refl _ _)).mono ?_
      rintro e w1 ⟨rfl, r1, j1⟩
      have k1 : w0.grownBy w1 (some R) := ga.trans j1
      have hS1 : w1.cell? ⟨w.heap.size, 0, none⟩ = some (.pointer (some ⟨R, 0, none⟩)) := k1.cell z0 (fun e => nBr (by cases e; rfl))
      have m1 := mk.kept j1 (fun e => by have := Option.some.inj e; omega)
      go_simp
      refine hK.out _ _ hS1 (fun _ => ?_)
      clear hK K
      refine wpL_step (i := 3) rfl (by kernel_rfl) (fun K hK => ?_)
      go_simp
      refine (H2.out w1 _ r1 (Below.refl _ _)).mono ?_
      rintro e w2 ⟨rfl, r2, j2⟩
      have k2 : w0.grownBy w2 (some R) := k1.trans j2
      have hS2 : w2.cell? ⟨w.heap.size, 0, none⟩ = some (.pointer (some ⟨R, 0, none⟩)) := k2.cell z0 (fun e => nBr (by cases e; rfl))
      have m2 := m1.kept j2 (fun e => by have := Option.some.inj e; omega)
      go_simp
      refine hK.out _ _ hS2 (fun _ => ?_)
      clear hK K
      refine wpL_step (i := 5) rfl (by kernel_rfl) (fun K hK => ?_)
      go_simp
      refine (H3.out w2 _ r2 (Below.refl _ _)).mono ?_
      rintro e w3 ⟨rfl, r3, j3⟩
      have k3 : w0.grownBy w3 (some R) := k2.trans j3
      have hS3 : w3.cell? ⟨w.heap.size, 0, none⟩ = some (.pointer (some ⟨R, 0, none⟩)) := k3.cell z0 (fun e => nBr (by cases e; rfl))
      have m3 := m2.kept j3 (fun e => by have := Option.some.inj e; omega)
      go_simp
      refine hK.out _ _ hS3 (fun _ => ?_)
      clear hK K
      refine wpL_step (i := 8) rfl (by kernel_rfl) (fun K hK => ?_)
      go_simp
      refine (H4.out w3 _ r3 (Below.refl _ _)).mono ?_
      rintro e w4 ⟨rfl, r4, j4⟩
      have k4 : w0.grownBy w4 (some R) := k3.trans j4
      have hS4 : w4.cell? ⟨w.heap.size, 0, none⟩ = some (.pointer (some ⟨R, 0, none⟩)) := k4.cell z0 (fun e => nBr (by cases e; rfl))
      have m4 := m3.kept j4 (fun e => by have := Option.some.inj e; omega)
      go_simp
      refine hK.out _ _ hS4 (fun _ => ?_)
      clear hK K
      refine wpL_step (i := 9) rfl (by kernel_rfl) (fun K hK => ?_)
      go_simp
      refine (H5.out w4 _ r4 (Below.refl _ _)).mono ?_
      rintro e w5 ⟨rfl, r5, j5⟩
      have k5 : w0.grownBy w5 (some R) := k4.trans j5
      have hS5 : w5.cell? ⟨w.heap.size, 0, none⟩ = some (.pointer (some ⟨R, 0, none⟩)) := k5.cell z0 (fun e => nBr (by cases e; rfl))
      have m5 := m4.kept j5 (fun e => by have := Option.some.inj e; omega)
      go_simp
      refine hK.out _ _ hS5 (fun _ => ?_)
      clear hK K
      refine wpL_take 10 14 (.agg #[.string X1, .int .i64 X2, .int .i64 X3, .string X5, .slice none 0 0, .slice none 0 0, .slice none 0 0]) rfl (by kernel_rfl) (fun _ _ _ h => h) hS5 rfl rfl (fun w' hSw => by (try dsimp only at hSw); go_simp) ?_
      simp only [List.setIfInBounds_toArray, List.set_cons_zero, List.set_cons_succ]
      refine wpL_last (x := 12) rfl (by kernel_rfl) (by kernel_rfl) (fun K hK => ?_)
      obtain ⟨q0, q1, q2, q3, q4, q5, q6⟩ := box7 m5
      have f := m5.frozen
      go_simp
      refine hK.out _ _ (NoPanic.normal ⟨rfl, _, rfl, hle, sets7 m5 _ _ _ _ _ _ _, CellsAt.kept r5 (sets7_grown w5 _ _ _ _ _ _ _ _) (fun e => by have := Option.some.inj e; omega), World.grownBy.andThen k5 (sets7_grown w5 _ _ _ _ _ _ _ _) (fun j e => .inl (by have := Option.some.inj e; omega))⟩)
    go_simp
    refine (H1.out wd _ r0 (Below.refl _ _)).mono ?_
    rintro e w1 ⟨rfl, r1, j1⟩
    have k1 : w0.grownBy w1 (some R) := k0.trans j1
    have hS1 : w1.cell? ⟨w.heap.size, 0, none⟩ = some (.pointer (some ⟨R, 0, none⟩)) := k1.cell z0 (fun e => nBr (by cases e; rfl))
    go_simp
    refine hK.out _ _ hS1 (fun _ => ?_)
    clear hK K
    refine wpL_two (i := 3) (j := 11) rfl rfl (by kernel_rfl) (fun K hK => ?_) (fun K hK => ?_)
    rotate_left
    ·
      go_simp
      have mk : CellsAt (w1.alloc (.cells #[.string ⟨#[]⟩, .int .i64 0, .int .i64 0, .string ⟨#[]⟩, .slice none 0 0, .slice none 0 0, .slice none 0 0] 39)) w1.heap.size 39 #[.string ⟨#[]⟩, .int .i64 0, .int .i64 0, .string ⟨#[]⟩, .slice none 0 0, .slice none 0 0, .slice none 0 0] := CellsAt.new w1 _ _
      have ga : w0.grownBy (w1.alloc (.cells #[.string ⟨#[]⟩, .int .i64 0, .int .i64 0, .string ⟨#[]⟩, .slice none 0 0, .slice none 0 0, .slice none 0 0] 39)) (some R) := k1.trans (World.grownBy_alloc w1 _ _)
      have ra : RdAt 68 (w1.alloc (.cells #[.string ⟨#[]⟩, .int .i64 0, .int .i64 0, .string ⟨#[]⟩, .slice none 0 0, .slice none 0 0, .slice none 0 0] 39)) R s σ1 := CellsAt.kept r1 (World.grownBy_alloc w1 _ none) (by simp)
      have hle : w0.heap.size ≤ w1.heap.size := k1.size
      have hSa : (w1.alloc (.cells #[.string ⟨#[]⟩, .int .i64 0, .int .i64 0, .string ⟨#[]⟩, .slice none 0 0, .slice none 0 0, .slice none 0 0] 39)).cell? ⟨w.heap.size, 0, none⟩ = some (.pointer (some ⟨R, 0, none⟩)) := ga.cell z0 (fun e => nBr (by cases e; rfl))
      refine hK.out _ _ hSa (fun _ => ?_)
      clear hK K
      refine wpL_step (i := 3) rfl (by kernel_rfl) (fun K hK => ?_)
      go_simp
      refine (H2.out (w1.alloc (.cells #[.string ⟨#[]⟩, .int .i64 0, .int .i64 0, .string ⟨#[]⟩, .slice none 0 0, .slice none 0 0, .slice none 0 0] 39)) _ ra (Below.refl _ _)).mono ?_
      rintro e w2 ⟨rfl, r2, j2⟩
      have k2 : w0.grownBy w2 (some R) := ga.trans j2
      have hS2 : w2.cell? ⟨w.heap.size, 0, none⟩ = some (.pointer (some ⟨R, 0, none⟩)) := k2.cell z0 (fun e => nBr (by cases e; rfl))
      have m2 := mk.kept j2 (fun e => by have := Option.some.inj e; omega)
      go_simp
      refine hK.out _ _ hS2 (fun _ => ?_)
      clear hK K
      refine wpL_step (i := 5) rfl (by kernel_rfl) (fun K hK => ?_)
      go_simp
      refine (H3.out w2 _ r2 (Below.refl _ _)).mono ?_
      rintro e w3 ⟨rfl, r3, j3⟩
      have k3 : w0.grownBy w3 (some R) := k2.trans j3
      have hS3 : w3.cell? ⟨w.heap.size, 0, none⟩ = some (.pointer (some ⟨R, 0, none⟩)) := k3.cell z0 (fun e => nBr (by cases e; rfl))
      have m3 := m2.kept j3 (fun e => by have := Option.some.inj e; omega)
      go_simp
      refine hK.out _ _ hS3 (fun _ => ?_)
      clear hK K
      refine wpL_step (i := 8) rfl (by kernel_rfl) (fun K hK => ?_)
      go_simp
      refine (H4.out w3 _ r3 (Below.refl _ _)).mono ?_
      rintro e w4 ⟨rfl, r4, j4⟩
      have k4 : w0.grownBy w4 (some R) := k3.trans j4
      have hS4 : w4.cell? ⟨w.heap.size, 0, none⟩ = some (.pointer (some ⟨R, 0, none⟩)) := k4.cell z0 (fun e => nBr (by cases e; rfl))
      have m4 := m3.kept j4 (fun e => by have := Option.some.inj e; omega)
      go_simp
      refine hK.out _ _ hS4 (fun _ => ?_)
      clear hK K
      refine wpL_step (i := 9) rfl (by kernel_rfl) (fun K hK => ?_)
      go_simp
      refine (H5.out w4 _ r4 (Below.refl _ _)).mono ?_
      rintro e w5 ⟨rfl, r5, j5⟩
      have k5 : w0.grownBy w5 (some R) := k4.trans j5
      have hS5 : w5.cell? ⟨w.heap.size, 0, none⟩ = some (.pointer (some ⟨R, 0, none⟩)) := k5.cell z0 (fun e => nBr (by cases e; rfl))
      have m5 := m4.kept j5 (fun e => by have := Option.some.inj e; omega)
      go_simp
      refine hK.out _ _ hS5 (fun _ => ?_)
      clear hK K
      refine wpL_take 10 14 (.agg #[.string X1, .int .i64 X2, .int .i64 X3, .string X5, .slice none 0 0, .slice none 0 0, .slice none 0 0]) rfl (by kernel_rfl) (fun _ _ _ h => h) hS5 rfl rfl (fun w' hSw => by (try dsimp only at hSw); go_simp) ?_
      simp only [List.setIfInBounds_toArray, List.set_cons_zero, List.set_cons_succ]
      refine wpL_last (x := 12) rfl (by kernel_rfl) (by kernel_rfl) (fun K hK => ?_)
      obtain ⟨q0, q1, q2, q3, q4, q5, q6⟩ := box7 m5
      have f := m5.frozen
      go_simp
      refine hK.out _ _ (NoPanic.normal ⟨rfl, _, rfl, hle, sets7 m5 _ _ _ _ _ _ _, CellsAt.kept r5 (sets7_grown w5 _ _ _ _ _ _ _ _) (fun e => by have := Option.some.inj e; omega), World.grownBy.andThen k5 (sets7_grown w5 _ _ _ _ _ _ _ _) (fun j e => .inl (by have := Option.some.inj e; omega))⟩)
    go_simp
    refine (H2.out w1 _ r1 (Below.refl _ _)).mono ?_
    rintro e w2 ⟨rfl, r2, j2⟩
    have k2 : w0.grownBy w2 (some R) := k1.trans j2
    have hS2 : w2.cell? ⟨w.heap.size, 0, none⟩ = some (.pointer (some ⟨R, 0, none⟩)) := k2.cell z0 (fun e => nBr (by cases e; rfl))
    go_simp
    refine hK.out _ _ hS2 (fun _ => ?_)
    clear hK K
    refine wpL_two (i := 5) (j := 11) rfl rfl (by kernel_rfl) (fun K hK => ?_) (fun K hK => ?_)
    rotate_left
    ·
      go_simp
      have mk : CellsAt (w2.alloc (.cells #[.string ⟨#[]⟩, .int .i64 0, .int .i64 0, .string ⟨#[]⟩, .slice none 0 0, .slice none 0 0, .slice none 0 0] 39)) w2.heap.size 39 #[.string ⟨#[]⟩, .int .i64 0, .int .i64 0, .string ⟨#[]⟩, .slice none 0 0, .slice none 0 0, .slice none 0 0] := CellsAt.new w2 _ _
      have ga : w0.grownBy (w2.alloc (.cells #[.string ⟨#[]⟩, .int .i64 0, .int .i64 0, .string ⟨#[]⟩, .slice none 0 0, .slice none 0 0, .slice none 0 0] 39)) (some R) := k2.trans (World.grownBy_alloc w2 _ _)
      have ra : RdAt 68 (w2.alloc (.cells #[.string ⟨#[]⟩, .int .i64 0, .int .i64 0, .string ⟨#[]⟩, .slice none 0 0, .slice none 0 0, .slice none 0 0] 39)) R s σ2 := CellsAt.kept r2 (World.grownBy_alloc w2 _ none) (by simp)
      have hle : w0.heap.size ≤ w2.heap.size := k2.size
      have hSa : (w2.alloc (.cells #[.string ⟨#[]⟩, .int .i64 0, .int .i64 0, .string ⟨#[]⟩, .slice none 0 0, .slice none 0 0, .slice none 0 0] 39)).cell? ⟨w.heap.size, 0, none⟩ = some (.pointer (some ⟨R, 0, none⟩)) := ga.cell z0 (fun e => nBr (by cases e; rfl))
      refine hK.out _ _ hSa (fun _ => ?_)
      clear hK K
      refine wpL_step (i := 5) rfl (by kernel_rfl) (fun K hK => ?_)
      go_simp
      refine (H3.out (w2.alloc (.cells #[.string ⟨#[]⟩, .int .i64 0, .int .i64 0, .string ⟨#[]⟩, .slice none 0 0, .slice none 0 0, .slice none 0 0] 39)) _ ra (Below.refl _ _)).mono ?_
      rintro e w3 ⟨rfl, r3, j3⟩
      have k3 : w0.grownBy w3 (some R) := ga.trans j3
      have hS3 : w3.cell? ⟨w.heap.size, 0, none⟩ = some (.pointer (some ⟨R, 0, none⟩)) := k3.cell z0 (fun e => nBr (by cases e; rfl))
      have m3 := mk.kept j3 (fun e => by have := Option.some.inj e; omega)
      go_simp
      refine hK.out _ _ hS3 (fun _ => ?_)
      clear hK K
      refine wpL_step (i := 8) rfl (by kernel_rfl) (fun K hK => ?_)
      go_simp
      refine (H4.out w3 _ r3 (Below.refl _ _)).mono ?_
      rintro e w4 ⟨rfl, r4, j4⟩
      have k4 : w0.grownBy w4 (some R) := k3.trans j4
      have hS4 : w4.cell? ⟨w.heap.size, 0, none⟩ = some (.pointer (some ⟨R, 0, none⟩)) := k4.cell z0 (fun e => nBr (by cases e; rfl))
      have m4 := m3.kept j4 (fun e => by have := Option.some.inj e; omega)
      go_simp
      refine hK.out _ _ hS4 (fun _ => ?_)
      clear hK K
      refine wpL_step (i := 9) rfl (by kernel_rfl) (fun K hK => ?_)
      go_simp
      refine (H5.out w4 _ r4 (Below.refl _ _)).mono ?_
      rintro e w5 ⟨rfl, r5, j5⟩
      have k5 : w0.grownBy w5 (some R) := k4.trans j5
      have hS5 : w5.cell? ⟨w.heap.size, 0, none⟩ = some (.pointer (some ⟨R, 0, none⟩)) := k5.cell z0 (fun e => nBr (by cases e; rfl))
      have m5 := m4.kept j5 (fun e => by have := Option.some.inj e; omega)
      go_simp
      refine hK.out _ _ hS5 (fun _ => ?_)
      clear hK K
      refine wpL_take 10 14 (.agg #[.string X1, .int .i64 X2, .int .i64 X3, .string X5, .slice none 0 0, .slice none 0 0, .slice none 0 0]) rfl (by kernel_rfl) (fun _ _ _ h => h) hS5 rfl rfl (fun w' hSw => by (try dsimp only at hSw); go_simp) ?_
      simp only [List.setIfInBounds_toArray, List.set_cons_zero, List.set_cons_succ]
      refine wpL_last (x := 12) rfl (by kernel_rfl) (by kernel_rfl) (fun K hK => ?_)
      obtain ⟨q0, q1, q2, q3, q4, q5, q6⟩ := box7 m5
      have f := m5.frozen
      go_simp
      refine hK.out _ _ (NoPanic.normal ⟨rfl, _, rfl, hle, sets7 m5 _ _ _ _ _ _ _, CellsAt.kept r5 (sets7_grown w5 _ _ _ _ _ _ _ _) (fun e => by have := Option.some.inj e; omega), World.grownBy.andThen k5 (sets7_grown w5 _ _ _ _ _ _ _ _) (fun j e => .inl (by have := Option.some.inj e; omega))⟩)
    go_simp
    refine (H3.out w2 _ r2 (Below.refl _ _)).mono ?_
    rintro e w3 ⟨rfl, r3, j3⟩
    have k3 : w0.grownBy w3 (some R) := k2.trans j3
    have hS3 : w3.cell? ⟨w.heap.size, 0, none⟩ = some (.pointer (some ⟨R, 0, none⟩)) := k3.cell z0 (fun e => nBr (by cases e; rfl))
    go_simp
    refine hK.out _ _ hS3 (fun _ => ?_)
    clear hK K
    refine wpL_two (i := 8) (j := 11) rfl rfl (by kernel_rfl) (fun K hK => ?_) (fun K hK => ?_)
    rotate_left
    ·
      go_simp
      have mk : CellsAt (w3.alloc (.cells #[.string ⟨#[]⟩, .int .i64 0, .int .i64 0, .string ⟨#[]⟩, .slice none 0 0, .slice none 0 0, .slice none 0 0] 39)) w3.heap.size 39 #[.string ⟨#[]⟩, .int .i64 0, .int .i64 0, .string ⟨#[]⟩, .slice none 0 0, .slice none 0 0, .slice none 0 0] := CellsAt.new w3 _ _
      have ga : w0.grownBy (w3.alloc (.cells #[.string ⟨#[]⟩, .int .i64 0, .int .i64 0, .string ⟨#[]⟩, .slice none 0 0, .slice none 0 0, .slice none 0 0] 39)) (some R) := k3.trans (World.grownBy_alloc w3 _ _)
      have ra : RdAt 68 (w3.alloc (.cells #[.string ⟨#[]⟩, .int .i64 0, .int .i64 0, .string ⟨#[]⟩, .slice none 0 0, .slice none 0 0, .slice none 0 0] 39)) R s σ3 := CellsAt.kept r3 (World.grownBy_alloc w3 _ none) (by simp)
      have hle : w0.heap.size ≤ w3.heap.size := k3.size
      have hSa : (w3.alloc (.cells #[.string ⟨#[]⟩, .int .i64 0, .int .i64 0, .string ⟨#[]⟩, .slice none 0 0, .slice none 0 0, .slice none 0 0] 39)).cell? ⟨w.heap.size, 0, none⟩ = some (.pointer (some ⟨R, 0, none⟩)) := ga.cell z0 (fun e => nBr (by cases e; rfl))
      refine hK.out _ _ hSa (fun _ => ?_)
      clear hK K
      refine wpL_step (i := 8) rfl (by kernel_rfl) (fun K hK => ?_)
      go_simp
      refine (H4.out (w3.alloc (.cells #[.string ⟨#[]⟩, .int .i64 0, .int .i64 0, .string ⟨#[]⟩, .slice none 0 0, .slice none 0 0, .slice none 0 0] 39)) _ ra (Below.refl _ _)).mono ?_
      rintro e w4 ⟨rfl, r4, j4⟩
      have k4 : w0.grownBy w4 (some R) := ga.trans j4
      have hS4 : w4.cell? ⟨w.heap.size, 0, none⟩ = some (.pointer (some ⟨R, 0, none⟩)) := k4.cell z0 (fun e => nBr (by cases e; rfl))
      have m4 := mk.kept j4 (fun e => by have := Option.some.inj e; omega)
      go_simp
      refine hK.out _ _ hS4 (fun _ => ?_)
      clear hK K
      refine wpL_step (i := 9) rfl (by kernel_rfl) (fun K hK => ?_)
      go_simp
      refine (H5.out w4 _ r4 (Below.refl _ _)).mono ?_
      rintro e w5 ⟨rfl, r5, j5⟩
      have k5 : w0.grownBy w5 (some R) := k4.trans j5
      have hS5 : w5.cell? ⟨w.heap.size, 0, none⟩ = some (.pointer (some ⟨R, 0, none⟩)) := k5.cell z0 (fun e => nBr (by cases e; rfl))
      have m5 := m4.kept j5 (fun e => by have := Option.some.inj e; omega)
      go_simp
      refine hK.out _ _ hS5 (fun _ => ?_)
      clear hK K
      refine wpL_take 10 14 (.agg #[.string X1, .int .i64 X2, .int .i64 X3, .string X5, .slice none 0 0, .slice none 0 0, .slice none 0 0]) rfl (by kernel_rfl) (fun _ _ _ h => h) hS5 rfl rfl (fun w' hSw => by (try dsimp only at hSw); go_simp) ?_
      simp only [List.setIfInBounds_toArray, List.set_cons_zero, List.set_cons_succ]
      refine wpL_last (x := 12) rfl (by kernel_rfl) (by kernel_rfl) (fun K hK => ?_)
      obtain ⟨q0, q1, q2, q3, q4, q5, q6⟩ := box7 m5
      have f := m5.frozen
      go_simp
      refine hK.out _ _ (NoPanic.normal ⟨rfl, _, rfl, hle, sets7 m5 _ _ _ _ _ _ _, CellsAt.kept r5 (sets7_grown w5 _ _ _ _ _ _ _ _) (fun e => by have := Option.some.inj e; omega), World.grownBy.andThen k5 (sets7_grown w5 _ _ _ _ _ _ _ _) (fun j e => .inl (by have := Option.some.inj e; omega))⟩)
    go_simp
    refine (H4.out w3 _ r3 (Below.refl _ _)).mono ?_
    rintro e w4 ⟨rfl, r4, j4⟩
    have k4 : w0.grownBy w4 (some R) := k3.trans j4
    have hS4 : w4.cell? ⟨w.heap.size, 0, none⟩ = some (.pointer (some ⟨R, 0, none⟩)) := k4.cell z0 (fun e => nBr (by cases e; rfl))
    go_simp
    refine hK.out _ _ hS4 (fun _ => ?_)
    clear hK K
    refine wpL_two (i := 9) (j := 11) rfl rfl (by kernel_rfl) (fun K hK => ?_) (fun K hK => ?_)
    rotate_left
    ·
      go_simp
      have mk : CellsAt (w4.alloc (.cells #[.string ⟨#[]⟩, .int .i64 0, .int .i64 0, .string ⟨#[]⟩, .slice none 0 0, .slice none 0 0, .slice none 0 0] 39)) w4.heap.size 39 #[.string ⟨#[]⟩, .int .i64 0, .int .i64 0, .string ⟨#[]⟩, .slice none 0 0, .slice none 0 0, .slice none 0 0] := CellsAt.new w4 _ _
      have ga : w0.grownBy (w4.alloc (.cells #[.string ⟨#[]⟩, .int .i64 0, .int .i64 0, .string ⟨#[]⟩, .slice none 0 0, .slice none 0 0, .slice none 0 0] 39)) (some R) := k4.trans (World.grownBy_alloc w4 _ _)
      have ra : RdAt 68 (w4.alloc (.cells #[.string ⟨#[]⟩, .int .i64 0, .int .i64 0, .string ⟨#[]⟩, .slice none 0 0, .slice none 0 0, .slice none 0 0] 39)) R s σ4 := CellsAt.kept r4 (World.grownBy_alloc w4 _ none) (by simp)
      have hle : w0.heap.size ≤ w4.heap.size := k4.size
      have hSa : (w4.alloc (.cells #[.string ⟨#[]⟩, .int .i64 0, .int .i64 0, .string ⟨#[]⟩, .slice none 0 0, .slice none 0 0, .slice none 0 0] 39)).cell? ⟨w.heap.size, 0, none⟩ = some (.pointer (some ⟨R, 0, none⟩)) := ga.cell z0 (fun e => nBr (by cases e; rfl))
      refine hK.out _ _ hSa (fun _ => ?_)
      clear hK K
      refine wpL_step (i := 9) rfl (by kernel_rfl) (fun K hK => ?_)
      go_simp
      refine (H5.out (w4.alloc (.cells #[.string ⟨#[]⟩, .int .i64 0, .int .i64 0, .string ⟨#[]⟩, .slice none 0 0, .slice none 0 0, .slice none 0 0] 39)) _ ra (Below.refl _ _)).mono ?_
      rintro e w5 ⟨rfl, r5, j5⟩
      have k5 : w0.grownBy w5 (some R) := ga.trans j5
      have hS5 : w5.cell? ⟨w.heap.size, 0, none⟩ = some (.pointer (some ⟨R, 0, none⟩)) := k5.cell z0 (fun e => nBr (by cases e; rfl))
      have m5 := mk.kept j5 (fun e => by have := Option.some.inj e; omega)
      go_simp
      refine hK.out _ _ hS5 (fun _ => ?_)
      clear hK K
      refine wpL_take 10 14 (.agg #[.string X1, .int .i64 X2, .int .i64 X3, .string X5, .slice none 0 0, .slice none 0 0, .slice none 0 0]) rfl (by kernel_rfl) (fun _ _ _ h => h) hS5 rfl rfl (fun w' hSw => by (try dsimp only at hSw); go_simp) ?_
      simp only [List.setIfInBounds_toArray, List.set_cons_zero, List.set_cons_succ]
      refine wpL_last (x := 12) rfl (by kernel_rfl) (by kernel_rfl) (fun K hK => ?_)
      obtain ⟨q0, q1, q2, q3, q4, q5, q6⟩ := box7 m5
      have f := m5.frozen
      go_simp
      refine hK.out _ _ (NoPanic.normal ⟨rfl, _, rfl, hle, sets7 m5 _ _ _ _ _ _ _, CellsAt.kept r5 (sets7_grown w5 _ _ _ _ _ _ _ _) (fun e => by have := Option.some.inj e; omega), World.grownBy.andThen k5 (sets7_grown w5 _ _ _ _ _ _ _ _) (fun j e => .inl (by have := Option.some.inj e; omega))⟩)
    go_simp
    refine (H5.out w4 _ r4 (Below.refl _ _)).mono ?_
    rintro e w5 ⟨rfl, r5, j5⟩
    have k5 : w0.grownBy w5 (some R) := k4.trans j5
    have hS5 : w5.cell? ⟨w.heap.size, 0, none⟩ = some (.pointer (some ⟨R, 0, none⟩)) := k5.cell z0 (fun e => nBr (by cases e; rfl))
    go_simp
    refine hK.out _ _ hS5 (fun _ => ?_)
    clear hK K
    refine wpL_take 10 14 (.agg #[.string X1, .int .i64 X2, .int .i64 X3, .string X5, .slice none 0 0, .slice none 0 0, .slice none 0 0]) rfl (by kernel_rfl) (fun _ _ _ h => h) hS5 rfl rfl (fun w' hSw => by (try dsimp only at hSw); go_simp) ?_
    simp only [List.setIfInBounds_toArray, List.set_cons_zero, List.set_cons_succ]
    refine wpL_step (i := 11) rfl (by kernel_rfl) (fun K hK => ?_)
    go_simp
    have mk : CellsAt (w5.alloc (.cells #[.string ⟨#[]⟩, .int .i64 0, .int .i64 0, .string ⟨#[]⟩, .slice none 0 0, .slice none 0 0, .slice none 0 0] 39)) w5.heap.size 39 #[.string ⟨#[]⟩, .int .i64 0, .int .i64 0, .string ⟨#[]⟩, .slice none 0 0, .slice none 0 0, .slice none 0 0] := CellsAt.new w5 _ _
    have ga : w0.grownBy (w5.alloc (.cells #[.string ⟨#[]⟩, .int .i64 0, .int .i64 0, .string ⟨#[]⟩, .slice none 0 0, .slice none 0 0, .slice none 0 0] 39)) (some R) := k5.trans (World.grownBy_alloc w5 _ _)
    have ra : RdAt 68 (w5.alloc (.cells #[.string ⟨#[]⟩, .int .i64 0, .int .i64 0, .string ⟨#[]⟩, .slice none 0 0, .slice none 0 0, .slice none 0 0] 39)) R s σ5 := CellsAt.kept r5 (World.grownBy_alloc w5 _ none) (by simp)
    have hle : w0.heap.size ≤ w5.heap.size := k5.size
    have hSa : (w5.alloc (.cells #[.string ⟨#[]⟩, .int .i64 0, .int .i64 0, .string ⟨#[]⟩, .slice none 0 0, .slice none 0 0, .slice none 0 0] 39)).cell? ⟨w.heap.size, 0, none⟩ = some (.pointer (some ⟨R, 0, none⟩)) := ga.cell z0 (fun e => nBr (by cases e; rfl))
    refine hK.out _ _ hSa (fun _ => ?_)
    clear hK K
    refine wpL_last (x := 12) rfl (by kernel_rfl) (by kernel_rfl) (fun K hK => ?_)
    go_simp
    refine hK.out _ _ (NoPanic.normal ⟨rfl, _, rfl, hle, CellsAt.new w5 _ _, CellsAt.kept r5 (World.grownBy_alloc w5 _ none) (by simp), k5.trans (World.grownBy_alloc w5 _ _)⟩)
  case refine_1 =>
    rintro e a' w1 ⟨rfl, Bm, rfl, hBm, hm1, hrd1, hg1⟩
    have hbr1 := hbr0.kept hg1 (fun e => by have := Option.some.inj e; omega)
    have hbo1 := hbo0.kept hg1 (fun e => by have := Option.some.inj e; omega)
    have hmlt := hm1.lt
    have hbase : w0.heap.size ≤ w1.heap.size := hg1.size
    have M1 : Hid (MSt w1.heap.size R w.heap.size Bm s X1 X5 X2 X3 w1 [] [] [] σ5) := ⟨hrd1, hbr1, _, _, _, hm1, ⟨rfl, .inl ⟨rfl, rfl⟩⟩, ⟨rfl, .inl ⟨rfl, rfl⟩⟩, ⟨rfl, .inl ⟨rfl, rfl⟩⟩⟩
    have z1 := hbr1.cell 0
    have HBO : Hid (CellsAt w1 (w.heap.size + 1) 39 _) := hbo1
    have HG : Hid (w.grownBy w1 (some R)) := gw0.trans hg1
    clear hbr1 hbo1 hm1 hrd1 hbr0 hbo0 hrd0 gw0 hg1
    have cR : R < w1.heap.size := by omega
    have cBr : w.heap.size < w1.heap.size := by omega
    have cO : w.heap.size + 1 < w1.heap.size := by omega
    have d1 : R ≠ w.heap.size := by omega
    have d2 : R ≠ Bm := by omega
    have d3 : w.heap.size ≠ Bm := by omega
    have l1 := rdMany_length false s (rdExp false s) σ5
    have e1 := rdMany_le false s (rdExp false s) (fun τ hτ => rdExp_le false s τ hτ) σ5 HLE.out
    have T1 := times_exp w1.heap.size R w.heap.size Bm s X1 X5 X2 X3 w1 σ5 M1.out cR cBr hmlt d1 d2 d3 HS0.out HLE.out (Nat.le_refl _)
    generalize (rdMany false s (rdExp false s) σ5).1 = es at *
    generalize (rdMany false s (rdExp false s) σ5).2 = σ6 at *
    have l2 := rdMany_length false s (rdImp false s) σ6
    have e2 := rdMany_le false s (rdImp false s) (fun τ hτ => rdImp_le false s τ hτ) σ6 e1
    have T2 : Hid (∀ w2, MSt w1.heap.size R w.heap.size Bm s X1 X5 X2 X3 w2 es [] [] σ6 → w1.heap.size ≤ w2.heap.size → _) := fun w2 h2 b2 => times_imp w1.heap.size R w.heap.size Bm s X1 X5 X2 X3 w2 es σ6 h2 cR cBr hmlt d1 d2 d3 HS0.out e1 b2
    generalize (rdMany false s (rdImp false s) σ6).1 = is at *
    generalize (rdMany false s (rdImp false s) σ6).2 = σ7 at *
    have l3 := rdMany_length false s (rdPat false s) σ7
    have T3 : Hid (∀ w3, MSt w1.heap.size R w.heap.size Bm s X1 X5 X2 X3 w3 es is [] σ7 → w1.heap.size ≤ w3.heap.size → _) := fun w3 h3 b3 => times_pat w1.heap.size R w.heap.size Bm s X1 X5 X2 X3 w3 es is σ7 h3 cR cBr hmlt d1 d2 d3 HS0.out e2 b3
    generalize (rdMany false s (rdPat false s) σ7).1 = ps at *
    generalize (rdMany false s (rdPat false s) σ7).2 = σ8 at *
    have HL : Hid (es.length ≤ 255 ∧ is.length ≤ 255 ∧ ps.length ≤ 255) := ⟨l1, l2, l3⟩
    clear l1 l2 l3 e1 e2
    go_wp2_with fail
    refine T1.mono ?_
    rintro e w2 ⟨rfl, M2, L2, b2⟩
    have z2 := M2.box.cell 0
    have HM2 : Hid (MSt w1.heap.size R w.heap.size Bm s X1 X5 X2 X3 w2 es [] [] σ6) := M2
    clear M2 T1 z1
    go_wp2_with fail
    refine (T2.out _ HM2.out b2).mono ?_
    rintro e w3 ⟨rfl, M3, L3, b3⟩
    have z3 := M3.box.cell 0
    have HM3 : Hid (MSt w1.heap.size R w.heap.size Bm s X1 X5 X2 X3 w3 es is [] σ7) := M3
    clear M3 T2 z2
    go_wp2_with fail
    refine (T3.out _ HM3.out b3).mono ?_
    rintro e w4 ⟨rfl, M4, L4, b4⟩
    have L := (L2.trans L3).trans L4
    obtain ⟨hrd4, _, ve, vi, vp, hm4, hE, hI, hP⟩ := M4
    obtain ⟨ae, ke, rfl⟩ := ownsRow_slice hE
    obtain ⟨ai, ki, rfl⟩ := ownsRow_slice hI
    obtain ⟨ap, kp, rfl⟩ := ownsRow_slice hP
    have hbo4 : CellsAt w4 (w.heap.size + 1) 39 _ := (L.block _ cO (by omega) (by omega)).trans HBO.out
    obtain ⟨q0, q1, q2, q3, q4, q5, q6⟩ := box7 hm4
    obtain ⟨p0, p1, p2, p3, p4, p5, p6⟩ := box7 hbo4
    have f := hbo4.frozen
    have HE : Hid (w4.ownsRow w1.heap.size 77 2 (.slice ae es.length ke) es.length (es.flatMap expC)) := hE
    have HI : Hid (w4.ownsRow w1.heap.size 74 4 (.slice ai is.length ki) is.length (is.flatMap impC)) := hI
    have HP : Hid (w4.ownsRow w1.heap.size 48 4 (.slice ap ps.length kp) ps.length (ps.flatMap patC)) := hP
    have HR4 : Hid (RdAt 68 w4 R s σ8) := hrd4
    have HB4 : Hid (CellsAt w4 (w.heap.size + 1) 39 _) := hbo4
    have HF : Hid (CellsAt _ (w.heap.size + 1) 39 _) := sets7 hbo4 (.string X1) (.int .i64 X2) (.int .i64 X3) (.string X5) (.slice ae es.length ke) (.slice ai is.length ki) (.slice ap ps.length kp)
    have HGR := sets7_grown w4 (w.heap.size + 1) (.string X1) (.int .i64 X2) (.int .i64 X3) (.string X5) (.slice ae es.length ke) (.slice ai is.length ki) (.slice ap ps.length kp)
    have HGR' : Hid (w4.grownBy _ (some (w.heap.size + 1))) := HGR
    clear hm4 hbo4 hE hI hP hrd4 HM2 HM3 M1 T3 z3 HGR
    go_wp2
    clear p0 p1 p2 p3 p4 p5 p6 q0 q1 q2 q3 q4 q5 q6 f
    have hF := HF.out
    have hG := HGR'.out
    clear HF HGR'
    generalize World.setCell _ ⟨w.heap.size + 1, 6, none⟩ _ = w5 at hF hG ⊢
    (try simp only [Exit.inBlock, Exit.then])
    refine bodyPost_ret (results_cell_row rfl _ _ _ _ _ _ _ rfl hF Try.underlying39 rfl (by kernel_rfl)) rfl ?_
    have hq : ∀ {e : TypeId} (k : Nat), some (w.heap.size + 1) = some k → k < w1.heap.size ∨ ∃ cs t fz, t ≠ e ∧ w4.heap[k]? = some (.cells cs t fz) := fun k e => .inl (by have := Option.some.inj e; omega)
    have rE := row_less (row_grown HE.out hG hq) (show w.heap.size ≤ w1.heap.size by omega)
    have rI := row_less (row_grown HI.out hG hq) (show w.heap.size ≤ w1.heap.size by omega)
    have rP := row_less (row_grown HP.out hG hq) (show w.heap.size ≤ w1.heap.size by omega)
    refine ⟨_, rfl, ?_, ?_, ?_⟩
    · rw [HV.out]
      exact ⟨_, _, _, rfl, ⟨rE, rI, rP⟩, HL.out⟩
    · rw [HV.out]
      exact CellsAt.kept HR4.out hG (fun e => by have := Option.some.inj e; omega)
    · exact World.grownBy.andThen (LowK.rest HG.out L (by omega) (by omega)) hG (fun j e => .inl (by have := Option.some.inj e; omega))

end Go.Proofs.Ytaklbnabgcglhaa
