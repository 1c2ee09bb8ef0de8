/- The contracts of the functions that read one import and one patch. -/
import Derived.Test.YtaklbnabgcglhaaDecD
namespace Go.Proofs.Ytaklbnabgcglhaa
open Go.RowKit Go.PlainAid Go.Lib

theorem name_from (R : Nat) (s : ByteArray) (σ : (Nat × Bool)) (hs : s.size ≤ 140737488351232) (ha : σ.1 ≤ s.size) (w W : World) (h : RdAt 68 w R s σ) (hB : Below w.heap.size w W) :
    Calls Try.prog 64 #[.pointer (some ⟨R, 0, none⟩)] W fun e w1 => e = .returned (.string (rdName false s σ).1) ∧ RdAt 68 w1 R s (rdName false s σ).2 ∧ w.grownBy w1 (some R) :=
  (name_any R s σ W (CellsAt.below h hB (CellsAt.lt h)) hs ha).mono fun _ _ ⟨h1, h2, h3⟩ => ⟨h1, h2, ((grown_of_below hB).but _).trans h3⟩
theorem number_from (R : Nat) (s : ByteArray) (σ : (Nat × Bool)) (m : Nat) (hm : m = 1 ∨ m = 2) (hs : s.size ≤ 140737488351232) (ha : σ.1 ≤ s.size) (M : Value) (hM : M = .int .i64 m) (w W : World) (h : RdAt 68 w R s σ) (hB : Below w.heap.size w W) :
    Calls Try.prog 65 #[.pointer (some ⟨R, 0, none⟩), M] W fun e w1 => e = .returned (.int .i64 (rdNum false s m σ).1) ∧ RdAt 68 w1 R s (rdNum false s m σ).2 ∧ w.grownBy w1 (some R) :=
  (number_any R s σ m hm W (CellsAt.below h hB (CellsAt.lt h)) hs ha M hM).mono fun _ _ ⟨h1, h2, h3⟩ => ⟨h1, h2, ((grown_of_below hB).but _).trans h3⟩

set_option maxRecDepth 100000 in
set_option maxHeartbeats 3200000 in
theorem one_imp (base R Br Bm : Nat) (s N T : ByteArray) (a b : Int) (w : World) (es : List Exp) (is : List Imp) (ps : List Pat) (τ : (Nat × Bool)) (h : MSt base R Br Bm s N T a b w es is ps τ)
    (hR : R < base) (hBr : Br < base) (hBm : Bm < base) (n1 : R ≠ Br) (n2 : R ≠ Bm) (n3 : Br ≠ Bm) (hs : s.size ≤ 140737488351232) (ha : τ.1 ≤ s.size) (hb : base ≤ w.heap.size) (hl : is.length < 255) :
    Calls Try.prog 69 #[.pointer (some ⟨Bm, 0, none⟩), .pointer (some ⟨Br, 0, none⟩)] w fun e w' => e = .returned (.tuple #[]) ∧ MSt base R Br Bm s N T a b w' es (is ++ [(rdImp false s τ).1]) ps (rdImp false s τ).2 ∧ LowK base R Bm w w' := by
  obtain ⟨i0, hi0, hz0, hz1, hz2⟩ := info_parts info74
  have H1 : Hid (∀ w W, RdAt 68 w R s τ → Below w.heap.size w W → Calls Try.prog 64 #[.pointer (some ⟨R, 0, none⟩)] W fun e w1 => e = .returned (.string (rdName false s τ).1) ∧ RdAt 68 w1 R s (rdName false s τ).2 ∧ w.grownBy w1 (some R)) := fun w W h hB => name_from R s _ hs ha w W h hB
  have H2 : Hid (∀ w W, RdAt 68 w R s (rdName false s τ).2 → Below w.heap.size w W → Calls Try.prog 64 #[.pointer (some ⟨R, 0, none⟩)] W fun e w1 => e = .returned (.string (rdName false s (rdName false s τ).2).1) ∧ RdAt 68 w1 R s (rdName false s (rdName false s τ).2).2 ∧ w.grownBy w1 (some R)) := fun w W h hB => name_from R s _ hs (rdName_le false s _ ha) w W h hB
  have H3 : Hid (∀ w W, RdAt 68 w R s (rdName false s (rdName false s τ).2).2 → Below w.heap.size w W → Calls Try.prog 65 #[.pointer (some ⟨R, 0, none⟩), .int .i64 1] W fun e w1 => e = .returned (.int .i64 (rdNum false s 1 (rdName false s (rdName false s τ).2).2).1) ∧ RdAt 68 w1 R s (rdNum false s 1 (rdName false s (rdName false s τ).2).2).2 ∧ w.grownBy w1 (some R)) := fun w W h hB => number_from R s _ 1 (.inl rfl) hs (rdName_le false s _ (rdName_le false s _ ha)) _ rfl w W h hB
  have H4 : Hid (∀ w W, RdAt 68 w R s (rdNum false s 1 (rdName false s (rdName false s τ).2).2).2 → Below w.heap.size w W → Calls Try.prog 65 #[.pointer (some ⟨R, 0, none⟩), .int .i64 1] W fun e w1 => e = .returned (.int .i64 (rdNum false s 1 (rdNum false s 1 (rdName false s (rdName false s τ).2).2).2).1) ∧ RdAt 68 w1 R s (rdNum false s 1 (rdNum false s 1 (rdName false s (rdName false s τ).2).2).2).2 ∧ w.grownBy w1 (some R)) := fun w W h hB => number_from R s _ 1 (.inl rfl) hs (rdNum_le false s 1 _ (rdName_le false s _ (rdName_le false s _ ha))) _ rfl w W h hB
  have HV : Hid (rdImp false s τ = (⟨(rdName false s τ).1, (rdName false s (rdName false s τ).2).1, (rdNum false s 1 (rdName false s (rdName false s τ).2).2).1, (rdNum false s 1 (rdNum false s 1 (rdName false s (rdName false s τ).2).2).2).1⟩, (rdNum false s 1 (rdNum false s 1 (rdName false s (rdName false s τ).2).2).2).2)) := rfl
  generalize rdImp false s τ = E at *
  generalize (rdNum false s 1 (rdNum false s 1 (rdName false s (rdName false s τ).2).2).2).1 = X4 at *
  generalize (rdNum false s 1 (rdNum false s 1 (rdName false s (rdName false s τ).2).2).2).2 = σ4 at *
  generalize (rdNum false s 1 (rdName false s (rdName false s τ).2).2).1 = X3 at *
  generalize (rdNum false s 1 (rdName false s (rdName false s τ).2).2).2 = σ3 at *
  generalize (rdName false s (rdName false s τ).2).1 = X2 at *
  generalize (rdName false s (rdName false s τ).2).2 = σ2 at *
  generalize (rdName false s τ).1 = X1 at *
  generalize (rdName false s τ).2 = σ1 at *
  obtain ⟨hrd, hbox, ve, vi, vp, hm, hE, hI, hP⟩ := h
  obtain ⟨av, kv, rfl⟩ := ownsRow_slice hI
  have z4 : w.cell? ⟨Bm, 5, none⟩ = some (.slice av is.length kv) := hm.cell 5
  have zb : w.cell? ⟨Br, 0, none⟩ = some (.pointer (some ⟨R, 0, none⟩)) := hbox.cell 0
  have HR : Hid (∀ W, w.grownBy W (some R) → W.ownsRow base 74 4 (.slice av is.length kv) is.length (is.flatMap impC)) := fun W hg => row_grown hI hg (fun k e => .inl (by cases e; exact hR))
  have HM : Hid (∀ W, w.grownBy W (some R) → CellsAt W Bm 39 #[.string N, .int .i64 a, .int .i64 b, .string T, ve, .slice av is.length kv, vp]) := fun W hg => hm.kept hg (fun e => n2 (by cases e; rfl))
  have HB : Hid (∀ W, w.grownBy W (some R) → CellsAt W Br 95 #[.pointer (some ⟨R, 0, none⟩)]) := fun W hg => hbox.kept hg (fun e => n1 (by cases e; rfl))
  have HX : Hid (∀ k, k < base → some k ≠ (Value.slice av is.length kv).ownBlock) := fun k hk e => by have := (row_block hI k e.symm).1; omega
  have HE : Hid (w.ownsRow base 77 2 ve es.length (es.flatMap expC)) := hE
  have HP : Hid (w.ownsRow base 48 4 vp ps.length (ps.flatMap patC)) := hP
  have HRD : Hid (RdAt 68 w R s τ) := hrd
  clear hrd hbox hm hE hI hP hs ha
  go_enter Try.func69, Try.ntmps69
  go_wp2_with fail
  refine wp_region_noPanic ?_
  refine wp_region_L (S := fun w' => w'.cell? ⟨Bm, 5, none⟩ = some (.slice av is.length kv) ∧ w'.cell? ⟨Br, 0, none⟩ = some (.pointer (some ⟨R, 0, none⟩))) (x := 14) (by kernel_rfl) ?_
  have hS0 : w.drew.cell? ⟨Bm, 5, none⟩ = some (.slice av is.length kv) ∧ w.drew.cell? ⟨Br, 0, none⟩ = some (.pointer (some ⟨R, 0, none⟩)) := ⟨z4, zb⟩
  refine wpL_take 0 2 (.pointer (some ⟨Bm, 5, none⟩)) rfl (by kernel_rfl) (fun _ _ _ h => h) hS0 rfl rfl (fun w' hSw => by (try dsimp only at hSw); go_simp) ?_
  simp only [List.setIfInBounds_toArray, List.set_cons_zero, List.set_cons_succ]
  refine wpL_take 1 3 (.slice av is.length kv) rfl (by kernel_rfl) (fun _ _ _ h => h) hS0 rfl rfl (fun w' hSw => by (try dsimp only at hSw); go_simp) ?_
  simp only [List.setIfInBounds_toArray, List.set_cons_zero, List.set_cons_succ]
  refine wpL_take 2 4 (.pointer (some ⟨R, 0, none⟩)) rfl (by kernel_rfl) (fun _ _ _ h => h) hS0 rfl rfl (fun w' hSw => by (try dsimp only at hSw); go_simp) ?_
  simp only [List.setIfInBounds_toArray, List.set_cons_zero, List.set_cons_succ]
  refine wpL_take 4 6 (.pointer (some ⟨R, 0, none⟩)) rfl (by kernel_rfl) (fun _ _ _ h => h) hS0 rfl rfl (fun w' hSw => by (try dsimp only at hSw); go_simp) ?_
  simp only [List.setIfInBounds_toArray, List.set_cons_zero, List.set_cons_succ]
  refine wpL_take 6 8 (.pointer (some ⟨R, 0, none⟩)) rfl (by kernel_rfl) (fun _ _ _ h => h) hS0 rfl rfl (fun w' hSw => by (try dsimp only at hSw); go_simp) ?_
  simp only [List.setIfInBounds_toArray, List.set_cons_zero, List.set_cons_succ]
  refine wpL_take 8 10 (.pointer (some ⟨R, 0, none⟩)) rfl (by kernel_rfl) (fun _ _ _ h => h) hS0 rfl rfl (fun w' hSw => by (try dsimp only at hSw); go_simp) ?_
  simp only [List.setIfInBounds_toArray, List.set_cons_zero, List.set_cons_succ]
  refine wpL_step (i := 3) rfl (by kernel_rfl) (fun K hK => ?_)
  go_simp
  refine (H1.out w _ HRD.out (Below.refl _ _).drew).mono ?_
  rintro e w1 ⟨rfl, r1, j1⟩
  have k1 := j1
  have hS1 : w1.cell? ⟨Bm, 5, none⟩ = some (.slice av is.length kv) ∧ w1.cell? ⟨Br, 0, none⟩ = some (.pointer (some ⟨R, 0, none⟩)) := ⟨k1.cell z4 (fun e => n2 (by cases e; rfl)), k1.cell zb (fun e => n1 (by cases e; rfl))⟩
  go_simp
  refine hK.out _ _ hS1 (fun _ => ?_)
  clear hK K
  refine wpL_step (i := 5) rfl (by kernel_rfl) (fun K hK => ?_)
  go_simp
  refine (H2.out w1 _ r1 (Below.refl _ _)).mono ?_
  rintro e w2 ⟨rfl, r2, j2⟩
  have k2 := k1.trans j2
  have hS2 : w2.cell? ⟨Bm, 5, none⟩ = some (.slice av is.length kv) ∧ w2.cell? ⟨Br, 0, none⟩ = some (.pointer (some ⟨R, 0, none⟩)) := ⟨k2.cell z4 (fun e => n2 (by cases e; rfl)), k2.cell zb (fun e => n1 (by cases e; rfl))⟩
  go_simp
  refine hK.out _ _ hS2 (fun _ => ?_)
  clear hK K
  refine wpL_step (i := 7) rfl (by kernel_rfl) (fun K hK => ?_)
  go_simp
  refine (H3.out w2 _ r2 (Below.refl _ _)).mono ?_
  rintro e w3 ⟨rfl, r3, j3⟩
  have k3 := k2.trans j3
  have hS3 : w3.cell? ⟨Bm, 5, none⟩ = some (.slice av is.length kv) ∧ w3.cell? ⟨Br, 0, none⟩ = some (.pointer (some ⟨R, 0, none⟩)) := ⟨k3.cell z4 (fun e => n2 (by cases e; rfl)), k3.cell zb (fun e => n1 (by cases e; rfl))⟩
  go_simp
  refine hK.out _ _ hS3 (fun _ => ?_)
  clear hK K
  refine wpL_step (i := 9) rfl (by kernel_rfl) (fun K hK => ?_)
  go_simp
  refine (H4.out w3 _ r3 (Below.refl _ _)).mono ?_
  rintro e w4 ⟨rfl, r4, j4⟩
  have k4 := k3.trans j4
  have hS4 : w4.cell? ⟨Bm, 5, none⟩ = some (.slice av is.length kv) ∧ w4.cell? ⟨Br, 0, none⟩ = some (.pointer (some ⟨R, 0, none⟩)) := ⟨k4.cell z4 (fun e => n2 (by cases e; rfl)), k4.cell zb (fun e => n1 (by cases e; rfl))⟩
  go_simp
  refine hK.out _ _ hS4 (fun _ => ?_)
  clear hK K
  refine wpL_take 10 12 (.agg #[.string X1, .string X2, .int .i64 X3, .int .i64 X4]) rfl (by kernel_rfl) (fun _ _ _ h => h) hS4 rfl rfl (fun w' hSw => by (try dsimp only at hSw); go_simp) ?_
  simp only [List.setIfInBounds_toArray, List.set_cons_zero, List.set_cons_succ]
  refine wpL_step (i := 11) rfl (by kernel_rfl) (fun K hK => ?_)
  go_simp
  have m5 : CellsAt (w4.alloc (.cells #[.string X1, .string X2, .int .i64 X3, .int .i64 X4] 74)) Bm 39 _ := CellsAt.kept (HM.out _ k4) (World.grownBy_alloc w4 _ none) (by simp)
  have b5 : CellsAt (w4.alloc (.cells #[.string X1, .string X2, .int .i64 X3, .int .i64 X4] 74)) Br 95 _ := CellsAt.kept (HB.out _ k4) (World.grownBy_alloc w4 _ none) (by simp)
  refine hK.out _ _ ⟨m5.cell 5, b5.cell 0⟩ (fun _ => ?_)
  clear hK K
  refine wpL_step (i := 12) rfl (by kernel_rfl) (fun K hK => ?_)
  refine step_append_lies _ (by rfl) _ _ _ (by rfl) base 74 i0 _ 4 48 Try.underlying36 hi0 hz0 hz1 hz2 rfl (by omega) (.slice av is.length kv) is.length (is.flatMap impC) (by rfl)
          ((HR.out _ k4).alloc _) ⟨w4.heap.size, 0, none⟩ 1 1 [.string X1, .string X2, .int .i64 X3, .int .i64 X4] (by rfl) (by rfl)
          (World.news_of_block (cs := #[.string X1, .string X2, .int .i64 X3, .int .i64 X4]) (t := 74) (fr := (0, 0)) (heap_alloc_new w4 _)) (by simp [Value.oneCell'])
          (by omega) (by unfold maxLen; omega) (by omega) (by have := k4.size; simp; omega) (w4.heap.size + 1) (by simp) ?_
  intro g cap w5 hown5 hgrow hat hlt
  have m6 := m5.kept hgrow (HX.out Bm hBm)
  have b6 := b5.kept hgrow (HX.out Br hBr)
  refine hK.out _ _ ⟨m6.cell 5, b6.cell 0⟩ (fun hS6 => ?_)
  clear hK K
  simp only [Act.put, List.setIfInBounds_toArray]
  refine wpL_take 13 15 (.pointer (some ⟨Bm, 5, none⟩)) rfl (by kernel_rfl) (fun _ _ _ h => h) hS6 rfl rfl (fun w' hSw => by (try dsimp only at hSw); go_simp) ?_
  simp only [List.setIfInBounds_toArray, List.set_cons_zero, List.set_cons_succ]
  refine wpL_last (x := 14) rfl (by kernel_rfl) (by kernel_rfl) (fun K hK => ?_)
  have u4 := hS6.1
  have uf := m6.frozen 5
  go_simp
  refine hK.out _ _ ?_
  refine NoPanic.normal ?_
  clear hK K
  go_end0
  have gs := grown_set w5 Bm 5 (.slice (some ⟨g, 0, none⟩) (is.length + 1) cap)
  have ga := World.grownBy_alloc w4 (.cells #[.string X1, .string X2, .int .i64 X3, .int .i64 X4] 74) none
  have hX2 := row_block ((HR.out _ k4).alloc (.cells #[.string X1, .string X2, .int .i64 X3, .int .i64 X4] 74))
  have q1 : ∀ {e : TypeId} (W : World) k, some R = some k → k < base ∨ ∃ cs t fz, t ≠ e ∧ W.heap[k]? = some (.cells cs t fz) := fun W k e => .inl (by cases e; exact hR)
  have q2 : ∀ {e : TypeId} (W : World) k, some Bm = some k → k < base ∨ ∃ cs t fz, t ≠ e ∧ W.heap[k]? = some (.cells cs t fz) := fun W k e => .inl (by cases e; exact hBm)
  have q3 : ∀ {e : TypeId}, 74 ≠ e → ∀ k, (Value.slice av is.length kv).ownBlock = some k → k < base ∨ ∃ cs t fz, t ≠ e ∧ (w4.alloc (.cells #[.string X1, .string X2, .int .i64 X3, .int .i64 X4] 74)).heap[k]? = some (.cells cs t fz) := fun hne k e => by
    obtain ⟨_, cs, fz, hh⟩ := hX2 k e
    exact .inr ⟨cs, _, fz, hne, hh⟩
  have hrd6 : RdAt 68 (w5.setCell ⟨Bm, 5, none⟩ (.slice (some ⟨g, 0, none⟩) (is.length + 1) cap)) R s E.2 := by
    rw [HV.out]
    exact CellsAt.kept (CellsAt.kept (CellsAt.kept r4 ga (by simp)) hgrow (HX.out R hR)) gs (fun e => n2 (by cases e; rfl))
  have hown6 : (w5.setCell ⟨Bm, 5, none⟩ (.slice (some ⟨g, 0, none⟩) (is.length + 1) cap)).ownsRow base 74 4 (.slice (some ⟨g, 0, none⟩) (is.length + 1) cap) (is ++ [E.1]).length ((is ++ [E.1]).flatMap impC) := by
    rw [HV.out, List.flatMap_append, List.length_append]
    exact row_grown hown5 gs (q2 _)
  have HE6 := row_grown (row_grown (row_grown (row_grown HE.out k4 (q1 _)) ga (by simp)) hgrow (q3 (by decide))) gs (q2 _)
  have HP6 := row_grown (row_grown (row_grown (row_grown HP.out k4 (q1 _)) ga (by simp)) hgrow (q3 (by decide))) gs (q2 _)
  refine ⟨rfl, ⟨hrd6, b6.kept gs (fun e => n3 (by cases e; rfl)), ve, _, vp, m6.set 5 _, HE6, hown6, HP6⟩, ?_⟩
  have s1 := k4.size
  have s2 := ga.size
  have s3 := hgrow.size
  exact (((LowK.grown k4 hb (fun k e => by cases e; exact .inl rfl)).trans (LowK.grown ga (by omega) (by simp))).trans (LowK.grown hgrow (by omega) (fun k e => .inr (.inr (hX2 k e).1)))).trans (LowK.grown gs (by omega) (fun k e => by cases e; exact .inr (.inl rfl)))

set_option maxRecDepth 100000 in
set_option maxHeartbeats 3200000 in
theorem one_pat (base R Br Bm : Nat) (s N T : ByteArray) (a b : Int) (w : World) (es : List Exp) (is : List Imp) (ps : List Pat) (τ : (Nat × Bool)) (h : MSt base R Br Bm s N T a b w es is ps τ)
    (hR : R < base) (hBr : Br < base) (hBm : Bm < base) (n1 : R ≠ Br) (n2 : R ≠ Bm) (n3 : Br ≠ Bm) (hs : s.size ≤ 140737488351232) (ha : τ.1 ≤ s.size) (hb : base ≤ w.heap.size) (hl : ps.length < 255) :
    Calls Try.prog 70 #[.pointer (some ⟨Bm, 0, none⟩), .pointer (some ⟨Br, 0, none⟩)] w fun e w' => e = .returned (.tuple #[]) ∧ MSt base R Br Bm s N T a b w' es is (ps ++ [(rdPat false s τ).1]) (rdPat false s τ).2 ∧ LowK base R Bm w w' := by
  obtain ⟨i0, hi0, hz0, hz1, hz2⟩ := info_parts info48
  have H1 : Hid (∀ w W, RdAt 68 w R s τ → Below w.heap.size w W → Calls Try.prog 65 #[.pointer (some ⟨R, 0, none⟩), .int .i64 1] W fun e w1 => e = .returned (.int .i64 (rdNum false s 1 τ).1) ∧ RdAt 68 w1 R s (rdNum false s 1 τ).2 ∧ w.grownBy w1 (some R)) := fun w W h hB => number_from R s _ 1 (.inl rfl) hs ha _ rfl w W h hB
  have H2 : Hid (∀ w W, RdAt 68 w R s (rdNum false s 1 τ).2 → Below w.heap.size w W → Calls Try.prog 65 #[.pointer (some ⟨R, 0, none⟩), .int .i64 2] W fun e w1 => e = .returned (.int .i64 (rdNum false s 2 (rdNum false s 1 τ).2).1) ∧ RdAt 68 w1 R s (rdNum false s 2 (rdNum false s 1 τ).2).2 ∧ w.grownBy w1 (some R)) := fun w W h hB => number_from R s _ 2 (.inr rfl) hs (rdNum_le false s 1 _ ha) _ rfl w W h hB
  have H3 : Hid (∀ w W, RdAt 68 w R s (rdNum false s 2 (rdNum false s 1 τ).2).2 → Below w.heap.size w W → Calls Try.prog 65 #[.pointer (some ⟨R, 0, none⟩), .int .i64 1] W fun e w1 => e = .returned (.int .i64 (rdNum false s 1 (rdNum false s 2 (rdNum false s 1 τ).2).2).1) ∧ RdAt 68 w1 R s (rdNum false s 1 (rdNum false s 2 (rdNum false s 1 τ).2).2).2 ∧ w.grownBy w1 (some R)) := fun w W h hB => number_from R s _ 1 (.inl rfl) hs (rdNum_le false s 2 _ (rdNum_le false s 1 _ ha)) _ rfl w W h hB
  have hb3 := rdNum_bd false s 1 (rdNum false s 2 (rdNum false s 1 τ).2).2
  have i3 : IntKind.i64.wrap ((rdNum false s 1 (rdNum false s 2 (rdNum false s 1 τ).2).2).1 - 1) = (rdNum false s 1 (rdNum false s 2 (rdNum false s 1 τ).2).2).1 - 1 := by rw [i64_is]; unfold wrap64; omega
  clear hb3
  have H4 : Hid (∀ w W, RdAt 68 w R s (rdNum false s 1 (rdNum false s 2 (rdNum false s 1 τ).2).2).2 → Below w.heap.size w W → Calls Try.prog 65 #[.pointer (some ⟨R, 0, none⟩), .int .i64 2] W fun e w1 => e = .returned (.int .i64 (rdNum false s 2 (rdNum false s 1 (rdNum false s 2 (rdNum false s 1 τ).2).2).2).1) ∧ RdAt 68 w1 R s (rdNum false s 2 (rdNum false s 1 (rdNum false s 2 (rdNum false s 1 τ).2).2).2).2 ∧ w.grownBy w1 (some R)) := fun w W h hB => number_from R s _ 2 (.inr rfl) hs (rdNum_le false s 1 _ (rdNum_le false s 2 _ (rdNum_le false s 1 _ ha))) _ rfl w W h hB
  have HV : Hid (rdPat false s τ = (⟨(rdNum false s 1 τ).1, (rdNum false s 2 (rdNum false s 1 τ).2).1, (rdNum false s 1 (rdNum false s 2 (rdNum false s 1 τ).2).2).1 - 1, (rdNum false s 2 (rdNum false s 1 (rdNum false s 2 (rdNum false s 1 τ).2).2).2).1⟩, (rdNum false s 2 (rdNum false s 1 (rdNum false s 2 (rdNum false s 1 τ).2).2).2).2)) := rfl
  generalize rdPat false s τ = E at *
  generalize (rdNum false s 2 (rdNum false s 1 (rdNum false s 2 (rdNum false s 1 τ).2).2).2).1 = X4 at *
  generalize (rdNum false s 2 (rdNum false s 1 (rdNum false s 2 (rdNum false s 1 τ).2).2).2).2 = σ4 at *
  generalize (rdNum false s 1 (rdNum false s 2 (rdNum false s 1 τ).2).2).1 = X3 at *
  generalize (rdNum false s 1 (rdNum false s 2 (rdNum false s 1 τ).2).2).2 = σ3 at *
  generalize (rdNum false s 2 (rdNum false s 1 τ).2).1 = X2 at *
  generalize (rdNum false s 2 (rdNum false s 1 τ).2).2 = σ2 at *
  generalize (rdNum false s 1 τ).1 = X1 at *
  generalize (rdNum false s 1 τ).2 = σ1 at *
  obtain ⟨hrd, hbox, ve, vi, vp, hm, hE, hI, hP⟩ := h
  obtain ⟨av, kv, rfl⟩ := ownsRow_slice hP
  have z4 : w.cell? ⟨Bm, 6, none⟩ = some (.slice av ps.length kv) := hm.cell 6
  have zb : w.cell? ⟨Br, 0, none⟩ = some (.pointer (some ⟨R, 0, none⟩)) := hbox.cell 0
  have HR : Hid (∀ W, w.grownBy W (some R) → W.ownsRow base 48 4 (.slice av ps.length kv) ps.length (ps.flatMap patC)) := fun W hg => row_grown hP hg (fun k e => .inl (by cases e; exact hR))
  have HM : Hid (∀ W, w.grownBy W (some R) → CellsAt W Bm 39 #[.string N, .int .i64 a, .int .i64 b, .string T, ve, vi, .slice av ps.length kv]) := fun W hg => hm.kept hg (fun e => n2 (by cases e; rfl))
  have HB : Hid (∀ W, w.grownBy W (some R) → CellsAt W Br 95 #[.pointer (some ⟨R, 0, none⟩)]) := fun W hg => hbox.kept hg (fun e => n1 (by cases e; rfl))
  have HX : Hid (∀ k, k < base → some k ≠ (Value.slice av ps.length kv).ownBlock) := fun k hk e => by have := (row_block hP k e.symm).1; omega
  have HE : Hid (w.ownsRow base 77 2 ve es.length (es.flatMap expC)) := hE
  have HI : Hid (w.ownsRow base 74 4 vi is.length (is.flatMap impC)) := hI
  have HRD : Hid (RdAt 68 w R s τ) := hrd
  clear hrd hbox hm hE hI hP hs ha
  go_enter Try.func70, Try.ntmps70
  go_wp2_with fail
  refine wp_region_noPanic ?_
  refine wp_region_L (S := fun w' => w'.cell? ⟨Bm, 6, none⟩ = some (.slice av ps.length kv) ∧ w'.cell? ⟨Br, 0, none⟩ = some (.pointer (some ⟨R, 0, none⟩))) (x := 15) (by kernel_rfl) ?_
  have hS0 : w.drew.cell? ⟨Bm, 6, none⟩ = some (.slice av ps.length kv) ∧ w.drew.cell? ⟨Br, 0, none⟩ = some (.pointer (some ⟨R, 0, none⟩)) := ⟨z4, zb⟩
  refine wpL_take 0 2 (.pointer (some ⟨Bm, 6, none⟩)) rfl (by kernel_rfl) (fun _ _ _ h => h) hS0 rfl rfl (fun w' hSw => by (try dsimp only at hSw); go_simp) ?_
  simp only [List.setIfInBounds_toArray, List.set_cons_zero, List.set_cons_succ]
  refine wpL_take 1 3 (.slice av ps.length kv) rfl (by kernel_rfl) (fun _ _ _ h => h) hS0 rfl rfl (fun w' hSw => by (try dsimp only at hSw); go_simp) ?_
  simp only [List.setIfInBounds_toArray, List.set_cons_zero, List.set_cons_succ]
  refine wpL_take 2 4 (.pointer (some ⟨R, 0, none⟩)) rfl (by kernel_rfl) (fun _ _ _ h => h) hS0 rfl rfl (fun w' hSw => by (try dsimp only at hSw); go_simp) ?_
  simp only [List.setIfInBounds_toArray, List.set_cons_zero, List.set_cons_succ]
  refine wpL_take 4 6 (.pointer (some ⟨R, 0, none⟩)) rfl (by kernel_rfl) (fun _ _ _ h => h) hS0 rfl rfl (fun w' hSw => by (try dsimp only at hSw); go_simp) ?_
  simp only [List.setIfInBounds_toArray, List.set_cons_zero, List.set_cons_succ]
  refine wpL_take 6 8 (.pointer (some ⟨R, 0, none⟩)) rfl (by kernel_rfl) (fun _ _ _ h => h) hS0 rfl rfl (fun w' hSw => by (try dsimp only at hSw); go_simp) ?_
  simp only [List.setIfInBounds_toArray, List.set_cons_zero, List.set_cons_succ]
  refine wpL_take 9 11 (.pointer (some ⟨R, 0, none⟩)) rfl (by kernel_rfl) (fun _ _ _ h => h) hS0 rfl rfl (fun w' hSw => by (try dsimp only at hSw); go_simp) ?_
  simp only [List.setIfInBounds_toArray, List.set_cons_zero, List.set_cons_succ]
  refine wpL_step (i := 3) rfl (by kernel_rfl) (fun K hK => ?_)
  go_simp
  refine (H1.out w _ HRD.out (Below.refl _ _).drew).mono ?_
  rintro e w1 ⟨rfl, r1, j1⟩
  have k1 := j1
  have hS1 : w1.cell? ⟨Bm, 6, none⟩ = some (.slice av ps.length kv) ∧ w1.cell? ⟨Br, 0, none⟩ = some (.pointer (some ⟨R, 0, none⟩)) := ⟨k1.cell z4 (fun e => n2 (by cases e; rfl)), k1.cell zb (fun e => n1 (by cases e; rfl))⟩
  go_simp
  refine hK.out _ _ hS1 (fun _ => ?_)
  clear hK K
  refine wpL_step (i := 5) rfl (by kernel_rfl) (fun K hK => ?_)
  go_simp
  refine (H2.out w1 _ r1 (Below.refl _ _)).mono ?_
  rintro e w2 ⟨rfl, r2, j2⟩
  have k2 := k1.trans j2
  have hS2 : w2.cell? ⟨Bm, 6, none⟩ = some (.slice av ps.length kv) ∧ w2.cell? ⟨Br, 0, none⟩ = some (.pointer (some ⟨R, 0, none⟩)) := ⟨k2.cell z4 (fun e => n2 (by cases e; rfl)), k2.cell zb (fun e => n1 (by cases e; rfl))⟩
  go_simp
  refine hK.out _ _ hS2 (fun _ => ?_)
  clear hK K
  refine wpL_step (i := 7) rfl (by kernel_rfl) (fun K hK => ?_)
  go_simp
  refine (H3.out w2 _ r2 (Below.refl _ _)).mono ?_
  rintro e w3 ⟨rfl, r3, j3⟩
  have k3 := k2.trans j3
  have hS3 : w3.cell? ⟨Bm, 6, none⟩ = some (.slice av ps.length kv) ∧ w3.cell? ⟨Br, 0, none⟩ = some (.pointer (some ⟨R, 0, none⟩)) := ⟨k3.cell z4 (fun e => n2 (by cases e; rfl)), k3.cell zb (fun e => n1 (by cases e; rfl))⟩
  go_simp
  refine hK.out _ _ hS3 (fun _ => ?_)
  clear hK K
  refine wpL_take 8 10 (.int .i64 (X3 - 1)) rfl (by kernel_rfl) (fun _ _ _ h => h) hS3 rfl rfl (fun w' hSw => by (try dsimp only at hSw); go_simp) ?_
  simp only [List.setIfInBounds_toArray, List.set_cons_zero, List.set_cons_succ]
  refine wpL_step (i := 10) rfl (by kernel_rfl) (fun K hK => ?_)
  go_simp
  refine (H4.out w3 _ r3 (Below.refl _ _)).mono ?_
  rintro e w4 ⟨rfl, r4, j4⟩
  have k4 := k3.trans j4
  have hS4 : w4.cell? ⟨Bm, 6, none⟩ = some (.slice av ps.length kv) ∧ w4.cell? ⟨Br, 0, none⟩ = some (.pointer (some ⟨R, 0, none⟩)) := ⟨k4.cell z4 (fun e => n2 (by cases e; rfl)), k4.cell zb (fun e => n1 (by cases e; rfl))⟩
  go_simp
  refine hK.out _ _ hS4 (fun _ => ?_)
  clear hK K
  refine wpL_take 11 13 (.agg #[.int .i64 X1, .int .i64 X2, .int .i64 (X3 - 1), .int .i64 X4]) rfl (by kernel_rfl) (fun _ _ _ h => h) hS4 rfl rfl (fun w' hSw => by (try dsimp only at hSw); go_simp) ?_
  simp only [List.setIfInBounds_toArray, List.set_cons_zero, List.set_cons_succ]
  refine wpL_step (i := 12) rfl (by kernel_rfl) (fun K hK => ?_)
  go_simp
  have m5 : CellsAt (w4.alloc (.cells #[.int .i64 X1, .int .i64 X2, .int .i64 (X3 - 1), .int .i64 X4] 48)) Bm 39 _ := CellsAt.kept (HM.out _ k4) (World.grownBy_alloc w4 _ none) (by simp)
  have b5 : CellsAt (w4.alloc (.cells #[.int .i64 X1, .int .i64 X2, .int .i64 (X3 - 1), .int .i64 X4] 48)) Br 95 _ := CellsAt.kept (HB.out _ k4) (World.grownBy_alloc w4 _ none) (by simp)
  refine hK.out _ _ ⟨m5.cell 6, b5.cell 0⟩ (fun _ => ?_)
  clear hK K
  refine wpL_step (i := 13) rfl (by kernel_rfl) (fun K hK => ?_)
  refine step_append_lies _ (by rfl) _ _ _ (by rfl) base 48 i0 _ 4 32 Try.underlying37 hi0 hz0 hz1 hz2 rfl (by omega) (.slice av ps.length kv) ps.length (ps.flatMap patC) (by rfl)
          ((HR.out _ k4).alloc _) ⟨w4.heap.size, 0, none⟩ 1 1 [.int .i64 X1, .int .i64 X2, .int .i64 (X3 - 1), .int .i64 X4] (by rfl) (by rfl)
          (World.news_of_block (cs := #[.int .i64 X1, .int .i64 X2, .int .i64 (X3 - 1), .int .i64 X4]) (t := 48) (fr := (0, 0)) (heap_alloc_new w4 _)) (by simp [Value.oneCell'])
          (by omega) (by unfold maxLen; omega) (by omega) (by have := k4.size; simp; omega) (w4.heap.size + 1) (by simp) ?_
  intro g cap w5 hown5 hgrow hat hlt
  have m6 := m5.kept hgrow (HX.out Bm hBm)
  have b6 := b5.kept hgrow (HX.out Br hBr)
  refine hK.out _ _ ⟨m6.cell 6, b6.cell 0⟩ (fun hS6 => ?_)
  clear hK K
  simp only [Act.put, List.setIfInBounds_toArray]
  refine wpL_take 14 16 (.pointer (some ⟨Bm, 6, none⟩)) rfl (by kernel_rfl) (fun _ _ _ h => h) hS6 rfl rfl (fun w' hSw => by (try dsimp only at hSw); go_simp) ?_
  simp only [List.setIfInBounds_toArray, List.set_cons_zero, List.set_cons_succ]
  refine wpL_last (x := 15) rfl (by kernel_rfl) (by kernel_rfl) (fun K hK => ?_)
  have u4 := hS6.1
  have uf := m6.frozen 6
  go_simp
  refine hK.out _ _ ?_
  refine NoPanic.normal ?_
  clear hK K
  go_end0
  have gs := grown_set w5 Bm 6 (.slice (some ⟨g, 0, none⟩) (ps.length + 1) cap)
  have ga := World.grownBy_alloc w4 (.cells #[.int .i64 X1, .int .i64 X2, .int .i64 (X3 - 1), .int .i64 X4] 48) none
  have hX2 := row_block ((HR.out _ k4).alloc (.cells #[.int .i64 X1, .int .i64 X2, .int .i64 (X3 - 1), .int .i64 X4] 48))
  have q1 : ∀ {e : TypeId} (W : World) k, some R = some k → k < base ∨ ∃ cs t fz, t ≠ e ∧ W.heap[k]? = some (.cells cs t fz) := fun W k e => .inl (by cases e; exact hR)
  have q2 : ∀ {e : TypeId} (W : World) k, some Bm = some k → k < base ∨ ∃ cs t fz, t ≠ e ∧ W.heap[k]? = some (.cells cs t fz) := fun W k e => .inl (by cases e; exact hBm)
  have q3 : ∀ {e : TypeId}, 48 ≠ e → ∀ k, (Value.slice av ps.length kv).ownBlock = some k → k < base ∨ ∃ cs t fz, t ≠ e ∧ (w4.alloc (.cells #[.int .i64 X1, .int .i64 X2, .int .i64 (X3 - 1), .int .i64 X4] 48)).heap[k]? = some (.cells cs t fz) := fun hne k e => by
    obtain ⟨_, cs, fz, hh⟩ := hX2 k e
    exact .inr ⟨cs, _, fz, hne, hh⟩
  have hrd6 : RdAt 68 (w5.setCell ⟨Bm, 6, none⟩ (.slice (some ⟨g, 0, none⟩) (ps.length + 1) cap)) R s E.2 := by
    rw [HV.out]
    exact CellsAt.kept (CellsAt.kept (CellsAt.kept r4 ga (by simp)) hgrow (HX.out R hR)) gs (fun e => n2 (by cases e; rfl))
  have hown6 : (w5.setCell ⟨Bm, 6, none⟩ (.slice (some ⟨g, 0, none⟩) (ps.length + 1) cap)).ownsRow base 48 4 (.slice (some ⟨g, 0, none⟩) (ps.length + 1) cap) (ps ++ [E.1]).length ((ps ++ [E.1]).flatMap patC) := by
    rw [HV.out, List.flatMap_append, List.length_append]
    exact row_grown hown5 gs (q2 _)
  have HE6 := row_grown (row_grown (row_grown (row_grown HE.out k4 (q1 _)) ga (by simp)) hgrow (q3 (by decide))) gs (q2 _)
  have HI6 := row_grown (row_grown (row_grown (row_grown HI.out k4 (q1 _)) ga (by simp)) hgrow (q3 (by decide))) gs (q2 _)
  refine ⟨rfl, ⟨hrd6, b6.kept gs (fun e => n3 (by cases e; rfl)), ve, vi, _, m6.set 6 _, HE6, HI6, hown6⟩, ?_⟩
  have s1 := k4.size
  have s2 := ga.size
  have s3 := hgrow.size
  exact (((LowK.grown k4 hb (fun k e => by cases e; exact .inl rfl)).trans (LowK.grown ga (by omega) (by simp))).trans (LowK.grown hgrow (by omega) (fun k e => .inr (.inr (hX2 k e).1)))).trans (LowK.grown gs (by omega) (fun k e => by cases e; exact .inr (.inl rfl)))

end Go.Proofs.Ytaklbnabgcglhaa
