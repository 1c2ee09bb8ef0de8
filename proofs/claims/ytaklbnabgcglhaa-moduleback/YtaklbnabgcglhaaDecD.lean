/- The contracts of the functions that read one export, one import, one patch. -/
import Derived.Test.YtaklbnabgcglhaaDecC
import Derived.Test.YtaklbnabgcglhaaOrd
namespace Go.Proofs.Ytaklbnabgcglhaa
open Go.RowKit Go.PlainAid Go.Lib

theorem info77 : (Try.prog.info? 77).map (fun i => (i.zero, i.size, i.bytes)) = some (some (.agg #[.string ⟨#[]⟩, .int .i64 0]), 2, 24) := by kernel_rfl
theorem info74 : (Try.prog.info? 74).map (fun i => (i.zero, i.size, i.bytes)) = some (some (.agg #[.string ⟨#[]⟩, .string ⟨#[]⟩, .int .i64 0, .int .i64 0]), 4, 48) := by kernel_rfl
theorem info48 : (Try.prog.info? 48).map (fun i => (i.zero, i.size, i.bytes)) = some (some (.agg #[.int .i64 0, .int .i64 0, .int .i64 0, .int .i64 0]), 4, 32) := by kernel_rfl

/-- Below base all is as it was, but for two blocks. -/
structure LowK (base R Bm : Nat) (w w' : World) : Prop where
  os : w'.os = w.os
  tape : w'.tape = w.tape
  output : w'.output = w.output
  size : w.heap.size ≤ w'.heap.size
  block : ∀ k, k < base → k ≠ R → k ≠ Bm → w'.heap[k]? = w.heap[k]?
theorem LowK.refl (base R Bm : Nat) (w : World) : LowK base R Bm w w := ⟨rfl, rfl, rfl, Nat.le_refl _, fun _ _ _ _ => rfl⟩
theorem LowK.trans {base R Bm : Nat} {a b c : World} (h : LowK base R Bm a b) (k : LowK base R Bm b c) : LowK base R Bm a c :=
  ⟨k.os.trans h.os, k.tape.trans h.tape, k.output.trans h.output, Nat.le_trans h.size k.size, fun i h1 h2 h3 => (k.block i h1 h2 h3).trans (h.block i h1 h2 h3)⟩
theorem LowK.grown {base R Bm : Nat} {w w' : World} {row : Option Nat} (h : w.grownBy w' row) (hb : base ≤ w.heap.size) (hr : ∀ k, row = some k → k = R ∨ k = Bm ∨ base ≤ k) : LowK base R Bm w w' :=
  ⟨h.os, h.tape, h.output, h.size, fun k h1 h2 h3 => h.block k (by omega) (fun e => by have := hr k e.symm; omega)⟩

/-- All that the reader's module has read so far. -/
structure MSt (base R Br Bm : Nat) (s N T : ByteArray) (a b : Int) (W : World) (es : List Exp) (is : List Imp) (ps : List Pat) (τ : (Nat × Bool)) : Prop where
  rd : RdAt 68 W R s τ
  box : CellsAt W Br 95 #[.pointer (some ⟨R, 0, none⟩)]
  mod : ∃ ve vi vp, CellsAt W Bm 39 #[.string N, .int .i64 a, .int .i64 b, .string T, ve, vi, vp] ∧
    W.ownsRow base 77 2 ve es.length (es.flatMap expC) ∧ W.ownsRow base 74 4 vi is.length (is.flatMap impC) ∧ W.ownsRow base 48 4 vp ps.length (ps.flatMap patC)

theorem row_block {W : World} {base : Nat} {e : TypeId} {size : Nat} {v : Value} {n : Nat} {xs : List Value} (h : W.ownsRow base e size v n xs) : ∀ k, v.ownBlock = some k → base ≤ k ∧ ∃ cs fz, W.heap[k]? = some (.cells cs e fz) := by
  intro k hk
  rcases h.2 with ⟨rfl, _⟩ | ⟨g, cap, cur, rfl, hg, hb, _⟩
  · cases hk
  · simp [Value.ownBlock] at hk
    subst hk
    exact ⟨hg, cur, (0, 0), hb⟩
theorem row_grown {W W' : World} {base : Nat} {e : TypeId} {size : Nat} {v : Value} {n : Nat} {xs : List Value} (h : W.ownsRow base e size v n xs) {row : Option Nat} (hg : W.grownBy W' row) (hr : ∀ k, row = some k → k < base ∨ ∃ cs t fz, t ≠ e ∧ W.heap[k]? = some (.cells cs t fz)) : W'.ownsRow base e size v n xs := by
  refine h.kept hg ?_
  cases e1 : v.ownBlock with
  | none => exact .inl rfl
  | some k =>
    refine .inr (fun e2 => ?_)
    obtain ⟨h1, cs, fz, h2⟩ := row_block h k e1
    rcases hr k e2.symm with h3 | ⟨cs', t, fz', h3, h4⟩
    · omega
    · rw [h2] at h4
      injection h4 with h4
      injection h4 with _ h5 _
      exact h3 h5.symm

theorem MSt.read {base R Br Bm : Nat} {s N T : ByteArray} {a b : Int} {W W' : World} {es : List Exp} {is : List Imp} {ps : List Pat} {τ τ' : (Nat × Bool)} (h : MSt base R Br Bm s N T a b W es is ps τ) (hg : W.grownBy W' (some R)) (hr : RdAt 68 W' R s τ') (h1 : R < base) (h2 : R ≠ Br) (h3 : R ≠ Bm) : MSt base R Br Bm s N T a b W' es is ps τ' := by
  obtain ⟨_, hbox, ve, vi, vp, hm, hE, hI, hP⟩ := h
  have hq : ∀ {e : TypeId} k, some R = some k → k < base ∨ ∃ cs t fz, t ≠ e ∧ W.heap[k]? = some (.cells cs t fz) := fun k e => .inl (by cases e; exact h1)
  exact ⟨hr, hbox.kept hg (fun e => h2 (by cases e; rfl)), ve, vi, vp, hm.kept hg (fun e => h3 (by cases e; rfl)), row_grown hE hg hq, row_grown hI hg hq, row_grown hP hg hq⟩

set_option maxRecDepth 100000 in
set_option maxHeartbeats 3200000 in
theorem one_exp (base R Br Bm : Nat) (s N T : ByteArray) (a b : Int) (w : World) (es : List Exp) (is : List Imp) (ps : List Pat) (τ : (Nat × Bool)) (h : MSt base R Br Bm s N T a b w es is ps τ)
    (hR : R < base) (hBr : Br < base) (hBm : Bm < base) (n1 : R ≠ Br) (n2 : R ≠ Bm) (n3 : Br ≠ Bm) (hs : s.size ≤ 140737488351232) (ha : τ.1 ≤ s.size) (hb : base ≤ w.heap.size) (hl : es.length < 255) :
    Calls Try.prog 68 #[.pointer (some ⟨Bm, 0, none⟩), .pointer (some ⟨Br, 0, none⟩)] w fun e w' => e = .returned (.tuple #[]) ∧ MSt base R Br Bm s N T a b w' (es ++ [(rdExp false s τ).1]) is ps (rdExp false s τ).2 ∧ LowK base R Bm w w' := by
  obtain ⟨i0, hi0, hz0, hz1, hz2⟩ := info_parts info77
  have H0 : Hid (MSt base R Br Bm s N T a b w es is ps τ) := h
  have HN : Hid (∀ W, Below w.heap.size w W → Calls Try.prog 64 #[.pointer (some ⟨R, 0, none⟩)] W fun e w1 => e = .returned (.string (rdName false s τ).1) ∧ RdAt 68 w1 R s (rdName false s τ).2 ∧ w.grownBy w1 (some R)) := by
    intro W hB
    exact (name_any R s τ W (CellsAt.below h.rd hB (CellsAt.lt h.rd)) hs ha).mono fun e w1 ⟨h1, h2, h3⟩ => ⟨h1, h2, ((grown_of_below hB).but _).trans h3⟩
  have HQ : Hid (∀ w1, RdAt 68 w1 R s (rdName false s τ).2 → ∀ W, Below w1.heap.size w1 W → Calls Try.prog 65 #[.pointer (some ⟨R, 0, none⟩), .int .i64 2] W fun e w2 => e = .returned (.int .i64 (rdNum false s 2 (rdName false s τ).2).1) ∧ RdAt 68 w2 R s (rdNum false s 2 (rdName false s τ).2).2 ∧ w1.grownBy w2 (some R)) := by
    intro w1 h1 W hB
    exact (number_any R s _ 2 (.inr rfl) W (CellsAt.below h1 hB (CellsAt.lt h1)) hs (rdName_le _ _ _ ha) _ rfl).mono fun e w1 ⟨h1, h2, h3⟩ => ⟨h1, h2, ((grown_of_below hB).but _).trans h3⟩
  have HV : Hid (rdExp false s τ = (⟨(rdName false s τ).1, (rdNum false s 2 (rdName false s τ).2).1⟩, (rdNum false s 2 (rdName false s τ).2).2)) := rfl
  generalize rdExp false s τ = E at *
  generalize (rdNum false s 2 (rdName false s τ).2).1 = A at *
  generalize (rdNum false s 2 (rdName false s τ).2).2 = σ2 at *
  generalize (rdName false s τ).1 = NN at *
  generalize (rdName false s τ).2 = σ1 at *
  obtain ⟨hrd, hbox, ve, vi, vp, hm, hE, hI, hP⟩ := h
  have hmlt := hm.lt
  have hxlt := hbox.lt
  obtain ⟨av, kv, rfl⟩ := ownsRow_slice hE
  have z4 : w.cell? ⟨Bm, 4, none⟩ = some (.slice av es.length kv) := hm.cell 4
  have zb : w.cell? ⟨Br, 0, none⟩ = some (.pointer (some ⟨R, 0, none⟩)) := hbox.cell 0
  have HR : Hid (∀ W, w.grownBy W (some R) → W.ownsRow base 77 2 (.slice av es.length kv) es.length (es.flatMap expC)) := fun W hg => row_grown hE hg (fun k e => .inl (by cases e; exact hR))
  have HM : Hid (∀ W, w.grownBy W (some R) → CellsAt W Bm 39 #[.string N, .int .i64 a, .int .i64 b, .string T, .slice av es.length kv, vi, vp]) := fun W hg => hm.kept hg (fun e => n2 (by cases e; rfl))
  have HB : Hid (∀ W, w.grownBy W (some R) → CellsAt W Br 95 #[.pointer (some ⟨R, 0, none⟩)]) := fun W hg => hbox.kept hg (fun e => n1 (by cases e; rfl))
  have HX : Hid (∀ k, k < base → some k ≠ (Value.slice av es.length kv).ownBlock) := fun k hk e => by have := (row_block hE k e.symm).1; omega
  have HI : Hid (w.ownsRow base 74 4 vi is.length (is.flatMap impC)) := hI
  have HP : Hid (w.ownsRow base 48 4 vp ps.length (ps.flatMap patC)) := hP
  clear hrd hbox hm hI hP hs ha
  go_enter Try.func68, Try.ntmps68
  go_wp2_with fail
  refine wp_region_noPanic ?_
  refine wp_region_L (S := fun w' => w'.cell? ⟨Bm, 4, none⟩ = some (.slice av es.length kv) ∧ w'.cell? ⟨Br, 0, none⟩ = some (.pointer (some ⟨R, 0, none⟩))) (x := 10) (by kernel_rfl) ?_
  have hS0 : w.drew.cell? ⟨Bm, 4, none⟩ = some (.slice av es.length kv) ∧ w.drew.cell? ⟨Br, 0, none⟩ = some (.pointer (some ⟨R, 0, none⟩)) := ⟨z4, zb⟩
  refine wpL_take 0 2 (.pointer (some ⟨Bm, 4, none⟩)) rfl (by kernel_rfl) (fun _ _ _ h => h) hS0 rfl rfl (fun w' hSw => by (try dsimp only at hSw); go_simp) ?_
  simp only [List.setIfInBounds_toArray, List.set_cons_zero, List.set_cons_succ]
  refine wpL_take 1 3 (.slice av es.length kv) rfl (by kernel_rfl) (fun _ _ _ h => h) hS0 rfl rfl (fun w' hSw => by (try dsimp only at hSw); go_simp) ?_
  simp only [List.setIfInBounds_toArray, List.set_cons_zero, List.set_cons_succ]
  refine wpL_take 2 4 (.pointer (some ⟨R, 0, none⟩)) rfl (by kernel_rfl) (fun _ _ _ h => h) hS0 rfl rfl (fun w' hSw => by (try dsimp only at hSw); go_simp) ?_
  simp only [List.setIfInBounds_toArray, List.set_cons_zero, List.set_cons_succ]
  refine wpL_take 4 6 (.pointer (some ⟨R, 0, none⟩)) rfl (by kernel_rfl) (fun _ _ _ h => h) hS0 rfl rfl (fun w' hSw => by (try dsimp only at hSw); go_simp) ?_
  simp only [List.setIfInBounds_toArray, List.set_cons_zero, List.set_cons_succ]
  refine wpL_step (i := 3) rfl (by kernel_rfl) (fun K hK => ?_)
  go_simp
  refine (HN.out _ (Below.refl _ _).drew).mono ?_
  rintro e w1 ⟨rfl, r1, k1⟩
  have hS1 : w1.cell? ⟨Bm, 4, none⟩ = some (.slice av es.length kv) ∧ w1.cell? ⟨Br, 0, none⟩ = some (.pointer (some ⟨R, 0, none⟩)) := ⟨k1.cell z4 (fun e => n2 (by cases e; rfl)), k1.cell zb (fun e => n1 (by cases e; rfl))⟩
  go_simp
  refine hK.out _ _ hS1 (fun _ => ?_)
  clear hK K
  refine wpL_step (i := 5) rfl (by kernel_rfl) (fun K hK => ?_)
  go_simp
  refine (HQ.out _ r1 _ (Below.refl _ _)).mono ?_
  rintro e w2 ⟨rfl, r2, k2⟩
  have k12 := k1.trans k2
  have hS2 : w2.cell? ⟨Bm, 4, none⟩ = some (.slice av es.length kv) ∧ w2.cell? ⟨Br, 0, none⟩ = some (.pointer (some ⟨R, 0, none⟩)) := ⟨k12.cell z4 (fun e => n2 (by cases e; rfl)), k12.cell zb (fun e => n1 (by cases e; rfl))⟩
  go_simp
  refine hK.out _ _ hS2 (fun _ => ?_)
  clear hK K
  refine wpL_take 6 8 (.agg #[.string NN, .int .i64 A]) rfl (by kernel_rfl) (fun _ _ _ h => h) hS2 rfl rfl (fun w' hSw => by (try dsimp only at hSw); go_simp) ?_
  simp only [List.setIfInBounds_toArray, List.set_cons_zero, List.set_cons_succ]
  refine wpL_step (i := 7) rfl (by kernel_rfl) (fun K hK => ?_)
  go_simp
  have m2 : CellsAt (w2.alloc (.cells #[.string NN, .int .i64 A] 77)) Bm 39 _ := CellsAt.kept (HM.out _ k12) (World.grownBy_alloc w2 _ none) (by simp)
  have b2 : CellsAt (w2.alloc (.cells #[.string NN, .int .i64 A] 77)) Br 95 _ := CellsAt.kept (HB.out _ k12) (World.grownBy_alloc w2 _ none) (by simp)
  refine hK.out _ _ ⟨m2.cell 4, b2.cell 0⟩ (fun _ => ?_)
  clear hK K
  refine wpL_step (i := 8) rfl (by kernel_rfl) (fun K hK => ?_)
  refine step_append_lies _ (by rfl) _ _ _ (by rfl) base 77 i0 _ 2 24 Try.underlying35 hi0 hz0 hz1 hz2 rfl (by omega) (.slice av es.length kv) es.length (es.flatMap expC) (by rfl)
          ((HR.out _ k12).alloc _) ⟨w2.heap.size, 0, none⟩ 1 1 [.string NN, .int .i64 A] (by rfl) (by rfl)
          (World.news_of_block (cs := #[.string NN, .int .i64 A]) (t := 77) (fr := (0, 0)) (heap_alloc_new w2 _)) (by simp [Value.oneCell'])
          (by omega) (by unfold maxLen; omega) (by omega) (by have := k12.size; simp; omega) (w2.heap.size + 1) (by simp) ?_
  intro g cap w3 hown3 hgrow hat hlt
  have m3 := m2.kept hgrow (HX.out Bm hBm)
  have b3 := b2.kept hgrow (HX.out Br hBr)
  refine hK.out _ _ ⟨m3.cell 4, b3.cell 0⟩ (fun hS3 => ?_)
  clear hK K
  simp only [Act.put, List.setIfInBounds_toArray]
  refine wpL_take 9 11 (.pointer (some ⟨Bm, 4, none⟩)) rfl (by kernel_rfl) (fun _ _ _ h => h) hS3 rfl rfl (fun w' hSw => by (try dsimp only at hSw); go_simp) ?_
  simp only [List.setIfInBounds_toArray, List.set_cons_zero, List.set_cons_succ]
  refine wpL_last (x := 10) rfl (by kernel_rfl) (by kernel_rfl) (fun K hK => ?_)
  have u4 := hS3.1
  have uf := m3.frozen 4
  go_simp
  refine hK.out _ _ ?_
  refine NoPanic.normal ?_
  clear hK K
  go_end0
  have gs := grown_set w3 Bm 4 (.slice (some ⟨g, 0, none⟩) (es.length + 1) cap)
  have ga := World.grownBy_alloc w2 (.cells #[.string NN, .int .i64 A] 77) none
  have hX2 := row_block ((HR.out _ k12).alloc (.cells #[.string NN, .int .i64 A] 77))
  have q1 : ∀ {e : TypeId} (W : World) k, some R = some k → k < base ∨ ∃ cs t fz, t ≠ e ∧ W.heap[k]? = some (.cells cs t fz) := fun W k e => .inl (by cases e; exact hR)
  have q2 : ∀ {e : TypeId} (W : World) k, some Bm = some k → k < base ∨ ∃ cs t fz, t ≠ e ∧ W.heap[k]? = some (.cells cs t fz) := fun W k e => .inl (by cases e; exact hBm)
  have q3 : ∀ {e : TypeId}, 77 ≠ e → ∀ k, (Value.slice av es.length kv).ownBlock = some k → k < base ∨ ∃ cs t fz, t ≠ e ∧ (w2.alloc (.cells #[.string NN, .int .i64 A] 77)).heap[k]? = some (.cells cs t fz) := fun hne k e => by
    obtain ⟨_, cs, fz, hh⟩ := hX2 k e
    exact .inr ⟨cs, _, fz, hne, hh⟩
  refine ⟨rfl, ⟨?_, b3.kept gs (fun e => n3 (by cases e; rfl)), _, vi, vp, m3.set 4 _, ?_, ?_, ?_⟩, ?_⟩
  · rw [HV.out]
    exact CellsAt.kept (CellsAt.kept (CellsAt.kept r2 ga (by simp)) hgrow (HX.out R hR)) gs (fun e => n2 (by cases e; rfl))
  · rw [HV.out, List.flatMap_append, List.length_append]
    exact row_grown hown3 gs (q2 _)
  · exact row_grown (row_grown (row_grown (row_grown HI.out k12 (q1 _)) ga (by simp)) hgrow (q3 (by decide))) gs (q2 _)
  · exact row_grown (row_grown (row_grown (row_grown HP.out k12 (q1 _)) ga (by simp)) hgrow (q3 (by decide))) gs (q2 _)
  · have s1 := k12.size
    have s2 := ga.size
    have s3 := hgrow.size
    exact (((LowK.grown k12 hb (fun k e => by cases e; exact .inl rfl)).trans (LowK.grown ga (by omega) (by simp))).trans (LowK.grown hgrow (by omega) (fun k e => .inr (.inr (hX2 k e).1)))).trans (LowK.grown gs (by omega) (fun k e => by cases e; exact .inr (.inl rfl)))

end Go.Proofs.Ytaklbnabgcglhaa
