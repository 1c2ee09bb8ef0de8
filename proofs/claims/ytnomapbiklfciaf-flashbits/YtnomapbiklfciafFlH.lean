/- The contract of package flash's Torn. -/
import Derived.Test.YtnomapbiklfciafFlG
namespace Go.Proofs.Ytnomapbiklfciaf
open Go.RowKit Go.PlainAid Go.Lib

set_option maxRecDepth 100000

def deedC (d : Deed) : List Value := [.int .i64 d.kind, .int .i64 d.pos, .int .i64 d.val]
theorem deedC_at (d : Deed) (i : Nat) (hi : i < 3) : (deedC d)[i]? = some (Deed.cell d i) := by
  have : i = 0 ∨ i = 1 ∨ i = 2 := by omega
  rcases this with rfl | rfl | rfl <;> rfl

set_option maxHeartbeats 8000000 in
theorem flTorn_any (F : List ByteArray) (v : Value) (d : Deed) (p : ByteArray) (w : World) (hF : IsFl w.heap.size w v F) (hp : p.size ≤ 9223372036854775807) :
    Calls Try.prog 12 #[.agg #[v], d.value, .string p] w fun e w' => (∃ r, e = .returned (.tuple #[.agg #[r], .int .i64 (chgRes (tornT d.kind p) F [d]).2]) ∧ IsFl w'.heap.size w' r (chgRes (tornT d.kind p) F [d]).1) ∧ Below w.heap.size w w' := by
  have HT : Hid (∀ W, Calls Try.prog 32 #[.int .i64 d.kind, .string p] W fun e w' => (∃ (K : FuncId) (B : Nat), e = .returned (.func (.func K) #[] #[.pointer (some ⟨B, 0, none⟩)]) ∧ (∀ w x y, Sem.run Try.prog (callFunc K #[x, y, .pointer (some ⟨B, 0, none⟩)]) w = .ok (.enter K #[x, y, .pointer (some ⟨B, 0, none⟩)]) w) ∧
      ∀ (i : Nat) (b : UInt8) W, Below w'.heap.size w' W → Calls Try.prog K #[.int .i64 i, .int .u8 (b.toNat : Int), .pointer (some ⟨B, 0, none⟩)] W fun e W' => e = .returned (.int .u8 ((tornT d.kind p i b).toNat : Int)) ∧ Below W.heap.size W W') ∧ Below W.heap.size W w') := fun W => tearing_any d.kind p W hp
  have HC : Hid (∀ K B vl W (_ : ∀ w x y, Sem.run Try.prog (callFunc K #[x, y, .pointer (some ⟨B, 0, none⟩)]) w = .ok (.enter K #[x, y, .pointer (some ⟨B, 0, none⟩)]) w) (_ : ∀ (i : Nat) (b : UInt8) W', Below W.heap.size W W' → Calls Try.prog K #[.int .i64 i, .int .u8 (b.toNat : Int), .pointer (some ⟨B, 0, none⟩)] W' fun e W'' => e = .returned (.int .u8 ((tornT d.kind p i b).toNat : Int)) ∧ Below W'.heap.size W' W'') (_ : Below w.heap.size w W) (_ : RowOf 3 Deed.cell W.heap.size W vl [d]),
      Calls Try.prog 26 #[.agg #[v], .func (.func K) #[] #[.pointer (some ⟨B, 0, none⟩)], vl] W fun e w' => (∃ r, e = .returned (.tuple #[.agg #[r], .int .i64 (chgRes (tornT d.kind p) F [d]).2]) ∧ IsFl w'.heap.size w' r (chgRes (tornT d.kind p) F [d]).1) ∧ Below W.heap.size W w') := fun K B vl W hK hT hb hl =>
    changed_any1 (tornT d.kind p) F v [d] vl K (.pointer (some ⟨B, 0, none⟩)) hK W hT ((hF.below hb).more hb.size) hl
  have HRow : Hid (∀ W : World, RowOf 3 Deed.cell (W.alloc (.cells #[.int .i64 d.kind, .int .i64 d.pos, .int .i64 d.val] 32)).heap.size (W.alloc (.cells #[.int .i64 d.kind, .int .i64 d.pos, .int .i64 d.val] 32)) (.slice (some ⟨W.heap.size, 0, none⟩) 1 1) [d]) := fun W =>
    rowOf_cells (C := deedC) (cells := Deed.cell) (sz := 3) (fun _ => rfl) deedC_at (CellsAt.new W 32 #[.int .i64 d.kind, .int .i64 d.pos, .int .i64 d.val]) [d] (show 1 ≤ 255 by decide) 1 rfl
  obtain ⟨⟨a, cap, rfl, _, _⟩, _⟩ := hF
  generalize chgRes (tornT d.kind p) F [d] = R at *
  generalize tornT d.kind p = tt at *
  generalize F.length = nF at *
  obtain ⟨RF, RE⟩ := R
  obtain ⟨kd, ps, dv⟩ := d
  unfold Deed.value
  dsimp only at *
  have HBx : Hid (Below w.heap.size w (((w.alloc (.cells #[.slice a nF cap] 24)).alloc (.cells #[.int .i64 kd, .int .i64 ps, .int .i64 dv] 32)).alloc (.cells #[.slice none 0 0] 24))) := (((Below.refl _ _).alloc (Nat.le_refl _) _).alloc (by simp) _).alloc (by simp; omega) _
  have HFx : Hid (CellsAt (((w.alloc (.cells #[.slice a nF cap] 24)).alloc (.cells #[.int .i64 kd, .int .i64 ps, .int .i64 dv] 32)).alloc (.cells #[.slice none 0 0] 24)) w.heap.size 24 #[.slice a nF cap]) :=
    ((CellsAt.new w 24 #[.slice a nF cap]).kept (World.grownBy_alloc _ _ none) (by simp)).kept (World.grownBy_alloc _ _ none) (by simp)
  have HDx : Hid (CellsAt (((w.alloc (.cells #[.slice a nF cap] 24)).alloc (.cells #[.int .i64 kd, .int .i64 ps, .int .i64 dv] 32)).alloc (.cells #[.slice none 0 0] 24)) (w.heap.size + 1) 32 #[.int .i64 kd, .int .i64 ps, .int .i64 dv]) := by
    have := CellsAt.new (w.alloc (.cells #[.slice a nF cap] 24)) 32 #[.int .i64 kd, .int .i64 ps, .int .i64 dv]
    rw [World.size_alloc] at this
    exact this.kept (World.grownBy_alloc _ _ none) (by simp)
  have HRx : Hid (CellsAt (((w.alloc (.cells #[.slice a nF cap] 24)).alloc (.cells #[.int .i64 kd, .int .i64 ps, .int .i64 dv] 32)).alloc (.cells #[.slice none 0 0] 24)) (w.heap.size + 2) 24 #[.slice none 0 0]) := by
    have := CellsAt.new ((w.alloc (.cells #[.slice a nF cap] 24)).alloc (.cells #[.int .i64 kd, .int .i64 ps, .int .i64 dv] 32)) 24 #[.slice none 0 0]
    simp only [World.size_alloc] at this
    exact this
  go_enter Try.func12, Try.ntmps12
  go_wp2_with fail
  generalize (((w.alloc (.cells #[.slice a nF cap] 24)).alloc (.cells #[.int .i64 kd, .int .i64 ps, .int .i64 dv] 32)).alloc (.cells #[.slice none 0 0] 24)) = w1 at HBx HFx HDx HRx ⊢
  have HBd : Hid (Below w.heap.size w w1.drew) := HBx.out.drew
  have HFd : Hid (CellsAt w1.drew w.heap.size 24 #[.slice a nF cap]) := HFx.out
  have HDd : Hid (CellsAt w1.drew (w.heap.size + 1) 32 #[.int .i64 kd, .int .i64 ps, .int .i64 dv]) := HDx.out
  have HRd : Hid (CellsAt w1.drew (w.heap.size + 2) 24 #[.slice none 0 0]) := HRx.out
  clear HBx HFx HDx HRx
  refine wp_region_noPanic ?_
  refine wp_region_L (S := fun w' => CellsAt w' w.heap.size 24 #[.slice a nF cap] ∧ CellsAt w' (w.heap.size + 1) 32 #[.int .i64 kd, .int .i64 ps, .int .i64 dv]) (x := 11) (by kernel_rfl) ?_
  generalize w1.drew = w2 at *
  have hS0 : CellsAt w2 w.heap.size 24 #[.slice a nF cap] ∧ CellsAt w2 (w.heap.size + 1) 32 #[.int .i64 kd, .int .i64 ps, .int .i64 dv] := ⟨HFd.out, HDd.out⟩
  refine wpL_take 0 8 (.agg #[.slice a nF cap]) rfl (by kernel_rfl) (fun _ _ _ h => h) hS0 rfl rfl (fun w' hSw => by have q := hSw.1.cell 0; simp at q; clear hSw; go_simp) ?_
  simp only [List.setIfInBounds_toArray, List.set_cons_zero, List.set_cons_succ]
  refine wpL_take 1 9 (.pointer (some ⟨w.heap.size + 1, 0, none⟩)) rfl (by kernel_rfl) (fun _ _ _ h => h) hS0 rfl rfl (fun w' hSw => by have q := hSw.2.cell 0; simp at q; clear hSw; go_simp) ?_
  simp only [List.setIfInBounds_toArray, List.set_cons_zero, List.set_cons_succ]
  refine wpL_take 2 10 (.int .i64 kd) rfl (by kernel_rfl) (fun _ _ _ h => h) hS0 rfl rfl (fun w' hSw => by have q := hSw.2.cell 0; simp at q; clear hSw; go_simp) ?_
  simp only [List.setIfInBounds_toArray, List.set_cons_zero, List.set_cons_succ]
  refine wpL_take 3 11 (.string p) rfl (by kernel_rfl) (fun _ _ _ h => h) hS0 rfl rfl (fun w' hSw => by clear hSw; go_simp) ?_
  simp only [List.setIfInBounds_toArray, List.set_cons_zero, List.set_cons_succ]
  refine wpL_take 5 13 (.agg #[.int .i64 kd, .int .i64 ps, .int .i64 dv]) rfl (by kernel_rfl) (fun _ _ _ h => h) hS0 rfl rfl (fun w' hSw => by have q := hSw.2.cell 0; have q1 := hSw.2.cell 1; have q2 := hSw.2.cell 2; simp at q q1 q2; clear hSw; go_simp) ?_
  simp only [List.setIfInBounds_toArray, List.set_cons_zero, List.set_cons_succ]
  refine wpL_two (i := 4) (j := 6) rfl rfl (by kernel_rfl) (fun K hK => ?_) (fun K hK => ?_)
  · -- the function first
    go_simp
    refine (HT.out _).mono ?_
    rintro e w3 ⟨⟨KF, BF, rfl, hKF, hTF⟩, b3⟩
    have HKF : Hid (∀ w x y, Sem.run Try.prog (callFunc KF #[x, y, .pointer (some ⟨BF, 0, none⟩)]) w = .ok (.enter KF #[x, y, .pointer (some ⟨BF, 0, none⟩)]) w) := hKF
    have HTF : Hid (∀ (i : Nat) (b : UInt8) W, Below w3.heap.size w3 W → Calls Try.prog KF #[.int .i64 i, .int .u8 (b.toNat : Int), .pointer (some ⟨BF, 0, none⟩)] W fun e W' => e = .returned (.int .u8 ((tt i b).toNat : Int)) ∧ Below W.heap.size W W') := hTF
    clear hKF hTF
    have hS3 : CellsAt w3 w.heap.size 24 #[.slice a nF cap] ∧ CellsAt w3 (w.heap.size + 1) 32 #[.int .i64 kd, .int .i64 ps, .int .i64 dv] := ⟨hS0.1.below b3 hS0.1.lt, hS0.2.below b3 hS0.2.lt⟩
    have hR3 := HRd.out.below b3 HRd.out.lt
    have hB3 := HBd.out.trans (b3.mono HBd.out.size)
    go_simp
    refine hK.out _ _ hS3 (fun _ => ?_)
    clear hK K
    refine wpL_step (i := 6) rfl (by kernel_rfl) (fun K hK => ?_)
    go_simp
    have ga := World.grownBy_alloc w3 (.cells #[.int .i64 kd, .int .i64 ps, .int .i64 dv] 32) none
    have hSe : CellsAt (w3.alloc (.cells #[.int .i64 kd, .int .i64 ps, .int .i64 dv] 32)) w.heap.size 24 #[.slice a nF cap] ∧ CellsAt (w3.alloc (.cells #[.int .i64 kd, .int .i64 ps, .int .i64 dv] 32)) (w.heap.size + 1) 32 #[.int .i64 kd, .int .i64 ps, .int .i64 dv] := ⟨hS3.1.kept ga (by simp), hS3.2.kept ga (by simp)⟩
    have HRc : Hid (CellsAt (w3.alloc (.cells #[.int .i64 kd, .int .i64 ps, .int .i64 dv] 32)) (w.heap.size + 2) 24 #[.slice none 0 0]) := hR3.kept ga (by simp)
    have HBe : Hid (Below w.heap.size w (w3.alloc (.cells #[.int .i64 kd, .int .i64 ps, .int .i64 dv] 32))) := hB3.alloc hB3.size _
    have HRe : Hid (RowOf 3 Deed.cell (w3.alloc (.cells #[.int .i64 kd, .int .i64 ps, .int .i64 dv] 32)).heap.size (w3.alloc (.cells #[.int .i64 kd, .int .i64 ps, .int .i64 dv] 32)) (.slice (some ⟨w3.heap.size, 0, none⟩) 1 1) [⟨kd, ps, dv⟩]) := HRow.out w3
    have HTE : Hid (∀ (i : Nat) (b : UInt8) W', Below (w3.alloc (.cells #[.int .i64 kd, .int .i64 ps, .int .i64 dv] 32)).heap.size (w3.alloc (.cells #[.int .i64 kd, .int .i64 ps, .int .i64 dv] 32)) W' → Calls Try.prog KF #[.int .i64 i, .int .u8 (b.toNat : Int), .pointer (some ⟨BF, 0, none⟩)] W' fun e W'' => e = .returned (.int .u8 ((tt i b).toNat : Int)) ∧ Below W'.heap.size W' W'') := fun i b W' hb => HTF.out i b W' (((Below.refl _ _).alloc (Nat.le_refl _) _).trans (hb.mono (by simp)))
    refine hK.out _ _ hSe (fun _ => ?_)
    clear hK K ga hS3 hR3 hB3 hS0 HRow HT
    refine wpL_step (i := 7) rfl (by kernel_rfl) (fun K hK => ?_)
    go_simp
    refine (HC.out KF BF _ _ HKF.out HTE.out HBe.out HRe.out).mono ?_
    rintro e wq ⟨⟨r, rfl, hr⟩, bq⟩
    have HIq : Hid (IsFl wq.heap.size wq r RF) := hr
    have HBq : Hid (Below w.heap.size w wq) := HBe.out.trans (bq.mono HBe.out.size)
    have hRq := HRc.out.below bq HRc.out.lt
    have HRq : Hid (CellsAt wq (w.heap.size + 2) 24 #[.slice none 0 0]) := hRq
    have hSq : CellsAt wq w.heap.size 24 #[.slice a nF cap] ∧ CellsAt wq (w.heap.size + 1) 32 #[.int .i64 kd, .int .i64 ps, .int .i64 dv] := ⟨hSe.1.below bq hSe.1.lt, hSe.2.below bq hSe.2.lt⟩
    obtain ⟨⟨ra, rc, rfl, _, _⟩, _⟩ := hr
    go_simp
    refine hK.out _ _ hSq (fun _ => ?_)
    clear hK K
    refine wpL_take 8 16 (.agg #[.slice ra RF.length rc]) rfl (by kernel_rfl) (fun _ _ _ h => h) hSq rfl rfl (fun w' hSw => by clear hSw; go_simp) ?_
    simp only [List.setIfInBounds_toArray, List.set_cons_zero, List.set_cons_succ]
    refine wpL_take 9 17 (.int .i64 RE) rfl (by kernel_rfl) (fun _ _ _ h => h) hSq rfl rfl (fun w' hSw => by clear hSw; go_simp) ?_
    simp only [List.setIfInBounds_toArray, List.set_cons_zero, List.set_cons_succ]
    refine wpL_step (i := 10) rfl (by kernel_rfl) (fun K hK => ?_)
    have r0 := hRq.cell 0
    have r1 := hRq.frozen 0
    simp at r0
    have HSQ : Hid (CellsAt wq w.heap.size 24 #[.slice a nF cap] ∧ CellsAt wq (w.heap.size + 1) 32 #[.int .i64 kd, .int .i64 ps, .int .i64 dv]) := hSq
    clear hRq hSq
    go_simp
    have gs := grown_set wq (w.heap.size + 2) 0 (.slice ra RF.length rc)
    refine hK.out _ _ ⟨HSQ.out.1.kept gs (by simp), HSQ.out.2.kept gs (by simp)⟩ (fun _ => ?_)
    clear hK K
    refine wpL_last (x := 11) rfl (by kernel_rfl) (by kernel_rfl) (fun K hK => ?_)
    go_simp
    refine hK.out _ _ ?_
    refine NoPanic.normal ?_
    clear hK K
    have hF := HRq.out.set 0 (.slice ra RF.length rc)
    simp only [List.setIfInBounds_toArray, List.set_cons_zero] at hF
    first | go_wp2 | skip
    refine bodyPost_ret (results_cell_tmp_row rfl _ _ _ _ _ _ _ rfl hF Try.underlying24 rfl (by kernel_rfl)) rfl ?_
    exact ⟨⟨_, rfl, (HIq.out.stored HRq.out (fun s h => by cases h) _).more (by simp [World.setCell])⟩, HBq.out.setCell (by simp; omega) _⟩
  · -- the row first
    go_simp
    have ga := World.grownBy_alloc w2 (.cells #[.int .i64 kd, .int .i64 ps, .int .i64 dv] 32) none
    have hS3 : CellsAt (w2.alloc (.cells #[.int .i64 kd, .int .i64 ps, .int .i64 dv] 32)) w.heap.size 24 #[.slice a nF cap] ∧ CellsAt (w2.alloc (.cells #[.int .i64 kd, .int .i64 ps, .int .i64 dv] 32)) (w.heap.size + 1) 32 #[.int .i64 kd, .int .i64 ps, .int .i64 dv] := ⟨hS0.1.kept ga (by simp), hS0.2.kept ga (by simp)⟩
    have hR3 : CellsAt (w2.alloc (.cells #[.int .i64 kd, .int .i64 ps, .int .i64 dv] 32)) (w.heap.size + 2) 24 #[.slice none 0 0] := HRd.out.kept ga (by simp)
    have hB3 : Below w.heap.size w (w2.alloc (.cells #[.int .i64 kd, .int .i64 ps, .int .i64 dv] 32)) := HBd.out.alloc HBd.out.size _
    have hrow := HRow.out w2
    refine hK.out _ _ hS3 (fun _ => ?_)
    clear hK K
    generalize hw3 : (w2.alloc (.cells #[.int .i64 kd, .int .i64 ps, .int .i64 dv] 32)) = w3 at hS3 hR3 hB3 hrow ⊢
    refine wpL_step (i := 4) rfl (by kernel_rfl) (fun K hK => ?_)
    go_simp
    refine (HT.out _).mono ?_
    rintro e w5 ⟨⟨KF, BF, rfl, hKF, hTF⟩, b5⟩
    have HKF : Hid (∀ w x y, Sem.run Try.prog (callFunc KF #[x, y, .pointer (some ⟨BF, 0, none⟩)]) w = .ok (.enter KF #[x, y, .pointer (some ⟨BF, 0, none⟩)]) w) := hKF
    have HTF : Hid (∀ (i : Nat) (b : UInt8) W, Below w5.heap.size w5 W → Calls Try.prog KF #[.int .i64 i, .int .u8 (b.toNat : Int), .pointer (some ⟨BF, 0, none⟩)] W fun e W' => e = .returned (.int .u8 ((tt i b).toNat : Int)) ∧ Below W.heap.size W W') := hTF
    clear hKF hTF
    have hSe : CellsAt w5 w.heap.size 24 #[.slice a nF cap] ∧ CellsAt w5 (w.heap.size + 1) 32 #[.int .i64 kd, .int .i64 ps, .int .i64 dv] := ⟨hS3.1.below b5 hS3.1.lt, hS3.2.below b5 hS3.2.lt⟩
    have HRc : Hid (CellsAt w5 (w.heap.size + 2) 24 #[.slice none 0 0]) := hR3.below b5 hR3.lt
    have HBe : Hid (Below w.heap.size w w5) := hB3.trans (b5.mono hB3.size)
    have HRe : Hid (RowOf 3 Deed.cell w5.heap.size w5 (.slice (some ⟨w2.heap.size, 0, none⟩) 1 1) [⟨kd, ps, dv⟩]) := (hrow.below b5).more b5.size
    have HTE : Hid (∀ (i : Nat) (b : UInt8) W', Below w5.heap.size w5 W' → Calls Try.prog KF #[.int .i64 i, .int .u8 (b.toNat : Int), .pointer (some ⟨BF, 0, none⟩)] W' fun e W'' => e = .returned (.int .u8 ((tt i b).toNat : Int)) ∧ Below W'.heap.size W' W'') := HTF.out
    go_simp
    refine hK.out _ _ hSe (fun _ => ?_)
    clear hK K ga hS3 hR3 hB3 hS0 HRow HT
    refine wpL_step (i := 7) rfl (by kernel_rfl) (fun K hK => ?_)
    go_simp
    refine (HC.out KF BF _ _ HKF.out HTE.out HBe.out HRe.out).mono ?_
    rintro e wq ⟨⟨r, rfl, hr⟩, bq⟩
    have HIq : Hid (IsFl wq.heap.size wq r RF) := hr
    have HBq : Hid (Below w.heap.size w wq) := HBe.out.trans (bq.mono HBe.out.size)
    have hRq := HRc.out.below bq HRc.out.lt
    have HRq : Hid (CellsAt wq (w.heap.size + 2) 24 #[.slice none 0 0]) := hRq
    have hSq : CellsAt wq w.heap.size 24 #[.slice a nF cap] ∧ CellsAt wq (w.heap.size + 1) 32 #[.int .i64 kd, .int .i64 ps, .int .i64 dv] := ⟨hSe.1.below bq hSe.1.lt, hSe.2.below bq hSe.2.lt⟩
    obtain ⟨⟨ra, rc, rfl, _, _⟩, _⟩ := hr
    go_simp
    refine hK.out _ _ hSq (fun _ => ?_)
    clear hK K
    refine wpL_take 8 16 (.agg #[.slice ra RF.length rc]) rfl (by kernel_rfl) (fun _ _ _ h => h) hSq rfl rfl (fun w' hSw => by clear hSw; go_simp) ?_
    simp only [List.setIfInBounds_toArray, List.set_cons_zero, List.set_cons_succ]
    refine wpL_take 9 17 (.int .i64 RE) rfl (by kernel_rfl) (fun _ _ _ h => h) hSq rfl rfl (fun w' hSw => by clear hSw; go_simp) ?_
    simp only [List.setIfInBounds_toArray, List.set_cons_zero, List.set_cons_succ]
    refine wpL_step (i := 10) rfl (by kernel_rfl) (fun K hK => ?_)
    have r0 := hRq.cell 0
    have r1 := hRq.frozen 0
    simp at r0
    have HSQ : Hid (CellsAt wq w.heap.size 24 #[.slice a nF cap] ∧ CellsAt wq (w.heap.size + 1) 32 #[.int .i64 kd, .int .i64 ps, .int .i64 dv]) := hSq
    clear hRq hSq
    go_simp
    have gs := grown_set wq (w.heap.size + 2) 0 (.slice ra RF.length rc)
    refine hK.out _ _ ⟨HSQ.out.1.kept gs (by simp), HSQ.out.2.kept gs (by simp)⟩ (fun _ => ?_)
    clear hK K
    refine wpL_last (x := 11) rfl (by kernel_rfl) (by kernel_rfl) (fun K hK => ?_)
    go_simp
    refine hK.out _ _ ?_
    refine NoPanic.normal ?_
    clear hK K
    have hF := HRq.out.set 0 (.slice ra RF.length rc)
    simp only [List.setIfInBounds_toArray, List.set_cons_zero] at hF
    first | go_wp2 | skip
    refine bodyPost_ret (results_cell_tmp_row rfl _ _ _ _ _ _ _ rfl hF Try.underlying24 rfl (by kernel_rfl)) rfl ?_
    exact ⟨⟨_, rfl, (HIq.out.stored HRq.out (fun s h => by cases h) _).more (by simp [World.setCell])⟩, HBq.out.setCell (by simp; omega) _⟩

end Go.Proofs.Ytnomapbiklfciaf
