/- Texts that are laid together. -/
import Derived.Test.YthmohjgdcjafkagMrgM
import Derived.Deep.LoopGhost
import Derived.Test.YthmohjgdcjafkagMrgA
import Derived.BigQuiet
import Derived.Test.YthmohjgdcjafkagMrgK
import Derived.Test.YthmohjgdcjafkagMrgB
import Derived.Lib.QuietBelow

/- The contracts of package journal's isFree and bytesOf. -/
namespace Go.Proofs.Ythmohjgdcjafkag
open Go.RowKit Go.PlainAid Go.Lib

set_option maxRecDepth 100000

set_option maxHeartbeats 4000000 in
theorem isFree_any (s : ByteArray) (w : World) (hs : s.size ≤ 4096) : Calls Try.prog 41 #[.string s] w fun e w' => e = .returned (.bool (allFF s)) ∧ w' = w := by
  have HIX : Hid (∀ k, k < s.size → ∀ W, (Instr.index 9 (.string s) (.int .i64 (k : Int))).run Try.prog W = .ok (.int .u8 ((at8 s k).toNat : Int)) W) := fun k h W => ix_any s k h W
  have HFT : Hid ((∀ k, k < s.size → at8 s k = 255) → allFF s = true) := (allFF_iff s).2
  have HFF : Hid (∀ k, k < s.size → at8 s k ≠ 255 → allFF s = false) := fun k h1 h2 => by
    cases hc : allFF s with
    | false => rfl
    | true => exact absurd ((allFF_iff s).1 hc k h1) h2
  generalize allFF s = R at *
  obtain ⟨n, hn⟩ : ∃ n, n = s.size := ⟨_, rfl⟩
  have hsz : s.size = n := hn.symm
  rw [← hn] at hs HIX HFT HFF
  clear hn
  go_enter Try.func41, Try.ntmps41
  go_wp2_with fail
  go_loopg [6] n (fun gk i wr => ∃ (j : Nat), Hid (gk = n - j) ∧ j ≤ n ∧ i = .int .i64 j ∧ Hid (∀ k, k < j → at8 s k = 255) ∧ wr = w)
  case atStart => exact ⟨0, (rfl : n = n - 0), Nat.zero_le _, rfl, fun k hk => absurd hk (Nat.not_lt_zero _), rfl⟩
  case round =>
    obtain ⟨j, HGK, hj, rfl, HAL, rfl⟩ := hrel
    by_cases hlt : j < n
    · have hix := HIX.out j hlt
      have hlt' : (j : Int) < (n : Int) := by omega
      by_cases h5 : at8 s j = 255
      · have HAL2 : Hid (∀ k, k < j + 1 → at8 s k = 255) := fun k hk => by
          rcases Nat.lt_succ_iff_lt_or_eq.1 hk with h | h
          · exact HAL.out k h
          · rw [h]; exact h5
        rw [h5] at hix
        clear h5
        go_wp2_with fail
        go_roundg (n - (j + 1))
        case measure =>
          have := HGK.out
          omega
        case rel => exact ⟨j + 1, (rfl : n - (j + 1) = n - (j + 1)), by omega, by go_num, HAL2.out, rfl⟩
      · have hr : Hid (R = false) := HFF.out j hlt h5
        have hne : ((at8 s j).toNat : Int) ≠ 255 := fun h => h5 (UInt8.toNat_inj.1 (by show (at8 s j).toNat = 255; omega))
        clear h5
        generalize ((at8 s j).toNat : Int) = x at *
        go_wp2
        go_ret
        exact ⟨by rw [hr.out]; rfl, rfl⟩
    · obtain rfl : j = n := by omega
      have hr : Hid (R = true) := HFT.out HAL.out
      go_wp2
      go_ret
      exact ⟨by rw [hr.out]; rfl, rfl⟩

end Go.Proofs.Ythmohjgdcjafkag

/- The contract of package journal's entryOf. -/
namespace Go.Proofs.Ythmohjgdcjafkag
open Go.RowKit Go.PlainAid Go.Lib

set_option maxRecDepth 100000

theorem sets3 {W : World} {B : Nat} {t : TypeId} {a0 a1 a2 : Value} (h : CellsAt W B t #[a0, a1, a2]) (v0 v1 v2 : Value) :
    CellsAt (((W.setCell ⟨B, 0, none⟩ v0).setCell ⟨B, 1, none⟩ v1).setCell ⟨B, 2, none⟩ v2) B t #[v0, v1, v2] := by
  have h7 := CellsAt.set 2 v2 (CellsAt.set 1 v1 (CellsAt.set 0 v0 h))
  simp only [List.setIfInBounds_toArray, List.set_cons_zero, List.set_cons_succ] at h7
  exact h7
theorem sets3_grown (W : World) (B : Nat) (v0 v1 v2 : Value) :
    W.grownBy (((W.setCell ⟨B, 0, none⟩ v0).setCell ⟨B, 1, none⟩ v1).setCell ⟨B, 2, none⟩ v2) (some B) :=
  (((grown_set W B 0 v0).trans (grown_set _ B 1 v1)).trans (grown_set _ B 2 v2))

theorem two_bytes (x y : UInt8) : bits BinOp.or IntKind.i64 (x.toNat : Int) ((y.toNat : Int) * 256) = ((x.toNat + y.toNat * 256 : Nat) : Int) := by
  have hx := x.toNat_lt
  have hy := y.toNat_lt
  rw [show ((y.toNat : Int) * 256) = ((y.toNat * 256 : Nat) : Int) by omega, i64_or_nat _ _ (by omega) (by omega), or_mul _ _ 8 256 (by decide) (by omega), Nat.add_comm]

def entV (x : Nat × ByteArray × Bool) : Value := .agg #[.int .i64 (x.1 : Int), .string x.2.1, .bool x.2.2]

set_option maxHeartbeats 8000000 in
theorem entryOf_any (s : ByteArray) (w : World) (hs : s.size ≤ 4096) : Calls Try.prog 42 #[.string s] w fun e w' => e = .returned (.tuple #[entV (entOf s).1, .int .i64 (entOf s).2]) ∧ Below w.heap.size w w' := by
  have HB1 : Hid (Below w.heap.size w (w.alloc (.cells #[.int .i64 0, .string ⟨#[]⟩, .bool false] 78))) := (Below.refl _ _).alloc (Nat.le_refl _) _
  have HR1 : Hid (CellsAt (w.alloc (.cells #[.int .i64 0, .string ⟨#[]⟩, .bool false] 78)) w.heap.size 78 #[.int .i64 0, .string ⟨#[]⟩, .bool false]) := CellsAt.new _ _ _
  have HFR : Hid (∀ W, Calls Try.prog 41 #[.string (s.extract 0 3)] W fun e w' => e = .returned (.bool (allFF (s.extract 0 3))) ∧ w' = W) := fun W => isFree_any _ W (by rw [ByteArray.size_extract]; omega)
  obtain ⟨R, hR⟩ : ∃ R, R = entOf s := ⟨_, rfl⟩
  rw [← hR]
  unfold entOf at hR
  obtain ⟨n, hn⟩ : ∃ n, n = s.size := ⟨_, rfl⟩
  have hsz : s.size = n := hn.symm
  rw [hsz] at hs hR
  clear hn
  have HIX : Hid (∀ k, k < n → ∀ W, (Instr.index 9 (.string s) (.int .i64 (k : Int))).run Try.prog W = .ok (.int .u8 ((at8 s k).toNat : Int)) W) := fun k h W => ix_any s k (by omega) W
  by_cases h3 : n < 3
  · have HE : Hid (R = ((0, ⟨#[]⟩, false), 4)) := by
      show R = _
      rw [hR, if_pos (.inl h3)]
    have h3' : (n : Int) < 3 := by omega
    clear hR HIX HFR
    have r0 := HR1.out.cell 0
    have r1 := HR1.out.cell 1
    have r2 := HR1.out.cell 2
    have s0 := HR1.out.frozen 0
    have s1 := HR1.out.frozen 1
    have s2 := HR1.out.frozen 2
    simp at r0 r1 r2
    have rl := HR1.out.lt
    go_enter Try.func42, Try.ntmps42
    go_wp2_with fail
    (try simp only [Exit.inBlock, Exit.then])
    refine bodyPost_ret (results_cell_tmp_row rfl _ _ _ _ _ _ _ rfl HR1.out Try.underlying78 rfl (by kernel_rfl)) rfl ?_
    exact ⟨by rw [HE.out]; rfl, HB1.out⟩
  have h3' : ¬ (n : Int) < 3 := by omega
  have hsl : ∀ W, (Instr.slice 9 (.string s) none (some (.int .i64 3)) none).run Try.prog W = .ok (.string (s.extract 0 3)) W := fun W => run_slice_string_h W _ s Try.underlying9 .i64 3 (by omega) (by omega)
  generalize ha : allFF (s.extract 0 3) = AF at *
  cases AF
  · rw [if_neg (by rintro (h | h); exact h3 h; cases h)] at hR
    clear ha
    have hix2 : ∀ W, (Instr.index 9 (.string s) (.int .i64 2)).run Try.prog W = .ok (.int .u8 ((at8 s 2).toNat : Int)) W := fun W => HIX.out 2 (by omega) W
    have hix1 : ∀ W, (Instr.index 9 (.string s) (.int .i64 1)).run Try.prog W = .ok (.int .u8 ((at8 s 1).toNat : Int)) W := fun W => HIX.out 1 (by omega) W
    have hix0 : ∀ W, (Instr.index 9 (.string s) (.int .i64 0)).run Try.prog W = .ok (.int .u8 ((at8 s 0).toNat : Int)) W := fun W => HIX.out 0 (by omega) W
    have hmv : ∀ v : Nat, v < 256 → ((at8 s 2).toNat : Int) = v → at8 s 2 = UInt8.ofNat v := fun v hv h => UInt8.toNat_inj.1 (by rw [UInt8.toNat_ofNat']; omega)
    have HMV : Hid (∀ v : Nat, v < 256 → ((at8 s 2).toNat : Int) = v → at8 s 2 = UInt8.ofNat v) := hmv
    clear hmv HIX
    by_cases h255 : at8 s 2 = 255
    · have HE : Hid (R = ((3, ⟨#[]⟩, false), 0)) := by
        show R = _
        rw [hR, if_pos h255]
      rw [h255] at hix2
      clear hR h255 HMV hix0 hix1
      go_enter Try.func42, Try.ntmps42
      go_wp2_with fail
      refine (HFR.out _).mono ?_
      rintro e w2 ⟨rfl, rfl⟩
      clear HFR hsl
      generalize (w.alloc (.cells #[.int .i64 0, .string ⟨#[]⟩, .bool false] 78)) = w1 at *
      have r0 := HR1.out.cell 0
      have r1 := HR1.out.cell 1
      have r2 := HR1.out.cell 2
      have s0 := HR1.out.frozen 0
      have s1 := HR1.out.frozen 1
      have s2 := HR1.out.frozen 2
      simp at r0 r1 r2
      have rl := HR1.out.lt
      go_wp2
      clear r0 r1 r2 s0 s1 s2
      have hF := sets3 (W := w1) (B := w.heap.size) (t := 78) HR1.out (.int .i64 3) (.string ⟨#[]⟩) (.bool false)
      have hG := sets3_grown w1 w.heap.size (.int .i64 3) (.string ⟨#[]⟩) (.bool false)
      (try simp only [Exit.inBlock, Exit.then])
      refine bodyPost_ret (results_cell_tmp_row rfl _ _ _ _ _ _ _ rfl hF Try.underlying78 rfl (by kernel_rfl)) rfl ?_
      exact ⟨by rw [HE.out]; rfl, HB1.out.grown hG HB1.out.size (fun k e => by obtain rfl := Option.some.inj e; omega)⟩
    · rw [if_neg h255] at hR
      have hn255 : ((at8 s 2).toNat : Int) ≠ 255 := fun h => h255 (HMV.out 255 (by omega) h)
      have hx0 := (at8 s 0).toNat_lt
      have hx1 := (at8 s 1).toNat_lt
      have two := two_bytes (at8 s 0) (at8 s 1)
      have HMR : Hid (∀ v : UInt8, at8 s 2 = v → ((at8 s 2).toNat : Int) = v.toNat) := fun v h => by rw [h]
      generalize ((at8 s 2).toNat : Int) = M at *
      generalize hm : (at8 s 0).toNat + (at8 s 1).toNat * 256 = m at *
      have hm6 : m ≤ 65535 := by omega
      clear hm h255
      have HRR : Hid (R = if m < 1 ∨ 800 < m ∨ n < 3 + m then ((0, ⟨#[]⟩, false), 4) else if at8 s 2 = 254 then ((3 + m, ⟨#[]⟩, false), 0) else if at8 s 2 = 252 then ((3 + m, s.extract 3 (3 + m), true), 0) else ((0, ⟨#[]⟩, false), 4)) := hR
      clear hR
      go_enter Try.func42, Try.ntmps42
      go_wp2_with fail
      refine (HFR.out _).mono ?_
      rintro e w2 ⟨rfl, rfl⟩
      clear HFR hsl
      generalize (w.alloc (.cells #[.int .i64 0, .string ⟨#[]⟩, .bool false] 78)) = w1 at *
      go_wp2_with fail
      go_quiet (fail)
      generalize ((at8 s 0).toNat : Int) = X0 at *
      generalize ((at8 s 1).toNat : Int) = X1 at *
      clear hix0 hix1 hix2 hx0 hx1 two
      have B1 := below_drewN (Below.refl w1.heap.size w1) nq
      replace HB1 : Hid (Below w.heap.size w (w1.drewN nq)) := HB1.out.trans (B1.mono HB1.out.size)
      replace HR1 : Hid (CellsAt (w1.drewN nq) w.heap.size 78 #[.int .i64 0, .string ⟨#[]⟩, .bool false]) := HR1.out.below B1 HR1.out.lt
      clear B1
      generalize w1.drewN nq = w2 at *
      by_cases m1 : m < 1
      · skip
        have HE : Hid (R = ((0, ⟨#[]⟩, false), 4)) := by
          show R = _
          rw [HRR.out, if_pos (.inl m1)]
        clear HRR HMV HMR
        have m1' : (m : Int) < 1 := by omega
        have r0 := HR1.out.cell 0
        have r1 := HR1.out.cell 1
        have r2 := HR1.out.cell 2
        have s0 := HR1.out.frozen 0
        have s1 := HR1.out.frozen 1
        have s2 := HR1.out.frozen 2
        simp at r0 r1 r2
        have rl := HR1.out.lt
        go_wp2
        clear r0 r1 r2 s0 s1 s2
        have hF := sets3 (W := w2) (B := w.heap.size) (t := 78) HR1.out (.int .i64 0) (.string ⟨#[]⟩) (.bool false)
        have hG := sets3_grown w2 w.heap.size (.int .i64 0) (.string ⟨#[]⟩) (.bool false)
        (try simp only [Exit.inBlock, Exit.then])
        refine bodyPost_ret (results_cell_tmp_row rfl _ _ _ _ _ _ _ rfl hF Try.underlying78 rfl (by kernel_rfl)) rfl ?_
        exact ⟨by rw [HE.out]; rfl, HB1.out.grown hG HB1.out.size (fun k e => by obtain rfl := Option.some.inj e; omega)⟩
      have m1' : ¬ (m : Int) < 1 := by omega
      by_cases m2 : 800 < m
      · skip
        have HE : Hid (R = ((0, ⟨#[]⟩, false), 4)) := by
          show R = _
          rw [HRR.out, if_pos (.inr (.inl m2))]
        clear HRR HMV HMR
        have m2' : (800 : Int) < m := by omega
        have r0 := HR1.out.cell 0
        have r1 := HR1.out.cell 1
        have r2 := HR1.out.cell 2
        have s0 := HR1.out.frozen 0
        have s1 := HR1.out.frozen 1
        have s2 := HR1.out.frozen 2
        simp at r0 r1 r2
        have rl := HR1.out.lt
        go_wp2
        clear r0 r1 r2 s0 s1 s2
        have hF := sets3 (W := w2) (B := w.heap.size) (t := 78) HR1.out (.int .i64 0) (.string ⟨#[]⟩) (.bool false)
        have hG := sets3_grown w2 w.heap.size (.int .i64 0) (.string ⟨#[]⟩) (.bool false)
        (try simp only [Exit.inBlock, Exit.then])
        refine bodyPost_ret (results_cell_tmp_row rfl _ _ _ _ _ _ _ rfl hF Try.underlying78 rfl (by kernel_rfl)) rfl ?_
        exact ⟨by rw [HE.out]; rfl, HB1.out.grown hG HB1.out.size (fun k e => by obtain rfl := Option.some.inj e; omega)⟩
      have m2' : ¬ (800 : Int) < m := by omega
      have ew : wrap64 ((n : Int) - 3) = (n : Int) - 3 := by unfold wrap64; omega
      by_cases m3 : n < 3 + m
      · skip
        have HE : Hid (R = ((0, ⟨#[]⟩, false), 4)) := by
          show R = _
          rw [HRR.out, if_pos (.inr (.inr m3))]
        clear HRR HMV HMR
        have m3' : (n : Int) - 3 < m := by omega
        have r0 := HR1.out.cell 0
        have r1 := HR1.out.cell 1
        have r2 := HR1.out.cell 2
        have s0 := HR1.out.frozen 0
        have s1 := HR1.out.frozen 1
        have s2 := HR1.out.frozen 2
        simp at r0 r1 r2
        have rl := HR1.out.lt
        go_wp2
        clear r0 r1 r2 s0 s1 s2
        have hF := sets3 (W := w2) (B := w.heap.size) (t := 78) HR1.out (.int .i64 0) (.string ⟨#[]⟩) (.bool false)
        have hG := sets3_grown w2 w.heap.size (.int .i64 0) (.string ⟨#[]⟩) (.bool false)
        (try simp only [Exit.inBlock, Exit.then])
        refine bodyPost_ret (results_cell_tmp_row rfl _ _ _ _ _ _ _ rfl hF Try.underlying78 rfl (by kernel_rfl)) rfl ?_
        exact ⟨by rw [HE.out]; rfl, HB1.out.grown hG HB1.out.size (fun k e => by obtain rfl := Option.some.inj e; omega)⟩
      have m3' : ¬ (n : Int) - 3 < m := by omega
      have hno : ¬ (m < 1 ∨ 800 < m ∨ n < 3 + m) := by omega
      have ew2 : wrap64 (3 + (m : Int)) = ((3 + m : Nat) : Int) := by unfold wrap64; omega
      by_cases h4 : M = 254
      · skip
        have HE : Hid (R = ((3 + m, ⟨#[]⟩, false), 0)) := by
          show R = _
          rw [HRR.out, if_neg hno, if_pos (show at8 s 2 = 254 from HMV.out 254 (by omega) h4)]
        clear HRR HMV HMR
        clear hno
        subst h4
        have r0 := HR1.out.cell 0
        have r1 := HR1.out.cell 1
        have r2 := HR1.out.cell 2
        have s0 := HR1.out.frozen 0
        have s1 := HR1.out.frozen 1
        have s2 := HR1.out.frozen 2
        simp at r0 r1 r2
        have rl := HR1.out.lt
        go_wp2
        clear r0 r1 r2 s0 s1 s2
        have hF := sets3 (W := w2) (B := w.heap.size) (t := 78) HR1.out (.int .i64 ((3 + m : Nat) : Int)) (.string ⟨#[]⟩) (.bool false)
        have hG := sets3_grown w2 w.heap.size (.int .i64 ((3 + m : Nat) : Int)) (.string ⟨#[]⟩) (.bool false)
        (try simp only [Exit.inBlock, Exit.then])
        refine bodyPost_ret (results_cell_tmp_row rfl _ _ _ _ _ _ _ rfl hF Try.underlying78 rfl (by kernel_rfl)) rfl ?_
        exact ⟨by rw [HE.out]; rfl, HB1.out.grown hG HB1.out.size (fun k e => by obtain rfl := Option.some.inj e; omega)⟩
      by_cases h5 : M = 252
      · skip
        have HE : Hid (R = ((3 + m, s.extract 3 (3 + m), true), 0)) := by
          show R = _
          rw [HRR.out, if_neg hno, if_neg (show ¬ at8 s 2 = 254 from fun h => h4 (HMR.out _ h)), if_pos (show at8 s 2 = 252 from HMV.out 252 (by omega) h5)]
        clear HRR HMV HMR
        clear hno h4
        subst h5
        have r0 := HR1.out.cell 0
        have r1 := HR1.out.cell 1
        have r2 := HR1.out.cell 2
        have s0 := HR1.out.frozen 0
        have s1 := HR1.out.frozen 1
        have s2 := HR1.out.frozen 2
        simp at r0 r1 r2
        have rl := HR1.out.lt
        go_wp2
        clear r0 r1 r2 s0 s1 s2
        have hF := sets3 (W := w2) (B := w.heap.size) (t := 78) HR1.out (.int .i64 ((3 + m : Nat) : Int)) (.string (s.extract 3 (3 + m))) (.bool true)
        have hG := sets3_grown w2 w.heap.size (.int .i64 ((3 + m : Nat) : Int)) (.string (s.extract 3 (3 + m))) (.bool true)
        (try simp only [Exit.inBlock, Exit.then])
        refine bodyPost_ret (results_cell_tmp_row rfl _ _ _ _ _ _ _ rfl hF Try.underlying78 rfl (by kernel_rfl)) rfl ?_
        exact ⟨by rw [HE.out]; rfl, HB1.out.grown hG HB1.out.size (fun k e => by obtain rfl := Option.some.inj e; omega)⟩
      have HE : Hid (R = ((0, ⟨#[]⟩, false), 4)) := by
        show R = _
        rw [HRR.out, if_neg hno, if_neg (show ¬ at8 s 2 = 254 from fun h => h4 (HMR.out _ h)), if_neg (show ¬ at8 s 2 = 252 from fun h => h5 (HMR.out _ h))]
      clear HRR HMV HMR
      clear hno
      have r0 := HR1.out.cell 0
      have r1 := HR1.out.cell 1
      have r2 := HR1.out.cell 2
      have s0 := HR1.out.frozen 0
      have s1 := HR1.out.frozen 1
      have s2 := HR1.out.frozen 2
      simp at r0 r1 r2
      have rl := HR1.out.lt
      go_wp2
      clear r0 r1 r2 s0 s1 s2
      have hF := sets3 (W := w2) (B := w.heap.size) (t := 78) HR1.out (.int .i64 0) (.string ⟨#[]⟩) (.bool false)
      have hG := sets3_grown w2 w.heap.size (.int .i64 0) (.string ⟨#[]⟩) (.bool false)
      (try simp only [Exit.inBlock, Exit.then])
      refine bodyPost_ret (results_cell_tmp_row rfl _ _ _ _ _ _ _ rfl hF Try.underlying78 rfl (by kernel_rfl)) rfl ?_
      exact ⟨by rw [HE.out]; rfl, HB1.out.grown hG HB1.out.size (fun k e => by obtain rfl := Option.some.inj e; omega)⟩
  · have HE : Hid (R = ((0, ⟨#[]⟩, false), 4)) := by
      show R = _
      rw [hR, if_pos (.inr rfl)]
    clear hR HIX ha
    go_enter Try.func42, Try.ntmps42
    go_wp2_with fail
    refine (HFR.out _).mono ?_
    rintro e w2 ⟨rfl, rfl⟩
    clear HFR hsl
    generalize (w.alloc (.cells #[.int .i64 0, .string ⟨#[]⟩, .bool false] 78)) = w1 at *
    have r0 := HR1.out.cell 0
    have r1 := HR1.out.cell 1
    have r2 := HR1.out.cell 2
    have s0 := HR1.out.frozen 0
    have s1 := HR1.out.frozen 1
    have s2 := HR1.out.frozen 2
    simp at r0 r1 r2
    have rl := HR1.out.lt
    go_wp2
    clear r0 r1 r2 s0 s1 s2
    have hF := sets3 (W := w1) (B := w.heap.size) (t := 78) HR1.out (.int .i64 0) (.string ⟨#[]⟩) (.bool false)
    have hG := sets3_grown w1 w.heap.size (.int .i64 0) (.string ⟨#[]⟩) (.bool false)
    (try simp only [Exit.inBlock, Exit.then])
    refine bodyPost_ret (results_cell_tmp_row rfl _ _ _ _ _ _ _ rfl hF Try.underlying78 rfl (by kernel_rfl)) rfl ?_
    exact ⟨by rw [HE.out]; rfl, HB1.out.grown hG HB1.out.size (fun k e => by obtain rfl := Option.some.inj e; omega)⟩
end Go.Proofs.Ythmohjgdcjafkag

/- The contracts of the document's SameTexts, SameFlash, CheckFlash, AllOf, CheckDeed, CheckDeeds. -/
namespace Go.Proofs.Ythmohjgdcjafkag
open Go.RowKit Go.PlainAid

set_option maxRecDepth 100000

def sameB : List ByteArray → List ByteArray → Bool
  | [], [] => true
  | x :: xs, y :: ys => x.toList == y.toList && sameB xs ys
  | _, _ => false
theorem toList_inj {x y : ByteArray} (h : x.toList = y.toList) : x = y := by
  rw [ByteArray.toList_eq, ByteArray.toList_eq] at h
  exact ByteArray.ext (Array.toList_inj.1 h)
theorem sameB_iff : ∀ (xs ys : List ByteArray), sameB xs ys = true ↔ xs = ys
  | [], [] => by simp [sameB]
  | [], y :: ys => by simp [sameB]
  | x :: xs, [] => by simp [sameB]
  | x :: xs, y :: ys => by
    simp only [sameB, Bool.and_eq_true, beq_iff_eq, sameB_iff xs ys, List.cons.injEq]
    constructor
    · rintro ⟨h1, h2⟩; exact ⟨toList_inj h1, h2⟩
    · rintro ⟨rfl, h2⟩; exact ⟨rfl, h2⟩
theorem sameB_length : ∀ {xs ys : List ByteArray}, xs.length ≠ ys.length → sameB xs ys = false := fun {xs ys} h => by
  cases hb : sameB xs ys with
  | false => rfl
  | true => exact absurd (by rw [(sameB_iff xs ys).1 hb]) h
theorem sameB_self (xs : List ByteArray) : sameB xs xs = true := (sameB_iff xs xs).2 rfl

set_option maxHeartbeats 2000000 in
theorem sameTexts_any (xs ys : List ByteArray) (v v' : Value) (w : World) (h1 : RowOf 1 strCell w.heap.size w v xs) (h2 : RowOf 1 strCell w.heap.size w v' ys) :
    Calls Try.prog 16 #[v, v'] w fun e w' => e = .returned (.bool (sameB xs ys)) ∧ Below w.heap.size w w' := by
  obtain ⟨a, cap, rfl, hz, h1⟩ := h1
  obtain ⟨a', cap', rfl, hz', h2⟩ := h2
  by_cases hl : xs.length = ys.length
  · have HL : Hid (xs.length = ys.length) := hl
    have HS0 : Hid (sameB xs ys = sameB (xs.drop 0) (ys.drop 0)) := rfl
    have hne : ((xs.length : Int) != (xs.length : Int)) = false := by simp
    rw [← hl]
    clear hl hz'
    go_enter Try.func16, Try.ntmps16
    go_wp2
    go_loopw [5] (fun i wr => ∃ (k : Nat), k ≤ xs.length ∧ i = .int .i64 k ∧ Hid (sameB xs ys = sameB (xs.drop k) (ys.drop k)) ∧ Hid (∃ q, wr = w.drewN q)) (fun i _ => xs.length - (intOf i).toNat)
    case atStart => exact ⟨0, Nat.zero_le _, rfl, HS0, (⟨0, rfl⟩ : ∃ q, w = w.drewN q)⟩
    case round =>
      obtain ⟨k, hk, rfl, HS, HQ⟩ := hrel
      clear HS0
      by_cases hlt : k < xs.length
      · obtain ⟨p, hp⟩ : ∃ p, xs[k]? = some p := ⟨_, List.getElem?_eq_getElem hlt⟩
        obtain ⟨q, hq⟩ : ∃ q, ys[k]? = some q := ⟨_, List.getElem?_eq_getElem (by have := HL.out; omega)⟩
        rcases h1 with h | ⟨b, off, rfl, hbn, hc⟩
        · subst h; simp at hlt
        rcases h2 with h | ⟨b', off', rfl, hbn', hc'⟩
        · subst h; simp at hq
        have hcl : ∀ p, wr.cell? p = w.cell? p := fun p => by obtain ⟨q, hq⟩ := HQ.out; rw [hq]; simp
        have c0 := (hcl _).trans (hc k _ hp 0 (by omega))
        have d0 := (hcl _).trans (hc' k _ hq 0 (by omega))
        dsimp only [strCell] at c0 d0
        rw [Nat.add_zero, Nat.mul_one] at c0 d0
        have HN : Hid (sameB xs ys = (p.toList == q.toList && sameB (xs.drop (k + 1)) (ys.drop (k + 1)))) := by
          show sameB xs ys = _
          rw [HS.out, drop_at hp, drop_at hq]; rfl
        clear hcl hc hc' hp hq HS
        by_cases hpq : p = q
        · subst hpq
          have HN2 : Hid (sameB xs ys = sameB (xs.drop (k + 1)) (ys.drop (k + 1))) := by
            show sameB xs ys = _
            rw [HN.out, BEq.rfl, Bool.true_and]
          clear HN
          go_wp2
          go_quiet (fail)
          go_wp2
          obtain ⟨q, hq⟩ := HQ.out
          exact ⟨⟨k + 1, by omega, by go_num, HN2, (⟨q + _, by rw [hq, World.drewN_drewN]⟩ : ∃ q, _ = w.drewN q)⟩, by simp [intOf]; omega⟩
        · have hb : (p.toList == q.toList) = false := beq_eq_false_iff_ne.2 fun h => hpq (toList_inj h)
          have hb2 : (p.toList != q.toList) = true := by rw [bne, hb]; rfl
          have HN2 : Hid (sameB xs ys = false) := by
            show sameB xs ys = _
            rw [HN.out, hb]; rfl
          clear HN hpq
          go_wp2
          go_quiet (fail)
          go_wp2
          go_ret
          obtain ⟨q, hq⟩ := HQ.out
          exact ⟨by rw [HN2.out]; rfl, by rw [hq]; exact below_drewN (below_drewN (Below.refl _ _) q) _⟩
      · obtain rfl : k = xs.length := by omega
        have HZ : Hid (sameB xs ys = true) := by
          show sameB xs ys = true
          rw [HS.out, List.drop_length, HL.out, List.drop_length]; rfl
        go_wp2
        go_ret
        obtain ⟨q, hq⟩ := HQ.out
        exact ⟨by rw [HZ.out]; rfl, by rw [hq]; exact below_drewN (Below.refl _ _) q⟩
  · have HZ : Hid (sameB xs ys = false) := sameB_length hl
    have hne : ((xs.length : Int) != (ys.length : Int)) = true := by rw [bne_iff_ne]; omega
    clear h1 h2
    generalize xs.length = n at *
    generalize ys.length = m at *
    clear hl
    go_enter Try.func16, Try.ntmps16
    go_wp2
    go_ret
    exact ⟨by rw [HZ.out]; rfl, Below.refl _ _⟩

set_option maxHeartbeats 1000000 in
theorem sameFlash_any (F G : List ByteArray) (v v' : Value) (w : World) (h1 : RowOf 1 strCell w.heap.size w v F) (h2 : RowOf 1 strCell w.heap.size w v' G) :
    Calls Try.prog 12 #[.agg #[v], .agg #[v']] w fun e w' => e = .returned (.bool (sameB F G)) ∧ Below w.heap.size w w' := by
  have HS : Hid (∀ W, Below w.heap.size w W → Calls Try.prog 16 #[v, v'] W fun e w' => e = .returned (.bool (sameB F G)) ∧ Below W.heap.size W w') := fun W hb => sameTexts_any F G v v' W ((h1.below hb).more hb.size) ((h2.below hb).more hb.size)
  obtain ⟨a, c, rfl, _, _⟩ := h1
  obtain ⟨a', c', rfl, _, _⟩ := h2
  generalize sameB F G = r at *
  generalize F.length = n at *
  generalize G.length = m at *
  have HB : Hid (Below w.heap.size w ((w.alloc (.cells #[.slice a n c] 26)).alloc (.cells #[.slice a' m c'] 26))) := ((Below.refl _ _).alloc (Nat.le_refl _) _).alloc (by simp) _
  go_enter Try.func12, Try.ntmps12
  go_wp2_with fail
  refine (HS.out _ HB.out).mono ?_
  rintro e w2 ⟨rfl, b2⟩
  go_wp2
  go_ret
  exact ⟨rfl, HB.out.trans (b2.mono HB.out.size)⟩

set_option maxHeartbeats 1000000 in
theorem rCheckFlash_any (F : List ByteArray) (v : Value) (w : World) (hF : RowOf 1 strCell w.heap.size w v F) :
    Calls Try.prog 8 #[.agg #[v]] w fun e w' => e = .returned (.int .i64 (chkFl F)) ∧ Below w.heap.size w w' := by
  obtain ⟨a, cap, rfl, hmx, hrow⟩ := hF
  have key := chkFl_cases F
  generalize chkFl F = cf at *
  have HB : Hid (Below w.heap.size w (w.alloc (.cells #[.slice a F.length cap] 26))) := (Below.refl _ _).alloc (Nat.le_refl _) _
  have HC1 : Hid (CellsAt (w.alloc (.cells #[.slice a F.length cap] 26)) w.heap.size 26 #[.slice a F.length cap]) := CellsAt.new _ _ _
  go_enter Try.func8, Try.ntmps8
  go_wp2_with fail
  refine (between_any _ _ _ _).mono ?_
  rintro e w2 ⟨rfl, rfl⟩
  rcases key with ⟨rfl, h⟩ | key
  · have g : betw (F.length : Int) 1 32 = false := betw_false (by omega)
    rw [g]
    clear g
    go_wp2
    go_ret
    exact ⟨rfl, HB.out⟩
  · have hl : 1 ≤ F.length ∧ F.length ≤ 32 := by rcases key with ⟨_, h1, h2, _⟩ | ⟨_, h1, h2, _⟩ <;> exact ⟨h1, h2⟩
    have g : betw (F.length : Int) 1 32 = true := betw_true (by omega) (by omega)
    rw [g]
    clear g
    have HK : Hid (cf = if F.all (fun b => decide (b.size = 128)) then 0 else 1) := by
      show cf = _
      rcases key with ⟨rfl, _, _, b, hb, hne⟩ | ⟨rfl, _, _, hall⟩
      · rw [if_neg]
        intro h
        exact hne (by simpa using List.all_eq_true.1 h b hb)
      · rw [if_pos]
        exact List.all_eq_true.2 fun b hb => by simpa using hall b hb
    clear key
    go_wp2
    go_loopw [3] (fun i wr => ∃ (k : Nat), k ≤ F.length ∧ i = .int .i64 k ∧ Hid (cf = if (F.drop k).all (fun b => decide (b.size = 128)) then 0 else 1) ∧ Hid (CellsAt wr w.heap.size 26 #[.slice a F.length cap]) ∧ Below w.heap.size w wr) (fun i _ => F.length - (intOf i).toNat)
    case atStart => exact ⟨0, Nat.zero_le _, rfl, HK, HC1, HB.out⟩
    case round =>
      obtain ⟨k, hk, rfl, HC, HCA, B⟩ := hrel
      clear HK HB HC1
      have g0 := HCA.out.cell 0
      simp at g0
      by_cases hlt : k < F.length
      · obtain ⟨x, hx⟩ : ∃ x, F[k]? = some x := ⟨_, List.getElem?_eq_getElem hlt⟩
        rcases hrow with h | ⟨b, off, rfl, hbn, hcells⟩
        · subst h; simp at hlt
        have c0 := (B.cell (p := ⟨b, off + k * 1 + 0, none⟩) hbn).trans (hcells k _ hx 0 (by omega))
        dsimp only [strCell] at c0
        rw [Nat.add_zero, Nat.mul_one] at c0
        have HR : Hid (cf = if decide (x.size = 128) && (F.drop (k + 1)).all (fun b => decide (b.size = 128)) then 0 else 1) := by
          show cf = _
          rw [HC.out, drop_at hx, List.all_cons]
        clear HC hcells hx
        by_cases hs : x.size = 128
        · have HR2 : Hid (cf = if (F.drop (k + 1)).all (fun b => decide (b.size = 128)) then 0 else 1) := by
            show cf = _
            rw [HR.out, decide_eq_true hs, Bool.true_and]
          clear HR
          go_wp2
          exact ⟨⟨k + 1, by omega, by go_num, HR2, HCA, B⟩, by simp [intOf]; omega⟩
        · have HR2 : Hid (cf = 1) := by
            show cf = _
            rw [HR.out, decide_eq_false hs]; rfl
          clear HR
          go_wp2
          go_ret
          exact ⟨by rw [HR2.out]; rfl, B⟩
      · obtain rfl : k = F.length := by omega
        have HZ : Hid (cf = 0) := by
          show cf = _
          rw [HC.out, List.drop_length]; rfl
        go_wp2
        go_ret
        exact ⟨by rw [HZ.out]; rfl, B⟩

theorem joinM_take_le : ∀ (F : List ByteArray) (k : Nat), (∀ b ∈ F, b.size = 128) → (joinM (F.take k)).length ≤ F.length * 128 := fun F k h => by
  rw [joinM_length (fun b hb => h b (List.mem_of_mem_take hb)), List.length_take]
  have : min k F.length ≤ F.length := Nat.min_le_right _ _
  omega
theorem joinM_step {F : List ByteArray} {k : Nat} {x : ByteArray} (hx : F[k]? = some x) : (⟨(joinM (F.take k)).toArray⟩ : ByteArray) ++ x = ⟨(joinM (F.take (k + 1))).toArray⟩ := by
  apply ByteArray.ext
  rw [ByteArray.data_append, List.take_add_one, hx]
  simp [joinM]

end Go.Proofs.Ythmohjgdcjafkag
