/- The contract of bytes.Repeat at one byte. -/
import Derived.Shelf.Bits.Mul64
import Derived.Lib.SlBuf
import Derived.Lib.MakeNoZero
import Derived.Laws.Externs
import Derived.Deep.LoopGhost
import Derived.Test.YtnomapbiklfciafFlD
import Derived.Test.YtnomapbiklfciafOrd
namespace Go.Proofs.Ytnomapbiklfciaf
open Go.RowKit Go.PlainAid Go.Shelf

set_option maxRecDepth 100000

def mulL_ren : Go.Shelf.Ren := ⟨fun | 212 => 46 | 263 => 59 | 264 => 60 | n => n, fun | 46 => 85 | 51 => 100 | 53 => 103 | 146 => 101 | 148 => 104 | n => n, fun | n => n⟩
theorem mulL : Go.Proofs.Lays.n212 Try.prog mulL_ren := {
  mixed := by kernel_rfl
  f212 := Try.func46.trans (congrArg some (by kernel_rfl))
  f263 := Try.func59.trans (congrArg some (by kernel_rfl))
  f264 := Try.func60.trans (congrArg some (by kernel_rfl))
  t46 := Try.underlying85
  a46 := Try.isAgg85
  z46 := Try.sizeOf85
  v46 := Try.zeroValue85
  t51 := Try.underlying100
  a51 := Try.isAgg100
  z51 := Try.sizeOf100
  v51 := Try.zeroValue100
  t53 := Try.underlying103
  a53 := Try.isAgg103
  z53 := Try.sizeOf103
  v53 := Try.zeroValue103
  t146 := Try.underlying101
  a146 := Try.isAgg101
  z146 := Try.sizeOf101
  v146 := Try.zeroValue101
  t148 := Try.underlying104
  a148 := Try.isAgg104
  z148 := Try.sizeOf104
  v148 := Try.zeroValue104 }

theorem mul_any (x y : Nat) (hx : x * y < 18446744073709551616) (h1 : x < 18446744073709551616) (h2 : y < 18446744073709551616) (w : World) :
    Calls Try.prog 46 #[.int .u64 x, .int .u64 y] w fun e w' => e = .returned (.tuple #[.int .u64 0, .int .u64 ((x * y : Nat) : Int)]) ∧ w' = w := by
  have := Any.bits_Mul mulL x y h1 h2 w
  rw [Nat.div_eq_of_lt hx, Nat.mod_eq_of_lt hx] at this
  exact this

theorem copy_own (w0 wr : World) (h N m k cap : Nat) (x : UInt8) (t ty e : TypeId) (hu : Try.prog.underlying t = some (.slice e)) (hs : (Try.prog.info? e).map (·.size) = some 1)
    (hb : Lib.Buf w0 wr h N (List.replicate m x)) (hk : k ≤ m) (hm : m < N) :
    ∃ wr', (Builtin.copy_ #[t, t] ty #[Lib.tailV h N m, .slice (some ⟨h, 0, none⟩) k cap]).run Try.prog wr = .ok (.int .i64 ((min k (N - m) : Nat) : Int)) wr' ∧ Lib.Buf w0 wr' h N (List.replicate (m + min k (N - m)) x) := by
  obtain ⟨j, hj⟩ : ∃ j, min k (N - m) = j := ⟨_, rfl⟩
  have hr := run_copy_cells (P := Try.prog) wr t t ty e h m (N - m) (N - m) ⟨h, 0, none⟩ k cap (List.replicate j (Value.int .u8 (x.toNat : Int))) hu hs (by rw [List.length_replicate]; exact hj.symm)
    (fun i u hi => by
      have hi' : i < j := by have := (List.getElem?_eq_some_iff.1 hi).1; simpa using this
      rw [List.getElem?_replicate, if_pos hi'] at hi
      injection hi with hi
      subst hi
      have hadd : (⟨h, 0, none⟩ : Addr).add i = ⟨h, i, none⟩ := by unfold Addr.add; split <;> simp_all
      rw [hadd]
      exact hb.holds i x (by rw [List.getElem?_replicate, if_pos (by omega)]))
    (fun i hi => hb.there _ (by rw [List.length_replicate] at hi; omega)) (fun i hi => hb.free _ (by rw [List.length_replicate] at hi; omega))
    (fun u hu' => by rw [(List.mem_replicate.1 hu').2]; rfl)
  rw [List.length_replicate] at hr
  rw [hj]
  have hne : ¬ N = m := by omega
  refine ⟨_, by unfold Lib.tailV; rw [if_neg hne]; exact hr, ?_⟩
  have hin := World.cell?_setCells_in h (List.replicate j (Value.int .u8 (x.toNat : Int))) m wr (fun i hi => hb.there _ (by rw [List.length_replicate] at hi; omega))
  have hout := World.cell?_setCells_out h (List.replicate j (Value.int .u8 (x.toNat : Int))) m wr
  refine ⟨Lib.below_setCells h (Nat.le_refl _) _ _ hb.below, ?_, ?_, ?_, by rw [List.length_replicate]; omega⟩
  · intro i hi
    by_cases h1 : m ≤ i ∧ i < m + j
    · obtain ⟨d, rfl⟩ : ∃ d, i = m + d := ⟨i - m, by omega⟩
      rw [hin d (by rw [List.length_replicate]; omega)]
      rfl
    · rw [hout ⟨h, i, none⟩ (fun _ _ => by rw [List.length_replicate]; show i < _ ∨ _ ≤ i; omega)]
      exact hb.there i hi
  · intro i hi
    rw [World.frozen?_setCells]
    exact hb.free i hi
  · intro i y hy
    rw [List.getElem?_replicate] at hy
    split at hy
    · injection hy with hy
      subst hy
      by_cases h1 : i < m
      · rw [hout ⟨h, i, none⟩ (fun _ _ => Or.inl h1)]
        exact hb.holds i x (by rw [List.getElem?_replicate, if_pos h1])
      · obtain ⟨d, rfl⟩ : ∃ d, i = m + d := ⟨i - m, by omega⟩
        rw [hin d (by rw [List.length_replicate]; omega)]
        simp
    · cases hy

theorem buf_cellsB {w0 wr : World} {g N : Nat} {c : List UInt8} (h : Lib.Buf w0 wr g N c) (hN : c.length = N) (h1 : 0 < N) : CellsB wr g c :=
  ⟨by
    have h0 := h.there 0 h1
    cases hc : wr.cell? ⟨g, 0, none⟩ with
    | none => rw [hc] at h0; cases h0
    | some v => exact World.block_lt_of_cell? wr ⟨g, 0, none⟩ hc, h.holds, fun j hj => h.free j (by omega)⟩

set_option maxHeartbeats 4000000 in
theorem repB_any (B n : Nat) (w : World) (hB : CellsAt w B 5 #[.int .u8 255]) (h1 : 1 ≤ n) (hn : n ≤ 4096) :
    Calls Try.prog 30 #[.slice (some ⟨B, 0, none⟩) 1 1, .int .i64 n] w fun e w' => e = .returned (.slice (some ⟨w.heap.size, 0, none⟩) n n) ∧ CellsB w' w.heap.size (List.replicate n 255) ∧ Below w.heap.size w w' := by
  have HMul : Hid (Calls Try.prog 46 #[.int .u64 1, .int .u64 (n : Int)] w fun e w' => e = .returned (.tuple #[.int .u64 0, .int .u64 (n : Int)]) ∧ w' = w) := by
    have := mul_any 1 n (by omega) (by omega) (by omega) w
    rw [Nat.one_mul] at this
    exact this
  have hs5 : (Try.prog.info? 5).map (·.size) = some 1 := by kernel_rfl
  obtain ⟨cs, hrunM, hle, _⟩ := Lib.run_makeNoZero (P := Try.prog) w #[3] 57 5 Try.underlying57 n (by omega)
  have hcall : (callFunc 47 #[.int .i64 (n : Int)]).run Try.prog w = .ok (.value (.slice (some ⟨w.heap.size, 0, none⟩) n cs.size)) ((w.alloc (.cells cs 5)).drewN 2) := by
    rw [run_callFunc_extern Try.func47 (by kernel_rfl) (by kernel_rfl) (by kernel_rfl) (e := Extern.BytealgMakeNoZero.makeNoZero #[3] #[57]) (by kernel_rfl), hrunM]
    rfl
  clear hrunM
  have i0 : (0 : Int) ≤ (n : Int) := by omega
  have i1 : (n : Int) ≤ (cs.size : Int) := by omega
  have B0 := Lib.Buf.start w cs 5 n 2 hle
  have hb0 : w.cell? ⟨B, 0, none⟩ = some (.int .u8 255) := hB.cell 0
  obtain ⟨w1, hr1, B1⟩ := Lib.copy_part (P := Try.prog) w _ w.heap.size n [] [255] (.slice (some ⟨B, 0, none⟩) 1 1) 57 3 5 Try.underlying57 hs5 (Nat.le_refl _) B0 ⟨some ⟨B, 0, none⟩, 1, rfl, by simp, fun a ha j x hx => by
    injection ha with ha
    subst ha
    obtain ⟨hj, rfl⟩ := List.getElem?_eq_some_iff.1 hx
    obtain rfl : j = 0 := by simpa using hj
    have hadd : (⟨B, 0, none⟩ : Addr).add 0 = ⟨B, 0, none⟩ := by unfold Addr.add; split <;> simp_all
    rw [hadd, hb0]
    rfl⟩ (by simp; omega)
  rw [List.length_nil, Lib.tailV_zero] at hr1
  have HB1 : Hid (Lib.Buf w w1 w.heap.size n (List.replicate 1 255)) := B1
  clear B1 B0
  go_enter Try.func30, Try.ntmps30
  go_wp2_with fail
  refine HMul.out.mono ?_
  rintro e wm ⟨rfl, rfl⟩
  clear HMul
  go_wp2_with (at_builtin; refine Lib.wpList_copy_run _ rfl _ _ 57 57 rfl _ _ rfl rfl hr1 ?_)
  clear hr1 hcall hb0
  go_loopw [10, 11] (fun bp _ wr => ∃ (m : Nat), 1 ≤ m ∧ m ≤ n ∧ bp = .int .i64 m ∧ Hid (Lib.Buf wm wr wm.heap.size n (List.replicate m 255))) (fun bp _ _ => n - (intOf bp).toNat)
  case atStart => exact ⟨1, by omega, h1, rfl, HB1⟩
  case round =>
    obtain ⟨m, hm1, hm2, rfl, HB⟩ := hrel
    clear HB1
    by_cases hlt : m < n
    · have hsl1 : ∀ W, (Instr.slice 57 (.slice (some ⟨wm.heap.size, 0, none⟩) n n) (some (.int .i64 (m : Int))) none none).run Try.prog W = .ok (Lib.tailV wm.heap.size n m) W := fun W => Lib.run_slice_tailV W 57 5 Try.underlying57 Try.sizeOf5 _ n m (by omega)
      obtain ⟨wd, hr2, B2⟩ := copy_own wm wr.drew wm.heap.size n m m n 255 57 3 5 Try.underlying57 hs5 ⟨HB.out.below.drew, HB.out.there, HB.out.free, HB.out.holds, HB.out.fits⟩ (Nat.le_refl _) hlt
      have HB2 : Hid (Lib.Buf wm wd wm.heap.size n (List.replicate (m + min m (n - m)) 255)) := B2
      obtain ⟨j, hj⟩ : ∃ j, min m (n - m) = j := ⟨_, rfl⟩
      rw [hj] at hr2 HB2
      have hj1 : 1 ≤ j := by omega
      have hj2 : m + j ≤ n := by omega
      have hmn : ¬ ((n : Int) < (m : Int)) := by omega
      have hmin : min (m : Int) (n : Int) = (m : Int) := by omega
      clear B2 hj
      go_wp2_with fail
      refine wp_region_noPanic ?_
      refine wp_region_L (S := fun _ => True) (x := 9) (by kernel_rfl) ?_
      have hS : True := trivial
      refine wpL_take 0 67 (.int .i64 (m : Int)) rfl (by kernel_rfl) (fun _ _ _ h => h) hS rfl rfl (fun w' hSw => by clear hSw; go_simp) ?_
      simp only [List.setIfInBounds_toArray, List.set_cons_zero, List.set_cons_succ]
      refine wpL_take 1 68 (.slice (some ⟨wm.heap.size, 0, none⟩) n n) rfl (by kernel_rfl) (fun _ _ _ h => h) hS rfl rfl (fun w' hSw => by clear hSw; go_simp) ?_
      simp only [List.setIfInBounds_toArray, List.set_cons_zero, List.set_cons_succ]
      refine wpL_take 2 69 (.int .i64 (m : Int)) rfl (by kernel_rfl) (fun _ _ _ h => h) hS rfl rfl (fun w' hSw => by clear hSw; go_simp) ?_
      simp only [List.setIfInBounds_toArray, List.set_cons_zero, List.set_cons_succ]
      refine wpL_take 3 70 (Lib.tailV wm.heap.size n m) rfl (by kernel_rfl) (fun _ _ _ h => h) hS rfl rfl (fun w' hSw => by clear hSw; go_simp) ?_
      simp only [List.setIfInBounds_toArray, List.set_cons_zero, List.set_cons_succ]
      refine wpL_take 4 71 (.slice (some ⟨wm.heap.size, 0, none⟩) n n) rfl (by kernel_rfl) (fun _ _ _ h => h) hS rfl rfl (fun w' hSw => by clear hSw; go_simp) ?_
      simp only [List.setIfInBounds_toArray, List.set_cons_zero, List.set_cons_succ]
      refine wpL_take 5 72 (.int .i64 (m : Int)) rfl (by kernel_rfl) (fun _ _ _ h => h) hS rfl rfl (fun w' hSw => by clear hSw; go_simp) ?_
      simp only [List.setIfInBounds_toArray, List.set_cons_zero, List.set_cons_succ]
      refine wpL_take 6 73 (.slice (some ⟨wm.heap.size, 0, none⟩) m n) rfl (by kernel_rfl) (fun _ _ _ h => h) hS rfl rfl (fun w' hSw => by clear hSw; go_simp) ?_
      simp only [List.setIfInBounds_toArray, List.set_cons_zero, List.set_cons_succ]
      refine wpL_step (i := 7) rfl (by kernel_rfl) (fun K hK => ?_)
      rw [if_pos (by rfl)]
      refine Lib.wp_copy_run _ _ _ _ _ rfl _ _ rfl rfl hr2 ?_
      refine hK.out _ _ trivial (fun _ => ?_)
      clear hK K
      simp only [Act.put, List.setIfInBounds_toArray]
      refine wpL_step (i := 8) rfl (by kernel_rfl) (fun K hK => ?_)
      go_simp
      refine hK.out _ _ trivial (fun _ => ?_)
      clear hK K
      refine wpL_last (x := 9) rfl (by kernel_rfl) (by kernel_rfl) (fun K hK => ?_)
      go_simp
      refine hK.out _ _ ?_
      refine NoPanic.normal ?_
      clear hK K
      go_wp2
      have e1 : IntKind.i64.wrap ((m : Int) + (j : Int)) = ((m + j : Nat) : Int) := by rw [i64_is]; unfold wrap64; omega
      exact ⟨⟨m + j, by omega, hj2, by rw [e1], HB2⟩, by simp [intOf, e1]; omega⟩
    · obtain rfl : n = m := by omega
      go_wp2
      go_ret
      exact ⟨rfl, buf_cellsB HB.out (by simp) (by omega), HB.out.below⟩

end Go.Proofs.Ytnomapbiklfciaf
