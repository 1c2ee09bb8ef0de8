/- Texts that are laid together. -/
import Derived.Shelf.Bits.Mul64
import Derived.Lib.SlBuf
import Derived.Lib.MakeNoZero
import Derived.Laws.Externs
import Derived.Deep.LoopGhost
import Derived.Test.YthmohjgdcjafkagMrgJ
import Derived.Shelf.Strings.OnBuilder
import Derived.Ground.NamesProg
import Derived.Test.YthmohjgdcjafkagMrgI

/- The contract of bytes.Repeat at one byte. -/
namespace Go.Proofs.Ythmohjgdcjafkag
open Go.RowKit Go.PlainAid Go.Shelf

set_option maxRecDepth 100000

def mulL_ren : Go.Shelf.Ren := ⟨fun | 212 => 43 | 263 => 52 | 264 => 53 | n => n, fun | 46 => 72 | 51 => 95 | 53 => 98 | 146 => 96 | 148 => 99 | n => n, fun | n => n⟩
theorem mulL : Go.Proofs.Lays.n212 Try.prog mulL_ren := {
  mixed := by kernel_rfl
  f212 := Try.func43.trans (congrArg some (by kernel_rfl))
  f263 := Try.func52.trans (congrArg some (by kernel_rfl))
  f264 := Try.func53.trans (congrArg some (by kernel_rfl))
  t46 := Try.underlying72
  a46 := Try.isAgg72
  z46 := Try.sizeOf72
  v46 := Try.zeroValue72
  t51 := Try.underlying95
  a51 := Try.isAgg95
  z51 := Try.sizeOf95
  v51 := Try.zeroValue95
  t53 := Try.underlying98
  a53 := Try.isAgg98
  z53 := Try.sizeOf98
  v53 := Try.zeroValue98
  t146 := Try.underlying96
  a146 := Try.isAgg96
  z146 := Try.sizeOf96
  v146 := Try.zeroValue96
  t148 := Try.underlying99
  a148 := Try.isAgg99
  z148 := Try.sizeOf99
  v148 := Try.zeroValue99 }

theorem mul_any (x y : Nat) (hx : x * y < 18446744073709551616) (h1 : x < 18446744073709551616) (h2 : y < 18446744073709551616) (w : World) :
    Calls Try.prog 43 #[.int .u64 x, .int .u64 y] w fun e w' => e = .returned (.tuple #[.int .u64 0, .int .u64 ((x * y : Nat) : Int)]) ∧ w' = w := by
  have := Any.bits_Mul mulL x y h1 h2 w
  rw [Nat.div_eq_of_lt hx, Nat.mod_eq_of_lt hx] at this
  exact this

theorem copy_own (w0 wr : World) (h N m k cap : Nat) (x : UInt8) (t ty e : TypeId) (hu : Try.prog.underlying t = some (.slice e)) (hs : (Try.prog.info? e).map (·.size) = some 1)
    (hb : Lib.Buf w0 wr h N (List.replicate m x)) (hk : k ≤ m) (hm : m < N) :
    ∃ wr', (Builtin.copy_ #[t, t] ty #[Lib.tailV h N m, .slice (some ⟨h, 0, none⟩) k cap]).run Try.prog wr = .ok (.int .i64 ((min k (N - m) : Nat) : Int)) wr' ∧ Lib.Buf w0 wr' h N (List.replicate (m + min k (N - m)) x) := by
  obtain ⟨j, hj⟩ : ∃ j, min k (N - m) = j := ⟨_, rfl⟩
  have hr := run_copy_cells (P := Try.prog) wr t t ty e h m (N - m) (N - m) ⟨h, 0, none⟩ k cap (List.replicate j (Value.int .u8 (x.toNat : Int))) hu hs (by rw [List.length_replicate]; exact hj.symm)
    (fun i u hi => by
      have hi' : i < j := by have := (List.getElem?_eq_some_iff.1 hi).1; simpa using this
      rw [List.getElem?_replicate, if_pos hi'] at hi
      injection hi with hi
      subst hi
      have hadd : (⟨h, 0, none⟩ : Addr).add i = ⟨h, i, none⟩ := by unfold Addr.add; split <;> simp_all
      rw [hadd]
      exact hb.holds i x (by rw [List.getElem?_replicate, if_pos (by omega)]))
    (fun i hi => hb.there _ (by rw [List.length_replicate] at hi; omega)) (fun i hi => hb.free _ (by rw [List.length_replicate] at hi; omega))
    (fun u hu' => by rw [(List.mem_replicate.1 hu').2]; rfl)
  rw [List.length_replicate] at hr
  rw [hj]
  have hne : ¬ N = m := by omega
  refine ⟨_, by unfold Lib.tailV; rw [if_neg hne]; exact hr, ?_⟩
  have hin := World.cell?_setCells_in h (List.replicate j (Value.int .u8 (x.toNat : Int))) m wr (fun i hi => hb.there _ (by rw [List.length_replicate] at hi; omega))
  have hout := World.cell?_setCells_out h (List.replicate j (Value.int .u8 (x.toNat : Int))) m wr
  refine ⟨Lib.below_setCells h (Nat.le_refl _) _ _ hb.below, ?_, ?_, ?_, by rw [List.length_replicate]; omega⟩
  · intro i hi
    by_cases h1 : m ≤ i ∧ i < m + j
    · obtain ⟨d, rfl⟩ : ∃ d, i = m + d := ⟨i - m, by omega⟩
      rw [hin d (by rw [List.length_replicate]; omega)]
      rfl
    · rw [hout ⟨h, i, none⟩ (fun _ _ => by rw [List.length_replicate]; show i < _ ∨ _ ≤ i; omega)]
      exact hb.there i hi
  · intro i hi
    rw [World.frozen?_setCells]
    exact hb.free i hi
  · intro i y hy
    rw [List.getElem?_replicate] at hy
    split at hy
    · injection hy with hy
      subst hy
      by_cases h1 : i < m
      · rw [hout ⟨h, i, none⟩ (fun _ _ => Or.inl h1)]
        exact hb.holds i x (by rw [List.getElem?_replicate, if_pos h1])
      · obtain ⟨d, rfl⟩ : ∃ d, i = m + d := ⟨i - m, by omega⟩
        rw [hin d (by rw [List.length_replicate]; omega)]
        simp
    · cases hy

theorem buf_cellsB {w0 wr : World} {g N : Nat} {c : List UInt8} (h : Lib.Buf w0 wr g N c) (hN : c.length = N) (h1 : 0 < N) : CellsB wr g c :=
  ⟨by
    have h0 := h.there 0 h1
    cases hc : wr.cell? ⟨g, 0, none⟩ with
    | none => rw [hc] at h0; cases h0
    | some v => exact World.block_lt_of_cell? wr ⟨g, 0, none⟩ hc, h.holds, fun j hj => h.free j (by omega)⟩

set_option maxHeartbeats 4000000 in
theorem repB_any (B n : Nat) (w : World) (hB : CellsAt w B 5 #[.int .u8 255]) (h1 : 1 ≤ n) (hn : n ≤ 4096) :
    Calls Try.prog 31 #[.slice (some ⟨B, 0, none⟩) 1 1, .int .i64 n] w fun e w' => e = .returned (.slice (some ⟨w.heap.size, 0, none⟩) n n) ∧ CellsB w' w.heap.size (List.replicate n 255) ∧ Below w.heap.size w w' := by
  have HMul : Hid (Calls Try.prog 43 #[.int .u64 1, .int .u64 (n : Int)] w fun e w' => e = .returned (.tuple #[.int .u64 0, .int .u64 (n : Int)]) ∧ w' = w) := by
    have := mul_any 1 n (by omega) (by omega) (by omega) w
    rw [Nat.one_mul] at this
    exact this
  have hs5 : (Try.prog.info? 5).map (·.size) = some 1 := by kernel_rfl
  obtain ⟨cs, hrunM, hle, _⟩ := Lib.run_makeNoZero (P := Try.prog) w #[3] 56 5 Try.underlying56 n (by omega)
  have hcall : (callFunc 44 #[.int .i64 (n : Int)]).run Try.prog w = .ok (.value (.slice (some ⟨w.heap.size, 0, none⟩) n cs.size)) ((w.alloc (.cells cs 5)).drewN 2) := by
    rw [run_callFunc_extern Try.func44 (by kernel_rfl) (by kernel_rfl) (by kernel_rfl) (e := Extern.BytealgMakeNoZero.makeNoZero #[3] #[56]) (by kernel_rfl), hrunM]
    rfl
  clear hrunM
  have i0 : (0 : Int) ≤ (n : Int) := by omega
  have i1 : (n : Int) ≤ (cs.size : Int) := by omega
  have B0 := Lib.Buf.start w cs 5 n 2 hle
  have hb0 : w.cell? ⟨B, 0, none⟩ = some (.int .u8 255) := hB.cell 0
  obtain ⟨w1, hr1, B1⟩ := Lib.copy_part (P := Try.prog) w _ w.heap.size n [] [255] (.slice (some ⟨B, 0, none⟩) 1 1) 56 3 5 Try.underlying56 hs5 (Nat.le_refl _) B0 ⟨some ⟨B, 0, none⟩, 1, rfl, by simp, fun a ha j x hx => by
    injection ha with ha
    subst ha
    obtain ⟨hj, rfl⟩ := List.getElem?_eq_some_iff.1 hx
    obtain rfl : j = 0 := by simpa using hj
    have hadd : (⟨B, 0, none⟩ : Addr).add 0 = ⟨B, 0, none⟩ := by unfold Addr.add; split <;> simp_all
    rw [hadd, hb0]
    rfl⟩ (by simp; omega)
  rw [List.length_nil, Lib.tailV_zero] at hr1
  have HB1 : Hid (Lib.Buf w w1 w.heap.size n (List.replicate 1 255)) := B1
  clear B1 B0
  go_enter Try.func31, Try.ntmps31
  go_wp2_with fail
  refine HMul.out.mono ?_
  rintro e wm ⟨rfl, rfl⟩
  clear HMul
  go_wp2_with (at_builtin; refine Lib.wpList_copy_run _ rfl _ _ 56 56 rfl _ _ rfl rfl hr1 ?_)
  clear hr1 hcall hb0
  go_loopw [10, 11] (fun bp _ wr => ∃ (m : Nat), 1 ≤ m ∧ m ≤ n ∧ bp = .int .i64 m ∧ Hid (Lib.Buf wm wr wm.heap.size n (List.replicate m 255))) (fun bp _ _ => n - (intOf bp).toNat)
  case atStart => exact ⟨1, by omega, h1, rfl, HB1⟩
  case round =>
    obtain ⟨m, hm1, hm2, rfl, HB⟩ := hrel
    clear HB1
    by_cases hlt : m < n
    · have hsl1 : ∀ W, (Instr.slice 56 (.slice (some ⟨wm.heap.size, 0, none⟩) n n) (some (.int .i64 (m : Int))) none none).run Try.prog W = .ok (Lib.tailV wm.heap.size n m) W := fun W => Lib.run_slice_tailV W 56 5 Try.underlying56 Try.sizeOf5 _ n m (by omega)
      obtain ⟨wd, hr2, B2⟩ := copy_own wm wr.drew wm.heap.size n m m n 255 56 3 5 Try.underlying56 hs5 ⟨HB.out.below.drew, HB.out.there, HB.out.free, HB.out.holds, HB.out.fits⟩ (Nat.le_refl _) hlt
      have HB2 : Hid (Lib.Buf wm wd wm.heap.size n (List.replicate (m + min m (n - m)) 255)) := B2
      obtain ⟨j, hj⟩ : ∃ j, min m (n - m) = j := ⟨_, rfl⟩
      rw [hj] at hr2 HB2
      have hj1 : 1 ≤ j := by omega
      have hj2 : m + j ≤ n := by omega
      have hmn : ¬ ((n : Int) < (m : Int)) := by omega
      have hmin : min (m : Int) (n : Int) = (m : Int) := by omega
      clear B2 hj
      go_wp2_with fail
      refine wp_region_noPanic ?_
      refine wp_region_L (S := fun _ => True) (x := 9) (by kernel_rfl) ?_
      have hS : True := trivial
      refine wpL_take 0 67 (.int .i64 (m : Int)) rfl (by kernel_rfl) (fun _ _ _ h => h) hS rfl rfl (fun w' hSw => by clear hSw; go_simp) ?_
      simp only [List.setIfInBounds_toArray, List.set_cons_zero, List.set_cons_succ]
      refine wpL_take 1 68 (.slice (some ⟨wm.heap.size, 0, none⟩) n n) rfl (by kernel_rfl) (fun _ _ _ h => h) hS rfl rfl (fun w' hSw => by clear hSw; go_simp) ?_
      simp only [List.setIfInBounds_toArray, List.set_cons_zero, List.set_cons_succ]
      refine wpL_take 2 69 (.int .i64 (m : Int)) rfl (by kernel_rfl) (fun _ _ _ h => h) hS rfl rfl (fun w' hSw => by clear hSw; go_simp) ?_
      simp only [List.setIfInBounds_toArray, List.set_cons_zero, List.set_cons_succ]
      refine wpL_take 3 70 (Lib.tailV wm.heap.size n m) rfl (by kernel_rfl) (fun _ _ _ h => h) hS rfl rfl (fun w' hSw => by clear hSw; go_simp) ?_
      simp only [List.setIfInBounds_toArray, List.set_cons_zero, List.set_cons_succ]
      refine wpL_take 4 71 (.slice (some ⟨wm.heap.size, 0, none⟩) n n) rfl (by kernel_rfl) (fun _ _ _ h => h) hS rfl rfl (fun w' hSw => by clear hSw; go_simp) ?_
      simp only [List.setIfInBounds_toArray, List.set_cons_zero, List.set_cons_succ]
      refine wpL_take 5 72 (.int .i64 (m : Int)) rfl (by kernel_rfl) (fun _ _ _ h => h) hS rfl rfl (fun w' hSw => by clear hSw; go_simp) ?_
      simp only [List.setIfInBounds_toArray, List.set_cons_zero, List.set_cons_succ]
      refine wpL_take 6 73 (.slice (some ⟨wm.heap.size, 0, none⟩) m n) rfl (by kernel_rfl) (fun _ _ _ h => h) hS rfl rfl (fun w' hSw => by clear hSw; go_simp) ?_
      simp only [List.setIfInBounds_toArray, List.set_cons_zero, List.set_cons_succ]
      refine wpL_step (i := 7) rfl (by kernel_rfl) (fun K hK => ?_)
      rw [if_pos (by rfl)]
      refine Lib.wp_copy_run _ _ _ _ _ rfl _ _ rfl rfl hr2 ?_
      refine hK.out _ _ trivial (fun _ => ?_)
      clear hK K
      simp only [Act.put, List.setIfInBounds_toArray]
      refine wpL_step (i := 8) rfl (by kernel_rfl) (fun K hK => ?_)
      go_simp
      refine hK.out _ _ trivial (fun _ => ?_)
      clear hK K
      refine wpL_last (x := 9) rfl (by kernel_rfl) (by kernel_rfl) (fun K hK => ?_)
      go_simp
      refine hK.out _ _ ?_
      refine NoPanic.normal ?_
      clear hK K
      go_wp2
      have e1 : IntKind.i64.wrap ((m : Int) + (j : Int)) = ((m + j : Nat) : Int) := by rw [i64_is]; unfold wrap64; omega
      exact ⟨⟨m + j, by omega, hj2, by rw [e1], HB2⟩, by simp [intOf, e1]; omega⟩
    · obtain rfl : n = m := by omega
      go_wp2
      go_ret
      exact ⟨rfl, buf_cellsB HB.out (by simp) (by omega), HB.out.below⟩

end Go.Proofs.Ythmohjgdcjafkag

/- The contract of strings.Join with nothing between, over the library's. -/
namespace Go.Proofs.Ythmohjgdcjafkag
open Go.Shelf Go.RowKit

set_option maxRecDepth 100000

def joinL_ren : Go.Shelf.Ren := ⟨fun | 156 => 35 | 165 => 47 | 166 => 48 | 169 => 49 | 240 => 56 | 241 => 57 | 276 => 58 | 277 => 44 | n => n, fun | 0 => 0 | 3 => 3 | 4 => 4 | 9 => 9 | 20 => 20 | 31 => 22 | 37 => 56 | 70 => 86 | 72 => 88 | 75 => 91 | 76 => 92 | 127 => 103 | 164 => 104 | 5 => 5 | 80 => 94 | n => n, fun | n => n⟩
theorem joinL : Go.Proofs.Lays.n156 Try.prog joinL_ren := {
  mixed := by kernel_rfl
  f156 := Try.func35.trans (congrArg some (by kernel_rfl))
  f165 := Try.func47.trans (congrArg some (by kernel_rfl))
  f166 := Try.func48.trans (congrArg some (by kernel_rfl))
  f169 := Try.func49.trans (congrArg some (by kernel_rfl))
  f240 := Try.func56.trans (congrArg some (by kernel_rfl))
  f241 := Try.func57.trans (congrArg some (by kernel_rfl))
  f276 := Try.func58.trans (congrArg some (by kernel_rfl))
  f277 := Try.func44.trans (congrArg some (by kernel_rfl))
  t0 := Try.underlying0
  a0 := Try.isAgg0
  z0 := Try.sizeOf0
  v0 := Try.zeroValue0
  t3 := Try.underlying3
  a3 := Try.isAgg3
  z3 := Try.sizeOf3
  v3 := Try.zeroValue3
  t4 := Try.underlying4
  a4 := Try.isAgg4
  z4 := Try.sizeOf4
  v4 := Try.zeroValue4
  t9 := Try.underlying9
  a9 := Try.isAgg9
  z9 := Try.sizeOf9
  v9 := Try.zeroValue9
  t20 := Try.underlying20
  a20 := Try.isAgg20
  z20 := Try.sizeOf20
  v20 := Try.zeroValue20
  t31 := Try.underlying22
  a31 := Try.isAgg22
  z31 := Try.sizeOf22
  v31 := Try.zeroValue22
  t37 := Try.underlying56
  a37 := Try.isAgg56
  z37 := Try.sizeOf56
  v37 := Try.zeroValue56
  t70 := Try.underlying86
  a70 := Try.isAgg86
  z70 := Try.sizeOf86
  v70 := Try.zeroValue86
  t72 := Try.underlying88
  a72 := Try.isAgg88
  z72 := Try.sizeOf88
  v72 := Try.zeroValue88
  t75 := Try.underlying91
  a75 := Try.isAgg91
  z75 := Try.sizeOf91
  v75 := Try.zeroValue91
  t76 := Try.underlying92
  a76 := Try.isAgg92
  z76 := Try.sizeOf92
  v76 := Try.zeroValue92
  t127 := Try.underlying103
  a127 := Try.isAgg103
  z127 := Try.sizeOf103
  v127 := Try.zeroValue103
  t164 := Try.underlying104
  a164 := Try.isAgg104
  z164 := Try.sizeOf104
  v164 := Try.zeroValue104 }

theorem joinX : Builder.Extra Try.prog joinL_ren where
  sizeBuilder := by kernel_rfl
  liesBuilder := by kernel_rfl
  t5 := Try.underlying5
  a5 := Try.isAgg5
  z5 := Try.sizeOf5
  v5 := Try.zeroValue5
  infoByte := by kernel_rfl
  cellsByte := by kernel_rfl
  sizeByte := by kernel_rfl
  neB5 := by decide

theorem joinTail_nil (l : List (List UInt8)) : Lib.joinTail [] l = l.flatten := by simp [Lib.joinTail]
theorem join_nil (l : List (List UInt8)) : Lib.join l [] = l.flatten := by
  cases l with
  | nil => rfl
  | cons x l => rw [Lib.join_cons, joinTail_nil, List.flatten_cons]
theorem join_blocks (F : List ByteArray) : Lib.join (F.map (·.data.toList)) (⟨#[]⟩ : ByteArray).data.toList = joinM F := by
  rw [show (⟨#[]⟩ : ByteArray).data.toList = [] from rfl, join_nil]
  unfold joinM
  rw [List.flatMap_def]

theorem joinStr_any (F : List ByteArray) (v : Value) (w : World) (hF : RowOf 1 strCell w.heap.size w v F) (hb : (joinM F).length ≤ 140737488355328) (hN : F.length ≤ 140737488355328) (hcap : ∀ a n c, v = .slice a n c → n ≤ c) :
    Calls Try.prog 35 #[v, .string ⟨#[]⟩] w fun e w' => e = .returned (.string ⟨(joinM F).toArray⟩) ∧ Below w.heap.size w w' := by
  obtain ⟨a, cap, rfl, hmx, hrow⟩ := hF
  rcases hrow with rfl | ⟨b, off, rfl, hbn, hcells⟩
  · have h := Any.strings_Join_none joinL joinX a cap ⟨#[]⟩ w
    refine h.mono fun e w' ⟨he, hw⟩ => ⟨?_, hw ▸ Below.refl _ _⟩
    rw [he]
    rfl
  · have h := Any.strings_Join joinL joinX b off cap F ⟨#[]⟩ w (fun j x hx => by have := hcells j x hx 0 (by omega); simpa [strCell] using this) hbn hN (hcap _ _ _ rfl) (by rw [join_blocks]; exact hb)
    rw [join_blocks] at h
    exact h

end Go.Proofs.Ythmohjgdcjafkag

/- The contracts of package flash's changed, Do, Torn. -/
namespace Go.Proofs.Ythmohjgdcjafkag
open Go.RowKit Go.PlainAid

set_option maxRecDepth 100000

def CapIn (v : Value) : Prop := ∀ a n c, v = .slice a n c → n ≤ c
/-- A flash's blocks in memory. -/
def IsFl (n₀ : Nat) (W : World) (v : Value) (F : List ByteArray) : Prop := RowOf 1 strCell n₀ W v F ∧ CapIn v
theorem IsFl.below {n₀ : Nat} {W W' : World} {v : Value} {F : List ByteArray} (h : IsFl n₀ W v F) (hb : Below n₀ W W') : IsFl n₀ W' v F := ⟨h.1.below hb, h.2⟩
theorem IsFl.more {n₀ n₁ : Nat} {W : World} {v : Value} {F : List ByteArray} (h : IsFl n₀ W v F) (hn : n₀ ≤ n₁) : IsFl n₁ W v F := ⟨h.1.more hn, h.2⟩
theorem IsFl.nil (n₀ : Nat) (W : World) : IsFl n₀ W (.slice none 0 0) [] := ⟨⟨Option.none, 0, rfl, by simp, .inl rfl⟩, fun a n c h => by injection h; omega⟩
theorem IsFl.own {W : World} {base : Nat} {v : Value} {F : List ByteArray} (h : W.ownsRow base 9 1 v F.length (F.flatMap strC)) (hl : F.length ≤ 9223372036854775807) : IsFl W.heap.size W v F := by
  refine ⟨own_rows (C := strC) (cells := strCell) (sz := 1) (fun _ => rfl) strC_at h hl, fun a n c e => ?_⟩
  rcases h.2 with ⟨rfl, _⟩ | ⟨g, cap, cur, rfl, _, _, hc, _⟩
  · injection e; omega
  · injection e; omega

theorem own_lower {W : World} {base b : Nat} {e : TypeId} {size : Nat} {v : Value} {n : Nat} {xs : List Value} (h : W.ownsRow base e size v n xs) (hb : b ≤ base) : W.ownsRow b e size v n xs :=
  ⟨h.1, h.2.imp id (fun ⟨g, cap, cur, h1, h2, h3⟩ => ⟨g, cap, cur, h1, Nat.le_trans hb h2, h3⟩)⟩
/-- A flash whose row is one's own. -/
def OwnFl (base : Nat) (W : World) (v : Value) (F : List ByteArray) : Prop := W.ownsRow base 9 1 v F.length (F.flatMap strC) ∧ F.length ≤ 9223372036854775807
theorem OwnFl.is {base : Nat} {W : World} {v : Value} {F : List ByteArray} (h : OwnFl base W v F) : IsFl W.heap.size W v F := IsFl.own h.1 h.2
theorem OwnFl.nil (base : Nat) (W : World) : OwnFl base W (.slice none 0 0) [] := ⟨World.ownsRow_nil _ _ _ _, by simp⟩
theorem OwnFl.lower {base b : Nat} {W : World} {v : Value} {F : List ByteArray} (h : OwnFl base W v F) (hb : b ≤ base) : OwnFl b W v F := ⟨own_lower h.1 hb, h.2⟩
theorem OwnFl.below {base : Nat} {W W' : World} {v : Value} {F : List ByteArray} (h : OwnFl base W v F) (hb : Below W.heap.size W W') : OwnFl base W' v F := ⟨own_below h.1 hb, h.2⟩
theorem OwnFl.stored {base : Nat} {W : World} {v : Value} {F : List ByteArray} (h : OwnFl base W v F) {B : Nat} (hB : B < base) (u : Value) : OwnFl base (W.setCell ⟨B, 0, none⟩ u) v F :=
  ⟨h.1.kept (grown_set W B 0 u) (.inr (fun e => by have := own_block h.1 _ e; omega)), h.2⟩

theorem convStr (w : World) (c : List UInt8) (hc : c.length ≤ 4096) : ∃ w' cap, (convert 9 63 (.string ⟨c.toArray⟩)).run Try.prog w = .ok (.slice (some ⟨w.heap.size, 0, none⟩) c.length cap) w' ∧ CellsB w' w.heap.size c ∧ Below w.heap.size w w' ∧ c.length ≤ cap ∧ cap ≤ 9223372036854775807 := by
  have hs : (⟨c.toArray⟩ : ByteArray).size = c.length := by simp [ByteArray.size]
  have h := run_bytes_of_string (P := Try.prog) w 9 63 5 ⟨c.toArray⟩ Try.underlying9 Try.underlying63 Try.underlying5
  rw [hs] at h
  obtain ⟨cap, hcap⟩ : ∃ cap, grownCap w c.length 0 5 = cap := ⟨_, rfl⟩
  have h1 := grownCap_ge w c.length 0 5
  have h2 := grownCap_le_maxLen w c.length 0 5 (by unfold maxLen; omega)
  rw [hcap] at h h1 h2
  unfold maxLen at h2
  refine ⟨_, cap, h, ⟨?_, fun j x hx => ?_, fun j hj => ?_⟩, ((Below.refl _ _).drew).alloc (Nat.le_refl _) _, h1, by omega⟩
  · rw [World.size_alloc]; exact Nat.lt_succ_self _
  · have hj := (List.getElem?_eq_some_iff.1 hx).1
    have := World.cell?_alloc_mark w.drew (bytesRow ⟨c.toArray⟩ cap) 5 ((bytesRow ⟨c.toArray⟩ cap).size, (bytesRow ⟨c.toArray⟩ cap).size + 1) j
    refine this.trans ?_
    rw [bytesRow_at _ _ _ (by simpa using hj)]
    have : c[j]? = some c[j] := List.getElem?_eq_getElem hj
    rw [hx] at this
    injection this with this
    simp [this]
  · have := World.frozen?_alloc_mark w.drew (bytesRow ⟨c.toArray⟩ cap) 5 (bytesRow ⟨c.toArray⟩ cap).size ((bytesRow ⟨c.toArray⟩ cap).size + 1) j
    refine this.trans ?_
    have hz : c.length ≤ (bytesRow ⟨c.toArray⟩ cap).size := by unfold bytesRow; simp
    rw [decide_eq_false (by omega)]
    rfl

theorem joinM_bound {F : List ByteArray} (h : chkFl F = 0) : (joinM F).length = F.length * 128 ∧ F.length ≤ 32 ∧ 1 ≤ F.length := by
  rcases chkFl_cases F with ⟨e, _⟩ | ⟨e, _⟩ | ⟨_, h1, h2, h3⟩
  · rw [e] at h; cases h
  · rw [e] at h; cases h
  · exact ⟨joinM_length h3, h2, h1⟩
theorem blocksM_length (c : List UInt8) : (blocksM c).length = c.length / 128 := by unfold blocksM; simp
theorem doFrom_nil (t : Nat → UInt8 → UInt8) (c : List UInt8) : doFrom t c [] = (c, 0) := rfl
theorem doFrom_cons (t : Nat → UInt8 → UInt8) (c : List UInt8) (d : Deed) (r : List Deed) : doFrom t c (d :: r) = if chkDeed c.length d ≠ 0 then ([], chkDeed c.length d) else doFrom t (turnM t d c) r := rfl

set_option maxHeartbeats 8000000 in
theorem changed_own0 (t : Nat → UInt8 → UInt8) (F : List ByteArray) (v : Value) (l : List Deed) (vl : Value) (K : FuncId) (hK : ∀ w x y, Sem.run Try.prog (callFunc K #[x, y]) w = .ok (.enter K #[x, y]) w) (w : World)
    (hT : ∀ (i : Nat) (b : UInt8) W, Below w.heap.size w W → Calls Try.prog K #[.int .i64 i, .int .u8 (b.toNat : Int)] W fun e W' => e = .returned (.int .u8 ((t i b).toNat : Int)) ∧ Below W.heap.size W W')
    (hF : IsFl w.heap.size w v F) (hl : RowOf 3 Deed.cell w.heap.size w vl l) :
    Calls Try.prog 33 #[.agg #[v], .func (.func K) #[] #[], vl] w fun e w' => (∃ r, e = .returned (.tuple #[.agg #[r], .int .i64 (chgRes t F l).2]) ∧ OwnFl w.heap.size w' r (chgRes t F l).1) ∧ Below w.heap.size w w' := by
  have HTT : Hid (∀ (i : Nat) (b : UInt8) W, Below w.heap.size w W → Calls Try.prog K #[.int .i64 i, .int .u8 (b.toNat : Int)] W fun e W' => e = .returned (.int .u8 ((t i b).toNat : Int)) ∧ Below W.heap.size W W') := hT
  have HCK : Hid (∀ W, Below w.heap.size w W → Calls Try.prog 21 #[.agg #[v]] W fun e w' => e = .returned (.int .i64 (chkFl F)) ∧ Below W.heap.size W w') := fun W hb => flCheck_any F v W ((hF.1.below hb).more hb.size)
  have HJ : Hid (∀ W, chkFl F = 0 → Below w.heap.size w W → Calls Try.prog 35 #[v, .string ⟨#[]⟩] W fun e w' => e = .returned (.string ⟨(joinM F).toArray⟩) ∧ Below W.heap.size W w') := fun W h0 hb => by
    have := joinM_bound h0
    exact joinStr_any F v W ((hF.1.below hb).more hb.size) (by omega) (by omega) hF.2
  have key : (chkFl F ≠ 0 ∧ chgRes t F l = ([], chkFl F)) ∨ (chkFl F = 0 ∧ (joinM F).length ≤ 4096 ∧ (joinM F).length / 128 * 128 = (joinM F).length ∧ chgRes t F l = if (doFrom t (joinM F) l).2 ≠ 0 then ([], (doFrom t (joinM F) l).2) else (blocksM (doFrom t (joinM F) l).1, 0)) := by
    by_cases h0 : chkFl F = 0
    · have := joinM_bound h0
      refine .inr ⟨h0, by omega, by omega, ?_⟩
      unfold chgRes
      rw [if_neg (by omega)]
    · exact .inl ⟨h0, if_pos h0⟩
  obtain ⟨⟨a, cap, rfl, _, _⟩, _⟩ := hF
  obtain ⟨la, lcap, rfl, _, hlrow⟩ := hl
  generalize chkFl F = cf at *
  generalize chgRes t F l = R at *
  generalize joinM F = c0 at *
  generalize F.length = nF at *
  clear hT
  have HB1 : Hid (Below w.heap.size w ((w.alloc (.cells #[.slice a nF cap] 26)).alloc (.cells #[.slice none 0 0] 26))) := ((Below.refl _ _).alloc (Nat.le_refl _) _).alloc (by simp) _
  have HR1 : Hid (CellsAt ((w.alloc (.cells #[.slice a nF cap] 26)).alloc (.cells #[.slice none 0 0] 26)) (w.heap.size + 1) 26 #[.slice none 0 0]) := by
    have := CellsAt.new (w.alloc (.cells #[.slice a nF cap] 26)) 26 #[.slice none 0 0]
    rw [World.size_alloc] at this
    exact this
  have HF1 : Hid (CellsAt ((w.alloc (.cells #[.slice a nF cap] 26)).alloc (.cells #[.slice none 0 0] 26)) w.heap.size 26 #[.slice a nF cap]) := (CellsAt.new w 26 #[.slice a nF cap]).kept (World.grownBy_alloc _ _ none) (by simp)
  go_enter Try.func33, Try.ntmps33
  go_wp2_with fail
  refine (HCK.out _ HB1.out).mono ?_
  generalize ((w.alloc (.cells #[.slice a nF cap] 26)).alloc (.cells #[.slice none 0 0] 26)) = w1 at HB1 HR1 HF1
  rintro e w2 ⟨rfl, b1⟩
  have HB2 : Hid (Below w.heap.size w w2) := HB1.out.trans (b1.mono HB1.out.size)
  have HR2 : Hid (CellsAt w2 (w.heap.size + 1) 26 #[.slice none 0 0]) := HR1.out.below b1 HR1.out.lt
  have HF2 : Hid (CellsAt w2 w.heap.size 26 #[.slice a nF cap]) := HF1.out.below b1 HF1.out.lt
  clear b1 HB1 HR1 HF1 HCK
  rcases key with ⟨h0, rfl⟩ | ⟨rfl, hc0, hc128, hR⟩
  · have h0' : (cf != 0) = true := by simpa using h0
    have r0 := HR2.out.cell 0
    have r1 := HR2.out.frozen 0
    simp at r0
    clear h0
    go_wp2
    have hF := HR2.out.set 0 (.slice none 0 0)
    simp only [List.setIfInBounds_toArray, List.set_cons_zero] at hF
    refine bodyPost_ret (results_cell_tmp_row rfl _ _ _ _ _ _ _ rfl hF Try.underlying26 rfl (by kernel_rfl)) rfl ?_
    exact ⟨⟨_, rfl, OwnFl.nil _ _⟩, HB2.out.setCell (by simp) _⟩
  · have HRR : Hid (R = if (doFrom t c0 l).2 ≠ 0 then ([], (doFrom t c0 l).2) else (blocksM (doFrom t c0 l).1, 0)) := hR
    have HD0 : Hid (doFrom t c0 l = doFrom t c0 (l.drop 0)) := rfl
    have f0 := HF2.out.cell 0
    simp at f0
    clear hR
    go_wp2_with fail
    refine (HJ.out _ (by first | rfl | trivial) HB2.out).mono ?_
    rintro e w3 ⟨rfl, b3⟩
    have HB3 : Hid (Below w.heap.size w w3) := HB2.out.trans (b3.mono HB2.out.size)
    have HR3 : Hid (CellsAt w3 (w.heap.size + 1) 26 #[.slice none 0 0]) := HR2.out.below b3 HR2.out.lt
    clear b3 HB2 HR2 HF2 f0 HJ
    obtain ⟨w4, kc, hcv, hC4, b4, hk1, hk2⟩ := convStr w3 c0 hc0
    have HC4 : Hid (CellsB w4 w3.heap.size c0) := hC4
    have HB4 : Hid (Below w.heap.size w w4) := HB3.out.trans (b4.mono HB3.out.size)
    have HR4 : Hid (CellsAt w4 (w.heap.size + 1) 26 #[.slice none 0 0]) := HR3.out.below b4 HR3.out.lt
    have hg : w.heap.size + 1 < w3.heap.size := HR3.out.lt
    clear hC4 b4 HB3 HR3
    go_wp2
    clear hcv
    generalize w3.heap.size = g at *
    generalize hn0 : c0.length = n0 at *
    have HCL : Hid (c0.length = n0) := hn0
    clear hn0
    go_loopw [25] (fun i wr => ∃ (k : Nat) (c : List UInt8), k ≤ l.length ∧ i = .int .i64 k ∧ Hid (c.length = n0) ∧ Hid (CellsB wr g c) ∧ Hid (doFrom t c0 l = doFrom t c (l.drop k)) ∧ Hid (Below g w4 wr)) (fun i _ => l.length - (intOf i).toNat)
    case atStart => exact ⟨0, c0, Nat.zero_le _, rfl, HCL, HC4, HD0, Below.refl _ _⟩
    case round =>
      obtain ⟨k, c, hk, rfl, HL, HC, HD, HG⟩ := hrel
      have HBw : Hid (Below w.heap.size w wr) := HB4.out.trans (HG.out.mono (by omega))
      clear HC4 HD0 HCL
      by_cases hlt : k < l.length
      · obtain ⟨d, hd⟩ : ∃ d, l[k]? = some d := ⟨_, List.getElem?_eq_getElem hlt⟩
        rcases hlrow with h | ⟨b, off, rfl, hbn, hcells⟩
        · subst h; simp at hlt
        have d0 := (HBw.out.cell (p := ⟨b, off + k * 3 + 0, none⟩) hbn).trans (hcells k _ hd 0 (by omega))
        have d1 := (HBw.out.cell (p := ⟨b, off + k * 3 + 1, none⟩) hbn).trans (hcells k _ hd 1 (by omega))
        have d2 := (HBw.out.cell (p := ⟨b, off + k * 3 + 2, none⟩) hbn).trans (hcells k _ hd 2 (by omega))
        dsimp only [Deed.cell] at d0 d1 d2
        rw [Nat.add_zero] at d0
        have hgr : g < wr.heap.size := HC.out.lt
        have hbr : b < wr.heap.size := Nat.lt_of_lt_of_le hbn HBw.out.size
        have HDN : Hid (doFrom t c0 l = if chkDeed n0 d ≠ 0 then ([], chkDeed n0 d) else doFrom t (turnM t d c) (l.drop (k + 1))) := by
          show doFrom t c0 l = _
          rw [HD.out, drop_at hd, doFrom_cons, HL.out]
        have HW : Hid (∀ W, Calls Try.prog 45 #[.slice (some ⟨g, 0, none⟩) n0 kc, .agg #[.int .i64 d.kind, .int .i64 d.pos, .int .i64 d.val]] W fun e w' => e = .returned (.int .i64 (chkDeed n0 d)) ∧ Below W.heap.size W w') := fun W => wrongD_any _ n0 kc d W hc0
        have HTU : Hid (∀ W, chkDeed n0 d = 0 → CellsB W g c → Below w.heap.size w W → Calls Try.prog 46 #[.slice (some ⟨g, 0, none⟩) n0 kc, .agg #[.int .i64 d.kind, .int .i64 d.pos, .int .i64 d.val], .func (.func K) #[] #[]] W fun e w' => e = .returned (.tuple #[]) ∧ CellsB w' g (turnM t d c) ∧ Below g W w') := fun W h0 hc hb => by
          have hln := HL.out
          have := turn_any0 t g kc c d K hK w.heap.size W (fun i b W' hb' => HTT.out i b W' (hb.trans hb')) (by omega) hc (by omega) (by omega) hk2 (by rw [hln]; exact h0)
          rw [hln] at this
          exact this
        have HLT : Hid ((turnM t d c).length = n0) := by show _ = _; rw [turnM_length, HL.out]
        have HBx : Hid (Below wr.heap.size wr (wr.alloc (.cells #[.int .i64 d.kind, .int .i64 d.pos, .int .i64 d.val] 40))) := (Below.refl _ _).alloc (Nat.le_refl _) _
        have HCx : Hid (CellsAt (wr.alloc (.cells #[.int .i64 d.kind, .int .i64 d.pos, .int .i64 d.val] 40)) wr.heap.size 40 #[.int .i64 d.kind, .int .i64 d.pos, .int .i64 d.val]) := CellsAt.new _ _ _
        clear hcells hd HD
        generalize chkDeed n0 d = cd at *
        generalize turnM t d c = c' at *
        obtain ⟨kd, ps, dv⟩ := d
        dsimp only at *
        go_wp2_with fail
        refine (HW.out _).mono ?_
        rintro e wa ⟨rfl, ba⟩
        have hCx := HCx.out.below ba HCx.out.lt
        have HCa : Hid (CellsB wa g c) := (HC.out.below HBx.out).below ba
        have HGa : Hid (Below g w4 wa) := (HG.out.trans (HBx.out.mono (Nat.le_of_lt hgr))).trans (ba.mono (by have := HBx.out.size; omega))
        have x0 := hCx.cell 0
        have x1 := hCx.cell 1
        have x2 := hCx.cell 2
        simp at x0 x1 x2
        have hxa : wr.heap.size < wa.heap.size := hCx.lt
        clear hCx HCx ba HW d0 d1 d2 HC HBx HG HBw
        by_cases hcd : cd = 0
        · subst hcd
          have HDM : Hid (doFrom t c0 l = doFrom t c' (l.drop (k + 1))) := HDN.out
          clear HDN
          go_wp2_with fail
          refine (HTU.out _ (by first | rfl | trivial) HCa.out (HB4.out.trans (HGa.out.mono (by omega)))).mono ?_
          rintro e wb ⟨rfl, hcb, bb⟩
          have HCb : Hid (CellsB wb g c') := hcb
          have HGb : Hid (Below g w4 wb) := HGa.out.trans bb
          clear hcb bb HTU HCa HGa x0 x1 x2
          go_wp2
          exact ⟨⟨k + 1, c', by omega, by go_num, HLT, HCb, HDM, HGb⟩, by simp [intOf]; omega⟩
        · have hcd' : (cd != 0) = true := by simpa using hcd
          have HZ : Hid (R = ([], cd)) := by
            show R = _
            rw [HRR.out, HDN.out]
            rw [if_pos (show cd ≠ 0 from hcd)]
            exact if_pos hcd
          have hRa := HR4.out.below HGa.out hg
          have r0 := hRa.cell 0
          have r1 := hRa.frozen 0
          simp at r0
          have HRa : Hid (CellsAt wa (w.heap.size + 1) 26 #[.slice none 0 0]) := hRa
          clear hcd HDN HRR hRa x0 x1 x2 HTU
          go_wp2
          have hF := HRa.out.set 0 (.slice none 0 0)
          simp only [List.setIfInBounds_toArray, List.set_cons_zero] at hF
          refine bodyPost_ret (results_cell_tmp_row rfl _ _ _ _ _ _ _ rfl hF Try.underlying26 rfl (by kernel_rfl)) rfl ?_
          have HZ' := HZ.out
          subst HZ'
          exact ⟨⟨_, rfl, OwnFl.nil _ _⟩, (HB4.out.trans (HGa.out.mono (by omega))).setCell (by simp) _⟩
      · obtain rfl : k = l.length := by omega
        have HZ : Hid (R = (blocksM c, 0)) := by
          show R = _
          rw [HRR.out, HD.out, List.drop_length, doFrom_nil]
          rfl
        have HFO : Hid (∀ W, CellsB W g c → Calls Try.prog 32 #[.slice (some ⟨g, 0, none⟩) n0 kc] W fun e w' => (∃ v, e = .returned (.agg #[v]) ∧ w'.ownsRow W.heap.size 9 1 v (blocksM c).length ((blocksM c).flatMap strC)) ∧ Below W.heap.size W w') := fun W h => by
          have hln := HL.out
          have := flashOf_any g kc c W h (by omega) (by omega) hk2
          rw [hln] at this
          exact this
        have HBL : Hid ((blocksM c).length ≤ 9223372036854775807) := by
          show (blocksM c).length ≤ _
          rw [blocksM_length]
          have := HL.out
          omega
        have HR5 : Hid (CellsAt wr (w.heap.size + 1) 26 #[.slice none 0 0]) := HR4.out.below HG.out hg
        clear HRR HD
        generalize blocksM c = BL at *
        go_wp2_with fail
        refine (HFO.out _ HC.out).mono ?_
        rintro e w6 ⟨⟨r, rfl, ho⟩, b6⟩
        have HO6 : Hid (w6.ownsRow wr.heap.size 9 1 r BL.length (BL.flatMap strC)) := ho
        have hR6 := HR5.out.below b6 HR5.out.lt
        have hgr : g < wr.heap.size := HC.out.lt
        have HR6 : Hid (CellsAt w6 (w.heap.size + 1) 26 #[.slice none 0 0]) := hR6
        have HB6 : Hid (Below w.heap.size w w6) := HBw.out.trans (b6.mono HBw.out.size)
        obtain ⟨ra, rc, rfl⟩ := own_form ho
        have r0 := hR6.cell 0
        have r1 := hR6.frozen 0
        simp at r0
        clear ho hR6 b6 HFO HR5
        go_wp2
        have hF := HR6.out.set 0 (.slice ra BL.length rc)
        simp only [List.setIfInBounds_toArray, List.set_cons_zero] at hF
        refine bodyPost_ret (results_cell_tmp_row rfl _ _ _ _ _ _ _ rfl hF Try.underlying26 rfl (by kernel_rfl)) rfl ?_
        have HZ' := HZ.out
        subst HZ'
        have ho := HO6.out.kept (grown_set w6 (w.heap.size + 1) 0 (.slice ra BL.length rc)) (.inr (fun e => by
          have h1 := own_block HO6.out _ e
          omega))
        exact ⟨⟨_, rfl, ⟨own_lower ho HBw.out.size, HBL.out⟩⟩, HB6.out.setCell (by simp) _⟩

theorem changed_any0 (t : Nat → UInt8 → UInt8) (F : List ByteArray) (v : Value) (l : List Deed) (vl : Value) (K : FuncId) (hK : ∀ w x y, Sem.run Try.prog (callFunc K #[x, y]) w = .ok (.enter K #[x, y]) w) (w : World)
    (hT : ∀ (i : Nat) (b : UInt8) W, Below w.heap.size w W → Calls Try.prog K #[.int .i64 i, .int .u8 (b.toNat : Int)] W fun e W' => e = .returned (.int .u8 ((t i b).toNat : Int)) ∧ Below W.heap.size W W')
    (hF : IsFl w.heap.size w v F) (hl : RowOf 3 Deed.cell w.heap.size w vl l) :
    Calls Try.prog 33 #[.agg #[v], .func (.func K) #[] #[], vl] w fun e w' => (∃ r, e = .returned (.tuple #[.agg #[r], .int .i64 (chgRes t F l).2]) ∧ IsFl w'.heap.size w' r (chgRes t F l).1) ∧ Below w.heap.size w w' := by
  refine (changed_own0 t F v l vl K hK w hT hF hl).mono ?_
  rintro e w' ⟨⟨r, he, ho⟩, hb⟩
  exact ⟨⟨r, he, ho.is⟩, hb⟩

end Go.Proofs.Ythmohjgdcjafkag
