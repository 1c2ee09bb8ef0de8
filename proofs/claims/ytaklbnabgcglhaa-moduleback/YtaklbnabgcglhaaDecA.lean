/- The contract of strings.Clone. -/
import Derived.Test.YtaklbnabgcglhaaEncR
import Derived.Lib.Strings
import Derived.Lib.BufferWrite
import Derived.Lib.UnsafeStr
namespace Go.Proofs.Ytaklbnabgcglhaa
open Go.RowKit Go.PlainAid

set_option maxRecDepth 100000 in
set_option maxHeartbeats 2000000 in
theorem sclone_any (s : ByteArray) (w : World) (hs : s.size ≤ 140737488351232) :
    Calls Try.prog 83 #[.string s] w fun e w' => e = .returned (.string s) ∧ Below w.heap.size w w' := by
  by_cases h0 : s.size = 0
  · obtain rfl : s = ⟨#[]⟩ := ByteArray.ext (Array.eq_empty_of_size_eq_zero h0)
    go_enter Try.func83, Try.ntmps83
    go_wp2
    go_ret
    exact ⟨rfl, Below.refl _ _⟩
  obtain ⟨i0, hi, hz0, hz1, hz2⟩ := info_parts info5
  have hinfo : (Try.prog.info? 5).map (·.size) = some 1 := by rw [hi]; simp [hz1]
  have hco : Try.prog.cellsOf 5 = 1 := by kernel_rfl
  obtain ⟨C, hC⟩ : ∃ C, C = madeCells (Value.int .u8 0).cells (((s.size : Nat) : Int).toNat * i0.size) := ⟨_, rfl⟩
  have hCs : C.size = s.size := by rw [hC, size_madeCells, hz1]; simp
  have hmk : ∀ W : World, (Instr.makeSlice 58 (.int .i64 (s.size : Int)) (.int .i64 (s.size : Int))).run Try.prog W = .ok (.slice (some ⟨W.heap.size, 0, none⟩) s.size s.size) (W.alloc (.cells C 5)) := fun W => by
    have h := run_make (P := Try.prog) W 58 5 i0 (.int .u8 0) Try.underlying58 hi hz0 .i64 .i64 (s.size : Int) (s.size : Int) (by omega) (by omega) (by rw [hz2]; omega) (by omega)
    rw [← hC] at h
    simpa using h
  clear hC
  have hnew : (w.alloc (.cells C 5)).heap[w.heap.size]? = some (.cells C 5 (0, 0)) := World.alloc_heap_new w _
  have hcp := Lib.run_copy_row_string (P := Try.prog) (w.alloc (.cells C 5)) 58 9 3 5 w.heap.size 0 s.size s.size s C 5 Try.underlying58 hinfo hnew (Nat.le_refl _) (by omega)
  obtain ⟨Y, hY⟩ : ∃ Y, Y = (C.toList.take 0 ++ Lib.byteCells s.data.toList ++ C.toList.drop (0 + s.size)).toArray := ⟨_, rfl⟩
  rw [← hY] at hcp
  have hYl : Y.toList = Lib.byteCells s.data.toList := by
    rw [hY, List.toList_toArray, List.take_zero, List.nil_append, List.drop_of_length_le (by rw [Array.length_toList]; omega), List.append_nil]
  have hYs : Y.size = s.size := by rw [← Array.length_toList, hYl, Lib.byteCells_length]; simp
  have hgY : ((w.alloc (.cells C 5)).setRow w.heap.size Y).heap[w.heap.size]? = some (.cells Y 5 (0, 0)) := setRow_heap _ _ C _ 5 (0, 0) hnew
  have hne : s.data.toList ≠ [] := fun e => h0 (by have := congrArg List.length e; simpa using this)
  have hsl : s.data.toList.length = s.size := by simp
  have hUS := Lib.run_unsafeString_row (P := Try.prog) ((w.alloc (.cells C 5)).setRow w.heap.size Y) 110 3 9 5 Try.underlying110 hco w.heap.size Y.size (by unfold World.shape?; rw [hgY]) s.data.toList hne (by omega) (by omega)
    (fun j x hx => Lib.cells_of_row hgY Y.size j _ (by rw [List.take_of_length_le (by rw [Array.length_toList]; exact Nat.le_refl _), hYl]; simp [Lib.byteCells, hx]))
  rw [hsl] at hUS
  change _ = Result.ok (Value.string s) _ at hUS
  clear hY hsl
  have hpos : ((s.size : Int) == 0) = false := beq_eq_false_iff_ne.2 (by omega)
  have hp0 : 0 < (s.size : Int) := by omega
  go_enter Try.func83, Try.ntmps83
  go_wp2
  go_ret
  have hb1 : Below w.heap.size w (w.alloc (.cells C 5)) := (Below.refl _ w).alloc (Nat.le_refl _) _
  have hb2 : Below w.heap.size (w.alloc (.cells C 5)) ((w.alloc (.cells C 5)).setRow w.heap.size Y) := ⟨rfl, rfl, rfl, by simp, fun k hk => setRow_other _ _ _ _ (by omega)⟩
  exact ⟨rfl, Lib.below_freeze (hb1.trans hb2) (p := ⟨w.heap.size, 0, none⟩) (Nat.le_refl _) _⟩

set_option maxHeartbeats 400000 in
theorem clone_any (s : ByteArray) (w : World) (hs : s.size ≤ 140737488351232) :
    Calls Try.prog 76 #[.string s] w fun e w' => e = .returned (.string s) ∧ Below w.heap.size w w' := by
  have H : Hid (∀ w, Calls Try.prog 83 #[.string s] w fun e w' => e = .returned (.string s) ∧ Below w.heap.size w w') := fun w => sclone_any s w hs
  clear hs
  go_enter Try.func76, Try.ntmps76
  go_wp2_with fail
  refine (H.out _).mono ?_
  rintro e w1 ⟨rfl, b⟩
  go_wp2
  go_ret
  exact ⟨rfl, b⟩

end Go.Proofs.Ytaklbnabgcglhaa
