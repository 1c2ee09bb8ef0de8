/- The contract of word.Get. -/
import Derived.Test.YtaklbnabgcglhabWordA
import Derived.Test.YtaklbnabgcglhabWordM
namespace Go.Proofs.Ytaklbnabgcglhab
open Go.RowKit Go.Shelf Go.PlainAid
attribute [local go_sem] Oper.semAt_some

theorem bytesOf_stops (F : Fence) (n : Nat) (hF : F.fn 69) (hro : F.round = none) (hn : 1 ≤ n) (Ba Bb at' m : Nat) (hm : m ≤ 4) (ha : at' ≤ 140737488351232) (w : World) (hBa : Ba < w.heap.size) (hBb : Bb < w.heap.size)
    (hA : w.cell? ⟨Ba, 0, none⟩ = some (.int .i64 at')) (hB : w.cell? ⟨Bb, 0, none⟩ = some (.int .i64 m)) :
    SeqStopsK F n Try.prog 69 #[.pointer (some ⟨Bb, 0, none⟩), .pointer (some ⟨Ba, 0, none⟩)] (fun x : Fin m => #[Value.int .i64 ((at' : Int) + x.1), Value.int .i64 (8 * (x.1 : Int))]) (KeepsTwo Ba Bb)
      (fun ys => ys.map (·.1) = List.range m) (fun _ => True) m w := fun l J Jx W hW _ _ hY h0 => by
  refine (bytesOf1_in F n hF hro hn l Ba Bb at' m hm ha J Jx hY W ((hW.cell (p := ⟨Ba, 0, none⟩) hBa).trans hA) ((hW.cell (p := ⟨Bb, 0, none⟩) hBb).trans hB) h0).mono ?_
  rintro e W' ⟨he, ⟨ys, hy, hj⟩ | ⟨pre, hj⟩⟩
  · exact ⟨he, .inl ⟨ys, hy, hj⟩⟩
  · exact ⟨he, .inr ⟨pre, trivial, hj⟩⟩

theorem keepsTwo_b {Ba Bb : Nat} {w : World} (ha : Ba < w.heap.size) (hb : Bb < w.heap.size) (W : World) (l : Nat) (o o' : Obj) (hl : w.heap.size ≤ l) (h : W.heap[l]? = some o) (c : o.isCells = false) (d : o.isWalk = false) : KeepsTwo Ba Bb W (W.putObj l o') :=
  have hk := belowK_b (Nat.le_refl _) W l o o' hl h c d
  ⟨hk.cell (p := ⟨Ba, 0, none⟩) ha, hk.cell (p := ⟨Bb, 0, none⟩) hb⟩

theorem keepsTwo_set {Ba Bb B o : Nat} (ha : Ba ≠ B) (hb : Bb ≠ B) (W : World) (v : Value) : KeepsTwo Ba Bb W (W.setCell ⟨B, o, none⟩ v).drew :=
  ⟨World.cell?_of_block (w := W) (Below.heap_setCell _ _ _ _ ha), World.cell?_of_block (w := W) (Below.heap_setCell _ _ _ _ hb)⟩

set_option maxRecDepth 100000 in
set_option maxHeartbeats 1000000 in
theorem get_ok_in (s : ByteArray) (at' m : Nat) (w : World)
    (hs : s.size ≤ 140737488351232) (hm1 : 1 ≤ m) (hm : m ≤ 4) (ha : at' + m ≤ s.size) :
    CallsIn Fence.wide 8 Try.prog 13 #[.string s, .int .i64 at', .int .i64 m] w fun e w' =>
      e = .returned (.tuple #[.int .i64 (getN s at' m), .int .i64 0]) ∧ Below w.heap.size w w' := by
  have hwr : wrongAt s.size at' m = 0 := by unfold wrongAt; rw [if_neg (by omega), if_neg (by omega)]
  refine callsIn_of_wp_marks Try.func13 rfl trivial ?_ rfl
  simp only [Try.ntmps13, List.size_toArray, List.length_cons, List.length_nil, Nat.reduceAdd, Nat.reduceSub, Array.replicate_succ, Array.replicate_zero, List.push_toArray, List.append_toArray, List.nil_append, List.cons_append]
  gi_wp2_with (first
    | (refine ⟨trivial, ?_⟩; gi_at_call 39; refine (callsIn_wide.2 (wrongPlace_any _ _ _ _ (by omega) (by omega))).mono ?_; rw [hwr]; rintro e w' ⟨rfl, rfl⟩)
    | (refine ⟨trivial, ?_⟩; gi_at_call 40; refine (bytesOf_in Fence.wide _ trivial rfl _ _ _).mono ?_; rintro e w' ⟨rfl, rfl⟩))
  have bs := (((Boxed.new w 9 (.string s)).alloc (.cells #[.int .i64 0] 3)).alloc (.cells #[.int .i64 at'] 3)).alloc (.cells #[.int .i64 m] 3)
  have bn := ((Boxed.new (w.alloc (.cells #[.string s] 9)) 3 (.int .i64 0)).alloc (.cells #[.int .i64 at'] 3)).alloc (.cells #[.int .i64 m] 3)
  have ba := (Boxed.new ((w.alloc (.cells #[.string s] 9)).alloc (.cells #[.int .i64 0] 3)) 3 (.int .i64 at')).alloc (.cells #[.int .i64 m] 3)
  have bm := Boxed.new (((w.alloc (.cells #[.string s] 9)).alloc (.cells #[.int .i64 0] 3)).alloc (.cells #[.int .i64 at'] 3)) 3 (.int .i64 m)
  simp only [World.size_alloc] at bn ba bm
  have hB0 : Below w.heap.size w ((((w.alloc (.cells #[.string s] 9)).alloc (.cells #[.int .i64 0] 3)).alloc (.cells #[.int .i64 at'] 3)).alloc (.cells #[.int .i64 m] 3)) :=
    ((((Below.refl _ w).alloc (Nat.le_refl _) _).alloc (by simp) _).alloc (by simp; omega) _).alloc (by simp; omega) _
  refine wpIn_rangeFunc_ownF rfl (by omega) (gf := 69) (lb := #[.pointer (some ⟨w.heap.size + 1 + 1 + 1, 0, none⟩), .pointer (some ⟨w.heap.size + 1 + 1, 0, none⟩)]) rfl trivial (enters_of Try.func69 (by kernel_rfl) rfl)
    (bytesOf_stops Fence.wide _ trivial rfl (by omega) (w.heap.size + 1 + 1) (w.heap.size + 1 + 1 + 1) at' m hm (by omega) _ (by simp) (by simp) ba.cell bm.cell) KeepsTwo.trans (keepsTwo_b (by simp) (by simp)) (Below.refl _ _) (fun _ => rfl)
    (fun pre W => (Boxed W w.heap.size 9 (.string s) ∧ Boxed W (w.heap.size + 1) 3 (.int .i64 (getFold s at' (pre.map (·.1))))) ∧ Below w.heap.size w W)
    (fun _ _ _ => False)
    (OwnFrom.and (OwnFrom.and (Own.from (boxed_own _ _ _) _) (Own.from (boxed_own _ _ _) _)) (ownFrom_below (Nat.le_refl _) (by simp; omega)))
    (fun _ _ _ _ _ hs _ _ => hs)
    ⟨⟨bs, bn⟩, hB0⟩
    (fun x => { tmps := #[.string s, .int .i64 at', .int .i64 m, .pointer (some ⟨w.heap.size, 0, none⟩), undef, undef, .int .i64 0, .int .i64 0, .int .i64 0, .pointer (some ⟨w.heap.size + 1, 0, none⟩),
        .int .i64 (at' + x.1), .int .i64 (8 * (x.1 : Int)), .string s, .int .i64 s.size, .int .i64 at', .int .i64 m, .int .i64 0, .int .i64 0, .bool false, undef, .int .i64 at', .int .i64 m,
        .func (.func 69) #[] #[.pointer (some ⟨w.heap.size + 1 + 1 + 1, 0, none⟩), .pointer (some ⟨w.heap.size + 1 + 1, 0, none⟩)], .int .i64 (at' + x.1), .int .i64 (8 * (x.1 : Int)),
        undef, undef, undef, undef, undef, undef, undef, undef, undef], defers := [] }) ?assign ?body ?done ?stop
  case assign =>
    intro l x W K hK
    gi_wp2
    exact hK
  case body =>
    rintro l pre ⟨x, hx⟩ W ⟨⟨hbs, hbn⟩, hB⟩ _
    have hcs := hbs.cell
    have hcn := hbn.cell
    have hfn := hbn.frozen
    clear bs bn ba bm hB0 hwr
    have hmx : Try.prog.follows .mixedOrders = true := by kernel_rfl
    have hx0 : (at' : Int) + x < s.size := by omega
    have hx1 : (x : Int) ≤ 3 := by omega
    have hbt := get_bt s
    gi_wp2
    gi_region_o
    all_goals gi_wp2
    all_goals (try go_bits)
    all_goals
      exact ⟨(KeepsOthers.setCell _ _ _).trans (KeepsOthers.drew _), keepsTwo_set (by omega) (by omega) _ _, ⟨hbs.other (by omega) _, by rw [List.map_append, List.map_cons, List.map_nil, getFold_snoc]; exact hbn.set _⟩, (hB.setCell (p := ⟨w.heap.size + 1, 0, none⟩) (Nat.le_succ _) _).drew⟩
  case done =>
    rintro D ys W hD hys ⟨⟨_, hbn⟩, hB⟩ hK
    have hcn := hbn.cell
    rw [hys, getFold_range s at' m hm] at hcn
    clear hbn
    gi_wp2
    refine ⟨by simp, .inl ⟨_, _, rfl, run_takeDeferred hK, ?_⟩⟩
    exact ⟨_, by simp [results, Try.f13, go_sem], rfl, hB.trans (belowK_b (w := w) (Nat.le_refl _) W D _ _ (by simp at hD; omega) hK rfl rfl)⟩
  case stop =>
    rintro D c pre W _ _ h _
    exact h.elim

end Go.Proofs.Ytaklbnabgcglhab
