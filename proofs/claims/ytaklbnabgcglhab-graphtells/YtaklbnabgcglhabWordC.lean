/- The contract of word.Put. -/
import Derived.Test.YtaklbnabgcglhabWordB
import Derived.Laws.IdiomStrings
namespace Go.Proofs.Ytaklbnabgcglhab
open Go.RowKit Go.Shelf Go.PlainAid
attribute [local go_sem] Oper.semAt_some

/-- Block b holds these bytes, and they may be written. -/
def HoldsB (W : World) (b : Nat) (l : List UInt8) : Prop := ∀ j v, l[j]? = some v → W.cell? ⟨b, j, none⟩ = some (.int .u8 (v.toNat : Int)) ∧ W.frozen? ⟨b, j, none⟩ = false

theorem HoldsB.set {W : World} {b : Nat} {l : List UInt8} (h : HoldsB W b l) (i : Nat) (v : UInt8) (hi : i < l.length) : HoldsB (W.setCell ⟨b, i, none⟩ (.int .u8 (v.toNat : Int))).drew b (l.set i v) := by
  intro j u hj
  show (W.setCell ⟨b, i, none⟩ (.int .u8 (v.toNat : Int))).cell? ⟨b, j, none⟩ = _ ∧ (W.setCell ⟨b, i, none⟩ (.int .u8 (v.toNat : Int))).frozen? ⟨b, j, none⟩ = false
  rw [World.frozen?_setCell]
  by_cases e : i = j
  · subst e
    rw [List.getElem?_set_self hi] at hj
    cases hj
    obtain ⟨h1, h2⟩ := h i l[i] (List.getElem?_eq_getElem hi)
    exact ⟨World.cell?_setCell_same' _ _ _ (by rw [h1]; rfl), h2⟩
  · rw [List.getElem?_set_ne e] at hj
    obtain ⟨h1, h2⟩ := h j u hj
    exact ⟨(World.cell?_setCell_other _ _ _ _ (by intro h; cases h; exact e rfl)).trans h1, h2⟩

theorem HoldsB.alloc {W : World} {b : Nat} {l : List UInt8} (h : HoldsB W b l) (o : Obj) : HoldsB (W.alloc o) b l := fun j v hj =>
  ⟨cell_kept (h j v hj).1 (World.grownBy_alloc W o none) (fun r e => by cases e), (frozen_kept (h j v hj).1 (World.grownBy_alloc W o none) (fun r e => by cases e)).trans (h j v hj).2⟩

theorem holdsB_own {β : Type} (b : Nat) (f : β → List UInt8) : Own (fun s W => HoldsB W b (f s)) := fun _ _ _ _ hs hg hr j v hj =>
  ⟨cell_kept (hs j v hj).1 hg hr, (frozen_kept (hs j v hj).1 hg hr).trans (hs j v hj).2⟩

theorem boxed_otherAt {W : World} {B B' : Nat} {t : TypeId} {v : Value} (h : Boxed W B t v) (hne : B ≠ B') (o : Nat) (u : Value) : Boxed (W.setCell ⟨B', o, none⟩ u).drew B t v :=
  (Below.heap_setCell W ⟨B', o, none⟩ u B hne).trans h

theorem pow_256 (x : Nat) : (2 : Int) ^ (8 * x) = 256 ^ x := by rw [Int.pow_mul]; rfl

theorem bytes_of_string (w : World) (n : Int) (s : ByteArray) : ∃ cap W1, Sem.run Try.prog (convert 9 103 (Value.string s)) (w.alloc (.cells #[.int .i64 n] 3)) = .ok (.slice (some ⟨w.heap.size + 1, 0, none⟩) s.size cap) W1 ∧
    W1.heap.size = w.heap.size + 1 + 1 ∧ HoldsB W1 (w.heap.size + 1) s.data.toList ∧ Boxed W1 w.heap.size 3 (.int .i64 n) ∧ Below w.heap.size w W1 := by
  have h := run_bytes_of_string (P := Try.prog) (w.alloc (.cells #[.int .i64 n] 3)) 9 103 5 s Try.underlying9 Try.underlying103 Try.underlying5
  rw [World.size_alloc] at h
  refine ⟨_, _, h, by simp, ?_, ?_, ?_⟩
  · intro j v hj
    have hj' : j < s.data.size := by have := (List.getElem?_eq_some_iff.1 hj).1; simpa using this
    have h1 := World.cell?_alloc_mark (w.alloc (.cells #[.int .i64 n] 3)).drew (bytesRow s (grownCap (w.alloc (.cells #[.int .i64 n] 3)) s.size 0 5)) 5 ((bytesRow s (grownCap (w.alloc (.cells #[.int .i64 n] 3)) s.size 0 5)).size, (bytesRow s (grownCap (w.alloc (.cells #[.int .i64 n] 3)) s.size 0 5)).size + 1) j
    have h2 := World.frozen?_alloc_mark (w.alloc (.cells #[.int .i64 n] 3)).drew (bytesRow s (grownCap (w.alloc (.cells #[.int .i64 n] 3)) s.size 0 5)) 5 (bytesRow s (grownCap (w.alloc (.cells #[.int .i64 n] 3)) s.size 0 5)).size ((bytesRow s (grownCap (w.alloc (.cells #[.int .i64 n] 3)) s.size 0 5)).size + 1) j
    have e : (w.alloc (.cells #[.int .i64 n] 3)).drew.heap.size = w.heap.size + 1 := World.size_alloc _ _
    rw [e] at h1 h2
    refine ⟨h1.trans ?_, h2.trans ?_⟩
    · rw [bytesRow_at s _ j hj']
      have : s.data[j] = v := by
        have := (List.getElem?_eq_some_iff.1 hj).2
        simpa using this
      rw [this]
    · have : j < (bytesRow s (grownCap (w.alloc (.cells #[.int .i64 n] 3)) s.size 0 5)).size := by
        have : s.data.size = s.size := rfl
        simp [bytesRow]; omega
      rw [decide_eq_false (by omega)]; rfl
  · exact (show Boxed (w.alloc (.cells #[.int .i64 n] 3)).drew w.heap.size 3 (.int .i64 n) from Boxed.new w 3 (.int .i64 n)).alloc _
  · exact (((Below.refl _ w).alloc (Nat.le_refl _) _).drew).alloc (by simp) _

set_option maxRecDepth 100000 in
set_option maxHeartbeats 1000000 in
theorem put_ok_in (s : ByteArray) (at' m : Nat) (n : Int) (w : World)
    (hs : s.size ≤ 140737488351232) (hm1 : 1 ≤ m) (hm : m ≤ 4) (ha : at' + m ≤ s.size) :
    CallsIn Fence.wide 8 Try.prog 37 #[.string s, .int .i64 at', .int .i64 m, .int .i64 n] w fun e w' =>
      e = .returned (.tuple #[.string (putS s at' m n), .int .i64 0]) ∧ Below w.heap.size w w' := by
  have hwr : wrongAt s.size at' m = 0 := by unfold wrongAt; rw [if_neg (by omega), if_neg (by omega)]
  obtain ⟨cap, W1, hconv, hsz, hb1, bn1, hbl1⟩ := bytes_of_string w n s
  refine callsIn_of_wp_marks Try.func37 rfl trivial ?_ rfl
  simp only [Try.ntmps37, List.size_toArray, List.length_cons, List.length_nil, Nat.reduceAdd, Nat.reduceSub, Array.replicate_succ, Array.replicate_zero, List.push_toArray, List.append_toArray, List.nil_append, List.cons_append]
  gi_wp2_with (first
    | (refine ⟨trivial, ?_⟩; gi_at_call 39; refine (callsIn_wide.2 (wrongPlace_any _ _ _ _ (by omega) (by omega))).mono ?_; rw [hwr]; rintro e w' ⟨rfl, rfl⟩)
    | (refine ⟨trivial, ?_⟩; gi_at_call 40; refine (bytesOf_in Fence.wide _ trivial rfl _ _ _).mono ?_; rintro e w' ⟨rfl, rfl⟩))
  have bn := ((bn1.alloc (.cells #[.slice (some ⟨w.heap.size + 1, 0, none⟩) s.size cap] 103)).alloc (.cells #[.int .i64 at'] 3)).alloc (.cells #[.int .i64 m] 3)
  have bt0 := ((Boxed.new W1 103 (.slice (some ⟨w.heap.size + 1, 0, none⟩) s.size cap)).alloc (.cells #[.int .i64 at'] 3)).alloc (.cells #[.int .i64 m] 3)
  have ba := (Boxed.new (W1.alloc (.cells #[.slice (some ⟨w.heap.size + 1, 0, none⟩) s.size cap] 103)) 3 (.int .i64 at')).alloc (.cells #[.int .i64 m] 3)
  have bm := Boxed.new ((W1.alloc (.cells #[.slice (some ⟨w.heap.size + 1, 0, none⟩) s.size cap] 103)).alloc (.cells #[.int .i64 at'] 3)) 3 (.int .i64 m)
  simp only [World.size_alloc, hsz] at bt0 ba bm
  have hb0 : HoldsB (((W1.alloc (.cells #[.slice (some ⟨w.heap.size + 1, 0, none⟩) s.size cap] 103)).alloc (.cells #[.int .i64 at'] 3)).alloc (.cells #[.int .i64 m] 3)) (w.heap.size + 1) s.data.toList :=
    ((hb1.alloc _).alloc _).alloc _
  have hB0 : Below w.heap.size w (((W1.alloc (.cells #[.slice (some ⟨w.heap.size + 1, 0, none⟩) s.size cap] 103)).alloc (.cells #[.int .i64 at'] 3)).alloc (.cells #[.int .i64 m] 3)) :=
    ((hbl1.alloc (by omega) _).alloc (by simp; omega) _).alloc (by simp; omega) _
  refine wpIn_rangeFunc_ownF rfl (by omega) (gf := 69) (lb := #[.pointer (some ⟨w.heap.size + 1 + 1 + 1 + 1, 0, none⟩), .pointer (some ⟨w.heap.size + 1 + 1 + 1, 0, none⟩)]) rfl trivial (enters_of Try.func69 (by kernel_rfl) rfl)
    (bytesOf_stops Fence.wide _ trivial rfl (by omega) (w.heap.size + 1 + 1 + 1) (w.heap.size + 1 + 1 + 1 + 1) at' m hm (by omega) _ (by simp; omega) (by simp; omega) ba.cell bm.cell) KeepsTwo.trans (keepsTwo_b (by simp; omega) (by simp; omega)) (Below.refl _ _) (fun _ => rfl)
    (fun pre W => ((Boxed W w.heap.size 3 (.int .i64 n) ∧ Boxed W (w.heap.size + 1 + 1) 103 (.slice (some ⟨w.heap.size + 1, 0, none⟩) s.size cap)) ∧ HoldsB W (w.heap.size + 1) (putFold s at' n (pre.map (·.1)))) ∧ Below w.heap.size w W)
    (fun _ _ _ => False)
    (OwnFrom.and (OwnFrom.and (OwnFrom.and (Own.from (boxed_own _ _ _) _) (Own.from (boxed_own _ _ _) _)) (Own.from (holdsB_own _ _) _)) (ownFrom_below (Nat.le_refl _) (by simp; omega)))
    (fun _ _ _ _ _ hs _ _ => hs)
    ⟨⟨⟨bn, bt0⟩, hb0⟩, hB0⟩
    (fun x => { tmps := #[.string s, .int .i64 at', .int .i64 m, .int .i64 n, undef, undef, undef, .pointer (some ⟨w.heap.size, 0, none⟩), .string ⟨#[]⟩, .int .i64 0, .int .i64 0, .pointer (some ⟨w.heap.size + 1 + 1, 0, none⟩),
        .int .i64 (at' + x.1), .int .i64 (8 * (x.1 : Int)), .string s, .int .i64 s.size, .int .i64 at', .int .i64 m, .int .i64 0, .int .i64 0, .bool false, undef, .string s, .slice (some ⟨w.heap.size + 1, 0, none⟩) s.size cap, .int .i64 at', .int .i64 m,
        .func (.func 69) #[] #[.pointer (some ⟨w.heap.size + 1 + 1 + 1 + 1, 0, none⟩), .pointer (some ⟨w.heap.size + 1 + 1 + 1, 0, none⟩)], .int .i64 (at' + x.1), .int .i64 (8 * (x.1 : Int)),
        undef, undef, undef, undef, undef, undef, undef, undef, undef], defers := [] }) ?assign ?body ?done ?stop
  case assign =>
    intro l x W K hK
    gi_wp2
    exact hK
  case body =>
    rintro l pre ⟨x, hx⟩ W ⟨⟨⟨hbn, hbt⟩, hbb⟩, hB⟩ _
    have hcn := hbn.cell
    have hct := hbt.cell
    have hlen := putFold_length s at' n (pre.map (·.1))
    obtain ⟨b0, hb0'⟩ : ∃ v, (putFold s at' n (pre.map (·.1)))[at' + x]? = some v := ⟨_, List.getElem?_eq_getElem (by omega)⟩
    obtain ⟨hcc, hfc⟩ := hbb (at' + x) b0 hb0'
    have hset := hbb.set (at' + x) (byteOf n x) (by omega)
    have HB := byteOf_toNat n x
    have HBN : Hid (HoldsB (W.setCell ⟨w.heap.size + 1, at' + x, none⟩ (.int .u8 (n / 2 ^ (8 * x) % 256))).drew (w.heap.size + 1) ((putFold s at' n (pre.map (·.1))).set (at' + x) (byteOf n x))) := by rw [pow_256, ← HB]; exact hset
    clear bn bt0 ba bm hB0 hwr hb0 hb1 bn1 hbl1 hconv hlen HB hset hb0'
    have hmx : Try.prog.follows .mixedOrders = true := by kernel_rfl
    have hx0 : (at' : Int) + x < s.size := by omega
    have hx1 : (x : Int) ≤ 3 := by omega
    gi_wp2
    gi_region_o
    all_goals gi_wp2
    all_goals (try go_bits)
    all_goals
      exact ⟨(KeepsOthers.setCell _ _ _).trans (KeepsOthers.drew _), keepsTwo_set (by omega) (by omega) _ _, ⟨⟨boxed_otherAt hbn (by omega) _ _, boxed_otherAt hbt (by omega) _ _⟩, by rw [List.map_append, List.map_cons, List.map_nil, putFold_snoc]; exact HBN.out⟩, (hB.setCell (p := ⟨w.heap.size + 1, at' + x, none⟩) (Nat.le_succ _) _).drew⟩
  case done =>
    rintro D ys W hD hys ⟨⟨⟨_, hbt⟩, hbb⟩, hB⟩ hK
    have hct := hbt.cell
    have hlen := putFold_length s at' n (List.range m)
    rw [hys] at hbb
    have hback := run_convert_bytes_back (P := Try.prog) W 103 9 5 ⟨w.heap.size + 1, 0, none⟩ cap (putFold s at' n (List.range m)) Try.underlying103 Try.underlying5 Try.underlying9
      (fun j hj => by
        have := (hbb j _ (List.getElem?_eq_getElem hj)).1
        by_cases e : j = 0
        · subst e; simpa [Addr.add] using this
        · simpa [Addr.add, e] using this)
    rw [hlen] at hback
    change _ = Result.ok (Value.string (putS s at' m n)) W at hback
    clear bn bt0 ba bm hB0 hwr hb0 hb1 bn1 hbl1 hconv hlen hbb hys hbt
    gi_wp2
    refine ⟨by simp, .inl ⟨_, _, rfl, run_takeDeferred hK, ?_⟩⟩
    exact ⟨_, by simp [results, Try.f37, go_sem], rfl, hB.trans (belowK_b (w := w) (Nat.le_refl _) W D _ _ (by simp at hD; omega) hK rfl rfl)⟩
  case stop =>
    rintro D c pre W _ _ h _
    exact h.elim

end Go.Proofs.Ytaklbnabgcglhab
