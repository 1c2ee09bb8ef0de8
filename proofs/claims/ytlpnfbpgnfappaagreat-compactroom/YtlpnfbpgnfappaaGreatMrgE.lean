/- Texts that are laid together. -/
import Derived.Test.YtlpnfbpgnfappaaGreatMrgD
import Derived.Shelf.RegionOpenPlain
import Derived.Deep.RegionLaw
import Derived.Lib.SliceRun
import Derived.Test.YtlpnfbpgnfappaaGreatProg
import Derived.RangeFuncNested
import Derived.RangeFuncBound
import Derived.RangeFuncCalls
import Derived.RangeFuncLeaves
import Derived.RangeFuncBox
import Derived.Shelf.Abstract
import Derived.Shelf.RegionOpen
import Derived.WalkKit
import Derived.OwnWalkIn
import Derived.TacticsInMore
import Derived.LoopNIn
import Derived.LoopIn
import Derived.Test.YtlpnfbpgnfappaaGreatMrgA
import Derived.Laws.IdiomStrings

/- The contract of slices.Delete at placed modules: one of a row of one's own is taken out. -/
namespace Go.Proofs.YtlpnfbpgnfappaaGreat
open Go.RowKit Go.PlainAid Go.Lib

set_option maxRecDepth 100000

def zeros8 : List Value := [.string ⟨#[]⟩, .int .i64 0, .int .i64 0, .string ⟨#[]⟩, .slice none 0 0, .slice none 0 0, .slice none 0 0, .int .i64 0]
theorem zero_placed (w : World) : (zeroValue 57).run Tryz.prog w = .ok (.agg #[.string ⟨#[]⟩, .int .i64 0, .int .i64 0, .string ⟨#[]⟩, .slice none 0 0, .slice none 0 0, .slice none 0 0, .int .i64 0]) w := by
  obtain ⟨i0, hi0, hz0, _, _⟩ := infoPlc_parts
  simp [zeroValue, typeInfo, hi0, hz0]
theorem zeros8_cells : (Builtin.zeroCells (Value.agg #[.string ⟨#[]⟩, .int .i64 0, .int .i64 0, .string ⟨#[]⟩, .slice none 0 0, .slice none 0 0, .slice none 0 0, .int .i64 0]).cells 1).toList = zeros8 := by kernel_rfl
theorem zeros8_one : ∀ v ∈ zeros8, v.oneCell' = true := by
  intro v hv
  simp only [zeros8, List.mem_cons, List.not_mem_nil, or_false] at hv
  rcases hv with rfl | rfl | rfl | rfl | rfl | rfl | rfl | rfl <;> rfl

set_option maxHeartbeats 4000000 in
theorem delPlc_any (g n cap i base : Nat) (l : List PV) (w : World) (hown : w.ownsRow base 57 8 (.slice (some ⟨g, 0, none⟩) n cap) n (l.flatMap pvC)) (hn : l.length = n) (hi : i < n) (hone : ∀ u ∈ l.flatMap pvC, u.oneCell' = true) (h255 : n ≤ 255) :
    Calls Tryz.prog 100 #[.slice (some ⟨g, 0, none⟩) n cap, .int .i64 i, .int .i64 ((i : Int) + 1)] w fun e w' => e = .returned (.slice (some ⟨g, 0, none⟩) (n - 1) cap) ∧ w'.ownsRow base 57 8 (.slice (some ⟨g, 0, none⟩) (n - 1) cap) (n - 1) ((l.eraseIdx i).flatMap pvC) ∧ w.grownBy w' (some g) := by
  obtain ⟨i0, hi0, hz0, hz1, hz2⟩ := infoPlc_parts
  have hcap := own_capB hown
  obtain ⟨m, hm⟩ : ∃ m, n = i + (m + 1) := ⟨n - i - 1, by omega⟩
  have hfl : (l.flatMap pvC).length = n * 8 := by rw [flat_len (C := pvC) (sz := 8) (fun _ => rfl), hn]
  have htake : (l.flatMap pvC).take (i * 8) = (l.take i).flatMap pvC := by rw [← flat_take (C := pvC) (sz := 8) (fun _ => rfl)]
  have hdrop : (l.flatMap pvC).drop ((i + 1) * 8) = (l.drop (i + 1)).flatMap pvC := by rw [← flat_drop (C := pvC) (sz := 8) (fun _ => rfl)]
  obtain ⟨A, hA, hsrc⟩ : ∃ A : Addr, (if cap = i + 1 then some (⟨g, 0, none⟩ : Addr) else some ⟨g, (i + 1) * 8, none⟩) = some A ∧ Hid (∀ t u, ((l.drop (i + 1)).flatMap pvC)[t]? = some u → w.drew.cell? (A.add t) = some u) := by
    by_cases h : cap = i + 1
    · refine ⟨⟨g, 0, none⟩, by simp [h], fun t u hu => ?_⟩
      have h0 : l.drop (i + 1) = [] := List.drop_eq_nil_iff.2 (by omega)
      rw [h0] at hu
      simp at hu
    · refine ⟨⟨g, (i + 1) * 8, none⟩, by simp [h], fun t u hu => ?_⟩
      rw [add_none]
      refine own_cellAt hown ?_
      rw [← hdrop, List.getElem?_drop] at hu
      exact hu
  have hlen : ((l.drop (i + 1)).flatMap pvC).length = m * 8 := by rw [flat_len (C := pvC) (sz := 8) (fun _ => rfl), List.length_drop, hn]; congr 1; omega
  have hoc : Hid (∀ u ∈ (l.drop (i + 1)).flatMap pvC, u.oneCell' = true) := fun u hu => by
    rw [← hdrop] at hu
    exact hone u (List.mem_of_mem_drop hu)
  obtain ⟨news, hnews⟩ : ∃ news, (l.drop (i + 1)).flatMap pvC = news := ⟨_, rfl⟩
  rw [hnews] at hlen hoc hsrc
  have hsp : Hid (∀ t, t < news.length → (w.drew.cell? ⟨g, 0 + i * 8 + t, none⟩).isSome = true ∧ w.drew.frozen? ⟨g, 0 + i * 8 + t, none⟩ = false) := by
    intro t ht
    rw [hlen] at ht
    rw [Nat.zero_add]
    exact own_spot hown _ (by omega)
  obtain ⟨W1, hW1⟩ : ∃ W1, W1 = w.drew.setCells g (0 + i * 8) news := ⟨_, rfl⟩
  have hlay := own_lay news (l.flatMap pvC) (i * 8) w.drew hown.drew
  rw [layL_eq _ _ _ (by rw [hlen, hfl]; omega), htake] at hlay
  rw [Nat.zero_add] at hW1
  rw [← hW1] at hlay
  have ho1 : W1.ownsRow base 57 8 (.slice (some ⟨g, 0, none⟩) (n - 1) cap) (n - 1) ((l.eraseIdx i).flatMap pvC) := by
    have := own_cut (i := n - 1) hlay.1 (by omega)
    rw [List.append_assoc, ← List.append_assoc, List.take_append_of_le_length (by rw [List.length_append, hlen, flat_len (C := pvC) (sz := 8) (fun _ => rfl), List.length_take, hn]; omega), List.take_of_length_le (by rw [List.length_append, hlen, flat_len (C := pvC) (sz := 8) (fun _ => rfl), List.length_take, hn]; omega), ← hnews, ← List.flatMap_append, ← List.eraseIdx_eq_take_drop_succ] at this
    exact this
  have hg1 := hlay.2
  have hcl : ∀ ty c, (Builtin.clear_ #[25] ty #[.slice (some ⟨g, (n - 1) * 8, none⟩) 1 c]).run Tryz.prog W1 = .ok (.tuple #[]) (W1.setCells g ((n - 1) * 8) zeros8) := fun ty c =>
    run_clear_one W1 _ _ ty _ zeros8 Tryz.underlying25 zero_placed zeros8_cells zeros8_one g ((n - 1) * 8) c (fun j hj => (own_spot ho1 _ (by have : zeros8.length = 8 := rfl; omega)).1) (fun j hj => (own_spot ho1 _ (by have : zeros8.length = 8 := rfl; omega)).2)
  have hb2 := own_beyond zeros8 ((n - 1) * 8) W1 ho1 (Nat.le_refl _)
  have HO2 : Hid _ := hb2.1
  have HG2 : Hid (w.drew.grownBy (W1.setCells g ((n - 1) * 8) zeros8) (some g)) := hg1.trans hb2.2
  have HW : Hid (W1 = w.drew.setCells g (0 + i * 8) news) := by rw [Nat.zero_add]; exact hW1
  have s1 : Hid (news.length = m * 8) := hlen
  have hle : Hid (i + m ≤ cap) := by show _ ≤ _; omega
  clear hb2 hg1 ho1 hlay hW1 hlen hown hone hfl htake hdrop hnews
  subst hm
  have e1 : i + (m + 1) - 1 = i + m := by omega
  rw [e1] at hcl HO2 HG2 ⊢
  clear e1
  have hij : ¬ ((i : Int) = (i : Int) + 1) := by omega
  have hw1 : IntKind.i64.wrap ((i : Int) + 1) = (i : Int) + 1 := by rw [IntKind.wrap_i64]; omega
  have hne : ¬ (cap = i + m) := by omega
  have hic : i ≤ cap := by omega
  have hk1 : (1 : Int) ≤ (m : Int) + 1 := by omega
  have hmm : i + (m + 1) - (i + 1) = m := by omega
  have mixed : Tryz.prog.follows Departure.mixedOrders = true := by kernel_rfl
  have hjc : i + 1 ≤ cap := by omega
  have hjn : ((i : Int) + 1).toNat = i + 1 := by omega
  have hj0 : (0 : Int) ≤ (i : Int) + 1 := by omega
  have h1e : i + (m + 1) - (i + m) = 1 := by omega
  go_enter Tryz.func100, Tryz.ntmps100
  go_wp2_with fail
  go_region_law_o (refine step_append_room rfl _ _ 25 rfl 57 i0 8 Tryz.underlying25 hi0 hz1 g 0 i cap (by simp [Act.eval, Act.put]) A m (cap - (i + 1)) news (by simp [Act.eval, Act.put]) s1.out hsrc.out hoc.out hle.out hsp.out ?_; rw [← HW.out])
  go_wp2
  go_ret
  exact ⟨rfl, HO2.out, (grown_drew w _).trans HG2.out⟩

end Go.Proofs.YtlpnfbpgnfappaaGreat

/- The contracts of word.wrongPlace, word.Signed, word.bytesOf and of the function that it hands back. -/
namespace Go.Proofs.YtlpnfbpgnfappaaGreat
open Go.RowKit Go.Shelf
attribute [local go_sem] Oper.semAt_some

/-- Why so many bytes from a place on are no number of a text of that length. -/
def wrongAt (len at' bytes : Int) : Int := if bytes < 1 ∨ 4 < bytes then 7 else if at' < 0 ∨ len - bytes < at' then 3 else 0

set_option maxHeartbeats 400000 in
theorem wrongPlace_any (len at' bytes : Int) (w : World) (h0 : 0 ≤ len) (h1 : len ≤ 140737488351232) :
    Calls Tryz.prog 187 #[.int .i64 len, .int .i64 at', .int .i64 bytes] w fun e w' => e = .returned (.int .i64 (wrongAt len at' bytes)) ∧ w' = w := by
  by_cases a : bytes < 1
  · go_enter Tryz.func187, Tryz.ntmps187
    go_wp2
    go_ret
    exact ⟨by simp [wrongAt, a], rfl⟩
  by_cases b : 4 < bytes
  · go_enter Tryz.func187, Tryz.ntmps187
    go_wp2
    go_ret
    exact ⟨by simp [wrongAt, b], rfl⟩
  by_cases c : at' < 0
  · go_enter Tryz.func187, Tryz.ntmps187
    go_wp2
    go_ret
    exact ⟨by simp [wrongAt, a, b, c], rfl⟩
  by_cases d : len - bytes < at'
  · go_enter Tryz.func187, Tryz.ntmps187
    go_wp2
    go_ret
    exact ⟨by simp [wrongAt, a, b, d], rfl⟩
  · go_enter Tryz.func187, Tryz.ntmps187
    go_wp2
    go_ret
    have e : wrongAt len at' bytes = 0 := by unfold wrongAt; rw [if_neg (by omega), if_neg (by omega)]
    exact ⟨by rw [e]; rfl, rfl⟩

theorem two_pow_half (bits : Int) (h1 : 1 ≤ bits) (h2 : bits ≤ 32) : ∃ q : Int, 2 ^ bits.toNat = 2 * q ∧ 1 ≤ q ∧ q ≤ 2147483648 := by
  obtain ⟨k, hk, rfl⟩ : ∃ k : Nat, k ≤ 31 ∧ bits = (k : Int) + 1 := ⟨(bits - 1).toNat, by omega, by omega⟩
  refine ⟨2 ^ k, ?_, Int.pow_pos (by omega), ?_⟩
  · rw [show ((k : Int) + 1).toNat = k + 1 from by omega, Int.pow_succ]; omega
  · have := Nat.pow_le_pow_right (n := 2) (by omega) hk
    have h : ((2 ^ k : Nat) : Int) ≤ ((2 ^ 31 : Nat) : Int) := Int.ofNat_le.2 this
    simpa using h

/-- The signed number, and the error. -/
def signedN (n bits : Int) : Int := if bits < 1 ∨ 32 < bits then 0 else if n < 0 ∨ 2 ^ bits.toNat ≤ n then 0 else if 2 ^ bits.toNat / 2 ≤ n then n - 2 ^ bits.toNat else n
def signedE (n bits : Int) : Int := if bits < 1 ∨ 32 < bits then 7 else if n < 0 ∨ 2 ^ bits.toNat ≤ n then 3 else 0

set_option maxHeartbeats 400000 in
/-- bytesOf boxes its two numbers; what it hands back has captured the boxes. -/
theorem bytesOf_in (F : Fence) (n : Nat) (hF : F.fn 188) (hro : F.round = none) (at' bytes : Int) (w : World) :
    CallsIn F n Tryz.prog 188 #[.int .i64 at', .int .i64 bytes] w fun e w' =>
      e = .returned (.func (.func 214) #[] #[.pointer (some ⟨w.heap.size + 1, 0, none⟩), .pointer (some ⟨w.heap.size, 0, none⟩)]) ∧
      w' = (w.alloc (.cells #[.int .i64 at'] 3)).alloc (.cells #[.int .i64 bytes] 3) := by
  refine callsIn_of_wp Tryz.func188 rfl hF ?_ hro
  simp only [Tryz.ntmps188, List.size_toArray, List.length_cons, List.length_nil, Nat.reduceAdd, Nat.reduceSub, Array.replicate_succ, Array.replicate_zero, List.push_toArray, List.append_toArray, List.nil_append, List.cons_append]
  gi_wp2
  go_ret
  exact ⟨rfl, rfl⟩

/-- What has come when k rounds are over. -/
def upto {α : Type} (f : Nat → α) (k : Nat) : List α := (List.range k).map f
theorem upto_succ {α : Type} (f : Nat → α) (k : Nat) : upto f (k + 1) = upto f k ++ [f k] := by simp [upto, List.range_succ]
theorem upto_length {α : Type} (f : Nat → α) (k : Nat) : (upto f k).length = k := by simp [upto]

/-- The two boxes hold what they held. -/
def KeepsTwo (Ba Bb : Nat) (W W' : World) : Prop := W'.cell? ⟨Ba, 0, none⟩ = W.cell? ⟨Ba, 0, none⟩ ∧ W'.cell? ⟨Bb, 0, none⟩ = W.cell? ⟨Bb, 0, none⟩
theorem KeepsTwo.refl (Ba Bb : Nat) (W : World) : KeepsTwo Ba Bb W W := ⟨rfl, rfl⟩
theorem KeepsTwo.trans {Ba Bb : Nat} {A B C : World} (h : KeepsTwo Ba Bb A B) (k : KeepsTwo Ba Bb B C) : KeepsTwo Ba Bb A C := ⟨k.1.trans h.1, k.2.trans h.2⟩

set_option maxRecDepth 100000 in
set_option maxHeartbeats 1000000 in
/-- bytesOf's function: for i := range bytes: yield(at+i, 8*i). -/
theorem bytesOf1_in (F : Fence) (n : Nat) (hF : F.fn 214) (hro : F.round = none) (hn : 1 ≤ n) (l Ba Bb at' m : Nat) (hm : m ≤ 4) (ha : at' ≤ 140737488351232) (J Jx : List (Fin m) → World → Prop)
    (hY : ∀ pre x W, J pre W → pre.length < m → YieldAt F (n - 1) Tryz.prog l #[.int .i64 ((at' : Int) + (x : Fin m).1), .int .i64 (8 * ((x : Fin m).1 : Int))] W fun e W' =>
      (e = .returned (.bool true) ∧ J (pre ++ [x]) W' ∧ KeepsTwo Ba Bb W W') ∨ (e = .returned (.bool false) ∧ Jx (pre ++ [x]) W'))
    (W : World) (hA : W.cell? ⟨Ba, 0, none⟩ = some (.int .i64 at')) (hB : W.cell? ⟨Bb, 0, none⟩ = some (.int .i64 m)) (h0 : J [] W) :
    CallsIn F n Tryz.prog 214 #[.func (.yield l) #[] #[], .pointer (some ⟨Bb, 0, none⟩), .pointer (some ⟨Ba, 0, none⟩)] W fun e W' => (∃ v, e = .returned v) ∧
      ((∃ ys : List (Fin m), ys.map (·.1) = List.range m ∧ J ys W') ∨ (∃ pre, Jx pre W')) := by
  refine callsIn_of_wp Tryz.func214 rfl hF ?_ hro
  simp only [Tryz.ntmps214, List.size_toArray, List.length_cons, List.length_nil, Nat.reduceAdd, Nat.reduceSub, Array.replicate_succ, Array.replicate_zero, List.push_toArray, List.append_toArray, List.nil_append, List.cons_append]
  gi_wp2
  gi_loopw [6] (fun i wr => ∃ k : Nat, k ≤ m ∧ i = .int .i64 k ∧ (∃ ys : List (Fin m), ys.map (·.1) = List.range k ∧ J ys wr) ∧ KeepsTwo Ba Bb W wr)
    (fun i _ => m - (intOf i).toNat)
  case atStart => exact ⟨0, Nat.zero_le _, rfl, ⟨[], rfl, h0⟩, KeepsTwo.refl _ _ _⟩
  case round =>
    obtain ⟨k, hk, rfl, ⟨ys, hys, hJs⟩, hnx⟩ := hrel
    have hcA : wr.cell? ⟨Ba, 0, none⟩ = some (.int .i64 at') := hnx.1.trans hA
    have hYS : Hid (ys.map (·.1) = List.range k) := hys
    have hylen : ys.length = k := by have := congrArg List.length hys; simpa using this
    clear hys
    by_cases hlt : k < m
    · obtain ⟨fn, tmps, assign, body, hy, hR⟩ := hY ys ⟨k, hlt⟩ wr hJs (by omega)
      dsimp only at hy
      clear hylen
      gi_wp2
      refine hR.mono ?_
      rintro e W3 (⟨rfl, hJ3, hk3⟩ | ⟨rfl, hJx3⟩)
      · gi_wp2
        go_roundw
        case rel => exact ⟨k + 1, by omega, by simp, ⟨ys ++ [⟨k, hlt⟩], by rw [List.map_append, hYS.out, List.range_succ]; rfl, hJ3⟩, hnx.trans hk3⟩
        case measure => simp [intOf]; omega
      · gi_wp2
        refine bodyPost_ret (results_none rfl _ _ _) rfl ?_
        exact ⟨⟨_, rfl⟩, .inr ⟨_, hJx3⟩⟩
    · obtain rfl : k = m := by omega
      clear hylen
      gi_wp2
      go_end0
      exact ⟨⟨_, rfl⟩, .inl ⟨ys, hYS.out, hJs⟩⟩

end Go.Proofs.YtlpnfbpgnfappaaGreat

/- The contract of word.Get. -/
namespace Go.Proofs.YtlpnfbpgnfappaaGreat
open Go.RowKit Go.Shelf Go.PlainAid
attribute [local go_sem] Oper.semAt_some

theorem bytesOf_stops (F : Fence) (n : Nat) (hF : F.fn 214) (hro : F.round = none) (hn : 1 ≤ n) (Ba Bb at' m : Nat) (hm : m ≤ 4) (ha : at' ≤ 140737488351232) (w : World) (hBa : Ba < w.heap.size) (hBb : Bb < w.heap.size)
    (hA : w.cell? ⟨Ba, 0, none⟩ = some (.int .i64 at')) (hB : w.cell? ⟨Bb, 0, none⟩ = some (.int .i64 m)) :
    SeqStopsK F n Tryz.prog 214 #[.pointer (some ⟨Bb, 0, none⟩), .pointer (some ⟨Ba, 0, none⟩)] (fun x : Fin m => #[Value.int .i64 ((at' : Int) + x.1), Value.int .i64 (8 * (x.1 : Int))]) (KeepsTwo Ba Bb)
      (fun ys => ys.map (·.1) = List.range m) (fun _ => True) m w := fun l J Jx W hW _ _ hY h0 => by
  refine (bytesOf1_in F n hF hro hn l Ba Bb at' m hm ha J Jx hY W ((hW.cell (p := ⟨Ba, 0, none⟩) hBa).trans hA) ((hW.cell (p := ⟨Bb, 0, none⟩) hBb).trans hB) h0).mono ?_
  rintro e W' ⟨he, ⟨ys, hy, hj⟩ | ⟨pre, hj⟩⟩
  · exact ⟨he, .inl ⟨ys, hy, hj⟩⟩
  · exact ⟨he, .inr ⟨pre, trivial, hj⟩⟩

theorem keepsTwo_b {Ba Bb : Nat} {w : World} (ha : Ba < w.heap.size) (hb : Bb < w.heap.size) (W : World) (l : Nat) (o o' : Obj) (hl : w.heap.size ≤ l) (h : W.heap[l]? = some o) (c : o.isCells = false) (d : o.isWalk = false) : KeepsTwo Ba Bb W (W.putObj l o') :=
  have hk := belowK_b (Nat.le_refl _) W l o o' hl h c d
  ⟨hk.cell (p := ⟨Ba, 0, none⟩) ha, hk.cell (p := ⟨Bb, 0, none⟩) hb⟩

theorem keepsTwo_set {Ba Bb B o : Nat} (ha : Ba ≠ B) (hb : Bb ≠ B) (W : World) (v : Value) : KeepsTwo Ba Bb W (W.setCell ⟨B, o, none⟩ v).drew :=
  ⟨World.cell?_of_block (w := W) (Below.heap_setCell _ _ _ _ ha), World.cell?_of_block (w := W) (Below.heap_setCell _ _ _ _ hb)⟩

set_option maxRecDepth 100000 in
set_option maxHeartbeats 1000000 in
theorem get_ok_in (s : ByteArray) (at' m : Nat) (w : World)
    (hs : s.size ≤ 140737488351232) (hm1 : 1 ≤ m) (hm : m ≤ 4) (ha : at' + m ≤ s.size) :
    CallsIn Fence.wide 8 Tryz.prog 168 #[.string s, .int .i64 at', .int .i64 m] w fun e w' =>
      e = .returned (.tuple #[.int .i64 (getN s at' m), .int .i64 0]) ∧ Below w.heap.size w w' := by
  have hwr : wrongAt s.size at' m = 0 := by unfold wrongAt; rw [if_neg (by omega), if_neg (by omega)]
  refine callsIn_of_wp_marks Tryz.func168 rfl trivial ?_ rfl
  simp only [Tryz.ntmps168, List.size_toArray, List.length_cons, List.length_nil, Nat.reduceAdd, Nat.reduceSub, Array.replicate_succ, Array.replicate_zero, List.push_toArray, List.append_toArray, List.nil_append, List.cons_append]
  gi_wp2_with (first
    | (refine ⟨trivial, ?_⟩; gi_at_call 187; refine (callsIn_wide.2 (wrongPlace_any _ _ _ _ (by omega) (by omega))).mono ?_; rw [hwr]; rintro e w' ⟨rfl, rfl⟩)
    | (refine ⟨trivial, ?_⟩; gi_at_call 188; refine (bytesOf_in Fence.wide _ trivial rfl _ _ _).mono ?_; rintro e w' ⟨rfl, rfl⟩))
  have bs := (((Boxed.new w 9 (.string s)).alloc (.cells #[.int .i64 0] 3)).alloc (.cells #[.int .i64 at'] 3)).alloc (.cells #[.int .i64 m] 3)
  have bn := ((Boxed.new (w.alloc (.cells #[.string s] 9)) 3 (.int .i64 0)).alloc (.cells #[.int .i64 at'] 3)).alloc (.cells #[.int .i64 m] 3)
  have ba := (Boxed.new ((w.alloc (.cells #[.string s] 9)).alloc (.cells #[.int .i64 0] 3)) 3 (.int .i64 at')).alloc (.cells #[.int .i64 m] 3)
  have bm := Boxed.new (((w.alloc (.cells #[.string s] 9)).alloc (.cells #[.int .i64 0] 3)).alloc (.cells #[.int .i64 at'] 3)) 3 (.int .i64 m)
  simp only [World.size_alloc] at bn ba bm
  have hB0 : Below w.heap.size w ((((w.alloc (.cells #[.string s] 9)).alloc (.cells #[.int .i64 0] 3)).alloc (.cells #[.int .i64 at'] 3)).alloc (.cells #[.int .i64 m] 3)) :=
    ((((Below.refl _ w).alloc (Nat.le_refl _) _).alloc (by simp) _).alloc (by simp; omega) _).alloc (by simp; omega) _
  refine wpIn_rangeFunc_ownF rfl (by omega) (gf := 214) (lb := #[.pointer (some ⟨w.heap.size + 1 + 1 + 1, 0, none⟩), .pointer (some ⟨w.heap.size + 1 + 1, 0, none⟩)]) rfl trivial (enters_of Tryz.func214 (by kernel_rfl) rfl)
    (bytesOf_stops Fence.wide _ trivial rfl (by omega) (w.heap.size + 1 + 1) (w.heap.size + 1 + 1 + 1) at' m hm (by omega) _ (by simp) (by simp) ba.cell bm.cell) KeepsTwo.trans (keepsTwo_b (by simp) (by simp)) (Below.refl _ _) (fun _ => rfl)
    (fun pre W => (Boxed W w.heap.size 9 (.string s) ∧ Boxed W (w.heap.size + 1) 3 (.int .i64 (getFold s at' (pre.map (·.1))))) ∧ Below w.heap.size w W)
    (fun _ _ _ => False)
    (OwnFrom.and (OwnFrom.and (Own.from (boxed_own _ _ _) _) (Own.from (boxed_own _ _ _) _)) (ownFrom_below (Nat.le_refl _) (by simp; omega)))
    (fun _ _ _ _ _ hs _ _ => hs)
    ⟨⟨bs, bn⟩, hB0⟩
    (fun x => { tmps := #[.string s, .int .i64 at', .int .i64 m, .pointer (some ⟨w.heap.size, 0, none⟩), undef, undef, .int .i64 0, .int .i64 0, .int .i64 0, .pointer (some ⟨w.heap.size + 1, 0, none⟩),
        .int .i64 (at' + x.1), .int .i64 (8 * (x.1 : Int)), .string s, .int .i64 s.size, .int .i64 at', .int .i64 m, .int .i64 0, .int .i64 0, .bool false, undef, .int .i64 at', .int .i64 m,
        .func (.func 214) #[] #[.pointer (some ⟨w.heap.size + 1 + 1 + 1, 0, none⟩), .pointer (some ⟨w.heap.size + 1 + 1, 0, none⟩)], .int .i64 (at' + x.1), .int .i64 (8 * (x.1 : Int)),
        undef, undef, undef, undef, undef, undef, undef, undef, undef], defers := [] }) ?assign ?body ?done ?stop
  case assign =>
    intro l x W K hK
    gi_wp2
    exact hK
  case body =>
    rintro l pre ⟨x, hx⟩ W ⟨⟨hbs, hbn⟩, hB⟩ _
    have hcs := hbs.cell
    have hcn := hbn.cell
    have hfn := hbn.frozen
    clear bs bn ba bm hB0 hwr
    have hmx : Tryz.prog.follows .mixedOrders = true := by kernel_rfl
    have hx0 : (at' : Int) + x < s.size := by omega
    have hx1 : (x : Int) ≤ 3 := by omega
    have hbt := get_bt s
    gi_wp2
    gi_region_o
    all_goals gi_wp2
    all_goals (try go_bits)
    all_goals
      exact ⟨(KeepsOthers.setCell _ _ _).trans (KeepsOthers.drew _), keepsTwo_set (by omega) (by omega) _ _, ⟨hbs.other (by omega) _, by rw [List.map_append, List.map_cons, List.map_nil, getFold_snoc]; exact hbn.set _⟩, (hB.setCell (p := ⟨w.heap.size + 1, 0, none⟩) (Nat.le_succ _) _).drew⟩
  case done =>
    rintro D ys W hD hys ⟨⟨_, hbn⟩, hB⟩ hK
    have hcn := hbn.cell
    rw [hys, getFold_range s at' m hm] at hcn
    clear hbn
    gi_wp2
    refine ⟨by simp, .inl ⟨_, _, rfl, run_takeDeferred hK, ?_⟩⟩
    exact ⟨_, by simp [results, Tryz.f168, go_sem], rfl, hB.trans (belowK_b (w := w) (Nat.le_refl _) W D _ _ (by simp at hD; omega) hK rfl rfl)⟩
  case stop =>
    rintro D c pre W _ _ h _
    exact h.elim

end Go.Proofs.YtlpnfbpgnfappaaGreat

/- The contract of word.Put. -/
namespace Go.Proofs.YtlpnfbpgnfappaaGreat
open Go.RowKit Go.Shelf Go.PlainAid
attribute [local go_sem] Oper.semAt_some

/-- Block b holds these bytes, and they may be written. -/
def HoldsB (W : World) (b : Nat) (l : List UInt8) : Prop := ∀ j v, l[j]? = some v → W.cell? ⟨b, j, none⟩ = some (.int .u8 (v.toNat : Int)) ∧ W.frozen? ⟨b, j, none⟩ = false

theorem HoldsB.set {W : World} {b : Nat} {l : List UInt8} (h : HoldsB W b l) (i : Nat) (v : UInt8) (hi : i < l.length) : HoldsB (W.setCell ⟨b, i, none⟩ (.int .u8 (v.toNat : Int))).drew b (l.set i v) := by
  intro j u hj
  show (W.setCell ⟨b, i, none⟩ (.int .u8 (v.toNat : Int))).cell? ⟨b, j, none⟩ = _ ∧ (W.setCell ⟨b, i, none⟩ (.int .u8 (v.toNat : Int))).frozen? ⟨b, j, none⟩ = false
  rw [World.frozen?_setCell]
  by_cases e : i = j
  · subst e
    rw [List.getElem?_set_self hi] at hj
    cases hj
    obtain ⟨h1, h2⟩ := h i l[i] (List.getElem?_eq_getElem hi)
    exact ⟨World.cell?_setCell_same' _ _ _ (by rw [h1]; rfl), h2⟩
  · rw [List.getElem?_set_ne e] at hj
    obtain ⟨h1, h2⟩ := h j u hj
    exact ⟨(World.cell?_setCell_other _ _ _ _ (by intro h; cases h; exact e rfl)).trans h1, h2⟩

theorem HoldsB.alloc {W : World} {b : Nat} {l : List UInt8} (h : HoldsB W b l) (o : Obj) : HoldsB (W.alloc o) b l := fun j v hj =>
  ⟨cell_kept (h j v hj).1 (World.grownBy_alloc W o none) (fun r e => by cases e), (frozen_kept (h j v hj).1 (World.grownBy_alloc W o none) (fun r e => by cases e)).trans (h j v hj).2⟩

theorem holdsB_own {β : Type} (b : Nat) (f : β → List UInt8) : Own (fun s W => HoldsB W b (f s)) := fun _ _ _ _ hs hg hr j v hj =>
  ⟨cell_kept (hs j v hj).1 hg hr, (frozen_kept (hs j v hj).1 hg hr).trans (hs j v hj).2⟩

theorem boxed_otherAt {W : World} {B B' : Nat} {t : TypeId} {v : Value} (h : Boxed W B t v) (hne : B ≠ B') (o : Nat) (u : Value) : Boxed (W.setCell ⟨B', o, none⟩ u).drew B t v :=
  (Below.heap_setCell W ⟨B', o, none⟩ u B hne).trans h

theorem pow_256 (x : Nat) : (2 : Int) ^ (8 * x) = 256 ^ x := by rw [Int.pow_mul]; rfl

theorem bytes_of_string (w : World) (n : Int) (s : ByteArray) : ∃ cap W1, Sem.run Tryz.prog (convert 9 117 (Value.string s)) (w.alloc (.cells #[.int .i64 n] 3)) = .ok (.slice (some ⟨w.heap.size + 1, 0, none⟩) s.size cap) W1 ∧
    W1.heap.size = w.heap.size + 1 + 1 ∧ HoldsB W1 (w.heap.size + 1) s.data.toList ∧ Boxed W1 w.heap.size 3 (.int .i64 n) ∧ Below w.heap.size w W1 := by
  have h := run_bytes_of_string (P := Tryz.prog) (w.alloc (.cells #[.int .i64 n] 3)) 9 117 5 s Tryz.underlying9 Tryz.underlying117 Tryz.underlying5
  rw [World.size_alloc] at h
  refine ⟨_, _, h, by simp, ?_, ?_, ?_⟩
  · intro j v hj
    have hj' : j < s.data.size := by have := (List.getElem?_eq_some_iff.1 hj).1; simpa using this
    have h1 := World.cell?_alloc_mark (w.alloc (.cells #[.int .i64 n] 3)).drew (bytesRow s (grownCap (w.alloc (.cells #[.int .i64 n] 3)) s.size 0 5)) 5 ((bytesRow s (grownCap (w.alloc (.cells #[.int .i64 n] 3)) s.size 0 5)).size, (bytesRow s (grownCap (w.alloc (.cells #[.int .i64 n] 3)) s.size 0 5)).size + 1) j
    have h2 := World.frozen?_alloc_mark (w.alloc (.cells #[.int .i64 n] 3)).drew (bytesRow s (grownCap (w.alloc (.cells #[.int .i64 n] 3)) s.size 0 5)) 5 (bytesRow s (grownCap (w.alloc (.cells #[.int .i64 n] 3)) s.size 0 5)).size ((bytesRow s (grownCap (w.alloc (.cells #[.int .i64 n] 3)) s.size 0 5)).size + 1) j
    have e : (w.alloc (.cells #[.int .i64 n] 3)).drew.heap.size = w.heap.size + 1 := World.size_alloc _ _
    rw [e] at h1 h2
    refine ⟨h1.trans ?_, h2.trans ?_⟩
    · rw [bytesRow_at s _ j hj']
      have : s.data[j] = v := by
        have := (List.getElem?_eq_some_iff.1 hj).2
        simpa using this
      rw [this]
    · have : j < (bytesRow s (grownCap (w.alloc (.cells #[.int .i64 n] 3)) s.size 0 5)).size := by
        have : s.data.size = s.size := rfl
        simp [bytesRow]; omega
      rw [decide_eq_false (by omega)]; rfl
  · exact (show Boxed (w.alloc (.cells #[.int .i64 n] 3)).drew w.heap.size 3 (.int .i64 n) from Boxed.new w 3 (.int .i64 n)).alloc _
  · exact (((Below.refl _ w).alloc (Nat.le_refl _) _).drew).alloc (by simp) _

set_option maxRecDepth 100000 in
set_option maxHeartbeats 1000000 in
theorem put_ok_in (s : ByteArray) (at' m : Nat) (n : Int) (w : World)
    (hs : s.size ≤ 140737488351232) (hm1 : 1 ≤ m) (hm : m ≤ 4) (ha : at' + m ≤ s.size) :
    CallsIn Fence.wide 8 Tryz.prog 167 #[.string s, .int .i64 at', .int .i64 m, .int .i64 n] w fun e w' =>
      e = .returned (.tuple #[.string (putS s at' m n), .int .i64 0]) ∧ Below w.heap.size w w' := by
  have hwr : wrongAt s.size at' m = 0 := by unfold wrongAt; rw [if_neg (by omega), if_neg (by omega)]
  obtain ⟨cap, W1, hconv, hsz, hb1, bn1, hbl1⟩ := bytes_of_string w n s
  refine callsIn_of_wp_marks Tryz.func167 rfl trivial ?_ rfl
  simp only [Tryz.ntmps167, List.size_toArray, List.length_cons, List.length_nil, Nat.reduceAdd, Nat.reduceSub, Array.replicate_succ, Array.replicate_zero, List.push_toArray, List.append_toArray, List.nil_append, List.cons_append]
  gi_wp2_with (first
    | (refine ⟨trivial, ?_⟩; gi_at_call 187; refine (callsIn_wide.2 (wrongPlace_any _ _ _ _ (by omega) (by omega))).mono ?_; rw [hwr]; rintro e w' ⟨rfl, rfl⟩)
    | (refine ⟨trivial, ?_⟩; gi_at_call 188; refine (bytesOf_in Fence.wide _ trivial rfl _ _ _).mono ?_; rintro e w' ⟨rfl, rfl⟩))
  have bn := ((bn1.alloc (.cells #[.slice (some ⟨w.heap.size + 1, 0, none⟩) s.size cap] 117)).alloc (.cells #[.int .i64 at'] 3)).alloc (.cells #[.int .i64 m] 3)
  have bt0 := ((Boxed.new W1 117 (.slice (some ⟨w.heap.size + 1, 0, none⟩) s.size cap)).alloc (.cells #[.int .i64 at'] 3)).alloc (.cells #[.int .i64 m] 3)
  have ba := (Boxed.new (W1.alloc (.cells #[.slice (some ⟨w.heap.size + 1, 0, none⟩) s.size cap] 117)) 3 (.int .i64 at')).alloc (.cells #[.int .i64 m] 3)
  have bm := Boxed.new ((W1.alloc (.cells #[.slice (some ⟨w.heap.size + 1, 0, none⟩) s.size cap] 117)).alloc (.cells #[.int .i64 at'] 3)) 3 (.int .i64 m)
  simp only [World.size_alloc, hsz] at bt0 ba bm
  have hb0 : HoldsB (((W1.alloc (.cells #[.slice (some ⟨w.heap.size + 1, 0, none⟩) s.size cap] 117)).alloc (.cells #[.int .i64 at'] 3)).alloc (.cells #[.int .i64 m] 3)) (w.heap.size + 1) s.data.toList :=
    ((hb1.alloc _).alloc _).alloc _
  have hB0 : Below w.heap.size w (((W1.alloc (.cells #[.slice (some ⟨w.heap.size + 1, 0, none⟩) s.size cap] 117)).alloc (.cells #[.int .i64 at'] 3)).alloc (.cells #[.int .i64 m] 3)) :=
    ((hbl1.alloc (by omega) _).alloc (by simp; omega) _).alloc (by simp; omega) _
  refine wpIn_rangeFunc_ownF rfl (by omega) (gf := 214) (lb := #[.pointer (some ⟨w.heap.size + 1 + 1 + 1 + 1, 0, none⟩), .pointer (some ⟨w.heap.size + 1 + 1 + 1, 0, none⟩)]) rfl trivial (enters_of Tryz.func214 (by kernel_rfl) rfl)
    (bytesOf_stops Fence.wide _ trivial rfl (by omega) (w.heap.size + 1 + 1 + 1) (w.heap.size + 1 + 1 + 1 + 1) at' m hm (by omega) _ (by simp; omega) (by simp; omega) ba.cell bm.cell) KeepsTwo.trans (keepsTwo_b (by simp; omega) (by simp; omega)) (Below.refl _ _) (fun _ => rfl)
    (fun pre W => ((Boxed W w.heap.size 3 (.int .i64 n) ∧ Boxed W (w.heap.size + 1 + 1) 117 (.slice (some ⟨w.heap.size + 1, 0, none⟩) s.size cap)) ∧ HoldsB W (w.heap.size + 1) (putFold s at' n (pre.map (·.1)))) ∧ Below w.heap.size w W)
    (fun _ _ _ => False)
    (OwnFrom.and (OwnFrom.and (OwnFrom.and (Own.from (boxed_own _ _ _) _) (Own.from (boxed_own _ _ _) _)) (Own.from (holdsB_own _ _) _)) (ownFrom_below (Nat.le_refl _) (by simp; omega)))
    (fun _ _ _ _ _ hs _ _ => hs)
    ⟨⟨⟨bn, bt0⟩, hb0⟩, hB0⟩
    (fun x => { tmps := #[.string s, .int .i64 at', .int .i64 m, .int .i64 n, undef, undef, undef, .pointer (some ⟨w.heap.size, 0, none⟩), .string ⟨#[]⟩, .int .i64 0, .int .i64 0, .pointer (some ⟨w.heap.size + 1 + 1, 0, none⟩),
        .int .i64 (at' + x.1), .int .i64 (8 * (x.1 : Int)), .string s, .int .i64 s.size, .int .i64 at', .int .i64 m, .int .i64 0, .int .i64 0, .bool false, undef, .string s, .slice (some ⟨w.heap.size + 1, 0, none⟩) s.size cap, .int .i64 at', .int .i64 m,
        .func (.func 214) #[] #[.pointer (some ⟨w.heap.size + 1 + 1 + 1 + 1, 0, none⟩), .pointer (some ⟨w.heap.size + 1 + 1 + 1, 0, none⟩)], .int .i64 (at' + x.1), .int .i64 (8 * (x.1 : Int)),
        undef, undef, undef, undef, undef, undef, undef, undef, undef], defers := [] }) ?assign ?body ?done ?stop
  case assign =>
    intro l x W K hK
    gi_wp2
    exact hK
  case body =>
    rintro l pre ⟨x, hx⟩ W ⟨⟨⟨hbn, hbt⟩, hbb⟩, hB⟩ _
    have hcn := hbn.cell
    have hct := hbt.cell
    have hlen := putFold_length s at' n (pre.map (·.1))
    obtain ⟨b0, hb0'⟩ : ∃ v, (putFold s at' n (pre.map (·.1)))[at' + x]? = some v := ⟨_, List.getElem?_eq_getElem (by omega)⟩
    obtain ⟨hcc, hfc⟩ := hbb (at' + x) b0 hb0'
    have hset := hbb.set (at' + x) (byteOf n x) (by omega)
    have HB := byteOf_toNat n x
    have HBN : Hid (HoldsB (W.setCell ⟨w.heap.size + 1, at' + x, none⟩ (.int .u8 (n / 2 ^ (8 * x) % 256))).drew (w.heap.size + 1) ((putFold s at' n (pre.map (·.1))).set (at' + x) (byteOf n x))) := by rw [pow_256, ← HB]; exact hset
    clear bn bt0 ba bm hB0 hwr hb0 hb1 bn1 hbl1 hconv hlen HB hset hb0'
    have hmx : Tryz.prog.follows .mixedOrders = true := by kernel_rfl
    have hx0 : (at' : Int) + x < s.size := by omega
    have hx1 : (x : Int) ≤ 3 := by omega
    gi_wp2
    gi_region_o
    all_goals gi_wp2
    all_goals (try go_bits)
    all_goals
      exact ⟨(KeepsOthers.setCell _ _ _).trans (KeepsOthers.drew _), keepsTwo_set (by omega) (by omega) _ _, ⟨⟨boxed_otherAt hbn (by omega) _ _, boxed_otherAt hbt (by omega) _ _⟩, by rw [List.map_append, List.map_cons, List.map_nil, putFold_snoc]; exact HBN.out⟩, (hB.setCell (p := ⟨w.heap.size + 1, at' + x, none⟩) (Nat.le_succ _) _).drew⟩
  case done =>
    rintro D ys W hD hys ⟨⟨⟨_, hbt⟩, hbb⟩, hB⟩ hK
    have hct := hbt.cell
    have hlen := putFold_length s at' n (List.range m)
    rw [hys] at hbb
    have hback := run_convert_bytes_back (P := Tryz.prog) W 117 9 5 ⟨w.heap.size + 1, 0, none⟩ cap (putFold s at' n (List.range m)) Tryz.underlying117 Tryz.underlying5 Tryz.underlying9
      (fun j hj => by
        have := (hbb j _ (List.getElem?_eq_getElem hj)).1
        by_cases e : j = 0
        · subst e; simpa [Addr.add] using this
        · simpa [Addr.add, e] using this)
    rw [hlen] at hback
    change _ = Result.ok (Value.string (putS s at' m n)) W at hback
    clear bn bt0 ba bm hB0 hwr hb0 hb1 bn1 hbl1 hconv hlen hbb hys hbt
    gi_wp2
    refine ⟨by simp, .inl ⟨_, _, rfl, run_takeDeferred hK, ?_⟩⟩
    exact ⟨_, by simp [results, Tryz.f167, go_sem], rfl, hB.trans (belowK_b (w := w) (Nat.le_refl _) W D _ _ (by simp at hD; omega) hK rfl rfl)⟩
  case stop =>
    rintro D c pre W _ _ h _
    exact h.elim

end Go.Proofs.YtlpnfbpgnfappaaGreat

/- The contracts of word.Get and word.Put, whatever they are handed; and of what must be in any case. -/
namespace Go.Proofs.YtlpnfbpgnfappaaGreat
open Go.RowKit Go.PlainAid

def getR (s : ByteArray) (at' bytes : Int) : Int := if wrongAt s.size at' bytes = 0 then getN s at'.toNat bytes.toNat else 0
def putR (s : ByteArray) (at' bytes n : Int) : ByteArray := if wrongAt s.size at' bytes = 0 then putS s at'.toNat bytes.toNat n else ⟨#[]⟩

theorem wrongAt_zero {len at' bytes : Int} (h : wrongAt len at' bytes = 0) : 1 ≤ bytes ∧ bytes ≤ 4 ∧ 0 ≤ at' ∧ at' + bytes ≤ len := by
  unfold wrongAt at h
  split at h
  · omega
  · split at h
    · omega
    · omega

set_option maxHeartbeats 400000 in
theorem get_any (s : ByteArray) (at' bytes : Int) (w : World) (hs : s.size ≤ 140737488351232) :
    Calls Tryz.prog 168 #[.string s, .int .i64 at', .int .i64 bytes] w fun e w' =>
      e = .returned (.tuple #[.int .i64 (getR s at' bytes), .int .i64 (wrongAt s.size at' bytes)]) ∧ Below w.heap.size w w' := by
  by_cases h : wrongAt s.size at' bytes = 0
  · obtain ⟨h1, h2, h3, h4⟩ := wrongAt_zero h
    rw [getR, if_pos h, h]
    obtain ⟨a, rfl⟩ := Int.eq_ofNat_of_zero_le h3
    obtain ⟨b, rfl⟩ := Int.eq_ofNat_of_zero_le (show 0 ≤ bytes by omega)
    exact callsIn_wide.1 (get_ok_in s a b w hs (by omega) (by omega) (by omega))
  · rw [getR, if_neg h]
    have hb : (wrongAt s.size at' bytes != 0) = true := by simpa using h
    clear h
    generalize hx : wrongAt s.size at' bytes = x at hb
    have HX : Hid (wrongAt s.size at' bytes = x) := hx
    clear hx
    go_enter Tryz.func168, Tryz.ntmps168
    go_wp2_with (go_at_call 187; refine (wrongPlace_any _ _ _ _ (by omega) (by omega)).mono ?_; rw [HX.out]; rintro e w' ⟨rfl, rfl⟩)
    go_ret2
    exact ⟨rfl, (Below.refl _ _).alloc (Nat.le_refl _) _⟩

set_option maxHeartbeats 400000 in
theorem put_any (s : ByteArray) (at' bytes n : Int) (w : World) (hs : s.size ≤ 140737488351232) :
    Calls Tryz.prog 167 #[.string s, .int .i64 at', .int .i64 bytes, .int .i64 n] w fun e w' =>
      e = .returned (.tuple #[.string (putR s at' bytes n), .int .i64 (wrongAt s.size at' bytes)]) ∧ Below w.heap.size w w' := by
  by_cases h : wrongAt s.size at' bytes = 0
  · obtain ⟨h1, h2, h3, h4⟩ := wrongAt_zero h
    rw [putR, if_pos h, h]
    obtain ⟨a, rfl⟩ := Int.eq_ofNat_of_zero_le h3
    obtain ⟨b, rfl⟩ := Int.eq_ofNat_of_zero_le (show 0 ≤ bytes by omega)
    exact callsIn_wide.1 (put_ok_in s a b n w hs (by omega) (by omega) (by omega))
  · rw [putR, if_neg h]
    have hb : (wrongAt s.size at' bytes != 0) = true := by simpa using h
    clear h
    generalize hx : wrongAt s.size at' bytes = x at hb
    have HX : Hid (wrongAt s.size at' bytes = x) := hx
    clear hx
    go_enter Tryz.func167, Tryz.ntmps167
    go_wp2_with (go_at_call 187; refine (wrongPlace_any _ _ _ _ (by omega) (by omega)).mono ?_; rw [HX.out]; rintro e w' ⟨rfl, rfl⟩)
    go_ret2
    exact ⟨rfl, (Below.refl _ _).alloc (Nat.le_refl _) _⟩

theorem get_begun (w : World) : Calls Tryz.prog 168 #[.string ⟨#[97, 98, 99]⟩, .int .i64 1, .int .i64 2] w fun e w' => e = .returned (.tuple #[.int .i64 25442, .int .i64 0]) ∧ Below w.heap.size w w' := by
  have g := get_any ⟨#[97, 98, 99]⟩ 1 2 w (by decide)
  rwa [show getR ⟨#[97, 98, 99]⟩ 1 2 = 25442 from by decide, show wrongAt (ByteArray.size ⟨#[97, 98, 99]⟩ : Nat) 1 2 = 0 from by decide] at g
theorem put_begun (w : World) : Calls Tryz.prog 167 #[.string ⟨#[97, 98, 99]⟩, .int .i64 1, .int .i64 2, .int .i64 (-1)] w fun e w' => e = .returned (.tuple #[.string ⟨#[97, 255, 255]⟩, .int .i64 0]) ∧ Below w.heap.size w w' := by
  have p := put_any ⟨#[97, 98, 99]⟩ 1 2 (-1) w (by decide)
  rwa [show putR ⟨#[97, 98, 99]⟩ 1 2 (-1) = ⟨#[97, 255, 255]⟩ from by decide, show wrongAt (ByteArray.size ⟨#[97, 98, 99]⟩ : Nat) 1 2 = 0 from by decide] at p
end Go.Proofs.YtlpnfbpgnfappaaGreat

/- Patches as numbers: what stands there, or why nothing can. -/
namespace Go.Proofs.YtlpnfbpgnfappaaGreat
open Go.RowKit Go.PlainAid

def valRange (sym add place : Int) : Bool := betw sym 0 65535 && betw place 0 65535 && betw add 0 65535
/-- Why no number can stand there. -/
def valErr (kind sym add place : Int) : Int :=
  if width kind = 0 then 7 else if valRange sym add place = false then 3 else if kind = 5 ∧ (sym + add - place) % 2 = 1 then 4 else 0
def rawVal (kind sym add place : Int) : Int :=
  if kind = 1 then sym + add else if kind = 2 then (sym + add - place) % 4294967296 else if kind = 3 then (sym + add) / 65536 else if kind = 4 then (sym + add) % 65536 else ((sym + add - place) / 2) % 16777216
def valNum (kind sym add place : Int) : Int := if valErr kind sym add place = 0 then rawVal kind sym add place else 0

theorem valRange_true {sym add place : Int} (h : valRange sym add place = true) : 0 ≤ sym ∧ sym ≤ 65535 ∧ 0 ≤ place ∧ place ≤ 65535 ∧ 0 ≤ add ∧ add ≤ 65535 := by
  unfold valRange at h
  simp only [Bool.and_eq_true, betw_iff] at h
  omega

/-- The ways of a value. -/
theorem val_cases (kind sym add place : Int) :
    (width kind = 0 ∧ valErr kind sym add place = 7 ∧ valNum kind sym add place = 0) ∨
    (width kind ≠ 0 ∧ valRange sym add place = false ∧ valErr kind sym add place = 3 ∧ valNum kind sym add place = 0) ∨
    (valRange sym add place = true ∧ (
      (kind = 1 ∧ valErr kind sym add place = 0 ∧ valNum kind sym add place = sym + add) ∨
      (kind = 2 ∧ valErr kind sym add place = 0 ∧ valNum kind sym add place = (sym + add - place) % 4294967296) ∨
      (kind = 3 ∧ valErr kind sym add place = 0 ∧ valNum kind sym add place = (sym + add) / 65536) ∨
      (kind = 4 ∧ valErr kind sym add place = 0 ∧ valNum kind sym add place = (sym + add) % 65536) ∨
      (kind = 5 ∧ (sym + add - place) % 2 = 1 ∧ valErr kind sym add place = 4 ∧ valNum kind sym add place = 0) ∨
      (kind = 5 ∧ (sym + add - place) % 2 = 0 ∧ valErr kind sym add place = 0 ∧ valNum kind sym add place = ((sym + add - place) / 2) % 16777216))) := by
  by_cases h0 : width kind = 0
  · exact .inl ⟨h0, by simp [valErr, h0], by simp [valNum, valErr, h0]⟩
  cases hr : valRange sym add place
  · exact .inr (.inl ⟨h0, rfl, by simp [valErr, h0, hr], by simp [valNum, valErr, h0, hr]⟩)
  refine .inr (.inr ⟨rfl, ?_⟩)
  rcases width_cases kind with ⟨rfl, h⟩ | ⟨rfl, h⟩ | ⟨rfl, h⟩ | ⟨rfl, h⟩ | ⟨rfl, h⟩ | ⟨h1, h2, h3, h4, h5, h⟩
  · have e : valErr 1 sym add place = 0 := by simp [valErr, h, hr]
    exact .inl ⟨rfl, e, by simp [valNum, e, rawVal]⟩
  · have e : valErr 2 sym add place = 0 := by simp [valErr, h, hr]
    exact .inr (.inl ⟨rfl, e, by simp [valNum, e, rawVal]⟩)
  · have e : valErr 3 sym add place = 0 := by simp [valErr, h, hr]
    exact .inr (.inr (.inl ⟨rfl, e, by simp [valNum, e, rawVal]⟩))
  · have e : valErr 4 sym add place = 0 := by simp [valErr, h, hr]
    exact .inr (.inr (.inr (.inl ⟨rfl, e, by simp [valNum, e, rawVal]⟩)))
  · by_cases hp : (sym + add - place) % 2 = 1
    · have e : valErr 5 sym add place = 4 := by simp [valErr, h, hr, hp]
      exact .inr (.inr (.inr (.inr (.inl ⟨rfl, hp, e, by simp [valNum, e]⟩))))
    · have e : valErr 5 sym add place = 0 := by simp [valErr, h, hr]; omega
      exact .inr (.inr (.inr (.inr (.inr ⟨rfl, by omega, e, by simp [valNum, e, rawVal]⟩))))
  · exact absurd h h0

end Go.Proofs.YtlpnfbpgnfappaaGreat
