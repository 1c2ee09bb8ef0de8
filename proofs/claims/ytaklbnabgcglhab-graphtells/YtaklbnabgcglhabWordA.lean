/- The contracts of word.wrongPlace, word.Signed, word.bytesOf and of the function that it hands back. -/
import Derived.Test.YtaklbnabgcglhabProg
import Derived.RangeFuncNested
import Derived.RangeFuncBound
import Derived.RangeFuncCalls
import Derived.RangeFuncLeaves
import Derived.RangeFuncBox
import Derived.Shelf.Abstract
import Derived.Shelf.RegionOpen
import Derived.WalkKit
import Derived.OwnWalkIn
import Derived.TacticsInMore
import Derived.LoopNIn
import Derived.LoopIn
namespace Go.Proofs.Ytaklbnabgcglhab
open Go.RowKit Go.Shelf
attribute [local go_sem] Oper.semAt_some

/-- Why so many bytes from a place on are no number of a text of that length. -/
def wrongAt (len at' bytes : Int) : Int := if bytes < 1 ∨ 4 < bytes then 7 else if at' < 0 ∨ len - bytes < at' then 3 else 0

set_option maxHeartbeats 400000 in
theorem wrongPlace_any (len at' bytes : Int) (w : World) (h0 : 0 ≤ len) (h1 : len ≤ 140737488351232) :
    Calls Try.prog 39 #[.int .i64 len, .int .i64 at', .int .i64 bytes] w fun e w' => e = .returned (.int .i64 (wrongAt len at' bytes)) ∧ w' = w := by
  by_cases a : bytes < 1
  · go_enter Try.func39, Try.ntmps39
    go_wp2
    go_ret
    exact ⟨by simp [wrongAt, a], rfl⟩
  by_cases b : 4 < bytes
  · go_enter Try.func39, Try.ntmps39
    go_wp2
    go_ret
    exact ⟨by simp [wrongAt, b], rfl⟩
  by_cases c : at' < 0
  · go_enter Try.func39, Try.ntmps39
    go_wp2
    go_ret
    exact ⟨by simp [wrongAt, a, b, c], rfl⟩
  by_cases d : len - bytes < at'
  · go_enter Try.func39, Try.ntmps39
    go_wp2
    go_ret
    exact ⟨by simp [wrongAt, a, b, d], rfl⟩
  · go_enter Try.func39, Try.ntmps39
    go_wp2
    go_ret
    have e : wrongAt len at' bytes = 0 := by unfold wrongAt; rw [if_neg (by omega), if_neg (by omega)]
    exact ⟨by rw [e]; rfl, rfl⟩

theorem two_pow_half (bits : Int) (h1 : 1 ≤ bits) (h2 : bits ≤ 32) : ∃ q : Int, 2 ^ bits.toNat = 2 * q ∧ 1 ≤ q ∧ q ≤ 2147483648 := by
  obtain ⟨k, hk, rfl⟩ : ∃ k : Nat, k ≤ 31 ∧ bits = (k : Int) + 1 := ⟨(bits - 1).toNat, by omega, by omega⟩
  refine ⟨2 ^ k, ?_, Int.pow_pos (by omega), ?_⟩
  · rw [show ((k : Int) + 1).toNat = k + 1 from by omega, Int.pow_succ]; omega
  · have := Nat.pow_le_pow_right (n := 2) (by omega) hk
    have h : ((2 ^ k : Nat) : Int) ≤ ((2 ^ 31 : Nat) : Int) := Int.ofNat_le.2 this
    simpa using h

/-- The signed number, and the error. -/
def signedN (n bits : Int) : Int := if bits < 1 ∨ 32 < bits then 0 else if n < 0 ∨ 2 ^ bits.toNat ≤ n then 0 else if 2 ^ bits.toNat / 2 ≤ n then n - 2 ^ bits.toNat else n
def signedE (n bits : Int) : Int := if bits < 1 ∨ 32 < bits then 7 else if n < 0 ∨ 2 ^ bits.toNat ≤ n then 3 else 0

set_option maxHeartbeats 400000 in
theorem signed_any (n bits : Int) (w : World) :
    Calls Try.prog 14 #[.int .i64 n, .int .i64 bits] w fun e w' => e = .returned (.tuple #[.int .i64 (signedN n bits), .int .i64 (signedE n bits)]) ∧ w' = w := by
  by_cases a : bits < 1
  · go_enter Try.func14, Try.ntmps14
    go_wp2
    go_ret2
    exact ⟨by simp [signedN, signedE, a], rfl⟩
  by_cases b : 32 < bits
  · go_enter Try.func14, Try.ntmps14
    go_wp2
    go_ret2
    exact ⟨by simp [signedN, signedE, b], rfl⟩
  obtain ⟨q, hq, hq1, hq2⟩ := two_pow_half bits (by omega) (by omega)
  have eN : signedN n bits = if n < 0 ∨ 2 * q ≤ n then 0 else if q ≤ n then n - 2 * q else n := by
    unfold signedN; rw [if_neg (by omega), hq, show 2 * q / 2 = q from by omega]
  have eE : signedE n bits = if n < 0 ∨ 2 * q ≤ n then 3 else 0 := by
    unfold signedE; rw [if_neg (by omega), hq]
  rw [eN, eE]
  clear eN eE
  by_cases c : n < 0
  · rw [if_pos (.inl c), if_pos (.inl c)]
    go_enter Try.func14, Try.ntmps14
    go_wp2
    go_ret2
    exact ⟨rfl, rfl⟩
  by_cases d : 2 * q ≤ n
  · rw [if_pos (.inr d), if_pos (.inr d)]
    go_enter Try.func14, Try.ntmps14
    go_wp2
    go_ret2
    exact ⟨rfl, rfl⟩
  have cd : ¬ (n < 0 ∨ 2 * q ≤ n) := by omega
  rw [if_neg cd, if_neg cd]
  clear cd
  by_cases f : q ≤ n
  · rw [if_pos f]
    go_enter Try.func14, Try.ntmps14
    go_wp2
    go_ret2
    exact ⟨rfl, rfl⟩
  · rw [if_neg f]
    go_enter Try.func14, Try.ntmps14
    go_wp2
    go_ret2
    exact ⟨rfl, rfl⟩

set_option maxHeartbeats 400000 in
/-- bytesOf boxes its two numbers; what it hands back has captured the boxes. -/
theorem bytesOf_in (F : Fence) (n : Nat) (hF : F.fn 40) (hro : F.round = none) (at' bytes : Int) (w : World) :
    CallsIn F n Try.prog 40 #[.int .i64 at', .int .i64 bytes] w fun e w' =>
      e = .returned (.func (.func 69) #[] #[.pointer (some ⟨w.heap.size + 1, 0, none⟩), .pointer (some ⟨w.heap.size, 0, none⟩)]) ∧
      w' = (w.alloc (.cells #[.int .i64 at'] 3)).alloc (.cells #[.int .i64 bytes] 3) := by
  refine callsIn_of_wp Try.func40 rfl hF ?_ hro
  simp only [Try.ntmps40, List.size_toArray, List.length_cons, List.length_nil, Nat.reduceAdd, Nat.reduceSub, Array.replicate_succ, Array.replicate_zero, List.push_toArray, List.append_toArray, List.nil_append, List.cons_append]
  gi_wp2
  go_ret
  exact ⟨rfl, rfl⟩

/-- What has come when k rounds are over. -/
def upto {α : Type} (f : Nat → α) (k : Nat) : List α := (List.range k).map f
theorem upto_succ {α : Type} (f : Nat → α) (k : Nat) : upto f (k + 1) = upto f k ++ [f k] := by simp [upto, List.range_succ]
theorem upto_length {α : Type} (f : Nat → α) (k : Nat) : (upto f k).length = k := by simp [upto]

/-- The two boxes hold what they held. -/
def KeepsTwo (Ba Bb : Nat) (W W' : World) : Prop := W'.cell? ⟨Ba, 0, none⟩ = W.cell? ⟨Ba, 0, none⟩ ∧ W'.cell? ⟨Bb, 0, none⟩ = W.cell? ⟨Bb, 0, none⟩
theorem KeepsTwo.refl (Ba Bb : Nat) (W : World) : KeepsTwo Ba Bb W W := ⟨rfl, rfl⟩
theorem KeepsTwo.trans {Ba Bb : Nat} {A B C : World} (h : KeepsTwo Ba Bb A B) (k : KeepsTwo Ba Bb B C) : KeepsTwo Ba Bb A C := ⟨k.1.trans h.1, k.2.trans h.2⟩

set_option maxRecDepth 100000 in
set_option maxHeartbeats 1000000 in
/-- bytesOf's function: for i := range bytes: yield(at+i, 8*i). -/
theorem bytesOf1_in (F : Fence) (n : Nat) (hF : F.fn 69) (hro : F.round = none) (hn : 1 ≤ n) (l Ba Bb at' m : Nat) (hm : m ≤ 4) (ha : at' ≤ 140737488351232) (J Jx : List (Fin m) → World → Prop)
    (hY : ∀ pre x W, J pre W → pre.length < m → YieldAt F (n - 1) Try.prog l #[.int .i64 ((at' : Int) + (x : Fin m).1), .int .i64 (8 * ((x : Fin m).1 : Int))] W fun e W' =>
      (e = .returned (.bool true) ∧ J (pre ++ [x]) W' ∧ KeepsTwo Ba Bb W W') ∨ (e = .returned (.bool false) ∧ Jx (pre ++ [x]) W'))
    (W : World) (hA : W.cell? ⟨Ba, 0, none⟩ = some (.int .i64 at')) (hB : W.cell? ⟨Bb, 0, none⟩ = some (.int .i64 m)) (h0 : J [] W) :
    CallsIn F n Try.prog 69 #[.func (.yield l) #[] #[], .pointer (some ⟨Bb, 0, none⟩), .pointer (some ⟨Ba, 0, none⟩)] W fun e W' => (∃ v, e = .returned v) ∧
      ((∃ ys : List (Fin m), ys.map (·.1) = List.range m ∧ J ys W') ∨ (∃ pre, Jx pre W')) := by
  refine callsIn_of_wp Try.func69 rfl hF ?_ hro
  simp only [Try.ntmps69, List.size_toArray, List.length_cons, List.length_nil, Nat.reduceAdd, Nat.reduceSub, Array.replicate_succ, Array.replicate_zero, List.push_toArray, List.append_toArray, List.nil_append, List.cons_append]
  gi_wp2
  gi_loopw [6] (fun i wr => ∃ k : Nat, k ≤ m ∧ i = .int .i64 k ∧ (∃ ys : List (Fin m), ys.map (·.1) = List.range k ∧ J ys wr) ∧ KeepsTwo Ba Bb W wr)
    (fun i _ => m - (intOf i).toNat)
  case atStart => exact ⟨0, Nat.zero_le _, rfl, ⟨[], rfl, h0⟩, KeepsTwo.refl _ _ _⟩
  case round =>
    obtain ⟨k, hk, rfl, ⟨ys, hys, hJs⟩, hnx⟩ := hrel
    have hcA : wr.cell? ⟨Ba, 0, none⟩ = some (.int .i64 at') := hnx.1.trans hA
    have hYS : Hid (ys.map (·.1) = List.range k) := hys
    have hylen : ys.length = k := by have := congrArg List.length hys; simpa using this
    clear hys
    by_cases hlt : k < m
    · obtain ⟨fn, tmps, assign, body, hy, hR⟩ := hY ys ⟨k, hlt⟩ wr hJs (by omega)
      dsimp only at hy
      clear hylen
      gi_wp2
      refine hR.mono ?_
      rintro e W3 (⟨rfl, hJ3, hk3⟩ | ⟨rfl, hJx3⟩)
      · gi_wp2
        go_roundw
        case rel => exact ⟨k + 1, by omega, by simp, ⟨ys ++ [⟨k, hlt⟩], by rw [List.map_append, hYS.out, List.range_succ]; rfl, hJ3⟩, hnx.trans hk3⟩
        case measure => simp [intOf]; omega
      · gi_wp2
        refine bodyPost_ret (results_none rfl _ _ _) rfl ?_
        exact ⟨⟨_, rfl⟩, .inr ⟨_, hJx3⟩⟩
    · obtain rfl : k = m := by omega
      clear hylen
      gi_wp2
      go_end0
      exact ⟨⟨_, rfl⟩, .inl ⟨ys, hYS.out, hJs⟩⟩

end Go.Proofs.Ytaklbnabgcglhab
