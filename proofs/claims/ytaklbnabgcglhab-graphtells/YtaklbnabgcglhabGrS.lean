/- slices.SortFunc at modules: strings.Compare, math/bits.Len, the function that is handed in, the sort itself. -/
import Derived.Test.YtaklbnabgcglhabGrL
import Derived.Test.YtaklbnabgcglhabGrC1
import Derived.Lib.Bytealg
namespace Go.Proofs.Ytaklbnabgcglhab
open Go.RowKit Go.PlainAid
open Go.Sort (grow alloc_eq_grow grow_grow putRow putRowK mapBlock)

set_option maxRecDepth 100000

theorem cmpB_neg : ∀ a b : List UInt8, Lib.compareBytes a b < 0 ↔ a < b
  | [], [] => by simp [Lib.compareBytes]
  | [], _ :: _ => by simp [Lib.compareBytes]
  | _ :: _, [] => by simp [Lib.compareBytes]
  | x :: a, y :: b => by
    unfold Lib.compareBytes
    rw [List.cons_lt_cons_iff]
    by_cases h : x < y
    · rw [if_pos h]
      exact ⟨fun _ => .inl h, fun _ => by decide⟩
    · rw [if_neg h]
      by_cases g : y < x
      · rw [if_pos g]
        constructor
        · intro h1; exact absurd h1 (by decide)
        · rintro (h1 | ⟨rfl, _⟩)
          · exact absurd h1 h
          · exact absurd g h
      · rw [if_neg g, cmpB_neg a b]
        have e : x = y := UInt8.le_antisymm (UInt8.not_lt.1 g) (UInt8.not_lt.1 h)
        constructor
        · exact fun h1 => .inr ⟨e, h1⟩
        · rintro (h1 | ⟨_, h1⟩)
          · exact absurd h1 h
          · exact h1

set_option maxHeartbeats 1000000 in
theorem compareString_any (a b : ByteArray) (w : World) :
    Calls Try.prog 116 #[.string a, .string b] w fun e w' => e = .returned (.int .i64 (Lib.compareBytes a.data.toList b.data.toList)) ∧ w' = w := by
  go_enter Try.func116, Try.ntmps116
  go_wp2
  rw [run_callFunc_extern Try.func129 (by kernel_rfl) (by kernel_rfl) (by kernel_rfl) (e := Extern.BytealgCompare.compare) (by kernel_rfl), Lib.run_compareString]
  simp only [Result.andThen]
  rw [Oper.upon_value]
  go_wp2
  go_ret
  exact ⟨rfl, rfl⟩

set_option maxHeartbeats 1000000 in
theorem compare_any (a b : ByteArray) (w : World) :
    Calls Try.prog 96 #[.string a, .string b] w fun e w' => e = .returned (.int .i64 (Lib.compareBytes a.data.toList b.data.toList)) ∧ w' = w := by
  have HC := compareString_any a b w
  generalize Lib.compareBytes a.data.toList b.data.toList = r at *
  go_enter Try.func96, Try.ntmps96
  go_wp2_with fail
  refine HC.mono ?_
  rintro e w2 ⟨rfl, rfl⟩
  clear HC
  go_wp2
  go_ret
  exact ⟨rfl, rfl⟩

set_option maxHeartbeats 4000000 in
theorem bitsLen_any (n : Nat) (W : World) (h : n ≤ 12) : Calls Try.prog 115 #[.int .u64 n] W fun e w' => (∃ l : Int, e = .returned (.int .i64 l)) ∧ w' = W := by
  have hn : n = 0 ∨ n = 1 ∨ n = 2 ∨ n = 3 ∨ n = 4 ∨ n = 5 ∨ n = 6 ∨ n = 7 ∨ n = 8 ∨ n = 9 ∨ n = 10 ∨ n = 11 ∨ n = 12 := by omega
  rcases hn with rfl | rfl | rfl | rfl | rfl | rfl | rfl | rfl | rfl | rfl | rfl | rfl | rfl
  all_goals
    go_enter Try.func115, Try.ntmps115
    go_wp2
    go_ret
    exact ⟨⟨_, rfl⟩, rfl⟩

/-- A slice's value; another one is none. -/
def slV : Value → Value
  | .slice a n c => .slice a n c
  | _ => .slice none 0 0
theorem slV_form (v : Value) : ∃ a n c, slV v = .slice a n c := by
  cases v <;> exact ⟨_, _, _, rfl⟩
def modE (x : PV) : List Value := [.string x.mod.name, .int .i64 x.mod.major, .int .i64 x.mod.minor, .string x.mod.text, slV x.ve, slV x.vi, slV x.vp]
theorem modE_one (x : PV) : ∀ v ∈ modE x, v.oneCell' = true := by
  intro v hv
  unfold modE at hv
  obtain ⟨a, n, c, h1⟩ := slV_form x.ve
  obtain ⟨a2, n2, c2, h2⟩ := slV_form x.vi
  obtain ⟨a3, n3, c3, h3⟩ := slV_form x.vp
  rw [h1, h2, h3] at hv
  simp at hv
  rcases hv with rfl | rfl | rfl | rfl | rfl | rfl | rfl <;> rfl
theorem modE_at {n₀ : Nat} {W : World} {x : PV} (h : PlcAt n₀ W x) (i : Nat) (hi : i < 7) : (modE x)[i]? = some (PV.cell x i) := by
  obtain ⟨⟨pe, ke, e4, _⟩, ⟨pi, ki, e5, _⟩, ⟨pp, kp, e6, _⟩⟩ := h
  have : i = 0 ∨ i = 1 ∨ i = 2 ∨ i = 3 ∨ i = 4 ∨ i = 5 ∨ i = 6 := by omega
  unfold modE
  rw [e4, e5, e6]
  rcases this with rfl | rfl | rfl | rfl | rfl | rfl | rfl <;> first | rfl | exact congrArg some e4.symm | exact congrArg some e5.symm | exact congrArg some e6.symm

set_option maxHeartbeats 2000000 in
theorem rising1_any (x y : PV) (W : World) : Calls Try.prog 95 #[.agg (modE x).toArray, .agg (modE y).toArray] W fun e w' => e = .returned (.int .i64 (Lib.compareBytes x.mod.name.data.toList y.mod.name.data.toList)) ∧ ∃ q os', w' = grow (W.drewN q) os' := by
  obtain ⟨a1, n1, c1, h1⟩ := slV_form x.ve
  obtain ⟨a2, n2, c2, h2⟩ := slV_form x.vi
  obtain ⟨a3, n3, c3, h3⟩ := slV_form x.vp
  obtain ⟨a4, n4, c4, h4⟩ := slV_form y.ve
  obtain ⟨a5, n5, c5, h5⟩ := slV_form y.vi
  obtain ⟨a6, n6, c6, h6⟩ := slV_form y.vp
  unfold modE
  rw [h1, h2, h3, h4, h5, h6]
  clear h1 h2 h3 h4 h5 h6
  obtain ⟨⟨N, ma, mi, T, es, is, ps⟩, ve, vi, vp, fi⟩ := x
  obtain ⟨⟨N', ma', mi', T', es', is', ps'⟩, ve', vi', vp', fi'⟩ := y
  dsimp only
  have HC : Hid (∀ W, Calls Try.prog 96 #[.string N, .string N'] W fun e w' => e = .returned (.int .i64 (Lib.compareBytes N.data.toList N'.data.toList)) ∧ w' = W) := fun W => compare_any N N' W
  generalize Lib.compareBytes N.data.toList N'.data.toList = r at *
  go_enter Try.func95, Try.ntmps95
  go_wp2_with fail
  refine (HC.out _).mono ?_
  rintro e w2 ⟨rfl, rfl⟩
  clear HC
  go_wp2
  go_ret
  exact ⟨rfl, 0, _, by rw [alloc_eq_grow, alloc_eq_grow, grow_grow]; rfl⟩

theorem cmp_swo : Go.Sort.SWO (ltOf fun x y : PV => Lib.compareBytes x.mod.name.data.toList y.mod.name.data.toList) := by
  have h : ∀ x y : PV, ltOf (fun x y : PV => Lib.compareBytes x.mod.name.data.toList y.mod.name.data.toList) x y = true ↔ x.mod.name.data.toList < y.mod.name.data.toList := fun x y => by
    unfold ltOf
    rw [decide_eq_true_iff, cmpB_neg]
  have hf : ∀ x y : PV, ltOf (fun x y : PV => Lib.compareBytes x.mod.name.data.toList y.mod.name.data.toList) x y = false ↔ ¬ x.mod.name.data.toList < y.mod.name.data.toList := fun x y => by
    rw [← h, Bool.not_eq_true]
  refine ⟨fun x => (hf x x).2 (List.lt_irrefl _), fun x y z h1 h2 => (h x z).2 (List.lt_trans ((h x y).1 h1) ((h y z).1 h2)), fun x y z h1 h2 => (hf x z).2 ?_⟩
  exact List.not_lt.2 (List.le_trans (List.not_lt.1 ((hf y z).1 h2)) (List.not_lt.1 ((hf x y).1 h1)))

theorem below_sortWorld {α : Type} [Inhabited α] (enc : α → List Value) (k : Nat) (w : World) (blk off m : Nat) (d : Array α) (os : Array Obj) (hb : blk < w.heap.size) : Below blk w (sortWorldK enc k w blk off m d os) := by
  unfold sortWorldK putRowK putRow mapBlock Go.Sort.ahead grow
  refine ⟨rfl, rfl, rfl, by simp, fun i hi => ?_⟩
  dsimp only
  rw [Array.getElem?_append_left (by rw [Array.size_modify]; omega), Array.getElem?_modify, if_neg (by omega)]

end Go.Proofs.Ytaklbnabgcglhab
