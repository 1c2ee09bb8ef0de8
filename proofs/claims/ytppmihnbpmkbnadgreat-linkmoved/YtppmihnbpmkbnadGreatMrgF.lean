/- Texts that are laid together. -/
import Derived.Test.YtppmihnbpmkbnadGreatMrgE
import Derived.Test.YtppmihnbpmkbnadGreatMrgB
import Derived.Laws.BitsLemmas
import Derived.Laws.Bits64
import Derived.Laws.Rows
import Derived.Laws.ResultCell

/- Patches as numbers: what stands there, or why nothing can. -/
namespace Go.Proofs.YtppmihnbpmkbnadGreat
open Go.RowKit Go.PlainAid

def valRange (sym add place : Int) : Bool := betw sym 0 65535 && betw place 0 65535 && betw add 0 65535
/-- Why no number can stand there. -/
def valErr (kind sym add place : Int) : Int :=
  if width kind = 0 then 7 else if valRange sym add place = false then 3 else if kind = 5 ∧ (sym + add - place) % 2 = 1 then 4 else 0
def rawVal (kind sym add place : Int) : Int :=
  if kind = 1 then sym + add else if kind = 2 then (sym + add - place) % 4294967296 else if kind = 3 then (sym + add) / 65536 else if kind = 4 then (sym + add) % 65536 else ((sym + add - place) / 2) % 16777216
def valNum (kind sym add place : Int) : Int := if valErr kind sym add place = 0 then rawVal kind sym add place else 0

theorem valRange_true {sym add place : Int} (h : valRange sym add place = true) : 0 ≤ sym ∧ sym ≤ 65535 ∧ 0 ≤ place ∧ place ≤ 65535 ∧ 0 ≤ add ∧ add ≤ 65535 := by
  unfold valRange at h
  simp only [Bool.and_eq_true, betw_iff] at h
  omega

/-- The ways of a value. -/
theorem val_cases (kind sym add place : Int) :
    (width kind = 0 ∧ valErr kind sym add place = 7 ∧ valNum kind sym add place = 0) ∨
    (width kind ≠ 0 ∧ valRange sym add place = false ∧ valErr kind sym add place = 3 ∧ valNum kind sym add place = 0) ∨
    (valRange sym add place = true ∧ (
      (kind = 1 ∧ valErr kind sym add place = 0 ∧ valNum kind sym add place = sym + add) ∨
      (kind = 2 ∧ valErr kind sym add place = 0 ∧ valNum kind sym add place = (sym + add - place) % 4294967296) ∨
      (kind = 3 ∧ valErr kind sym add place = 0 ∧ valNum kind sym add place = (sym + add) / 65536) ∨
      (kind = 4 ∧ valErr kind sym add place = 0 ∧ valNum kind sym add place = (sym + add) % 65536) ∨
      (kind = 5 ∧ (sym + add - place) % 2 = 1 ∧ valErr kind sym add place = 4 ∧ valNum kind sym add place = 0) ∨
      (kind = 5 ∧ (sym + add - place) % 2 = 0 ∧ valErr kind sym add place = 0 ∧ valNum kind sym add place = ((sym + add - place) / 2) % 16777216))) := by
  by_cases h0 : width kind = 0
  · exact .inl ⟨h0, by simp [valErr, h0], by simp [valNum, valErr, h0]⟩
  cases hr : valRange sym add place
  · exact .inr (.inl ⟨h0, rfl, by simp [valErr, h0, hr], by simp [valNum, valErr, h0, hr]⟩)
  refine .inr (.inr ⟨rfl, ?_⟩)
  rcases width_cases kind with ⟨rfl, h⟩ | ⟨rfl, h⟩ | ⟨rfl, h⟩ | ⟨rfl, h⟩ | ⟨rfl, h⟩ | ⟨h1, h2, h3, h4, h5, h⟩
  · have e : valErr 1 sym add place = 0 := by simp [valErr, h, hr]
    exact .inl ⟨rfl, e, by simp [valNum, e, rawVal]⟩
  · have e : valErr 2 sym add place = 0 := by simp [valErr, h, hr]
    exact .inr (.inl ⟨rfl, e, by simp [valNum, e, rawVal]⟩)
  · have e : valErr 3 sym add place = 0 := by simp [valErr, h, hr]
    exact .inr (.inr (.inl ⟨rfl, e, by simp [valNum, e, rawVal]⟩))
  · have e : valErr 4 sym add place = 0 := by simp [valErr, h, hr]
    exact .inr (.inr (.inr (.inl ⟨rfl, e, by simp [valNum, e, rawVal]⟩)))
  · by_cases hp : (sym + add - place) % 2 = 1
    · have e : valErr 5 sym add place = 4 := by simp [valErr, h, hr, hp]
      exact .inr (.inr (.inr (.inr (.inl ⟨rfl, hp, e, by simp [valNum, e]⟩))))
    · have e : valErr 5 sym add place = 0 := by simp [valErr, h, hr]; omega
      exact .inr (.inr (.inr (.inr (.inr ⟨rfl, by omega, e, by simp [valNum, e, rawVal]⟩))))
  · exact absurd h h0

end Go.Proofs.YtppmihnbpmkbnadGreat

/- The contracts of package patch's small functions. -/
namespace Go.Proofs.YtppmihnbpmkbnadGreat
open Go.RowKit Go.PlainAid

set_option maxHeartbeats 400000 in
theorem isAddress_any (n : Int) (w : World) : Calls Tryz.prog 191 #[.int .i64 n] w fun e w' => e = .returned (.bool (betw n 0 65535)) ∧ w' = w := by
  by_cases h1 : 0 ≤ n
  · by_cases h2 : n ≤ 65535
    · rw [betw_true h1 h2]
      go_enter Tryz.func191, Tryz.ntmps191
      go_wp2
      go_ret
      exact ⟨rfl, rfl⟩
    · rw [betw_false (.inr (by omega))]
      have h3 : decide (n ≤ 65535) = false := decide_eq_false h2
      go_enter Tryz.func191, Tryz.ntmps191
      go_wp2
      go_ret
      exact ⟨rfl, rfl⟩
  · rw [betw_false (.inl (by omega))]
    have h3 : decide (0 ≤ n) = false := decide_eq_false h1
    go_enter Tryz.func191, Tryz.ntmps191
    go_wp2
    go_ret
    exact ⟨rfl, rfl⟩

def widthErr (k : Int) : Int := if width k = 0 then 7 else 0
set_option maxHeartbeats 400000 in
theorem patchWidth_any (k : Int) (w : World) : Calls Tryz.prog 178 #[.int .i64 k] w fun e w' => e = .returned (.tuple #[.int .i64 (width k), .int .i64 (widthErr k)]) ∧ w' = w := by
  have HW : Hid (∀ w, Calls Tryz.prog 147 #[.int .i64 k] w fun e w' => e = .returned (.int .i64 (width k)) ∧ w' = w) := fun w => patched_any k w
  unfold widthErr
  by_cases h : width k = 0
  · rw [if_pos h]
    rw [h] at HW ⊢
    clear h
    go_enter Tryz.func178, Tryz.ntmps178
    go_wp2_with (go_at_call 147; refine (HW.out _).mono ?_; rintro e w' ⟨rfl, rfl⟩)
    go_ret2
    exact ⟨rfl, rfl⟩
  · rw [if_neg h]
    have h0 : (width k == 0) = false := beq_eq_false_iff_ne.2 h
    clear h
    generalize width k = m at *
    go_enter Tryz.func178, Tryz.ntmps178
    go_wp2_with (go_at_call 147; refine (HW.out _).mono ?_; rintro e w' ⟨rfl, rfl⟩)
    go_ret2
    exact ⟨rfl, rfl⟩

theorem tdiv2_bd (n : Int) : n / 2 ≤ n.tdiv 2 ∧ n.tdiv 2 ≤ n / 2 + 1 := by
  rw [Int.tdiv_eq_ediv]
  split
  · omega
  · have : Int.sign 2 = 1 := rfl
    omega
theorem tdiv2_even (n : Int) (h : n % 2 = 0) : n.tdiv 2 = n / 2 := by
  rw [Int.tdiv_eq_ediv, if_pos (.inr (by omega))]
  omega
theorem tmod2_even (n : Int) : (n.tmod 2 == 0) = (n % 2 == 0) := by
  rw [Bool.eq_iff_iff, beq_iff_eq, beq_iff_eq]
  rw [Int.tmod_eq_emod]
  split
  · omega
  · have : (Int.natAbs 2 : Int) = 2 := rfl
    omega
theorem and_low (s : Int) (h0 : 0 ≤ s) (h1 : s ≤ 131070) : bits .and .i64 s 65535 = s % 65536 := by
  have h := bits_mask .i64 63 (by decide) (fun n a b => by rw [IntKind.wrap_i64]; omega) 16 (by decide) s h0 (by omega)
  have e : ((2 : Int) ^ 16 - 1) = 65535 := by decide
  have e2 : ((2 : Int) ^ 16) = 65536 := by decide
  rwa [e, e2] at h

set_option maxHeartbeats 400000 in
theorem half_any (far : Int) (h0 : -65535 ≤ far) (h1 : far ≤ 131070) (w : World) : Calls Tryz.prog 218 #[.int .i64 far] w fun e w' => e = .returned (.tuple #[.int .i64 (far.tdiv 2), .bool (far.tmod 2 == 0)]) ∧ w' = w := by
  have b2 := tdiv2_bd far
  have b0 : -8388608 ≤ far.tdiv 2 := by omega
  have b1 : far.tdiv 2 < 8388608 := by omega
  clear b2
  cases hc : far.tmod 2 == 0
  · go_enter Tryz.func218, Tryz.ntmps218
    go_wp2
    go_ret2
    exact ⟨rfl, rfl⟩
  · go_enter Tryz.func218, Tryz.ntmps218
    go_wp2
    go_ret2
    exact ⟨rfl, rfl⟩

set_option maxHeartbeats 400000 in
theorem formula1_any (s p : Int) (w : World) : Calls Tryz.prog 213 #[.int .i64 s, .int .i64 p] w fun e w' => e = .returned (.tuple #[.int .i64 s, .bool true]) ∧ w' = w := by
  go_enter Tryz.func213, Tryz.ntmps213
  go_wp2
  go_ret2
  exact ⟨rfl, rfl⟩
set_option maxHeartbeats 400000 in
theorem formula2_any (s p : Int) (h0 : 0 ≤ s) (h1 : s ≤ 131070) (h2 : 0 ≤ p) (h3 : p ≤ 65535) (w : World) : Calls Tryz.prog 214 #[.int .i64 s, .int .i64 p] w fun e w' => e = .returned (.tuple #[.int .i64 (s - p), .bool true]) ∧ w' = w := by
  go_enter Tryz.func214, Tryz.ntmps214
  go_wp2
  go_ret2
  exact ⟨rfl, rfl⟩
set_option maxHeartbeats 400000 in
theorem formula3_any (s p : Int) (w : World) : Calls Tryz.prog 215 #[.int .i64 s, .int .i64 p] w fun e w' => e = .returned (.tuple #[.int .i64 (s / 65536), .bool true]) ∧ w' = w := by
  go_enter Tryz.func215, Tryz.ntmps215
  go_wp2
  go_ret2
  exact ⟨rfl, rfl⟩
set_option maxHeartbeats 400000 in
theorem formula4_any (s p : Int) (h0 : 0 ≤ s) (h1 : s ≤ 131070) (w : World) : Calls Tryz.prog 216 #[.int .i64 s, .int .i64 p] w fun e w' => e = .returned (.tuple #[.int .i64 (s % 65536), .bool true]) ∧ w' = w := by
  go_enter Tryz.func216, Tryz.ntmps216
  go_wp2
  go_ret2
  exact ⟨by rw [← and_low s h0 h1]; rfl, rfl⟩
set_option maxHeartbeats 400000 in
theorem formula5_any (s p : Int) (h0 : 0 ≤ s) (h1 : s ≤ 131070) (h2 : 0 ≤ p) (h3 : p ≤ 65535) (w : World) : Calls Tryz.prog 217 #[.int .i64 s, .int .i64 p] w fun e w' => e = .returned (.tuple #[.int .i64 ((s - p).tdiv 2), .bool ((s - p).tmod 2 == 0)]) ∧ w' = w := by
  have HH : Hid (∀ w, Calls Tryz.prog 218 #[.int .i64 (s - p)] w fun e w' => e = .returned (.tuple #[.int .i64 ((s - p).tdiv 2), .bool ((s - p).tmod 2 == 0)]) ∧ w' = w) := fun w => half_any (s - p) (by omega) (by omega) w
  go_enter Tryz.func217, Tryz.ntmps217
  go_wp2_with (go_at_call 218; refine (HH.out _).mono ?_; rintro e w' ⟨rfl, rfl⟩)
  go_ret2
  exact ⟨rfl, rfl⟩

end Go.Proofs.YtppmihnbpmkbnadGreat

/- The contracts of patch.formulas, formulaOf. -/
namespace Go.Proofs.YtppmihnbpmkbnadGreat
open Go.RowKit Go.PlainAid

def formulaRow : Array Value := #[.int .i64 1, .func (.func 213) #[] #[], .int .i64 2, .func (.func 214) #[] #[], .int .i64 3, .func (.func 215) #[] #[], .int .i64 4, .func (.func 216) #[] #[], .int .i64 5, .func (.func 217) #[] #[]]

set_option maxHeartbeats 400000 in
theorem formulas_any (w : World) : Calls Tryz.prog 205 #[] w fun e w' => e = .returned (.slice (some ⟨w.heap.size, 0, none⟩) 5 5) ∧ w' = w.alloc (.cells formulaRow 227) := by
  go_enter Tryz.func205, Tryz.ntmps205
  go_wp2
  go_ret
  exact ⟨rfl, rfl⟩

set_option maxHeartbeats 400000 in
theorem isKind_any (B : Nat) (k K : Int) (f : Value) (w : World) (hlt : B < w.heap.size) (hB : w.cell? ⟨B, 0, none⟩ = some (.int .i64 k)) : Calls Tryz.prog 207 #[.agg #[.int .i64 K, f], .pointer (some ⟨B, 0, none⟩)] w fun e w' => e = .returned (.bool (K == k)) ∧ Below w.heap.size w w' := by
  go_enter Tryz.func207, Tryz.ntmps207
  go_wp2
  trace_state
  go_ret
  exact ⟨rfl, (Below.refl _ _).alloc (Nat.le_refl _) _⟩

end Go.Proofs.YtppmihnbpmkbnadGreat

/- Memory that is cells. -/
namespace Go.Proofs.YtppmihnbpmkbnadGreat
open Go.RowKit Go.PlainAid Go.Lib

/-- Block B holds just these. -/
def CellsAt (W : World) (B : Nat) (t : TypeId) (cs : Array Value) : Prop := W.heap[B]? = some (.cells cs t (0, 0))
theorem CellsAt.lt {W : World} {B : Nat} {t : TypeId} {cs : Array Value} (h : CellsAt W B t cs) : B < W.heap.size := (Array.getElem?_eq_some_iff.1 h).1
theorem CellsAt.cell {W : World} {B : Nat} {t : TypeId} {cs : Array Value} (h : CellsAt W B t cs) (i : Nat) : W.cell? ⟨B, i, none⟩ = cs[i]? := by
  simp [World.cell?, show W.heap[B]? = _ from h]
theorem CellsAt.frozen {W : World} {B : Nat} {t : TypeId} {cs : Array Value} (h : CellsAt W B t cs) (i : Nat) : W.frozen? ⟨B, i, none⟩ = false := by
  simp [World.frozen?, show W.heap[B]? = _ from h]
theorem CellsAt.new (W : World) (t : TypeId) (cs : Array Value) : CellsAt (W.alloc (.cells cs t)) W.heap.size t cs := World.alloc_heap_new W _
theorem CellsAt.kept {W W' : World} {row : Option Nat} {B : Nat} {t : TypeId} {cs : Array Value} (h : CellsAt W B t cs) (hg : W.grownBy W' row) (hne : some B ≠ row) : CellsAt W' B t cs := (hg.block B h.lt hne).trans h
theorem CellsAt.below {W W' : World} {B n : Nat} {t : TypeId} {cs : Array Value} (h : CellsAt W B t cs) (hb : Below n W W') (hn : B < n) : CellsAt W' B t cs := (hb.block B hn).trans h
theorem CellsAt.set {W : World} {B : Nat} {t : TypeId} {cs : Array Value} (i : Nat) (v : Value) (h : CellsAt W B t cs) : CellsAt (W.setCell ⟨B, i, none⟩ v) B t (cs.setIfInBounds i v) := by
  obtain ⟨hlt, hk⟩ := Array.getElem?_eq_some_iff.1 h
  show (W.heap.modify B _)[B]? = _
  rw [Array.getElem?_eq_getElem (by rw [Array.size_modify]; exact hlt), Array.getElem_modify_self, hk]
  rfl
theorem grown_set (W : World) (b i : Nat) (v : Value) : W.grownBy (W.setCell ⟨b, i, none⟩ v) (some b) :=
  ⟨rfl, rfl, rfl, by simp [World.setCell], fun k _ hne => Below.heap_setCell W ⟨b, i, none⟩ v k (fun e => hne (by rw [e]))⟩

theorem results_cell_tmp_row {P : Program} {fn : Func} {p u : Tmp} {ty : TypeId} (h : fn.results = #[.cell p ty, .tmp u]) (tmps : Array Value) (w : World) (g : Nat) (t : TypeId) (cs : Array Value) (fr : Nat × Nat) (d : TypeDesc)
    (hp : tmps.getD p undef = .pointer (some ⟨g, 0, none⟩)) (hg : w.heap[g]? = some (.cells cs t fr))
    (hu : P.underlying ty = some d) (hd : (match d with | .struct _ | .array _ _ => true | _ => false) = true) (hi : (P.info? ty).map (·.size) = some cs.size) :
    (results fn tmps).run P w = .ok (.tuple #[.agg cs, tmps.getD u undef]) w := by
  rw [results_cell_tmp h, hp]
  simp [asAddr, run_loadVar_row w g t ty cs fr d hg hu hd hi]

def expC (e : Exp) : List Value := [.string e.name, .int .i64 e.pos]
def impC (i : Imp) : List Value := [.string i.mod, .string i.name, .int .i64 i.major, .int .i64 i.minor]
def patC (p : Pat) : List Value := [.int .i64 p.kind, .int .i64 p.pos, .int .i64 p.sym, .int .i64 p.add]

theorem flat_at {α : Type} {C : α → List Value} {sz : Nat} (hC : ∀ x, (C x).length = sz) : ∀ (l : List α) (j : Nat) (x : α) (i : Nat), l[j]? = some x → i < sz → (l.flatMap C)[j * sz + i]? = (C x)[i]?
  | [], j, x, i, h, _ => by simp at h
  | y :: l, 0, x, i, h, hi => by
    obtain rfl : y = x := by simpa using h
    rw [List.flatMap_cons, Nat.zero_mul, Nat.zero_add, List.getElem?_append_left (by rw [hC]; exact hi)]
  | y :: l, j + 1, x, i, h, hi => by
    rw [List.flatMap_cons, List.getElem?_append_right (by rw [hC, Nat.succ_mul]; omega), hC]
    have := flat_at hC l j x i (by simpa using h) hi
    rwa [show (j + 1) * sz + i - sz = j * sz + i by rw [Nat.succ_mul]; omega]

theorem rowOf_cells {α : Type} {C : α → List Value} {cells : α → Nat → Value} {sz : Nat} (hC : ∀ x, (C x).length = sz) (hc : ∀ x i, i < sz → (C x)[i]? = some (cells x i)) {W : World} {B : Nat} {t : TypeId} {cs : Array Value} (h : CellsAt W B t cs)
    (l : List α) (hl : l.length ≤ 255) (cap : Nat) (hcs : cs.toList = l.flatMap C) : RowOf sz cells W.heap.size W (.slice (some ⟨B, 0, none⟩) l.length cap) l := by
  refine ⟨_, cap, rfl, by omega, .inr ⟨B, 0, rfl, h.lt, fun j x hj i hi => ?_⟩⟩
  rw [Nat.zero_add, h.cell]
  have h1 := flat_at hC l j x i hj hi
  rw [hc x i hi, ← hcs] at h1
  simpa using h1
theorem expC_at (x : Exp) (i : Nat) (hi : i < 2) : (expC x)[i]? = some (Exp.cell x i) := by
  have : i = 0 ∨ i = 1 := by omega
  rcases this with rfl | rfl <;> rfl
theorem impC_at (x : Imp) (i : Nat) (hi : i < 4) : (impC x)[i]? = some (Imp.cell x i) := by
  have : i = 0 ∨ i = 1 ∨ i = 2 ∨ i = 3 := by omega
  rcases this with rfl | rfl | rfl | rfl <;> rfl
theorem patC_at (x : Pat) (i : Nat) (hi : i < 4) : (patC x)[i]? = some (Pat.cell x i) := by
  have : i = 0 ∨ i = 1 ∨ i = 2 ∨ i = 3 := by omega
  rcases this with rfl | rfl | rfl | rfl <;> rfl

end Go.Proofs.YtppmihnbpmkbnadGreat
