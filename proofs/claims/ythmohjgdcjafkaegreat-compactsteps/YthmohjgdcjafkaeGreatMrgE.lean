/- Texts that are laid together. -/
import Derived.Test.YthmohjgdcjafkaeGreatMrgD
import Derived.Test.YthmohjgdcjafkaeGreatMrgB
import Derived.Laws.BitsLemmas
import Derived.Laws.Bits64
import Derived.Laws.Rows
import Derived.Laws.ResultCell
import Derived.Laws.EntriesVeiled

/- Patches as numbers: what stands there, or why nothing can. -/
namespace Go.Proofs.YthmohjgdcjafkaeGreat
open Go.RowKit Go.PlainAid

def valRange (sym add place : Int) : Bool := betw sym 0 65535 && betw place 0 65535 && betw add 0 65535
/-- Why no number can stand there. -/
def valErr (kind sym add place : Int) : Int :=
  if width kind = 0 then 7 else if valRange sym add place = false then 3 else if kind = 5 ∧ (sym + add - place) % 2 = 1 then 4 else 0
def rawVal (kind sym add place : Int) : Int :=
  if kind = 1 then sym + add else if kind = 2 then (sym + add - place) % 4294967296 else if kind = 3 then (sym + add) / 65536 else if kind = 4 then (sym + add) % 65536 else ((sym + add - place) / 2) % 16777216
def valNum (kind sym add place : Int) : Int := if valErr kind sym add place = 0 then rawVal kind sym add place else 0

theorem valRange_true {sym add place : Int} (h : valRange sym add place = true) : 0 ≤ sym ∧ sym ≤ 65535 ∧ 0 ≤ place ∧ place ≤ 65535 ∧ 0 ≤ add ∧ add ≤ 65535 := by
  unfold valRange at h
  simp only [Bool.and_eq_true, betw_iff] at h
  omega

/-- The ways of a value. -/
theorem val_cases (kind sym add place : Int) :
    (width kind = 0 ∧ valErr kind sym add place = 7 ∧ valNum kind sym add place = 0) ∨
    (width kind ≠ 0 ∧ valRange sym add place = false ∧ valErr kind sym add place = 3 ∧ valNum kind sym add place = 0) ∨
    (valRange sym add place = true ∧ (
      (kind = 1 ∧ valErr kind sym add place = 0 ∧ valNum kind sym add place = sym + add) ∨
      (kind = 2 ∧ valErr kind sym add place = 0 ∧ valNum kind sym add place = (sym + add - place) % 4294967296) ∨
      (kind = 3 ∧ valErr kind sym add place = 0 ∧ valNum kind sym add place = (sym + add) / 65536) ∨
      (kind = 4 ∧ valErr kind sym add place = 0 ∧ valNum kind sym add place = (sym + add) % 65536) ∨
      (kind = 5 ∧ (sym + add - place) % 2 = 1 ∧ valErr kind sym add place = 4 ∧ valNum kind sym add place = 0) ∨
      (kind = 5 ∧ (sym + add - place) % 2 = 0 ∧ valErr kind sym add place = 0 ∧ valNum kind sym add place = ((sym + add - place) / 2) % 16777216))) := by
  by_cases h0 : width kind = 0
  · exact .inl ⟨h0, by simp [valErr, h0], by simp [valNum, valErr, h0]⟩
  cases hr : valRange sym add place
  · exact .inr (.inl ⟨h0, rfl, by simp [valErr, h0, hr], by simp [valNum, valErr, h0, hr]⟩)
  refine .inr (.inr ⟨rfl, ?_⟩)
  rcases width_cases kind with ⟨rfl, h⟩ | ⟨rfl, h⟩ | ⟨rfl, h⟩ | ⟨rfl, h⟩ | ⟨rfl, h⟩ | ⟨h1, h2, h3, h4, h5, h⟩
  · have e : valErr 1 sym add place = 0 := by simp [valErr, h, hr]
    exact .inl ⟨rfl, e, by simp [valNum, e, rawVal]⟩
  · have e : valErr 2 sym add place = 0 := by simp [valErr, h, hr]
    exact .inr (.inl ⟨rfl, e, by simp [valNum, e, rawVal]⟩)
  · have e : valErr 3 sym add place = 0 := by simp [valErr, h, hr]
    exact .inr (.inr (.inl ⟨rfl, e, by simp [valNum, e, rawVal]⟩))
  · have e : valErr 4 sym add place = 0 := by simp [valErr, h, hr]
    exact .inr (.inr (.inr (.inl ⟨rfl, e, by simp [valNum, e, rawVal]⟩)))
  · by_cases hp : (sym + add - place) % 2 = 1
    · have e : valErr 5 sym add place = 4 := by simp [valErr, h, hr, hp]
      exact .inr (.inr (.inr (.inr (.inl ⟨rfl, hp, e, by simp [valNum, e]⟩))))
    · have e : valErr 5 sym add place = 0 := by simp [valErr, h, hr]; omega
      exact .inr (.inr (.inr (.inr (.inr ⟨rfl, by omega, e, by simp [valNum, e, rawVal]⟩))))
  · exact absurd h h0

end Go.Proofs.YthmohjgdcjafkaeGreat

/- The contracts of package patch's small functions. -/
namespace Go.Proofs.YthmohjgdcjafkaeGreat
open Go.RowKit Go.PlainAid

set_option maxHeartbeats 400000 in
theorem isAddress_any (n : Int) (w : World) : Calls Tryz.prog 216 #[.int .i64 n] w fun e w' => e = .returned (.bool (betw n 0 65535)) ∧ w' = w := by
  by_cases h1 : 0 ≤ n
  · by_cases h2 : n ≤ 65535
    · rw [betw_true h1 h2]
      go_enter Tryz.func216, Tryz.ntmps216
      go_wp2
      go_ret
      exact ⟨rfl, rfl⟩
    · rw [betw_false (.inr (by omega))]
      have h3 : decide (n ≤ 65535) = false := decide_eq_false h2
      go_enter Tryz.func216, Tryz.ntmps216
      go_wp2
      go_ret
      exact ⟨rfl, rfl⟩
  · rw [betw_false (.inl (by omega))]
    have h3 : decide (0 ≤ n) = false := decide_eq_false h1
    go_enter Tryz.func216, Tryz.ntmps216
    go_wp2
    go_ret
    exact ⟨rfl, rfl⟩

def widthErr (k : Int) : Int := if width k = 0 then 7 else 0
set_option maxHeartbeats 400000 in
theorem patchWidth_any (k : Int) (w : World) : Calls Tryz.prog 206 #[.int .i64 k] w fun e w' => e = .returned (.tuple #[.int .i64 (width k), .int .i64 (widthErr k)]) ∧ w' = w := by
  have HW : Hid (∀ w, Calls Tryz.prog 140 #[.int .i64 k] w fun e w' => e = .returned (.int .i64 (width k)) ∧ w' = w) := fun w => patched_any k w
  unfold widthErr
  by_cases h : width k = 0
  · rw [if_pos h]
    rw [h] at HW ⊢
    clear h
    go_enter Tryz.func206, Tryz.ntmps206
    go_wp2_with (go_at_call 140; refine (HW.out _).mono ?_; rintro e w' ⟨rfl, rfl⟩)
    go_ret2
    exact ⟨rfl, rfl⟩
  · rw [if_neg h]
    have h0 : (width k == 0) = false := beq_eq_false_iff_ne.2 h
    clear h
    generalize width k = m at *
    go_enter Tryz.func206, Tryz.ntmps206
    go_wp2_with (go_at_call 140; refine (HW.out _).mono ?_; rintro e w' ⟨rfl, rfl⟩)
    go_ret2
    exact ⟨rfl, rfl⟩

theorem tdiv2_bd (n : Int) : n / 2 ≤ n.tdiv 2 ∧ n.tdiv 2 ≤ n / 2 + 1 := by
  rw [Int.tdiv_eq_ediv]
  split
  · omega
  · have : Int.sign 2 = 1 := rfl
    omega
theorem tdiv2_even (n : Int) (h : n % 2 = 0) : n.tdiv 2 = n / 2 := by
  rw [Int.tdiv_eq_ediv, if_pos (.inr (by omega))]
  omega
theorem tmod2_even (n : Int) : (n.tmod 2 == 0) = (n % 2 == 0) := by
  rw [Bool.eq_iff_iff, beq_iff_eq, beq_iff_eq]
  rw [Int.tmod_eq_emod]
  split
  · omega
  · have : (Int.natAbs 2 : Int) = 2 := rfl
    omega
theorem and_low (s : Int) (h0 : 0 ≤ s) (h1 : s ≤ 131070) : bits .and .i64 s 65535 = s % 65536 := by
  have h := bits_mask .i64 63 (by decide) (fun n a b => by rw [IntKind.wrap_i64]; omega) 16 (by decide) s h0 (by omega)
  have e : ((2 : Int) ^ 16 - 1) = 65535 := by decide
  have e2 : ((2 : Int) ^ 16) = 65536 := by decide
  rwa [e, e2] at h

set_option maxHeartbeats 400000 in
theorem half_any (far : Int) (h0 : -65535 ≤ far) (h1 : far ≤ 131070) (w : World) : Calls Tryz.prog 230 #[.int .i64 far] w fun e w' => e = .returned (.tuple #[.int .i64 (far.tdiv 2), .bool (far.tmod 2 == 0)]) ∧ w' = w := by
  have b2 := tdiv2_bd far
  have b0 : -8388608 ≤ far.tdiv 2 := by omega
  have b1 : far.tdiv 2 < 8388608 := by omega
  clear b2
  cases hc : far.tmod 2 == 0
  · go_enter Tryz.func230, Tryz.ntmps230
    go_wp2
    go_ret2
    exact ⟨rfl, rfl⟩
  · go_enter Tryz.func230, Tryz.ntmps230
    go_wp2
    go_ret2
    exact ⟨rfl, rfl⟩

set_option maxHeartbeats 400000 in
theorem formula1_any (s p : Int) (w : World) : Calls Tryz.prog 225 #[.int .i64 s, .int .i64 p] w fun e w' => e = .returned (.tuple #[.int .i64 s, .bool true]) ∧ w' = w := by
  go_enter Tryz.func225, Tryz.ntmps225
  go_wp2
  go_ret2
  exact ⟨rfl, rfl⟩
set_option maxHeartbeats 400000 in
theorem formula2_any (s p : Int) (h0 : 0 ≤ s) (h1 : s ≤ 131070) (h2 : 0 ≤ p) (h3 : p ≤ 65535) (w : World) : Calls Tryz.prog 226 #[.int .i64 s, .int .i64 p] w fun e w' => e = .returned (.tuple #[.int .i64 (s - p), .bool true]) ∧ w' = w := by
  go_enter Tryz.func226, Tryz.ntmps226
  go_wp2
  go_ret2
  exact ⟨rfl, rfl⟩
set_option maxHeartbeats 400000 in
theorem formula3_any (s p : Int) (w : World) : Calls Tryz.prog 227 #[.int .i64 s, .int .i64 p] w fun e w' => e = .returned (.tuple #[.int .i64 (s / 65536), .bool true]) ∧ w' = w := by
  go_enter Tryz.func227, Tryz.ntmps227
  go_wp2
  go_ret2
  exact ⟨rfl, rfl⟩
set_option maxHeartbeats 400000 in
theorem formula4_any (s p : Int) (h0 : 0 ≤ s) (h1 : s ≤ 131070) (w : World) : Calls Tryz.prog 228 #[.int .i64 s, .int .i64 p] w fun e w' => e = .returned (.tuple #[.int .i64 (s % 65536), .bool true]) ∧ w' = w := by
  go_enter Tryz.func228, Tryz.ntmps228
  go_wp2
  go_ret2
  exact ⟨by rw [← and_low s h0 h1]; rfl, rfl⟩
set_option maxHeartbeats 400000 in
theorem formula5_any (s p : Int) (h0 : 0 ≤ s) (h1 : s ≤ 131070) (h2 : 0 ≤ p) (h3 : p ≤ 65535) (w : World) : Calls Tryz.prog 229 #[.int .i64 s, .int .i64 p] w fun e w' => e = .returned (.tuple #[.int .i64 ((s - p).tdiv 2), .bool ((s - p).tmod 2 == 0)]) ∧ w' = w := by
  have HH : Hid (∀ w, Calls Tryz.prog 230 #[.int .i64 (s - p)] w fun e w' => e = .returned (.tuple #[.int .i64 ((s - p).tdiv 2), .bool ((s - p).tmod 2 == 0)]) ∧ w' = w) := fun w => half_any (s - p) (by omega) (by omega) w
  go_enter Tryz.func229, Tryz.ntmps229
  go_wp2_with (go_at_call 230; refine (HH.out _).mono ?_; rintro e w' ⟨rfl, rfl⟩)
  go_ret2
  exact ⟨rfl, rfl⟩

end Go.Proofs.YthmohjgdcjafkaeGreat

/- The contracts of patch.formulas, formulaOf. -/
namespace Go.Proofs.YthmohjgdcjafkaeGreat
open Go.RowKit Go.PlainAid

def formulaRow : Array Value := #[.int .i64 1, .func (.func 225) #[] #[], .int .i64 2, .func (.func 226) #[] #[], .int .i64 3, .func (.func 227) #[] #[], .int .i64 4, .func (.func 228) #[] #[], .int .i64 5, .func (.func 229) #[] #[]]

set_option maxHeartbeats 400000 in
theorem formulas_any (w : World) : Calls Tryz.prog 221 #[] w fun e w' => e = .returned (.slice (some ⟨w.heap.size, 0, none⟩) 5 5) ∧ w' = w.alloc (.cells formulaRow 250) := by
  go_enter Tryz.func221, Tryz.ntmps221
  go_wp2
  go_ret
  exact ⟨rfl, rfl⟩

set_option maxHeartbeats 400000 in
theorem isKind_any (B : Nat) (k K : Int) (f : Value) (w : World) (hlt : B < w.heap.size) (hB : w.cell? ⟨B, 0, none⟩ = some (.int .i64 k)) : Calls Tryz.prog 223 #[.agg #[.int .i64 K, f], .pointer (some ⟨B, 0, none⟩)] w fun e w' => e = .returned (.bool (K == k)) ∧ Below w.heap.size w w' := by
  go_enter Tryz.func223, Tryz.ntmps223
  go_wp2
  trace_state
  go_ret
  exact ⟨rfl, (Below.refl _ _).alloc (Nat.le_refl _) _⟩

end Go.Proofs.YthmohjgdcjafkaeGreat

/- Memory that is cells. -/
namespace Go.Proofs.YthmohjgdcjafkaeGreat
open Go.RowKit Go.PlainAid Go.Lib

/-- Block B holds just these. -/
def CellsAt (W : World) (B : Nat) (t : TypeId) (cs : Array Value) : Prop := W.heap[B]? = some (.cells cs t (0, 0))
theorem CellsAt.lt {W : World} {B : Nat} {t : TypeId} {cs : Array Value} (h : CellsAt W B t cs) : B < W.heap.size := (Array.getElem?_eq_some_iff.1 h).1
theorem CellsAt.cell {W : World} {B : Nat} {t : TypeId} {cs : Array Value} (h : CellsAt W B t cs) (i : Nat) : W.cell? ⟨B, i, none⟩ = cs[i]? := by
  simp [World.cell?, show W.heap[B]? = _ from h]
theorem CellsAt.frozen {W : World} {B : Nat} {t : TypeId} {cs : Array Value} (h : CellsAt W B t cs) (i : Nat) : W.frozen? ⟨B, i, none⟩ = false := by
  simp [World.frozen?, show W.heap[B]? = _ from h]
theorem CellsAt.new (W : World) (t : TypeId) (cs : Array Value) : CellsAt (W.alloc (.cells cs t)) W.heap.size t cs := World.alloc_heap_new W _
theorem CellsAt.kept {W W' : World} {row : Option Nat} {B : Nat} {t : TypeId} {cs : Array Value} (h : CellsAt W B t cs) (hg : W.grownBy W' row) (hne : some B ≠ row) : CellsAt W' B t cs := (hg.block B h.lt hne).trans h
theorem CellsAt.below {W W' : World} {B n : Nat} {t : TypeId} {cs : Array Value} (h : CellsAt W B t cs) (hb : Below n W W') (hn : B < n) : CellsAt W' B t cs := (hb.block B hn).trans h
theorem CellsAt.set {W : World} {B : Nat} {t : TypeId} {cs : Array Value} (i : Nat) (v : Value) (h : CellsAt W B t cs) : CellsAt (W.setCell ⟨B, i, none⟩ v) B t (cs.setIfInBounds i v) := by
  obtain ⟨hlt, hk⟩ := Array.getElem?_eq_some_iff.1 h
  show (W.heap.modify B _)[B]? = _
  rw [Array.getElem?_eq_getElem (by rw [Array.size_modify]; exact hlt), Array.getElem_modify_self, hk]
  rfl
theorem grown_set (W : World) (b i : Nat) (v : Value) : W.grownBy (W.setCell ⟨b, i, none⟩ v) (some b) :=
  ⟨rfl, rfl, rfl, by simp [World.setCell], fun k _ hne => Below.heap_setCell W ⟨b, i, none⟩ v k (fun e => hne (by rw [e]))⟩

theorem results_cell_tmp_row {P : Program} {fn : Func} {p u : Tmp} {ty : TypeId} (h : fn.results = #[.cell p ty, .tmp u]) (tmps : Array Value) (w : World) (g : Nat) (t : TypeId) (cs : Array Value) (fr : Nat × Nat) (d : TypeDesc)
    (hp : tmps.getD p undef = .pointer (some ⟨g, 0, none⟩)) (hg : w.heap[g]? = some (.cells cs t fr))
    (hu : P.underlying ty = some d) (hd : (match d with | .struct _ | .array _ _ => true | _ => false) = true) (hi : (P.info? ty).map (·.size) = some cs.size) :
    (results fn tmps).run P w = .ok (.tuple #[.agg cs, tmps.getD u undef]) w := by
  rw [results_cell_tmp h, hp]
  simp [asAddr, run_loadVar_row w g t ty cs fr d hg hu hd hi]

def expC (e : Exp) : List Value := [.string e.name, .int .i64 e.pos]
def impC (i : Imp) : List Value := [.string i.mod, .string i.name, .int .i64 i.major, .int .i64 i.minor]
def patC (p : Pat) : List Value := [.int .i64 p.kind, .int .i64 p.pos, .int .i64 p.sym, .int .i64 p.add]

theorem flat_at {α : Type} {C : α → List Value} {sz : Nat} (hC : ∀ x, (C x).length = sz) : ∀ (l : List α) (j : Nat) (x : α) (i : Nat), l[j]? = some x → i < sz → (l.flatMap C)[j * sz + i]? = (C x)[i]?
  | [], j, x, i, h, _ => by simp at h
  | y :: l, 0, x, i, h, hi => by
    obtain rfl : y = x := by simpa using h
    rw [List.flatMap_cons, Nat.zero_mul, Nat.zero_add, List.getElem?_append_left (by rw [hC]; exact hi)]
  | y :: l, j + 1, x, i, h, hi => by
    rw [List.flatMap_cons, List.getElem?_append_right (by rw [hC, Nat.succ_mul]; omega), hC]
    have := flat_at hC l j x i (by simpa using h) hi
    rwa [show (j + 1) * sz + i - sz = j * sz + i by rw [Nat.succ_mul]; omega]

theorem rowOf_cells {α : Type} {C : α → List Value} {cells : α → Nat → Value} {sz : Nat} (hC : ∀ x, (C x).length = sz) (hc : ∀ x i, i < sz → (C x)[i]? = some (cells x i)) {W : World} {B : Nat} {t : TypeId} {cs : Array Value} (h : CellsAt W B t cs)
    (l : List α) (hl : l.length ≤ 255) (cap : Nat) (hcs : cs.toList = l.flatMap C) : RowOf sz cells W.heap.size W (.slice (some ⟨B, 0, none⟩) l.length cap) l := by
  refine ⟨_, cap, rfl, by omega, .inr ⟨B, 0, rfl, h.lt, fun j x hj i hi => ?_⟩⟩
  rw [Nat.zero_add, h.cell]
  have h1 := flat_at hC l j x i hj hi
  rw [hc x i hi, ← hcs] at h1
  simpa using h1
theorem expC_at (x : Exp) (i : Nat) (hi : i < 2) : (expC x)[i]? = some (Exp.cell x i) := by
  have : i = 0 ∨ i = 1 := by omega
  rcases this with rfl | rfl <;> rfl
theorem impC_at (x : Imp) (i : Nat) (hi : i < 4) : (impC x)[i]? = some (Imp.cell x i) := by
  have : i = 0 ∨ i = 1 ∨ i = 2 ∨ i = 3 := by omega
  rcases this with rfl | rfl | rfl | rfl <;> rfl
theorem patC_at (x : Pat) (i : Nat) (hi : i < 4) : (patC x)[i]? = some (Pat.cell x i) := by
  have : i = 0 ∨ i = 1 ∨ i = 2 ∨ i = 3 := by omega
  rcases this with rfl | rfl | rfl | rfl <;> rfl

end Go.Proofs.YthmohjgdcjafkaeGreat

/- The contract of patch.formulaOf. -/
namespace Go.Proofs.YthmohjgdcjafkaeGreat
open Go.RowKit Go.PlainAid

/-- Where the first one is that is looked for; -1: nowhere. -/
def idxFrom {α : Type} (p : α → Bool) (k : Nat) : List α → Int
  | [] => -1
  | x :: l => if p x then (k : Int) else idxFrom p (k + 1) l

structure Formula where
  kind : Int
  value : Value
def Formula.cell (f : Formula) : Nat → Value
  | 0 => .int .i64 f.kind
  | _ => f.value

set_option maxHeartbeats 1000000 in
theorem idxFormula_any (l : List Formula) (v : Value) (K : FuncId) (c : Value) (hK : ∀ w x, Sem.run Tryz.prog (callFunc K #[x, c]) w = .ok (.enter K #[x, c]) w) (p : Formula → Bool) (w : World) (hrow : RowOf 2 Formula.cell w.heap.size w v l)
    (hp : ∀ x ∈ l, ∀ W, Below w.heap.size w W → Calls Tryz.prog K #[.agg #[.int .i64 x.kind, x.value], c] W fun e W' => e = .returned (.bool (p x)) ∧ Below W.heap.size W W') :
    Calls Tryz.prog 222 #[v, .func (.func K) #[] #[c]] w fun e w' => e = .returned (.int .i64 (idxFrom p 0 l)) ∧ Below w.heap.size w w' := by
  obtain ⟨a, cap, rfl, _, hrow⟩ := hrow
  go_enter Tryz.func222, Tryz.ntmps222
  go_wp2
  go_loopw [8] (fun i wr => ∃ (k : Nat), k ≤ l.length ∧ i = .int .i64 k ∧ Hid (idxFrom p 0 l = idxFrom p k (l.drop k)) ∧ Below w.heap.size w wr) (fun i _ => l.length - (intOf i).toNat)
  case atStart => exact ⟨0, Nat.zero_le _, rfl, by show idxFrom p 0 l = idxFrom p 0 (l.drop 0); rfl, Below.refl _ _⟩
  case round =>
    obtain ⟨k, hk, rfl, HC, B⟩ := hrel
    by_cases hlt : k < l.length
    · obtain ⟨x, hx⟩ : ∃ x, l[k]? = some x := ⟨_, List.getElem?_eq_getElem hlt⟩
      rcases hrow with h | ⟨b, off, rfl, hbn, hcells⟩
      · subst h; simp at hlt
      have HP := hp x (List.mem_of_getElem? hx)
      obtain ⟨kd, vl⟩ := x
      have c0 := (B.cell (p := ⟨b, off + k * 2 + 0, none⟩) hbn).trans (hcells k _ hx 0 (by omega))
      have c1 := (B.cell (p := ⟨b, off + k * 2 + 1, none⟩) hbn).trans (hcells k _ hx 1 (by omega))
      dsimp only [Formula.cell] at c0 c1
      rw [Nat.add_zero] at c0
      have HR : Hid (idxFrom p 0 l = if p ⟨kd, vl⟩ then (k : Int) else idxFrom p (k + 1) (l.drop (k + 1))) := by
        show idxFrom p 0 l = _
        rw [HC.out, drop_at hx]; rfl
      have HP' : Hid (∀ W, Below w.heap.size w W → Calls Tryz.prog K #[.agg #[.int .i64 kd, vl], c] W fun e W' => e = .returned (.bool (p ⟨kd, vl⟩)) ∧ Below W.heap.size W W') := HP
      clear HC hcells hx HP
      generalize p ⟨kd, vl⟩ = t at HR HP'
      go_wp2_with fail
      refine Calls.mono (HP'.out _ B) ?_
      rintro e w2 ⟨rfl, b2⟩
      have B2 := B.trans (b2.mono B.size)
      clear b2 HP' c0 c1
      cases t
      · go_wp2
        exact ⟨⟨k + 1, by omega, by go_num, HR.out, B2⟩, by simp [intOf]; omega⟩
      · go_wp2
        go_ret
        exact ⟨by rw [HR.out]; rfl, B2⟩
    · obtain rfl : k = l.length := by omega
      have HZ : Hid (idxFrom p 0 l = -1) := by
        show idxFrom p 0 l = -1
        rw [HC.out, List.drop_length]; rfl
      go_wp2
      go_ret
      exact ⟨by rw [HZ.out]; rfl, B⟩

def formulaL : List Formula := [⟨1, .func (.func 225) #[] #[]⟩, ⟨2, .func (.func 226) #[] #[]⟩, ⟨3, .func (.func 227) #[] #[]⟩, ⟨4, .func (.func 228) #[] #[]⟩, ⟨5, .func (.func 229) #[] #[]⟩]

theorem formula_row (w : World) : RowOf 2 Formula.cell (w.alloc (.cells formulaRow 250)).heap.size (w.alloc (.cells formulaRow 250)) (.slice (some ⟨w.heap.size, 0, none⟩) 5 5) formulaL := by
  refine ⟨_, 5, rfl, by decide, .inr ⟨w.heap.size, 0, rfl, by simp, fun j x hj i hi => ?_⟩⟩
  have hj5 : j < 5 := (List.getElem?_eq_some_iff.1 hj).1
  have h1 : j = 0 ∨ j = 1 ∨ j = 2 ∨ j = 3 ∨ j = 4 := by omega
  have h2 : i = 0 ∨ i = 1 := by omega
  rcases h1 with rfl | rfl | rfl | rfl | rfl <;> rcases h2 with rfl | rfl <;> (cases hj; simp [formulaRow, Formula.cell])

/-- The formula of a kind. -/
def formulaVal (k : Int) : Value :=
  if k = 1 then .func (.func 225) #[] #[] else if k = 2 then .func (.func 226) #[] #[] else if k = 3 then .func (.func 227) #[] #[] else if k = 4 then .func (.func 228) #[] #[] else .func (.func 229) #[] #[]

theorem idx_formula (k : Int) (h1 : 1 ≤ k) (h5 : k ≤ 5) : idxFrom (fun f => f.kind == k) 0 formulaL = k - 1 ∧ formulaL[(k - 1).toNat]? = some ⟨k, formulaVal k⟩ := by
  have : k = 1 ∨ k = 2 ∨ k = 3 ∨ k = 4 ∨ k = 5 := by omega
  rcases this with rfl | rfl | rfl | rfl | rfl <;> exact ⟨by decide, rfl⟩

set_option maxHeartbeats 1000000 in
theorem formulaOf_any (k : Int) (h1 : 1 ≤ k) (h5 : k ≤ 5) (w : World) : Calls Tryz.prog 217 #[.int .i64 k] w fun e w' => e = .returned (.agg #[.int .i64 k, formulaVal k]) ∧ Below w.heap.size w w' := by
  obtain ⟨i1, i2⟩ := idx_formula k h1 h5
  obtain ⟨n, rfl⟩ : ∃ n : Nat, k = (n : Int) + 1 := ⟨(k - 1).toNat, by omega⟩
  rw [show (n : Int) + 1 - 1 = n from by omega] at i1 i2
  rw [Int.toNat_natCast] at i2
  have hn : n < 5 := by omega
  clear h1 h5
  obtain ⟨g, hg⟩ : ∃ g, formulaVal ((n : Int) + 1) = .func (.func g) #[] #[] := by
    unfold formulaVal
    repeat' split
    all_goals exact ⟨_, rfl⟩
  rw [hg] at i2 ⊢
  clear hg
  go_enter Tryz.func217, Tryz.ntmps217
  go_wp2_with fail
  refine (formulas_any _).mono ?_
  rintro e w3 ⟨rfl, h3⟩
  have R3 := formula_row ((w.alloc (.cells #[.int .i64 ((n : Int) + 1)] 3)).alloc (.cells #[.int .i64 0, .nilFunc] 250))
  rw [← h3] at R3
  have K3 : w3.cell? ⟨w.heap.size, 0, none⟩ = some (.int .i64 ((n : Int) + 1)) := by
    have := ((CellsAt.new w 3 #[.int .i64 ((n : Int) + 1)]).kept (World.grownBy_alloc _ (.cells #[.int .i64 0, .nilFunc] 250) none) (by simp)).kept (World.grownBy_alloc _ (.cells formulaRow 250) none) (by simp)
    rw [h3]
    exact this.cell 0
  have C3 : CellsAt w3 (w.heap.size + 1) 250 #[.int .i64 0, .nilFunc] := by
    have := CellsAt.new (w.alloc (.cells #[.int .i64 ((n : Int) + 1)] 3)) 250 #[.int .i64 0, .nilFunc]
    rw [World.size_alloc] at this
    rw [h3]
    exact this.kept (World.grownBy_alloc _ _ none) (by simp)
  have B3 : Below w.heap.size w w3 := by rw [h3]; exact (((Below.refl _ _).alloc (Nat.le_refl _) _).alloc (by simp) _).alloc (by simp; omega) _
  have Z3 : w3.heap.size = w.heap.size + 1 + 1 + 1 := by rw [h3]; simp
  rw [World.size_alloc, World.size_alloc] at R3
  clear h3
  have HI : Hid (Calls Tryz.prog 222 #[.slice (some ⟨w.heap.size + 1 + 1, 0, none⟩) 5 5, .func (.func 223) #[] #[.pointer (some ⟨w.heap.size, 0, none⟩)]] w3 fun e w' => e = .returned (.int .i64 n) ∧ Below w3.heap.size w3 w') := by
    have := idxFormula_any formulaL _ 223 (.pointer (some ⟨w.heap.size, 0, none⟩)) (fun w x => enters_of Tryz.func223 (by kernel_rfl) rfl _ w) (fun f => f.kind == (n : Int) + 1) w3 R3
      (fun x _ W hb => isKind_any w.heap.size ((n : Int) + 1) x.kind x.value W (by have := hb.size; omega) ((hb.cell (p := ⟨w.heap.size, 0, none⟩) (by rw [Z3]; exact Nat.lt_of_lt_of_le (Nat.lt_succ_self _) (Nat.le_add_right _ 2))).trans K3))
    rwa [i1] at this
  obtain ⟨aR, capR, eR, _, hR | ⟨bR, oR, eR2, hlt, hcR⟩⟩ := R3
  · exact absurd hR (by decide)
  cases eR
  cases eR2
  have q0 := hcR n _ i2 0 (by omega)
  have q1 := hcR n _ i2 1 (by omega)
  dsimp only [Formula.cell] at q0 q1
  clear i1 i2 hcR
  go_wp2_with fail
  refine HI.out.mono ?_
  rintro e w4 ⟨rfl, b4⟩
  have p0 : w4.cell? ⟨w.heap.size + 1 + 1, n * 2, none⟩ = some (.int .i64 ((n : Int) + 1)) := by
    have := (b4.cell (p := ⟨w.heap.size + 1 + 1, 0 + n * 2 + 0, none⟩) (by omega)).trans q0
    rw [Nat.zero_add] at this
    exact this
  have p1 := (b4.cell (p := ⟨w.heap.size + 1 + 1, 0 + n * 2 + 1, none⟩) (by omega)).trans q1
  have C4 := C3.below b4 (by omega)
  have B4 := B3.trans (b4.mono (by omega))
  rw [Nat.zero_add] at p1
  have t0 := C4.cell 0
  have t1 := C4.cell 1
  have t2 := C4.frozen 0
  have t3 := C4.frozen 1
  clear q0 q1 C3 B3 b4 HI K3
  simp at t0 t1
  go_wp2
  (try simp only [Exit.inBlock, Exit.then])
  have hF : CellsAt ((w4.setCell ⟨w.heap.size + 1, 0, none⟩ (.int .i64 ((n : Int) + 1))).setCell ⟨w.heap.size + 1, 1, none⟩ (.func (.func g) #[] #[])) (w.heap.size + 1) 250 #[.int .i64 ((n : Int) + 1), .func (.func g) #[] #[]] := (C4.set 0 _).set 1 _
  refine bodyPost_ret (results_cell_row rfl _ _ _ _ _ _ _ rfl hF Tryz.underlying250 rfl (by kernel_rfl)) rfl ?_
  exact ⟨rfl, (B4.setCell (by simp) _).setCell (by simp) _⟩

end Go.Proofs.YthmohjgdcjafkaeGreat
