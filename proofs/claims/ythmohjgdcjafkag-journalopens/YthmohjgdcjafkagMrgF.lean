/- Texts that are laid together. -/
import Derived.Test.YthmohjgdcjafkagMrgE
import Derived.Test.YthmohjgdcjafkagMrgC
import Derived.Laws.Rows
import Derived.Laws.ResultCell

/- The contract of the document's CheckModule. -/
namespace Go.Proofs.Ythmohjgdcjafkag
open Go.RowKit Go.PlainAid

end Go.Proofs.Ythmohjgdcjafkag

/- Kernels, modules that are placed, and who is meant, as data. -/
namespace Go.Proofs.Ythmohjgdcjafkag
open Go.RowKit Go.PlainAid

structure Ker where
  major : Int
  minor : Int
  exps : List Exp
structure Plc where
  mod : Mod
  first : Int

/-- What is wrong with a kernel. -/
def chkKer (k : Ker) : Int := if isVer k.major k.minor = false then 3 else if 8 < k.exps.length then 2 else chkExps 4096 [] k.exps
/-- What is wrong with modules that are placed. -/
def chkPls : List Plc → Int
  | [] => 0
  | p :: l => if chkMod p.mod ≠ 0 then chkMod p.mod else if betw p.first 0 15 = false then 3 else chkPls l
def chkPlaced (l : List Plc) : Int := if 8 < l.length then 2 else chkPls l
def chkFind (k : Ker) (l : List Plc) : Int := if chkKer k ≠ 0 then chkKer k else chkPlaced l

/-- What an import may mean: its version, where it begins, its exports. -/
structure Tgt where
  major : Int
  minor : Int
  beg : Int
  exps : List Exp
def tgtOf (k : Ker) (l : List Plc) (name : ByteArray) : Option Tgt :=
  if (name == kernelName) = true then some ⟨k.major, k.minor, 0, k.exps⟩
  else (l.find? fun p => p.mod.name == name).map fun p => ⟨p.mod.major, p.mod.minor, 4096 + p.first * 64, p.mod.exps⟩
def expOf (l : List Exp) (name : ByteArray) : Option Exp := l.find? fun x => x.name == name
/-- Where the import is, and why not. -/
def addrOf (k : Ker) (l : List Plc) (i : Imp) : Int × Int :=
  match tgtOf k l i.mod with
  | none => (0, 5)
  | some t => if t.major ≠ i.major ∨ t.minor < i.minor then (0, 4) else match expOf t.exps i.name with
    | none => (0, 5)
    | some x => (t.beg + x.pos, 0)

theorem expErr_zero {most : Int} {met : List ByteArray} {e : Exp} (h : expErr most met e = 0) : isNm e.name = true ∧ 0 ≤ e.pos ∧ e.pos < most := by
  obtain ⟨n, p⟩ := e
  rcases expErr_cases most met n p with ⟨_, h1⟩ | ⟨_, _, h1⟩ | ⟨_, _, _, h1⟩ | ⟨_, _, _, _, h1⟩ | ⟨h0, _, h1, h2, _⟩
  all_goals first | (rw [h] at h1; exact absurd h1 (by decide)) | exact ⟨h0, h1, h2⟩
theorem chkExps_pos {most : Int} : ∀ {l : List Exp} {met : List ByteArray}, chkExps most met l = 0 → ∀ e ∈ l, isNm e.name = true ∧ 0 ≤ e.pos ∧ e.pos < most
  | [], _, _, e, he => by simp at he
  | x :: l, met, h, e, he => by
    unfold chkExps at h
    by_cases h0 : expErr most met x = 0
    · rw [if_pos h0] at h
      rcases List.mem_cons.1 he with rfl | he
      · exact expErr_zero h0
      · exact chkExps_pos h e he
    · rw [if_neg h0] at h
      exact absurd h h0
theorem chkMod_exps {M : Mod} (h : chkMod M = 0) : (∀ e ∈ M.exps, isNm e.name = true ∧ 0 ≤ e.pos ∧ e.pos < M.text.size) ∧ M.text.size ≤ 256 ∧ M.exps.length ≤ 6 ∧ M.imps.length ≤ 6 ∧ M.pats.length ≤ 12 ∧ isNm M.name = true ∧ (M.name == kernelName) = false := by
  rcases chkMod_cases M with ⟨_, e⟩ | ⟨g1, ⟨_, e⟩ | ⟨g2, ⟨_, e⟩ | ⟨_, ⟨_, e⟩ | ⟨_, t1, t2, t3, t4, ⟨_, e⟩ | ⟨_, ⟨_, e⟩ | ⟨_, ⟨n, e⟩ | ⟨h7, _⟩⟩⟩⟩⟩⟩⟩
  · omega
  · omega
  · omega
  · omega
  · omega
  · omega
  · exact absurd (e ▸ h) n
  · exact ⟨chkExps_pos h7, t1, t2, t3, t4, g1, g2⟩
theorem chkKer_zero {k : Ker} (h : chkKer k = 0) : k.exps.length ≤ 8 ∧ ∀ e ∈ k.exps, isNm e.name = true ∧ 0 ≤ e.pos ∧ e.pos < 4096 := by
  unfold chkKer at h
  split at h
  · omega
  · split at h
    · omega
    · exact ⟨by omega, chkExps_pos h⟩
theorem chkPls_zero : ∀ {l : List Plc}, chkPls l = 0 → ∀ p ∈ l, chkMod p.mod = 0 ∧ 0 ≤ p.first ∧ p.first ≤ 15
  | [], _, p, hp => by simp at hp
  | x :: l, h, p, hp => by
    unfold chkPls at h
    by_cases h0 : chkMod x.mod = 0
    · rw [if_neg (by omega)] at h
      cases hb : betw x.first 0 15
      · rw [hb, if_pos rfl] at h; omega
      · rw [hb, if_neg (by decide)] at h
        rcases List.mem_cons.1 hp with rfl | hp
        · have := betw_iff.1 hb
          exact ⟨h0, this.1, this.2⟩
        · exact chkPls_zero h p hp
    · rw [if_pos h0] at h
      exact absurd h h0
theorem chkFind_zero {k : Ker} {l : List Plc} (h : chkFind k l = 0) : chkKer k = 0 ∧ l.length ≤ 8 ∧ ∀ p ∈ l, chkMod p.mod = 0 ∧ 0 ≤ p.first ∧ p.first ≤ 15 := by
  unfold chkFind at h
  by_cases h0 : chkKer k = 0
  · rw [if_neg (by omega)] at h
    unfold chkPlaced at h
    split at h
    · omega
    · exact ⟨h0, by omega, chkPls_zero h⟩
  · rw [if_pos h0] at h
    exact absurd h h0

/-- A target's exports lie just behind its beginning. -/
theorem tgt_bd {k : Ker} {l : List Plc} {name : ByteArray} {t : Tgt} (h : chkFind k l = 0) (ht : tgtOf k l name = some t) : 0 ≤ t.beg ∧ t.beg ≤ 5056 ∧ t.exps.length ≤ 8 ∧ ∀ e ∈ t.exps, isNm e.name = true ∧ 0 ≤ e.pos ∧ e.pos < 4096 := by
  obtain ⟨hk, hl, hp⟩ := chkFind_zero h
  unfold tgtOf at ht
  split at ht
  · injection ht with ht
    subst ht
    have := chkKer_zero hk
    exact ⟨Int.le_refl 0, show (0 : Int) ≤ 5056 by decide, this.1, this.2⟩
  · cases hf : l.find? fun p => p.mod.name == name with
    | none => rw [hf] at ht; simp at ht
    | some p =>
      rw [hf] at ht
      simp at ht
      subst ht
      obtain ⟨h1, h2, h3⟩ := hp p (List.mem_of_find?_eq_some hf)
      obtain ⟨h4, h5, h6, _⟩ := chkMod_exps h1
      exact ⟨by dsimp only; omega, by dsimp only; omega, by dsimp only; omega, fun e he => by obtain ⟨g1, g2, g3⟩ := h4 e he; exact ⟨g1, g2, by omega⟩⟩

/-- Kernels and rows of placed modules in memory. -/
structure PV where
  mod : Mod
  ve : Value
  vi : Value
  vp : Value
  first : Int
def PV.plc (x : PV) : Plc := ⟨x.mod, x.first⟩
def PV.cell (x : PV) : Nat → Value
  | 0 => .string x.mod.name
  | 1 => .int .i64 x.mod.major
  | 2 => .int .i64 x.mod.minor
  | 3 => .string x.mod.text
  | 4 => x.ve
  | 5 => x.vi
  | 6 => x.vp
  | _ => .int .i64 x.first
def PV.modV (x : PV) : Value := .agg #[.string x.mod.name, .int .i64 x.mod.major, .int .i64 x.mod.minor, .string x.mod.text, x.ve, x.vi, x.vp]
def PV.val (x : PV) : Value := .agg #[.string x.mod.name, .int .i64 x.mod.major, .int .i64 x.mod.minor, .string x.mod.text, x.ve, x.vi, x.vp, .int .i64 x.first]
def PlcAt (n₀ : Nat) (W : World) (x : PV) : Prop := RowOf 2 Exp.cell n₀ W x.ve x.mod.exps ∧ RowOf 4 Imp.cell n₀ W x.vi x.mod.imps ∧ RowOf 4 Pat.cell n₀ W x.vp x.mod.pats
def IsPlcs (n₀ : Nat) (W : World) (v : Value) (l : List PV) : Prop := RowOf 8 PV.cell n₀ W v l ∧ ∀ x ∈ l, PlcAt n₀ W x
def IsKer (n₀ : Nat) (W : World) (v : Value) (k : Ker) : Prop := ∃ ve, v = .agg #[.int .i64 k.major, .int .i64 k.minor, ve] ∧ RowOf 2 Exp.cell n₀ W ve k.exps
def Ker.fits (k : Ker) : Prop := ∀ e ∈ k.exps, e.name.size ≤ 9223372036854775807

theorem PlcAt.below {n₀ : Nat} {W W' : World} {x : PV} (h : PlcAt n₀ W x) (hb : Below n₀ W W') : PlcAt n₀ W' x := ⟨h.1.below hb, h.2.1.below hb, h.2.2.below hb⟩
theorem PlcAt.more {n₀ n₁ : Nat} {W : World} {x : PV} (h : PlcAt n₀ W x) (hn : n₀ ≤ n₁) : PlcAt n₁ W x := ⟨h.1.more hn, h.2.1.more hn, h.2.2.more hn⟩
theorem PlcAt.isMod {n₀ : Nat} {W : World} {x : PV} (h : PlcAt n₀ W x) : IsMod n₀ W x.modV x.mod := ⟨x.ve, x.vi, x.vp, rfl, h.1, h.2.1, h.2.2⟩
theorem IsPlcs.below {n₀ : Nat} {W W' : World} {v : Value} {l : List PV} (h : IsPlcs n₀ W v l) (hb : Below n₀ W W') : IsPlcs n₀ W' v l := ⟨h.1.below hb, fun x hx => (h.2 x hx).below hb⟩
theorem IsPlcs.more {n₀ n₁ : Nat} {W : World} {v : Value} {l : List PV} (h : IsPlcs n₀ W v l) (hn : n₀ ≤ n₁) : IsPlcs n₁ W v l := ⟨h.1.more hn, fun x hx => (h.2 x hx).more hn⟩
theorem IsKer.below {n₀ : Nat} {W W' : World} {v : Value} {k : Ker} (h : IsKer n₀ W v k) (hb : Below n₀ W W') : IsKer n₀ W' v k := by
  obtain ⟨ve, e, h⟩ := h
  exact ⟨ve, e, h.below hb⟩
theorem IsKer.more {n₀ n₁ : Nat} {W : World} {v : Value} {k : Ker} (h : IsKer n₀ W v k) (hn : n₀ ≤ n₁) : IsKer n₁ W v k := by
  obtain ⟨ve, e, h⟩ := h
  exact ⟨ve, e, h.more hn⟩

end Go.Proofs.Ythmohjgdcjafkag

/- Memory that is cells. -/
namespace Go.Proofs.Ythmohjgdcjafkag
open Go.RowKit Go.PlainAid Go.Lib

/-- Block B holds just these. -/
def CellsAt (W : World) (B : Nat) (t : TypeId) (cs : Array Value) : Prop := W.heap[B]? = some (.cells cs t (0, 0))
theorem CellsAt.lt {W : World} {B : Nat} {t : TypeId} {cs : Array Value} (h : CellsAt W B t cs) : B < W.heap.size := (Array.getElem?_eq_some_iff.1 h).1
theorem CellsAt.cell {W : World} {B : Nat} {t : TypeId} {cs : Array Value} (h : CellsAt W B t cs) (i : Nat) : W.cell? ⟨B, i, none⟩ = cs[i]? := by
  simp [World.cell?, show W.heap[B]? = _ from h]
theorem CellsAt.frozen {W : World} {B : Nat} {t : TypeId} {cs : Array Value} (h : CellsAt W B t cs) (i : Nat) : W.frozen? ⟨B, i, none⟩ = false := by
  simp [World.frozen?, show W.heap[B]? = _ from h]
theorem CellsAt.new (W : World) (t : TypeId) (cs : Array Value) : CellsAt (W.alloc (.cells cs t)) W.heap.size t cs := World.alloc_heap_new W _
theorem CellsAt.kept {W W' : World} {row : Option Nat} {B : Nat} {t : TypeId} {cs : Array Value} (h : CellsAt W B t cs) (hg : W.grownBy W' row) (hne : some B ≠ row) : CellsAt W' B t cs := (hg.block B h.lt hne).trans h
theorem CellsAt.below {W W' : World} {B n : Nat} {t : TypeId} {cs : Array Value} (h : CellsAt W B t cs) (hb : Below n W W') (hn : B < n) : CellsAt W' B t cs := (hb.block B hn).trans h
theorem CellsAt.set {W : World} {B : Nat} {t : TypeId} {cs : Array Value} (i : Nat) (v : Value) (h : CellsAt W B t cs) : CellsAt (W.setCell ⟨B, i, none⟩ v) B t (cs.setIfInBounds i v) := by
  obtain ⟨hlt, hk⟩ := Array.getElem?_eq_some_iff.1 h
  show (W.heap.modify B _)[B]? = _
  rw [Array.getElem?_eq_getElem (by rw [Array.size_modify]; exact hlt), Array.getElem_modify_self, hk]
  rfl
theorem grown_set (W : World) (b i : Nat) (v : Value) : W.grownBy (W.setCell ⟨b, i, none⟩ v) (some b) :=
  ⟨rfl, rfl, rfl, by simp [World.setCell], fun k _ hne => Below.heap_setCell W ⟨b, i, none⟩ v k (fun e => hne (by rw [e]))⟩

theorem results_cell_tmp_row {P : Program} {fn : Func} {p u : Tmp} {ty : TypeId} (h : fn.results = #[.cell p ty, .tmp u]) (tmps : Array Value) (w : World) (g : Nat) (t : TypeId) (cs : Array Value) (fr : Nat × Nat) (d : TypeDesc)
    (hp : tmps.getD p undef = .pointer (some ⟨g, 0, none⟩)) (hg : w.heap[g]? = some (.cells cs t fr))
    (hu : P.underlying ty = some d) (hd : (match d with | .struct _ | .array _ _ => true | _ => false) = true) (hi : (P.info? ty).map (·.size) = some cs.size) :
    (results fn tmps).run P w = .ok (.tuple #[.agg cs, tmps.getD u undef]) w := by
  rw [results_cell_tmp h, hp]
  simp [asAddr, run_loadVar_row w g t ty cs fr d hg hu hd hi]

def expC (e : Exp) : List Value := [.string e.name, .int .i64 e.pos]
def impC (i : Imp) : List Value := [.string i.mod, .string i.name, .int .i64 i.major, .int .i64 i.minor]
def patC (p : Pat) : List Value := [.int .i64 p.kind, .int .i64 p.pos, .int .i64 p.sym, .int .i64 p.add]

theorem flat_at {α : Type} {C : α → List Value} {sz : Nat} (hC : ∀ x, (C x).length = sz) : ∀ (l : List α) (j : Nat) (x : α) (i : Nat), l[j]? = some x → i < sz → (l.flatMap C)[j * sz + i]? = (C x)[i]?
  | [], j, x, i, h, _ => by simp at h
  | y :: l, 0, x, i, h, hi => by
    obtain rfl : y = x := by simpa using h
    rw [List.flatMap_cons, Nat.zero_mul, Nat.zero_add, List.getElem?_append_left (by rw [hC]; exact hi)]
  | y :: l, j + 1, x, i, h, hi => by
    rw [List.flatMap_cons, List.getElem?_append_right (by rw [hC, Nat.succ_mul]; omega), hC]
    have := flat_at hC l j x i (by simpa using h) hi
    rwa [show (j + 1) * sz + i - sz = j * sz + i by rw [Nat.succ_mul]; omega]

theorem rowOf_cells {α : Type} {C : α → List Value} {cells : α → Nat → Value} {sz : Nat} (hC : ∀ x, (C x).length = sz) (hc : ∀ x i, i < sz → (C x)[i]? = some (cells x i)) {W : World} {B : Nat} {t : TypeId} {cs : Array Value} (h : CellsAt W B t cs)
    (l : List α) (hl : l.length ≤ 255) (cap : Nat) (hcs : cs.toList = l.flatMap C) : RowOf sz cells W.heap.size W (.slice (some ⟨B, 0, none⟩) l.length cap) l := by
  refine ⟨_, cap, rfl, by omega, .inr ⟨B, 0, rfl, h.lt, fun j x hj i hi => ?_⟩⟩
  rw [Nat.zero_add, h.cell]
  have h1 := flat_at hC l j x i hj hi
  rw [hc x i hi, ← hcs] at h1
  simpa using h1
theorem expC_at (x : Exp) (i : Nat) (hi : i < 2) : (expC x)[i]? = some (Exp.cell x i) := by
  have : i = 0 ∨ i = 1 := by omega
  rcases this with rfl | rfl <;> rfl
theorem impC_at (x : Imp) (i : Nat) (hi : i < 4) : (impC x)[i]? = some (Imp.cell x i) := by
  have : i = 0 ∨ i = 1 ∨ i = 2 ∨ i = 3 := by omega
  rcases this with rfl | rfl | rfl | rfl <;> rfl
theorem patC_at (x : Pat) (i : Nat) (hi : i < 4) : (patC x)[i]? = some (Pat.cell x i) := by
  have : i = 0 ∨ i = 1 ∨ i = 2 ∨ i = 3 := by omega
  rcases this with rfl | rfl | rfl | rfl <;> rfl

end Go.Proofs.Ythmohjgdcjafkag
