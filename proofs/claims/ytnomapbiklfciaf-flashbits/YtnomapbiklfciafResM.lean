/- Kernels, modules that are placed, and who is meant, as data. -/
import Derived.Test.YtnomapbiklfciafRefE
namespace Go.Proofs.Ytnomapbiklfciaf
open Go.RowKit Go.PlainAid

structure Ker where
  major : Int
  minor : Int
  exps : List Exp
structure Plc where
  mod : Mod
  first : Int

/-- What is wrong with a kernel. -/
def chkKer (k : Ker) : Int := if isVer k.major k.minor = false then 3 else if 8 < k.exps.length then 2 else chkExps 4096 [] k.exps
/-- What is wrong with modules that are placed. -/
def chkPls : List Plc → Int
  | [] => 0
  | p :: l => if chkMod p.mod ≠ 0 then chkMod p.mod else if betw p.first 0 15 = false then 3 else chkPls l
def chkPlaced (l : List Plc) : Int := if 8 < l.length then 2 else chkPls l
def chkFind (k : Ker) (l : List Plc) : Int := if chkKer k ≠ 0 then chkKer k else chkPlaced l

/-- What an import may mean: its version, where it begins, its exports. -/
structure Tgt where
  major : Int
  minor : Int
  beg : Int
  exps : List Exp
def tgtOf (k : Ker) (l : List Plc) (name : ByteArray) : Option Tgt :=
  if (name == kernelName) = true then some ⟨k.major, k.minor, 0, k.exps⟩
  else (l.find? fun p => p.mod.name == name).map fun p => ⟨p.mod.major, p.mod.minor, 4096 + p.first * 64, p.mod.exps⟩
def expOf (l : List Exp) (name : ByteArray) : Option Exp := l.find? fun x => x.name == name
/-- Where the import is, and why not. -/
def addrOf (k : Ker) (l : List Plc) (i : Imp) : Int × Int :=
  match tgtOf k l i.mod with
  | none => (0, 5)
  | some t => if t.major ≠ i.major ∨ t.minor < i.minor then (0, 4) else match expOf t.exps i.name with
    | none => (0, 5)
    | some x => (t.beg + x.pos, 0)

theorem expErr_zero {most : Int} {met : List ByteArray} {e : Exp} (h : expErr most met e = 0) : isNm e.name = true ∧ 0 ≤ e.pos ∧ e.pos < most := by
  obtain ⟨n, p⟩ := e
  rcases expErr_cases most met n p with ⟨_, h1⟩ | ⟨_, _, h1⟩ | ⟨_, _, _, h1⟩ | ⟨_, _, _, _, h1⟩ | ⟨h0, _, h1, h2, _⟩
  all_goals first | (rw [h] at h1; exact absurd h1 (by decide)) | exact ⟨h0, h1, h2⟩
theorem chkExps_pos {most : Int} : ∀ {l : List Exp} {met : List ByteArray}, chkExps most met l = 0 → ∀ e ∈ l, isNm e.name = true ∧ 0 ≤ e.pos ∧ e.pos < most
  | [], _, _, e, he => by simp at he
  | x :: l, met, h, e, he => by
    unfold chkExps at h
    by_cases h0 : expErr most met x = 0
    · rw [if_pos h0] at h
      rcases List.mem_cons.1 he with rfl | he
      · exact expErr_zero h0
      · exact chkExps_pos h e he
    · rw [if_neg h0] at h
      exact absurd h h0
theorem chkMod_exps {M : Mod} (h : chkMod M = 0) : (∀ e ∈ M.exps, isNm e.name = true ∧ 0 ≤ e.pos ∧ e.pos < M.text.size) ∧ M.text.size ≤ 256 ∧ M.exps.length ≤ 6 ∧ M.imps.length ≤ 6 ∧ M.pats.length ≤ 12 ∧ isNm M.name = true ∧ (M.name == kernelName) = false := by
  rcases chkMod_cases M with ⟨_, e⟩ | ⟨g1, ⟨_, e⟩ | ⟨g2, ⟨_, e⟩ | ⟨_, ⟨_, e⟩ | ⟨_, t1, t2, t3, t4, ⟨_, e⟩ | ⟨_, ⟨_, e⟩ | ⟨_, ⟨n, e⟩ | ⟨h7, _⟩⟩⟩⟩⟩⟩⟩
  · omega
  · omega
  · omega
  · omega
  · omega
  · omega
  · exact absurd (e ▸ h) n
  · exact ⟨chkExps_pos h7, t1, t2, t3, t4, g1, g2⟩
theorem chkKer_zero {k : Ker} (h : chkKer k = 0) : k.exps.length ≤ 8 ∧ ∀ e ∈ k.exps, isNm e.name = true ∧ 0 ≤ e.pos ∧ e.pos < 4096 := by
  unfold chkKer at h
  split at h
  · omega
  · split at h
    · omega
    · exact ⟨by omega, chkExps_pos h⟩
theorem chkPls_zero : ∀ {l : List Plc}, chkPls l = 0 → ∀ p ∈ l, chkMod p.mod = 0 ∧ 0 ≤ p.first ∧ p.first ≤ 15
  | [], _, p, hp => by simp at hp
  | x :: l, h, p, hp => by
    unfold chkPls at h
    by_cases h0 : chkMod x.mod = 0
    · rw [if_neg (by omega)] at h
      cases hb : betw x.first 0 15
      · rw [hb, if_pos rfl] at h; omega
      · rw [hb, if_neg (by decide)] at h
        rcases List.mem_cons.1 hp with rfl | hp
        · have := betw_iff.1 hb
          exact ⟨h0, this.1, this.2⟩
        · exact chkPls_zero h p hp
    · rw [if_pos h0] at h
      exact absurd h h0
theorem chkFind_zero {k : Ker} {l : List Plc} (h : chkFind k l = 0) : chkKer k = 0 ∧ l.length ≤ 8 ∧ ∀ p ∈ l, chkMod p.mod = 0 ∧ 0 ≤ p.first ∧ p.first ≤ 15 := by
  unfold chkFind at h
  by_cases h0 : chkKer k = 0
  · rw [if_neg (by omega)] at h
    unfold chkPlaced at h
    split at h
    · omega
    · exact ⟨h0, by omega, chkPls_zero h⟩
  · rw [if_pos h0] at h
    exact absurd h h0

/-- A target's exports lie just behind its beginning. -/
theorem tgt_bd {k : Ker} {l : List Plc} {name : ByteArray} {t : Tgt} (h : chkFind k l = 0) (ht : tgtOf k l name = some t) : 0 ≤ t.beg ∧ t.beg ≤ 5056 ∧ t.exps.length ≤ 8 ∧ ∀ e ∈ t.exps, isNm e.name = true ∧ 0 ≤ e.pos ∧ e.pos < 4096 := by
  obtain ⟨hk, hl, hp⟩ := chkFind_zero h
  unfold tgtOf at ht
  split at ht
  · injection ht with ht
    subst ht
    have := chkKer_zero hk
    exact ⟨Int.le_refl 0, show (0 : Int) ≤ 5056 by decide, this.1, this.2⟩
  · cases hf : l.find? fun p => p.mod.name == name with
    | none => rw [hf] at ht; simp at ht
    | some p =>
      rw [hf] at ht
      simp at ht
      subst ht
      obtain ⟨h1, h2, h3⟩ := hp p (List.mem_of_find?_eq_some hf)
      obtain ⟨h4, h5, h6, _⟩ := chkMod_exps h1
      exact ⟨by dsimp only; omega, by dsimp only; omega, by dsimp only; omega, fun e he => by obtain ⟨g1, g2, g3⟩ := h4 e he; exact ⟨g1, g2, by omega⟩⟩

/-- Kernels and rows of placed modules in memory. -/
structure PV where
  mod : Mod
  ve : Value
  vi : Value
  vp : Value
  first : Int
def PV.plc (x : PV) : Plc := ⟨x.mod, x.first⟩
def PV.cell (x : PV) : Nat → Value
  | 0 => .string x.mod.name
  | 1 => .int .i64 x.mod.major
  | 2 => .int .i64 x.mod.minor
  | 3 => .string x.mod.text
  | 4 => x.ve
  | 5 => x.vi
  | 6 => x.vp
  | _ => .int .i64 x.first
def PV.modV (x : PV) : Value := .agg #[.string x.mod.name, .int .i64 x.mod.major, .int .i64 x.mod.minor, .string x.mod.text, x.ve, x.vi, x.vp]
def PV.val (x : PV) : Value := .agg #[.string x.mod.name, .int .i64 x.mod.major, .int .i64 x.mod.minor, .string x.mod.text, x.ve, x.vi, x.vp, .int .i64 x.first]
def PlcAt (n₀ : Nat) (W : World) (x : PV) : Prop := RowOf 2 Exp.cell n₀ W x.ve x.mod.exps ∧ RowOf 4 Imp.cell n₀ W x.vi x.mod.imps ∧ RowOf 4 Pat.cell n₀ W x.vp x.mod.pats
def IsPlcs (n₀ : Nat) (W : World) (v : Value) (l : List PV) : Prop := RowOf 8 PV.cell n₀ W v l ∧ ∀ x ∈ l, PlcAt n₀ W x
def IsKer (n₀ : Nat) (W : World) (v : Value) (k : Ker) : Prop := ∃ ve, v = .agg #[.int .i64 k.major, .int .i64 k.minor, ve] ∧ RowOf 2 Exp.cell n₀ W ve k.exps
def Ker.fits (k : Ker) : Prop := ∀ e ∈ k.exps, e.name.size ≤ 9223372036854775807

theorem PlcAt.below {n₀ : Nat} {W W' : World} {x : PV} (h : PlcAt n₀ W x) (hb : Below n₀ W W') : PlcAt n₀ W' x := ⟨h.1.below hb, h.2.1.below hb, h.2.2.below hb⟩
theorem PlcAt.more {n₀ n₁ : Nat} {W : World} {x : PV} (h : PlcAt n₀ W x) (hn : n₀ ≤ n₁) : PlcAt n₁ W x := ⟨h.1.more hn, h.2.1.more hn, h.2.2.more hn⟩
theorem PlcAt.isMod {n₀ : Nat} {W : World} {x : PV} (h : PlcAt n₀ W x) : IsMod n₀ W x.modV x.mod := ⟨x.ve, x.vi, x.vp, rfl, h.1, h.2.1, h.2.2⟩
theorem IsPlcs.below {n₀ : Nat} {W W' : World} {v : Value} {l : List PV} (h : IsPlcs n₀ W v l) (hb : Below n₀ W W') : IsPlcs n₀ W' v l := ⟨h.1.below hb, fun x hx => (h.2 x hx).below hb⟩
theorem IsPlcs.more {n₀ n₁ : Nat} {W : World} {v : Value} {l : List PV} (h : IsPlcs n₀ W v l) (hn : n₀ ≤ n₁) : IsPlcs n₁ W v l := ⟨h.1.more hn, fun x hx => (h.2 x hx).more hn⟩
theorem IsKer.below {n₀ : Nat} {W W' : World} {v : Value} {k : Ker} (h : IsKer n₀ W v k) (hb : Below n₀ W W') : IsKer n₀ W' v k := by
  obtain ⟨ve, e, h⟩ := h
  exact ⟨ve, e, h.below hb⟩
theorem IsKer.more {n₀ n₁ : Nat} {W : World} {v : Value} {k : Ker} (h : IsKer n₀ W v k) (hn : n₀ ≤ n₁) : IsKer n₁ W v k := by
  obtain ⟨ve, e, h⟩ := h
  exact ⟨ve, e, h.more hn⟩

end Go.Proofs.Ytnomapbiklfciaf
