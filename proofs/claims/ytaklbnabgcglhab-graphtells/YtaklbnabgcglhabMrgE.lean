/- Texts that are laid together. -/
import Derived.Test.YtaklbnabgcglhabMrgD
import Derived.PlainAid
import Derived.MapKept
import Derived.Test.YtaklbnabgcglhabMrgB

/- Kernels, modules that are placed, and who is meant, as data. -/
namespace Go.Proofs.Ytaklbnabgcglhab
open Go.RowKit Go.PlainAid

structure Ker where
  major : Int
  minor : Int
  exps : List Exp
structure Plc where
  mod : Mod
  first : Int

/-- What is wrong with a kernel. -/
def chkKer (k : Ker) : Int := if isVer k.major k.minor = false then 3 else if 8 < k.exps.length then 2 else chkExps 4096 [] k.exps
/-- What is wrong with modules that are placed. -/
def chkPls : List Plc → Int
  | [] => 0
  | p :: l => if chkMod p.mod ≠ 0 then chkMod p.mod else if betw p.first 0 15 = false then 3 else chkPls l
def chkPlaced (l : List Plc) : Int := if 8 < l.length then 2 else chkPls l
def chkFind (k : Ker) (l : List Plc) : Int := if chkKer k ≠ 0 then chkKer k else chkPlaced l

/-- What an import may mean: its version, where it begins, its exports. -/
structure Tgt where
  major : Int
  minor : Int
  beg : Int
  exps : List Exp
def tgtOf (k : Ker) (l : List Plc) (name : ByteArray) : Option Tgt :=
  if (name == kernelName) = true then some ⟨k.major, k.minor, 0, k.exps⟩
  else (l.find? fun p => p.mod.name == name).map fun p => ⟨p.mod.major, p.mod.minor, 4096 + p.first * 64, p.mod.exps⟩
def expOf (l : List Exp) (name : ByteArray) : Option Exp := l.find? fun x => x.name == name
/-- Where the import is, and why not. -/
def addrOf (k : Ker) (l : List Plc) (i : Imp) : Int × Int :=
  match tgtOf k l i.mod with
  | none => (0, 5)
  | some t => if t.major ≠ i.major ∨ t.minor < i.minor then (0, 4) else match expOf t.exps i.name with
    | none => (0, 5)
    | some x => (t.beg + x.pos, 0)

theorem expErr_zero {most : Int} {met : List ByteArray} {e : Exp} (h : expErr most met e = 0) : isNm e.name = true ∧ 0 ≤ e.pos ∧ e.pos < most := by
  obtain ⟨n, p⟩ := e
  rcases expErr_cases most met n p with ⟨_, h1⟩ | ⟨_, _, h1⟩ | ⟨_, _, _, h1⟩ | ⟨_, _, _, _, h1⟩ | ⟨h0, _, h1, h2, _⟩
  all_goals first | (rw [h] at h1; exact absurd h1 (by decide)) | exact ⟨h0, h1, h2⟩
theorem chkExps_pos {most : Int} : ∀ {l : List Exp} {met : List ByteArray}, chkExps most met l = 0 → ∀ e ∈ l, isNm e.name = true ∧ 0 ≤ e.pos ∧ e.pos < most
  | [], _, _, e, he => by simp at he
  | x :: l, met, h, e, he => by
    unfold chkExps at h
    by_cases h0 : expErr most met x = 0
    · rw [if_pos h0] at h
      rcases List.mem_cons.1 he with rfl | he
      · exact expErr_zero h0
      · exact chkExps_pos h e he
    · rw [if_neg h0] at h
      exact absurd h h0
theorem chkMod_exps {M : Mod} (h : chkMod M = 0) : (∀ e ∈ M.exps, isNm e.name = true ∧ 0 ≤ e.pos ∧ e.pos < M.text.size) ∧ M.text.size ≤ 256 ∧ M.exps.length ≤ 6 ∧ M.imps.length ≤ 6 ∧ M.pats.length ≤ 12 ∧ isNm M.name = true ∧ (M.name == kernelName) = false := by
  rcases chkMod_cases M with ⟨_, e⟩ | ⟨g1, ⟨_, e⟩ | ⟨g2, ⟨_, e⟩ | ⟨_, ⟨_, e⟩ | ⟨_, t1, t2, t3, t4, ⟨_, e⟩ | ⟨_, ⟨_, e⟩ | ⟨_, ⟨n, e⟩ | ⟨h7, _⟩⟩⟩⟩⟩⟩⟩
  · omega
  · omega
  · omega
  · omega
  · omega
  · omega
  · exact absurd (e ▸ h) n
  · exact ⟨chkExps_pos h7, t1, t2, t3, t4, g1, g2⟩
theorem chkKer_zero {k : Ker} (h : chkKer k = 0) : k.exps.length ≤ 8 ∧ ∀ e ∈ k.exps, isNm e.name = true ∧ 0 ≤ e.pos ∧ e.pos < 4096 := by
  unfold chkKer at h
  split at h
  · omega
  · split at h
    · omega
    · exact ⟨by omega, chkExps_pos h⟩
theorem chkPls_zero : ∀ {l : List Plc}, chkPls l = 0 → ∀ p ∈ l, chkMod p.mod = 0 ∧ 0 ≤ p.first ∧ p.first ≤ 15
  | [], _, p, hp => by simp at hp
  | x :: l, h, p, hp => by
    unfold chkPls at h
    by_cases h0 : chkMod x.mod = 0
    · rw [if_neg (by omega)] at h
      cases hb : betw x.first 0 15
      · rw [hb, if_pos rfl] at h; omega
      · rw [hb, if_neg (by decide)] at h
        rcases List.mem_cons.1 hp with rfl | hp
        · have := betw_iff.1 hb
          exact ⟨h0, this.1, this.2⟩
        · exact chkPls_zero h p hp
    · rw [if_pos h0] at h
      exact absurd h h0
theorem chkFind_zero {k : Ker} {l : List Plc} (h : chkFind k l = 0) : chkKer k = 0 ∧ l.length ≤ 8 ∧ ∀ p ∈ l, chkMod p.mod = 0 ∧ 0 ≤ p.first ∧ p.first ≤ 15 := by
  unfold chkFind at h
  by_cases h0 : chkKer k = 0
  · rw [if_neg (by omega)] at h
    unfold chkPlaced at h
    split at h
    · omega
    · exact ⟨h0, by omega, chkPls_zero h⟩
  · rw [if_pos h0] at h
    exact absurd h h0

/-- A target's exports lie just behind its beginning. -/
theorem tgt_bd {k : Ker} {l : List Plc} {name : ByteArray} {t : Tgt} (h : chkFind k l = 0) (ht : tgtOf k l name = some t) : 0 ≤ t.beg ∧ t.beg ≤ 5056 ∧ t.exps.length ≤ 8 ∧ ∀ e ∈ t.exps, isNm e.name = true ∧ 0 ≤ e.pos ∧ e.pos < 4096 := by
  obtain ⟨hk, hl, hp⟩ := chkFind_zero h
  unfold tgtOf at ht
  split at ht
  · injection ht with ht
    subst ht
    have := chkKer_zero hk
    exact ⟨Int.le_refl 0, show (0 : Int) ≤ 5056 by decide, this.1, this.2⟩
  · cases hf : l.find? fun p => p.mod.name == name with
    | none => rw [hf] at ht; simp at ht
    | some p =>
      rw [hf] at ht
      simp at ht
      subst ht
      obtain ⟨h1, h2, h3⟩ := hp p (List.mem_of_find?_eq_some hf)
      obtain ⟨h4, h5, h6, _⟩ := chkMod_exps h1
      exact ⟨by dsimp only; omega, by dsimp only; omega, by dsimp only; omega, fun e he => by obtain ⟨g1, g2, g3⟩ := h4 e he; exact ⟨g1, g2, by omega⟩⟩

/-- Kernels and rows of placed modules in memory. -/
structure PV where
  mod : Mod
  ve : Value
  vi : Value
  vp : Value
  first : Int
def PV.plc (x : PV) : Plc := ⟨x.mod, x.first⟩
def PV.cell (x : PV) : Nat → Value
  | 0 => .string x.mod.name
  | 1 => .int .i64 x.mod.major
  | 2 => .int .i64 x.mod.minor
  | 3 => .string x.mod.text
  | 4 => x.ve
  | 5 => x.vi
  | 6 => x.vp
  | _ => .int .i64 x.first
def PV.modV (x : PV) : Value := .agg #[.string x.mod.name, .int .i64 x.mod.major, .int .i64 x.mod.minor, .string x.mod.text, x.ve, x.vi, x.vp]
def PV.val (x : PV) : Value := .agg #[.string x.mod.name, .int .i64 x.mod.major, .int .i64 x.mod.minor, .string x.mod.text, x.ve, x.vi, x.vp, .int .i64 x.first]
def PlcAt (n₀ : Nat) (W : World) (x : PV) : Prop := RowOf 2 Exp.cell n₀ W x.ve x.mod.exps ∧ RowOf 4 Imp.cell n₀ W x.vi x.mod.imps ∧ RowOf 4 Pat.cell n₀ W x.vp x.mod.pats
def IsPlcs (n₀ : Nat) (W : World) (v : Value) (l : List PV) : Prop := RowOf 8 PV.cell n₀ W v l ∧ ∀ x ∈ l, PlcAt n₀ W x
def IsKer (n₀ : Nat) (W : World) (v : Value) (k : Ker) : Prop := ∃ ve, v = .agg #[.int .i64 k.major, .int .i64 k.minor, ve] ∧ RowOf 2 Exp.cell n₀ W ve k.exps
def Ker.fits (k : Ker) : Prop := ∀ e ∈ k.exps, e.name.size ≤ 9223372036854775807

theorem PlcAt.below {n₀ : Nat} {W W' : World} {x : PV} (h : PlcAt n₀ W x) (hb : Below n₀ W W') : PlcAt n₀ W' x := ⟨h.1.below hb, h.2.1.below hb, h.2.2.below hb⟩
theorem PlcAt.more {n₀ n₁ : Nat} {W : World} {x : PV} (h : PlcAt n₀ W x) (hn : n₀ ≤ n₁) : PlcAt n₁ W x := ⟨h.1.more hn, h.2.1.more hn, h.2.2.more hn⟩
theorem PlcAt.isMod {n₀ : Nat} {W : World} {x : PV} (h : PlcAt n₀ W x) : IsMod n₀ W x.modV x.mod := ⟨x.ve, x.vi, x.vp, rfl, h.1, h.2.1, h.2.2⟩
theorem IsPlcs.below {n₀ : Nat} {W W' : World} {v : Value} {l : List PV} (h : IsPlcs n₀ W v l) (hb : Below n₀ W W') : IsPlcs n₀ W' v l := ⟨h.1.below hb, fun x hx => (h.2 x hx).below hb⟩
theorem IsPlcs.more {n₀ n₁ : Nat} {W : World} {v : Value} {l : List PV} (h : IsPlcs n₀ W v l) (hn : n₀ ≤ n₁) : IsPlcs n₁ W v l := ⟨h.1.more hn, fun x hx => (h.2 x hx).more hn⟩
theorem IsKer.below {n₀ : Nat} {W W' : World} {v : Value} {k : Ker} (h : IsKer n₀ W v k) (hb : Below n₀ W W') : IsKer n₀ W' v k := by
  obtain ⟨ve, e, h⟩ := h
  exact ⟨ve, e, h.below hb⟩
theorem IsKer.more {n₀ n₁ : Nat} {W : World} {v : Value} {k : Ker} (h : IsKer n₀ W v k) (hn : n₀ ≤ n₁) : IsKer n₁ W v k := by
  obtain ⟨ve, e, h⟩ := h
  exact ⟨ve, e, h.more hn⟩

end Go.Proofs.Ytaklbnabgcglhab

/- Placed modules and the runs that they leave, as data. -/
namespace Go.Proofs.Ytaklbnabgcglhab
open Go.RowKit Go.PlainAid

/-- What is wrong with placed modules, where each is held to its own and to one thing more. -/
def chkBy (q : Plc → Int) : List Plc → Int
  | [] => 0
  | p :: l => if chkMod p.mod ≠ 0 then chkMod p.mod else if q p ≠ 0 then q p else chkBy q l
theorem chkBy_step (q : Plc → Int) (p : Plc) (l : List Plc) : (chkMod p.mod ≠ 0 ∧ chkBy q (p :: l) = chkMod p.mod) ∨ (chkMod p.mod = 0 ∧ q p ≠ 0 ∧ chkBy q (p :: l) = q p) ∨ (chkMod p.mod = 0 ∧ q p = 0 ∧ chkBy q (p :: l) = chkBy q l) := by
  have hs : chkBy q (p :: l) = if chkMod p.mod ≠ 0 then chkMod p.mod else if q p ≠ 0 then q p else chkBy q l := rfl
  rw [hs]
  by_cases h : chkMod p.mod = 0
  · by_cases h2 : q p = 0
    · exact .inr (.inr ⟨h, h2, by rw [if_neg (by simpa using h), if_neg (by simpa using h2)]⟩)
    · exact .inr (.inl ⟨h, h2, by rw [if_neg (by simpa using h), if_pos h2]⟩)
  · exact .inl ⟨h, by rw [if_pos h]⟩
theorem chkBy_zero {q : Plc → Int} : ∀ {l : List Plc}, chkBy q l = 0 ↔ ∀ p ∈ l, chkMod p.mod = 0 ∧ q p = 0
  | [] => by simp [chkBy]
  | p :: l => by
    rcases chkBy_step q p l with ⟨h, e⟩ | ⟨h, h2, e⟩ | ⟨h, h2, e⟩
    · rw [e]
      exact ⟨fun h' => absurd h' h, fun h' => (h' p (by simp)).1⟩
    · rw [e]
      exact ⟨fun h' => absurd h' h2, fun h' => (h' p (by simp)).2⟩
    · rw [e, chkBy_zero]
      constructor
      · intro h' x hx
        rcases List.mem_cons.1 hx with rfl | hx
        · exact ⟨h, h2⟩
        · exact h' x hx
      · exact fun h' x hx => h' x (List.mem_cons_of_mem _ hx)
theorem chkBy_congr {q q' : Plc → Int} (h : ∀ p, q p = q' p) (l : List Plc) : chkBy q l = chkBy q' l := by
  rw [show q = q' from funext h]
def farErr (p : Plc) : Int := if betw p.first 0 15 = false then 3 else 0
theorem chkPls_by : ∀ l : List Plc, chkPls l = chkBy farErr l
  | [] => rfl
  | p :: l => by
    have h1 : chkPls (p :: l) = if chkMod p.mod ≠ 0 then chkMod p.mod else if betw p.first 0 15 = false then 3 else chkPls l := rfl
    have h2 : chkBy farErr (p :: l) = if chkMod p.mod ≠ 0 then chkMod p.mod else if (if betw p.first 0 15 = false then (3 : Int) else 0) ≠ 0 then (if betw p.first 0 15 = false then (3 : Int) else 0) else chkBy farErr l := rfl
    rw [h1, h2, chkPls_by l]
    generalize chkBy farErr l = x
    cases betw p.first 0 15
    · simp
    · simp

/-- How many sectors a module needs. -/
def szM (m : Mod) : Nat := (m.text.size + 63) / 64
theorem szM_bd {m : Mod} (h : chkMod m = 0) : 1 ≤ szM m ∧ szM m ≤ 4 ∧ m.text.size ≤ 256 ∧ 1 ≤ m.text.size := by
  have h1 := (chkMod_exps h).2.1
  have h2 : m.text.size ≠ 0 := by
    intro h0
    unfold chkMod at h
    split at h
    · omega
    split at h
    · omega
    split at h
    · omega
    split at h
    · omega
    · rename_i _ _ _ h4
      exact h4 (.inl h0)
  unfold szM
  omega
def outErr (p : Plc) : Int := if p.first < 0 ∨ 16 - (szM p.mod : Int) < p.first then 3 else 0
/-- Does each begin behind the one ahead? -/
def behind : Int → List Plc → Bool
  | _, [] => true
  | e, p :: l => !decide (p.first < e) && behind (p.first + szM p.mod) l
def chkReg (l : List Plc) : Int := if 8 < l.length then 2 else if chkBy outErr l ≠ 0 then chkBy outErr l else if behind 0 l = false then 4 else 0
def okPl : Int → List Plc → Prop
  | e, [] => e ≤ 16
  | e, p :: l => e ≤ p.first ∧ 1 ≤ szM p.mod ∧ p.first + szM p.mod ≤ 16 ∧ okPl (p.first + szM p.mod) l
theorem behind_ok : ∀ {l : List Plc} {e : Int}, e ≤ 16 → (∀ p ∈ l, 1 ≤ szM p.mod ∧ p.first + szM p.mod ≤ 16) → behind e l = true → okPl e l
  | [], _, he, _, _ => he
  | p :: l, e, he, h, hb => by
    unfold behind at hb
    simp at hb
    obtain ⟨h1, h2⟩ := h p (by simp)
    exact ⟨hb.1, h1, h2, behind_ok h2 (fun x hx => h x (List.mem_cons_of_mem _ hx)) hb.2⟩
theorem ok_behind : ∀ {l : List Plc} {e : Int}, okPl e l → behind e l = true
  | [], _, _ => rfl
  | p :: l, e, h => by
    obtain ⟨h1, _, _, h4⟩ := h
    unfold behind
    simp [ok_behind h4]
    omega
theorem okPl_first : ∀ {l : List Plc} {e : Int}, okPl e l → ∀ p ∈ l, e ≤ p.first ∧ 1 ≤ szM p.mod ∧ p.first + szM p.mod ≤ 16
  | [], _, _, p, hp => by simp at hp
  | x :: l, e, h, p, hp => by
    obtain ⟨h1, h2, h3, h4⟩ := h
    rcases List.mem_cons.1 hp with rfl | hp
    · exact ⟨h1, h2, h3⟩
    · have := okPl_first h4 p hp
      omega
theorem okPl_end : ∀ {l : List Plc} {e : Int}, okPl e l → e ≤ 16
  | [], _, h => h
  | p :: l, e, h => by
    have := okPl_end h.2.2.2
    have h1 := h.1
    omega
theorem chkReg_zero {l : List Plc} : chkReg l = 0 ↔ l.length ≤ 8 ∧ (∀ p ∈ l, chkMod p.mod = 0) ∧ okPl 0 l := by
  unfold chkReg
  constructor
  · intro h
    split at h
    · omega
    rename_i h8
    split at h
    · omega
    rename_i hb
    have hb : chkBy outErr l = 0 := by omega
    have hz := chkBy_zero.1 hb
    split at h
    · omega
    rename_i hh
    have hh : behind 0 l = true := by simpa using hh
    refine ⟨by omega, fun p hp => (hz p hp).1, behind_ok (by decide) ?_ hh⟩
    intro p hp
    obtain ⟨h1, h2⟩ := hz p hp
    have := szM_bd h1
    unfold outErr at h2
    split at h2
    · omega
    · omega
  · rintro ⟨h1, h2, h3⟩
    have hb : chkBy outErr l = 0 := chkBy_zero.2 fun p hp => ⟨h2 p hp, by
      have := okPl_first h3 p hp
      unfold outErr
      rw [if_neg (by omega)]⟩
    rw [if_neg (by omega), hb, if_neg (by simp), ok_behind h3]
    simp

/-- The runs that are left from a sector on. -/
def gapOf (a b : Int) : List (Int × Int) := if a = b then [] else [(a, b - a)]
def runsFrom : Int → List Plc → List (Int × Int)
  | e, [] => gapOf e 16
  | e, p :: l => gapOf e p.first ++ runsFrom (p.first + szM p.mod) l
def sumRuns (l : List (Int × Int)) : Int := (l.map Prod.snd).sum
def sumSz (l : List Plc) : Int := (l.map fun p => (szM p.mod : Int)).sum
theorem sum_gap (a b : Int) : sumRuns (gapOf a b) = b - a := by
  unfold gapOf sumRuns
  split <;> simp <;> omega
theorem sumRuns_append (a b : List (Int × Int)) : sumRuns (a ++ b) = sumRuns a + sumRuns b := by
  simp [sumRuns]
theorem sum_runs : ∀ (l : List Plc) (e : Int), sumRuns (runsFrom e l) + sumSz l = 16 - e
  | [], e => by simp [runsFrom, sum_gap, sumSz]
  | p :: l, e => by
    have := sum_runs l (p.first + szM p.mod)
    unfold runsFrom
    rw [sumRuns_append, sum_gap]
    simp [sumSz] at *
    omega
/-- Runs rise, and none begins where another one ends. -/
def rises : Int → List (Int × Int) → Prop
  | _, [] => True
  | e, r :: l => e ≤ r.1 ∧ 1 ≤ r.2 ∧ r.1 + r.2 ≤ 16 ∧ rises (r.1 + r.2 + 1) l
theorem rises_le : ∀ {l : List (Int × Int)} {e e' : Int}, e' ≤ e → rises e l → rises e' l
  | [], _, _, _, _ => trivial
  | r :: l, e, e', h, hr => ⟨by have := hr.1; omega, hr.2.1, hr.2.2.1, hr.2.2.2⟩
theorem runs_rise : ∀ {l : List Plc} {e : Int}, okPl e l → rises e (runsFrom e l)
  | [], e, h => by
    unfold runsFrom gapOf
    have h : e ≤ 16 := h
    split
    · trivial
    · exact ⟨by simp, by simp; omega, by simp; omega, trivial⟩
  | p :: l, e, h => by
    obtain ⟨h1, h2, h3, h4⟩ := h
    have := runs_rise h4
    unfold runsFrom gapOf
    split
    · exact rises_le (by omega) this
    · refine ⟨by simp, by simp; omega, by simp; omega, rises_le ?_ this⟩
      simp
      omega
theorem runs_len : ∀ (l : List Plc) (e : Int), (runsFrom e l).length ≤ l.length + 1
  | [], e => by unfold runsFrom gapOf; split <;> simp
  | p :: l, e => by
    have := runs_len l (p.first + szM p.mod)
    unfold runsFrom gapOf
    split <;> simp <;> omega

/-- Is nobody in the way from a sector on? -/
def clearAt (many : Int) (l : List Plc) (x : Int) : Prop := ∀ p ∈ l, p.first + szM p.mod ≤ x ∨ x + many ≤ p.first
def fitOf (many : Int) (l : List (Int × Int)) : Option (Int × Int) := l.find? fun r => decide (many ≤ r.2)
theorem fit_spec {many : Int} (hm : 1 ≤ many) : ∀ {l : List Plc} {e : Int}, okPl e l →
    (∃ r, fitOf many (runsFrom e l) = some r ∧ e ≤ r.1 ∧ r.1 + many ≤ 16 ∧ clearAt many l r.1 ∧ ∀ x, e ≤ x → x < r.1 → ¬ clearAt many l x) ∨
    (fitOf many (runsFrom e l) = none ∧ ∀ x, e ≤ x → x + many ≤ 16 → ¬ clearAt many l x)
  | [], e, h => by
    have h : e ≤ 16 := h
    unfold runsFrom gapOf fitOf
    split
    · rename_i h0
      refine .inr ⟨rfl, fun x h1 h2 => by omega⟩
    · by_cases hx : many ≤ 16 - e
      · refine .inl ⟨(e, 16 - e), by simp [hx], by simp, by simp; omega, fun p hp => by simp at hp, fun x h1 h2 => by simp at h2; omega⟩
      · refine .inr ⟨by simp [hx], fun x h1 h2 => by omega⟩
  | p :: l, e, h => by
    obtain ⟨h1, h2, h3, h4⟩ := h
    by_cases hx : many ≤ p.first - e
    · refine .inl ⟨(e, p.first - e), ?_, by simp, by simp; omega, ?_, fun x h1 h2 => by simp at h2; omega⟩
      · unfold runsFrom gapOf fitOf
        rw [if_neg (by omega)]
        simp [hx]
      · intro q hq
        rcases List.mem_cons.1 hq with rfl | hq
        · right; simp; omega
        · have := okPl_first h4 q hq
          right; simp; omega
    · have hf : fitOf many (runsFrom e (p :: l)) = fitOf many (runsFrom (p.first + szM p.mod) l) := by
        conv => lhs; unfold runsFrom gapOf
        unfold fitOf
        split
        · simp
        · simp [hx]
      have hn : ∀ x, e ≤ x → x < p.first + szM p.mod → ¬ clearAt many (p :: l) x := by
        intro x g1 g2 g3
        rcases g3 p (by simp) with g | g
        · omega
        · omega
      have hc : ∀ x, p.first + szM p.mod ≤ x → clearAt many l x → clearAt many (p :: l) x := by
        intro x g1 g2 q hq
        rcases List.mem_cons.1 hq with rfl | hq
        · exact .inl g1
        · exact g2 q hq
      have hc' : ∀ x, clearAt many (p :: l) x → clearAt many l x := fun x g q hq => g q (List.mem_cons_of_mem _ hq)
      rw [hf]
      rcases fit_spec hm h4 with ⟨r, g1, g2, g3, g4, g5⟩ | ⟨g1, g2⟩
      · refine .inl ⟨r, g1, by omega, g3, hc _ g2 g4, fun x k1 k2 k3 => ?_⟩
        by_cases k : x < p.first + szM p.mod
        · exact hn x k1 k k3
        · exact g5 x (by omega) k2 (hc' _ k3)
      · refine .inr ⟨g1, fun x k1 k2 k3 => ?_⟩
        by_cases k : x < p.first + szM p.mod
        · exact hn x k1 k k3
        · exact g2 x (by omega) k2 (hc' _ k3)

/-- Without one of them. -/
theorem ok_less : ∀ {l : List Plc} {e : Int} (i : Nat), okPl e l → okPl e (l.eraseIdx i)
  | [], _, i, h => by simpa using h
  | p :: l, e, 0, h => by
    obtain ⟨h1, h2, h3, h4⟩ := h
    rw [List.eraseIdx_cons_zero]
    cases l with
    | nil => exact (show e ≤ 16 by omega)
    | cons q l =>
      obtain ⟨g1, g2, g3, g4⟩ := h4
      exact ⟨by omega, g2, g3, g4⟩
  | p :: l, e, i + 1, h => by
    obtain ⟨h1, h2, h3, h4⟩ := h
    rw [List.eraseIdx_cons_succ]
    exact ⟨h1, h2, h3, ok_less i h4⟩
theorem sum_less : ∀ {l : List Plc} {i : Nat} {p : Plc}, l[i]? = some p → sumSz (l.eraseIdx i) + szM p.mod = sumSz l
  | [], i, p, h => by simp at h
  | x :: l, 0, p, h => by
    simp at h
    subst h
    simp [sumSz]
    omega
  | x :: l, i + 1, p, h => by
    simp at h
    have := sum_less h
    simp [sumSz] at *
    omega
theorem chkReg_less {l : List Plc} (i : Nat) (h : chkReg l = 0) : chkReg (l.eraseIdx i) = 0 := by
  obtain ⟨h1, h2, h3⟩ := chkReg_zero.1 h
  refine chkReg_zero.2 ⟨Nat.le_trans (List.length_eraseIdx_le _ _) h1, fun p hp => h2 p (List.mem_of_mem_eraseIdx hp), ok_less i h3⟩

end Go.Proofs.Ytaklbnabgcglhab

/- One is come to from another one, in one step or more; a table of that. -/
namespace Go.Proofs.Ytaklbnabgcglhab
open Go.RowKit Go.PlainAid

/-- One is come to from another one, in one step or more: it is in all that holds the first steps and is closed under steps. -/
def Via (E : Nat → Nat → Prop) (i k : Nat) : Prop := ∀ S : Nat → Prop, (∀ q, E i q → S q) → (∀ j q, S j → E j q → S q) → S k
theorem Via.one {E : Nat → Nat → Prop} {i k : Nat} (e : E i k) : Via E i k := fun _ h0 _ => h0 _ e
theorem Via.more {E : Nat → Nat → Prop} {i j k : Nat} (h : Via E i j) (e : E j k) : Via E i k := fun S h0 h1 => h1 _ _ (h S h0 h1) e
theorem Via.walk {E : Nat → Nat → Prop} {i : Nat} {M : Nat → Prop} (one : ∀ k, E i k → M k) (more : ∀ j k, Via E i j → M j → E j k → M k) {k : Nat} (h : Via E i k) : M k :=
  (h (fun q => Via E i q ∧ M q) (fun q e => ⟨.one e, one q e⟩) (fun j q hj e => ⟨hj.1.more e, more j q hj.1 hj.2 e⟩)).2
theorem Via.trans {E : Nat → Nat → Prop} {i j k : Nat} (h : Via E i j) (g : Via E j k) : Via E i k :=
  g.walk (M := fun k => Via E i k) (fun _ e => h.more e) (fun _ _ _ ih e => ih.more e)
theorem Via.turn {E : Nat → Nat → Prop} {i k : Nat} (h : Via E i k) : Via (fun a b => E b a) k i :=
  h.walk (M := fun k => Via (fun a b => E b a) k i) (fun _ e => .one e) (fun _ _ _ ih e => Via.trans (.one e) ih)
/-- What is closed under single steps is closed under many. -/
theorem Via.closed {E : Nat → Nat → Prop} {S : Nat → Prop} {i : Nat} (h0 : ∀ k, E i k → S k) (hS : ∀ j k, S j → E j k → S k) {k : Nat} (h : Via E i k) : S k := h S h0 hS

/-- One is come to from another one, by way of those below a number alone. -/
def ViaB (E : Nat → Nat → Prop) (m i k : Nat) : Prop := ∀ S : Nat → Prop, (∀ q, E i q → S q) → (∀ j q, S j → j < m → E j q → S q) → S k
theorem ViaB.one {E : Nat → Nat → Prop} {m i k : Nat} (e : E i k) : ViaB E m i k := fun _ h0 _ => h0 _ e
theorem ViaB.more {E : Nat → Nat → Prop} {m i j k : Nat} (h : ViaB E m i j) (hj : j < m) (e : E j k) : ViaB E m i k := fun S h0 h1 => h1 _ _ (h S h0 h1) hj e
theorem ViaB.none {E : Nat → Nat → Prop} {i k : Nat} (h : ViaB E 0 i k) : E i k := h (fun q => E i q) (fun _ e => e) (fun _ _ _ hj _ => absurd hj (by omega))
/-- By way of one number more: without it, or to it and from it on. -/
theorem ViaB.part {E : Nat → Nat → Prop} {m i k : Nat} (h : ViaB E (m + 1) i k) : ViaB E m i k ∨ (ViaB E m i m ∧ ViaB E m m k) := by
  refine h (fun q => ViaB E m i q ∨ (ViaB E m i m ∧ ViaB E m m q)) (fun q e => .inl (.one e)) (fun j q ih hj e => ?_)
  by_cases hjm : j = m
  · subst hjm
    rcases ih with ih | ⟨ih, _⟩
    · exact .inr ⟨ih, .one e⟩
    · exact .inr ⟨ih, .one e⟩
  · rcases ih with ih | ⟨ih1, ih2⟩
    · exact .inl (ih.more (by omega) e)
    · exact .inr ⟨ih1, ih2.more (by omega) e⟩
theorem Via.bound {E : Nat → Nat → Prop} {n i k : Nat} (hE : ∀ i k, E i k → i < n) (h : Via E i k) : ViaB E n i k :=
  h.walk (M := fun k => ViaB E n i k) (fun _ e => .one e) (fun _ _ _ ih e => ih.more (hE _ _ e) e)

/-- A table that is filled up number by number, row by row, place by place. -/
structure Fill (E : Nat → Nat → Prop) (n m i k : Nat) (T : Nat → Nat → Bool) : Prop where
  snd : ∀ a b, a < n → b < n → T a b = true → Via E a b
  low : ∀ a b, a < n → b < n → ViaB E m a b → T a b = true
  row : ∀ a b, a < n → b < n → a < i → ViaB E (m + 1) a b → T a b = true
  cel : ∀ b, i < n → b < n → b < k → ViaB E (m + 1) i b → T i b = true
def setT (T : Nat → Nat → Bool) (i k : Nat) (v : Bool) : Nat → Nat → Bool := fun a b => if a = i ∧ b = k then v else T a b
theorem setT_at (T : Nat → Nat → Bool) (i k : Nat) (v : Bool) : setT T i k v i k = v := by unfold setT; rw [if_pos ⟨rfl, rfl⟩]
theorem setT_ne {T : Nat → Nat → Bool} {i k a b : Nat} {v : Bool} (h : ¬ (a = i ∧ b = k)) : setT T i k v a b = T a b := by unfold setT; rw [if_neg h]
theorem setT_grow {T : Nat → Nat → Bool} {i k a b : Nat} {v : Bool} (hv : T i k = true → v = true) (h : T a b = true) : setT T i k v a b = true := by
  by_cases e : a = i ∧ b = k
  · obtain ⟨rfl, rfl⟩ := e
    rw [setT_at]; exact hv h
  · rw [setT_ne e]; exact h
theorem Fill.step {E : Nat → Nat → Prop} {n m i k : Nat} {T : Nat → Nat → Bool} (h : Fill E n m i k T) (hm : m < n) (hi : i < n) (hk : k < n) : Fill E n m i (k + 1) (setT T i k (T i k || (T i m && T m k))) := by
  have hv : T i k = true → (T i k || (T i m && T m k)) = true := fun h => by rw [h]; rfl
  refine ⟨fun a b ha hb hT => ?_, fun a b ha hb hV => setT_grow hv (h.low a b ha hb hV), fun a b ha hb hai hV => setT_grow hv (h.row a b ha hb hai hV), fun b hi' hb hbk hV => ?_⟩
  · by_cases e : a = i ∧ b = k
    · obtain ⟨rfl, rfl⟩ := e
      rw [setT_at, Bool.or_eq_true, Bool.and_eq_true] at hT
      rcases hT with hT | ⟨h1, h2⟩
      · exact h.snd _ _ ha hb hT
      · exact (h.snd _ _ ha hm h1).trans (h.snd _ _ hm hb h2)
    · rw [setT_ne e] at hT
      exact h.snd a b ha hb hT
  · by_cases e : b = k
    · subst e
      rw [setT_at, Bool.or_eq_true, Bool.and_eq_true]
      rcases hV.part with h1 | ⟨h1, h2⟩
      · exact .inl (h.low _ _ hi hb h1)
      · exact .inr ⟨h.low _ _ hi hm h1, h.low _ _ hm hb h2⟩
    · exact setT_grow hv (h.cel b hi' hb (by omega) hV)
theorem Fill.nextRow {E : Nat → Nat → Prop} {n m i : Nat} {T : Nat → Nat → Bool} (h : Fill E n m i n T) : Fill E n m (i + 1) 0 T :=
  ⟨h.snd, h.low, fun a b ha hb hai hV => by
    by_cases e : a = i
    · subst e; exact h.cel b ha hb hb hV
    · exact h.row a b ha hb (by omega) hV, fun b _ _ hb _ => by omega⟩
theorem Fill.nextNum {E : Nat → Nat → Prop} {n m : Nat} {T : Nat → Nat → Bool} (h : Fill E n m n 0 T) : Fill E n (m + 1) 0 0 T :=
  ⟨h.snd, fun a b ha hb hV => h.row a b ha hb ha hV, fun a b _ _ ha _ => by omega, fun b _ _ hb _ => by omega⟩
theorem Fill.start {E : Nat → Nat → Prop} {n : Nat} {T : Nat → Nat → Bool} (h : ∀ a b, a < n → b < n → (T a b = true ↔ E a b)) : Fill E n 0 0 0 T :=
  ⟨fun a b ha hb hT => .one ((h a b ha hb).1 hT), fun a b ha hb hV => (h a b ha hb).2 hV.none, fun a b _ _ ha _ => by omega, fun b _ _ hb _ => by omega⟩
theorem Fill.all {E : Nat → Nat → Prop} {n : Nat} {T : Nat → Nat → Bool} (h : Fill E n n 0 0 T) (hE : ∀ i k, E i k → i < n) {a b : Nat} (ha : a < n) (hb : b < n) : T a b = true ↔ Via E a b :=
  ⟨h.snd a b ha hb, fun hV => h.low a b ha hb (hV.bound hE)⟩

end Go.Proofs.Ytaklbnabgcglhab

/- Names that rise; modules in an order in which each stands behind all that it asks. -/
namespace Go.Proofs.Ytaklbnabgcglhab
open Go.RowKit Go.PlainAid

/-- One name stands ahead of another one. -/
def Ahead (a b : ByteArray) : Prop := a.data.toList < b.data.toList
theorem bytes_ext {a b : ByteArray} (h : a.data.toList = b.data.toList) : a = b := ByteArray.ext (Array.toList_inj.1 h)
theorem Ahead.irrefl (a : ByteArray) : ¬ Ahead a a := List.lt_irrefl _
theorem Ahead.trans {a b c : ByteArray} (h : Ahead a b) (g : Ahead b c) : Ahead a c := List.lt_trans h g
theorem Ahead.asymm {a b : ByteArray} (h : Ahead a b) (g : Ahead b a) : False := Ahead.irrefl a (h.trans g)
theorem Ahead.total (a b : ByteArray) : Ahead a b ∨ a = b ∨ Ahead b a := by
  by_cases h1 : a.data.toList < b.data.toList
  · exact .inl h1
  by_cases h2 : b.data.toList < a.data.toList
  · exact .inr (.inr h2)
  · exact .inr (.inl (bytes_ext (List.le_antisymm (List.not_lt.1 h2) (List.not_lt.1 h1))))

def Rising (ss : List ByteArray) : Prop := ss.Pairwise Ahead
theorem Ahead.ne {a b : ByteArray} (h : Ahead a b) : a ≠ b := fun e => Ahead.irrefl a (by rw [← e] at h; exact h)
theorem Rising.nodup {ss : List ByteArray} (h : Rising ss) : ss.Nodup := List.Pairwise.imp Ahead.ne h
theorem Rising.same {a b : List ByteArray} (ha : Rising a) (hb : Rising b) (h : ∀ x, x ∈ a ↔ x ∈ b) : a = b :=
  List.Perm.eq_of_pairwise (le := Ahead) (fun _ _ _ _ h1 h2 => (h1.asymm h2).elim) ha hb ((List.perm_ext_iff_of_nodup ha.nodup hb.nodup).2 h)

theorem full_mem {α : Type} {l₁ l₂ : List α} (d : l₁.Nodup) (s : ∀ x ∈ l₁, x ∈ l₂) (h : l₂.length ≤ l₁.length) : ∀ x ∈ l₂, x ∈ l₁ := by
  intro x hx
  refine Classical.byContradiction fun hn => ?_
  have h1 : (x :: l₁).length ≤ l₂.length := List.Nodup.length_le_of_subset (List.nodup_cons.2 ⟨hn, d⟩) (fun y hy => by
    rcases List.mem_cons.1 hy with rfl | hy
    · exact hx
    · exact s y hy)
  simp at h1
  omega

theorem any_mem {met : List ByteArray} {n : ByteArray} : (met.any fun y => y == n) = true ↔ n ∈ met := by
  rw [List.any_eq_true]
  constructor
  · rintro ⟨x, hx, he⟩
    rw [← (Go.MapKept.bytes_beq x n).1 he]
    exact hx
  · exact fun h => ⟨n, h, (Go.MapKept.bytes_beq n n).2 rfl⟩

/-- Has a module an import from the one of that name? -/
def asksM (m : Mod) (n : ByteArray) : Bool := m.imps.any fun i => i.mod == n
def waitsB (met : List ByteArray) (m : Mod) : Bool := !(met.any fun y => y == m.name)
def mayB (Rs : List Mod) (met : List ByteArray) (m : Mod) : Bool := waitsB met m && !(Rs.any fun o => waitsB met o && asksM m o.name)
def orderFrom (Rs : List Mod) : Nat → List ByteArray → Option (List ByteArray)
  | 0, met => some met
  | n + 1, met => match Rs.find? (mayB Rs met) with | none => none | some m => orderFrom Rs n (met ++ [m.name])

theorem waits_iff {met : List ByteArray} {m : Mod} : waitsB met m = true ↔ m.name ∉ met := by
  unfold waitsB
  rw [Bool.not_eq_true', ← Bool.not_eq_true, List.any_eq_true]
  constructor
  · exact fun h hm => h ⟨_, hm, (Go.MapKept.bytes_beq _ _).2 rfl⟩
  · rintro h ⟨x, hx, he⟩
    rw [(Go.MapKept.bytes_beq _ _).1 he] at hx
    exact h hx
theorem may_iff {Rs : List Mod} {met : List ByteArray} {m : Mod} : mayB Rs met m = true ↔ m.name ∉ met ∧ ∀ o ∈ Rs, asksM m o.name = true → o.name ∈ met := by
  unfold mayB
  rw [Bool.and_eq_true, waits_iff, Bool.not_eq_true', ← Bool.not_eq_true, List.any_eq_true]
  constructor
  · rintro ⟨h1, h2⟩
    refine ⟨h1, fun o ho ha => Classical.byContradiction fun hn => h2 ⟨o, ho, ?_⟩⟩
    rw [Bool.and_eq_true, waits_iff]
    exact ⟨hn, ha⟩
  · rintro ⟨h1, h2⟩
    refine ⟨h1, ?_⟩
    rintro ⟨o, ho, hb⟩
    rw [Bool.and_eq_true, waits_iff] at hb
    exact hb.1 (h2 o ho hb.2)

/-- Each stands behind all that it asks. -/
def Stands (Rs : List Mod) (c : List ByteArray) : Prop := ∀ (i : Nat) (x : ByteArray), c[i]? = some x → ∃ m ∈ Rs, m.name = x ∧ x ∉ c.take i ∧ ∀ o ∈ Rs, asksM m o.name = true → o.name ∈ c.take i
theorem Stands.nil {Rs : List Mod} : Stands Rs [] := fun i x hx => by simp at hx
theorem Stands.at {Rs : List Mod} {c : List ByteArray} (h : Stands Rs c) : ∀ (i : Nat) (x : ByteArray), c[i]? = some x → ∃ m ∈ Rs, m.name = x ∧ x ∉ c.take i ∧ ∀ o ∈ Rs, asksM m o.name = true → o.name ∈ c.take i := h
theorem Stands.snoc {Rs : List Mod} {met : List ByteArray} {m : Mod} (h : Stands Rs met) (hm : m ∈ Rs) (hn : m.name ∉ met) (ha : ∀ o ∈ Rs, asksM m o.name = true → o.name ∈ met) : Stands Rs (met ++ [m.name]) := by
  intro i x hx
  by_cases hi : i < met.length
  · rw [List.getElem?_append_left hi] at hx
    rw [List.take_append_of_le_length (by omega)]
    exact h i x hx
  · have hi2 : i = met.length := by
      have := (List.getElem?_eq_some_iff.1 hx).1
      simp at this
      omega
    subst hi2
    have hx2 : m.name = x := by simpa using hx
    subst hx2
    rw [List.take_left' rfl]
    exact ⟨m, hm, rfl, hn, ha⟩
theorem Stands.nodup {Rs : List Mod} {c : List ByteArray} (h : Stands Rs c) : c.Nodup := by
  refine List.pairwise_iff_getElem.2 fun i j hi hj hij e => ?_
  obtain ⟨_, _, _, hn, _⟩ := h j c[j] (List.getElem?_eq_getElem hj)
  refine hn ?_
  rw [← e]
  exact List.mem_take_iff_getElem.2 ⟨i, by omega, rfl⟩
theorem Stands.names {Rs : List Mod} {c : List ByteArray} (h : Stands Rs c) : ∀ x ∈ c, ∃ m ∈ Rs, m.name = x := by
  intro x hx
  obtain ⟨i, hi⟩ := List.getElem?_of_mem hx
  obtain ⟨m, hm, hmx, _⟩ := h i x hi
  exact ⟨m, hm, hmx⟩
theorem order_stands {Rs : List Mod} : ∀ {n : Nat} {met c : List ByteArray}, Stands Rs met → orderFrom Rs n met = some c → Stands Rs c ∧ c.length = met.length + n ∧ c.take met.length = met
  | 0, met, c, h, he => by
    have : met = c := by simpa [orderFrom] using he
    subst this
    exact ⟨h, rfl, by simp⟩
  | n + 1, met, c, h, he => by
    unfold orderFrom at he
    split at he
    · cases he
    rename_i m hf
    have hm := List.mem_of_find?_eq_some hf
    have hp := may_iff.1 (List.find?_some hf)
    obtain ⟨h1, h2, h3⟩ := order_stands (.snoc h hm hp.1 hp.2) he
    refine ⟨h1, by simp at h2; omega, ?_⟩
    have h4 := congrArg (List.take met.length) h3
    rw [List.take_take, List.take_left' rfl] at h4
    rw [show min met.length (met ++ [m.name]).length = met.length by simp] at h4
    exact h4
/-- What is picked at each place. -/
theorem order_at {Rs : List Mod} : ∀ {n : Nat} {met c : List ByteArray}, Stands Rs met → orderFrom Rs n met = some c → ∀ j, met.length ≤ j → j < c.length → ∃ m, Rs.find? (mayB Rs (c.take j)) = some m ∧ c[j]? = some m.name
  | 0, met, c, h, he => by
    have : met = c := by simpa [orderFrom] using he
    subst this
    intro j h1 h2
    omega
  | n + 1, met, c, h, he => by
    have hall := (order_stands h he).2.2
    unfold orderFrom at he
    split at he
    · cases he
    rename_i m hf
    have hm := List.mem_of_find?_eq_some hf
    have hp := may_iff.1 (List.find?_some hf)
    have h0 : Stands Rs (met ++ [m.name]) := .snoc h hm hp.1 hp.2
    intro j h1 h2
    by_cases hj : j = met.length
    · subst hj
      refine ⟨m, by rw [hall]; exact hf, ?_⟩
      have h3 := (order_stands h0 he).2.2
      have h4 : (c.take (met ++ [m.name]).length)[met.length]? = some m.name := by rw [h3]; simp
      rw [List.getElem?_take] at h4
      rw [if_pos (by simp)] at h4
      exact h4
    · exact order_at h0 he j (by simp; omega) h2
theorem order_none {Rs : List Mod} : ∀ {n : Nat} {met : List ByteArray}, Stands Rs met → orderFrom Rs n met = none → ∃ met', Stands Rs met' ∧ met'.length < met.length + n ∧ ∀ m ∈ Rs, mayB Rs met' m = false
  | 0, met, h, he => by simp [orderFrom] at he
  | n + 1, met, h, he => by
    unfold orderFrom at he
    split at he
    · rename_i hf
      exact ⟨met, h, by omega, fun m hm => by simpa using List.find?_eq_none.1 hf m hm⟩
    · rename_i m hf
      have hm := List.mem_of_find?_eq_some hf
      have hp := may_iff.1 (List.find?_some hf)
      obtain ⟨m', h1, h2, h3⟩ := order_none (.snoc h hm hp.1 hp.2) he
      exact ⟨m', h1, by simp at h2; omega, h3⟩

theorem nodup_names {Rs : List Mod} (hd : (Rs.map (·.name)).Nodup) {a b : Mod} (ha : a ∈ Rs) (hb : b ∈ Rs) (h : a.name = b.name) : a = b := by
  obtain ⟨i, hi⟩ := List.getElem?_of_mem ha
  obtain ⟨k, hk⟩ := List.getElem?_of_mem hb
  have h1 : (Rs.map (·.name))[i]? = some a.name := by rw [List.getElem?_map, hi]; rfl
  have h2 : (Rs.map (·.name))[k]? = some a.name := by rw [List.getElem?_map, hk, h]; rfl
  have hil : i < (Rs.map (·.name)).length := (List.getElem?_eq_some_iff.1 h1).1
  have e := (List.getElem?_inj hil hd).1 (h1.trans h2.symm)
  subst e
  rw [hi] at hk
  exact Option.some.inj hk

/-- Those of which each asks one of them: one comes back to itself. -/
theorem comes_back {E : Nat → Nat → Prop} : ∀ (n : Nat) (W : List Nat), W.length ≤ n → W ≠ [] → (∀ i ∈ W, ∃ k ∈ W, E i k) → ∃ i ∈ W, Via E i i
  | 0, W, h1, h2, _ => absurd (List.length_eq_zero_iff.1 (by omega)) h2
  | n + 1, [], _, h2, _ => absurd rfl h2
  | n + 1, i :: W, h1, _, h3 => by
    by_cases hv : Via E i i
    · exact ⟨i, by simp, hv⟩
    · have hm : ∀ k, k ∈ W.filter (fun k => @decide (Via E i k) (Classical.propDecidable _)) ↔ k ∈ W ∧ Via E i k := fun k => by
        rw [List.mem_filter, @decide_eq_true_iff _ (Classical.propDecidable _)]
      obtain ⟨k, hk, he⟩ := h3 i (by simp)
      have hkW : k ∈ W := by
        rcases List.mem_cons.1 hk with rfl | hk
        · exact absurd (.one he) hv
        · exact hk
      obtain ⟨j, hj, hjv⟩ := comes_back n (W.filter (fun k => @decide (Via E i k) (Classical.propDecidable _))) (by
        have := List.length_filter_le (fun k => @decide (Via E i k) (Classical.propDecidable _)) W
        simp at h1
        omega) (List.ne_nil_of_mem ((hm k).2 ⟨hkW, .one he⟩)) (fun a ha => by
        obtain ⟨haW, hav⟩ := (hm a).1 ha
        obtain ⟨b, hb, hab⟩ := h3 a (by simp [haW])
        have hib := hav.more hab
        rcases List.mem_cons.1 hb with rfl | hb
        · exact absurd hib hv
        · exact ⟨b, (hm b).2 ⟨hb, hib⟩, hab⟩)
      exact ⟨j, by simp [((hm j).1 hj).1], hjv⟩

theorem find_least {Rs : List Mod} (hr : Rising (Rs.map (·.name))) {p : Mod → Bool} {m : Mod} (h : Rs.find? p = some m) : ∀ o ∈ Rs, p o = true → o = m ∨ Ahead m.name o.name := by
  obtain ⟨hp, i, hi, he, hlt⟩ := List.find?_eq_some_iff_getElem.1 h
  intro o ho hpo
  obtain ⟨k, hk, hko⟩ := List.getElem_of_mem ho
  by_cases hik : i < k
  · refine .inr ?_
    have h1 := List.pairwise_iff_getElem.1 hr i k (by simpa using hi) (by simpa using hk) hik
    rw [List.getElem_map, List.getElem_map, he, hko] at h1
    exact h1
  · by_cases hki : k = i
    · subst hki
      exact .inl (hko.symm.trans he)
    · have := hlt k (by omega)
      rw [hko, hpo] at this
      cases this

end Go.Proofs.Ytaklbnabgcglhab
