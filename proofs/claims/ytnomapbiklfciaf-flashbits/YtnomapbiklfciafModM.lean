/- Plain data: modules, and what is wrong with them. -/
import Derived.PlainAid
import Derived.Test.YtnomapbiklfciafWordN
namespace Go.Proofs.Ytnomapbiklfciaf
open Go.RowKit Go.PlainAid

structure Exp where
  name : ByteArray
  pos : Int
structure Imp where
  mod : ByteArray
  name : ByteArray
  major : Int
  minor : Int
structure Pat where
  kind : Int
  pos : Int
  sym : Int
  add : Int
structure Mod where
  name : ByteArray
  major : Int
  minor : Int
  text : ByteArray
  exps : List Exp
  imps : List Imp
  pats : List Pat

def betw (n l m : Int) : Bool := decide (l ≤ n) && decide (n ≤ m)
theorem betw_true {n l m : Int} (h1 : l ≤ n) (h2 : n ≤ m) : betw n l m = true := by simp [betw, h1, h2]
theorem betw_false {n l m : Int} (h : n < l ∨ m < n) : betw n l m = false := by
  unfold betw
  rcases h with h | h
  · rw [decide_eq_false (show ¬ l ≤ n by omega)]; rfl
  · rw [decide_eq_false (show ¬ n ≤ m by omega), Bool.and_false]
theorem betw_iff {n l m : Int} : betw n l m = true ↔ l ≤ n ∧ n ≤ m := by simp [betw]
theorem betw_not {n l m : Int} (h : betw n l m = false) : n < l ∨ m < n := by
  by_cases a : l ≤ n
  · by_cases b : n ≤ m
    · rw [betw_true a b] at h; cases h
    · exact .inr (by omega)
  · exact .inl (by omega)

/-- A sign that a name may hold behind its first. -/
def okc (c : Int) : Bool := betw c 97 122 || (betw c 48 57 || c == 95)
def okFrom (s : ByteArray) (k : Nat) : Bool := (List.range k).all fun i => okc (bt s i)
def isNm (s : ByteArray) : Bool := betw s.size 1 10 && (betw (bt s 0) 97 122 && okFrom s s.size)

theorem okFrom_succ (s : ByteArray) (k : Nat) : okFrom s (k + 1) = (okFrom s k && okc (bt s k)) := by
  unfold okFrom; rw [List.range_succ, List.all_append]; simp
theorem okFrom_false (s : ByteArray) (k n : Nat) (h : k < n) (hc : okc (bt s k) = false) : okFrom s n = false := by
  unfold okFrom
  rw [List.all_eq_false]
  exact ⟨k, List.mem_range.2 h, by rw [hc]; simp⟩
theorem isNm_size {s : ByteArray} (h : isNm s = true) : 1 ≤ s.size ∧ s.size ≤ 10 := by
  unfold isNm at h
  rw [Bool.and_eq_true] at h
  have := betw_iff.1 h.1
  omega
theorem isNm_long {s : ByteArray} (h : betw s.size 1 10 = false) : isNm s = false := by unfold isNm; rw [h]; rfl
theorem isNm_first {s : ByteArray} (h : betw (bt s 0) 97 122 = false) : isNm s = false := by unfold isNm; rw [h]; simp
theorem isNm_other {s : ByteArray} (h : okFrom s s.size = false) : isNm s = false := by unfold isNm; rw [h]; simp
theorem isNm_yes {s : ByteArray} (h : betw s.size 1 10 = true) (h1 : betw (bt s 0) 97 122 = true) (h2 : okFrom s s.size = true) : isNm s = true := by unfold isNm; rw [h, h1, h2]; rfl

def isVer (major minor : Int) : Bool := betw major 0 255 && betw minor 0 255

/-- What is wrong with an export, behind those of these names. -/
def expErr (most : Int) (met : List ByteArray) (e : Exp) : Int :=
  if isNm e.name = false then 1 else if (met.any fun x => x == e.name) = true then 6 else if betw e.pos 0 (most - 1) = false then 3 else 0
def chkExps (most : Int) : List ByteArray → List Exp → Int
  | _, [] => 0
  | met, e :: l => if expErr most met e = 0 then chkExps most (met ++ [e.name]) l else expErr most met e

def impErr (met : List (ByteArray × ByteArray)) (i : Imp) : Int :=
  if (isNm i.mod && isNm i.name) = false then 1 else if (met.any fun x => x.1 == i.mod && x.2 == i.name) = true then 6 else if isVer i.major i.minor = false then 3 else 0
def chkImps : List (ByteArray × ByteArray) → List Imp → Int
  | _, [] => 0
  | met, i :: l => if impErr met i = 0 then chkImps (met ++ [(i.mod, i.name)]) l else impErr met i

def width (kind : Int) : Int := if kind = 1 ∨ kind = 2 then 4 else if kind = 3 ∨ kind = 4 then 2 else if kind = 5 then 3 else 0
def patErr (bytes imports ende : Int) (p : Pat) : Int :=
  if width p.kind = 0 then 7 else if (betw p.sym (-1) (imports - 1) && betw p.add 0 65535) = false then 3 else if betw p.pos 0 (bytes - width p.kind) = false then 3 else if p.pos < ende then 4 else 0
def chkPats (bytes imports : Int) : Int → List Pat → Int
  | _, [] => 0
  | ende, p :: l => if patErr bytes imports ende p = 0 then chkPats bytes imports (p.pos + width p.kind) l else patErr bytes imports ende p

def kernelName : ByteArray := ⟨#[107, 101, 114, 110, 101, 108]⟩

/-- What is wrong with a module. -/
def chkMod (m : Mod) : Int :=
  if isNm m.name = false ∨ (m.name == kernelName) = true then 1
  else if isVer m.major m.minor = false then 3
  else if 256 < m.text.size ∨ 6 < m.exps.length ∨ 6 < m.imps.length ∨ 12 < m.pats.length then 2
  else if m.text.size = 0 ∨ m.text.size % 4 ≠ 0 then 1
  else if chkExps m.text.size [] m.exps ≠ 0 then chkExps m.text.size [] m.exps
  else if chkImps [] m.imps ≠ 0 then chkImps [] m.imps
  else chkPats m.text.size m.imps.length 0 m.pats

end Go.Proofs.Ytnomapbiklfciaf
