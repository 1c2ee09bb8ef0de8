/- Placed modules and the runs that they leave, as data. -/
import Derived.Test.YtaklbnabgcglhabResM
namespace Go.Proofs.Ytaklbnabgcglhab
open Go.RowKit Go.PlainAid

/-- What is wrong with placed modules, where each is held to its own and to one thing more. -/
def chkBy (q : Plc → Int) : List Plc → Int
  | [] => 0
  | p :: l => if chkMod p.mod ≠ 0 then chkMod p.mod else if q p ≠ 0 then q p else chkBy q l
theorem chkBy_step (q : Plc → Int) (p : Plc) (l : List Plc) : (chkMod p.mod ≠ 0 ∧ chkBy q (p :: l) = chkMod p.mod) ∨ (chkMod p.mod = 0 ∧ q p ≠ 0 ∧ chkBy q (p :: l) = q p) ∨ (chkMod p.mod = 0 ∧ q p = 0 ∧ chkBy q (p :: l) = chkBy q l) := by
  have hs : chkBy q (p :: l) = if chkMod p.mod ≠ 0 then chkMod p.mod else if q p ≠ 0 then q p else chkBy q l := rfl
  rw [hs]
  by_cases h : chkMod p.mod = 0
  · by_cases h2 : q p = 0
    · exact .inr (.inr ⟨h, h2, by rw [if_neg (by simpa using h), if_neg (by simpa using h2)]⟩)
    · exact .inr (.inl ⟨h, h2, by rw [if_neg (by simpa using h), if_pos h2]⟩)
  · exact .inl ⟨h, by rw [if_pos h]⟩
theorem chkBy_zero {q : Plc → Int} : ∀ {l : List Plc}, chkBy q l = 0 ↔ ∀ p ∈ l, chkMod p.mod = 0 ∧ q p = 0
  | [] => by simp [chkBy]
  | p :: l => by
    rcases chkBy_step q p l with ⟨h, e⟩ | ⟨h, h2, e⟩ | ⟨h, h2, e⟩
    · rw [e]
      exact ⟨fun h' => absurd h' h, fun h' => (h' p (by simp)).1⟩
    · rw [e]
      exact ⟨fun h' => absurd h' h2, fun h' => (h' p (by simp)).2⟩
    · rw [e, chkBy_zero]
      constructor
      · intro h' x hx
        rcases List.mem_cons.1 hx with rfl | hx
        · exact ⟨h, h2⟩
        · exact h' x hx
      · exact fun h' x hx => h' x (List.mem_cons_of_mem _ hx)
theorem chkBy_congr {q q' : Plc → Int} (h : ∀ p, q p = q' p) (l : List Plc) : chkBy q l = chkBy q' l := by
  rw [show q = q' from funext h]
def farErr (p : Plc) : Int := if betw p.first 0 15 = false then 3 else 0
theorem chkPls_by : ∀ l : List Plc, chkPls l = chkBy farErr l
  | [] => rfl
  | p :: l => by
    have h1 : chkPls (p :: l) = if chkMod p.mod ≠ 0 then chkMod p.mod else if betw p.first 0 15 = false then 3 else chkPls l := rfl
    have h2 : chkBy farErr (p :: l) = if chkMod p.mod ≠ 0 then chkMod p.mod else if (if betw p.first 0 15 = false then (3 : Int) else 0) ≠ 0 then (if betw p.first 0 15 = false then (3 : Int) else 0) else chkBy farErr l := rfl
    rw [h1, h2, chkPls_by l]
    generalize chkBy farErr l = x
    cases betw p.first 0 15
    · simp
    · simp

/-- How many sectors a module needs. -/
def szM (m : Mod) : Nat := (m.text.size + 63) / 64
theorem szM_bd {m : Mod} (h : chkMod m = 0) : 1 ≤ szM m ∧ szM m ≤ 4 ∧ m.text.size ≤ 256 ∧ 1 ≤ m.text.size := by
  have h1 := (chkMod_exps h).2.1
  have h2 : m.text.size ≠ 0 := by
    intro h0
    unfold chkMod at h
    split at h
    · omega
    split at h
    · omega
    split at h
    · omega
    split at h
    · omega
    · rename_i _ _ _ h4
      exact h4 (.inl h0)
  unfold szM
  omega
def outErr (p : Plc) : Int := if p.first < 0 ∨ 16 - (szM p.mod : Int) < p.first then 3 else 0
/-- Does each begin behind the one ahead? -/
def behind : Int → List Plc → Bool
  | _, [] => true
  | e, p :: l => !decide (p.first < e) && behind (p.first + szM p.mod) l
def chkReg (l : List Plc) : Int := if 8 < l.length then 2 else if chkBy outErr l ≠ 0 then chkBy outErr l else if behind 0 l = false then 4 else 0
def okPl : Int → List Plc → Prop
  | e, [] => e ≤ 16
  | e, p :: l => e ≤ p.first ∧ 1 ≤ szM p.mod ∧ p.first + szM p.mod ≤ 16 ∧ okPl (p.first + szM p.mod) l
theorem behind_ok : ∀ {l : List Plc} {e : Int}, e ≤ 16 → (∀ p ∈ l, 1 ≤ szM p.mod ∧ p.first + szM p.mod ≤ 16) → behind e l = true → okPl e l
  | [], _, he, _, _ => he
  | p :: l, e, he, h, hb => by
    unfold behind at hb
    simp at hb
    obtain ⟨h1, h2⟩ := h p (by simp)
    exact ⟨hb.1, h1, h2, behind_ok h2 (fun x hx => h x (List.mem_cons_of_mem _ hx)) hb.2⟩
theorem ok_behind : ∀ {l : List Plc} {e : Int}, okPl e l → behind e l = true
  | [], _, _ => rfl
  | p :: l, e, h => by
    obtain ⟨h1, _, _, h4⟩ := h
    unfold behind
    simp [ok_behind h4]
    omega
theorem okPl_first : ∀ {l : List Plc} {e : Int}, okPl e l → ∀ p ∈ l, e ≤ p.first ∧ 1 ≤ szM p.mod ∧ p.first + szM p.mod ≤ 16
  | [], _, _, p, hp => by simp at hp
  | x :: l, e, h, p, hp => by
    obtain ⟨h1, h2, h3, h4⟩ := h
    rcases List.mem_cons.1 hp with rfl | hp
    · exact ⟨h1, h2, h3⟩
    · have := okPl_first h4 p hp
      omega
theorem okPl_end : ∀ {l : List Plc} {e : Int}, okPl e l → e ≤ 16
  | [], _, h => h
  | p :: l, e, h => by
    have := okPl_end h.2.2.2
    have h1 := h.1
    omega
theorem chkReg_zero {l : List Plc} : chkReg l = 0 ↔ l.length ≤ 8 ∧ (∀ p ∈ l, chkMod p.mod = 0) ∧ okPl 0 l := by
  unfold chkReg
  constructor
  · intro h
    split at h
    · omega
    rename_i h8
    split at h
    · omega
    rename_i hb
    have hb : chkBy outErr l = 0 := by omega
    have hz := chkBy_zero.1 hb
    split at h
    · omega
    rename_i hh
    have hh : behind 0 l = true := by simpa using hh
    refine ⟨by omega, fun p hp => (hz p hp).1, behind_ok (by decide) ?_ hh⟩
    intro p hp
    obtain ⟨h1, h2⟩ := hz p hp
    have := szM_bd h1
    unfold outErr at h2
    split at h2
    · omega
    · omega
  · rintro ⟨h1, h2, h3⟩
    have hb : chkBy outErr l = 0 := chkBy_zero.2 fun p hp => ⟨h2 p hp, by
      have := okPl_first h3 p hp
      unfold outErr
      rw [if_neg (by omega)]⟩
    rw [if_neg (by omega), hb, if_neg (by simp), ok_behind h3]
    simp

/-- The runs that are left from a sector on. -/
def gapOf (a b : Int) : List (Int × Int) := if a = b then [] else [(a, b - a)]
def runsFrom : Int → List Plc → List (Int × Int)
  | e, [] => gapOf e 16
  | e, p :: l => gapOf e p.first ++ runsFrom (p.first + szM p.mod) l
def sumRuns (l : List (Int × Int)) : Int := (l.map Prod.snd).sum
def sumSz (l : List Plc) : Int := (l.map fun p => (szM p.mod : Int)).sum
theorem sum_gap (a b : Int) : sumRuns (gapOf a b) = b - a := by
  unfold gapOf sumRuns
  split <;> simp <;> omega
theorem sumRuns_append (a b : List (Int × Int)) : sumRuns (a ++ b) = sumRuns a + sumRuns b := by
  simp [sumRuns]
theorem sum_runs : ∀ (l : List Plc) (e : Int), sumRuns (runsFrom e l) + sumSz l = 16 - e
  | [], e => by simp [runsFrom, sum_gap, sumSz]
  | p :: l, e => by
    have := sum_runs l (p.first + szM p.mod)
    unfold runsFrom
    rw [sumRuns_append, sum_gap]
    simp [sumSz] at *
    omega
/-- Runs rise, and none begins where another one ends. -/
def rises : Int → List (Int × Int) → Prop
  | _, [] => True
  | e, r :: l => e ≤ r.1 ∧ 1 ≤ r.2 ∧ r.1 + r.2 ≤ 16 ∧ rises (r.1 + r.2 + 1) l
theorem rises_le : ∀ {l : List (Int × Int)} {e e' : Int}, e' ≤ e → rises e l → rises e' l
  | [], _, _, _, _ => trivial
  | r :: l, e, e', h, hr => ⟨by have := hr.1; omega, hr.2.1, hr.2.2.1, hr.2.2.2⟩
theorem runs_rise : ∀ {l : List Plc} {e : Int}, okPl e l → rises e (runsFrom e l)
  | [], e, h => by
    unfold runsFrom gapOf
    have h : e ≤ 16 := h
    split
    · trivial
    · exact ⟨by simp, by simp; omega, by simp; omega, trivial⟩
  | p :: l, e, h => by
    obtain ⟨h1, h2, h3, h4⟩ := h
    have := runs_rise h4
    unfold runsFrom gapOf
    split
    · exact rises_le (by omega) this
    · refine ⟨by simp, by simp; omega, by simp; omega, rises_le ?_ this⟩
      simp
      omega
theorem runs_len : ∀ (l : List Plc) (e : Int), (runsFrom e l).length ≤ l.length + 1
  | [], e => by unfold runsFrom gapOf; split <;> simp
  | p :: l, e => by
    have := runs_len l (p.first + szM p.mod)
    unfold runsFrom gapOf
    split <;> simp <;> omega

/-- Is nobody in the way from a sector on? -/
def clearAt (many : Int) (l : List Plc) (x : Int) : Prop := ∀ p ∈ l, p.first + szM p.mod ≤ x ∨ x + many ≤ p.first
def fitOf (many : Int) (l : List (Int × Int)) : Option (Int × Int) := l.find? fun r => decide (many ≤ r.2)
theorem fit_spec {many : Int} (hm : 1 ≤ many) : ∀ {l : List Plc} {e : Int}, okPl e l →
    (∃ r, fitOf many (runsFrom e l) = some r ∧ e ≤ r.1 ∧ r.1 + many ≤ 16 ∧ clearAt many l r.1 ∧ ∀ x, e ≤ x → x < r.1 → ¬ clearAt many l x) ∨
    (fitOf many (runsFrom e l) = none ∧ ∀ x, e ≤ x → x + many ≤ 16 → ¬ clearAt many l x)
  | [], e, h => by
    have h : e ≤ 16 := h
    unfold runsFrom gapOf fitOf
    split
    · rename_i h0
      refine .inr ⟨rfl, fun x h1 h2 => by omega⟩
    · by_cases hx : many ≤ 16 - e
      · refine .inl ⟨(e, 16 - e), by simp [hx], by simp, by simp; omega, fun p hp => by simp at hp, fun x h1 h2 => by simp at h2; omega⟩
      · refine .inr ⟨by simp [hx], fun x h1 h2 => by omega⟩
  | p :: l, e, h => by
    obtain ⟨h1, h2, h3, h4⟩ := h
    by_cases hx : many ≤ p.first - e
    · refine .inl ⟨(e, p.first - e), ?_, by simp, by simp; omega, ?_, fun x h1 h2 => by simp at h2; omega⟩
      · unfold runsFrom gapOf fitOf
        rw [if_neg (by omega)]
        simp [hx]
      · intro q hq
        rcases List.mem_cons.1 hq with rfl | hq
        · right; simp; omega
        · have := okPl_first h4 q hq
          right; simp; omega
    · have hf : fitOf many (runsFrom e (p :: l)) = fitOf many (runsFrom (p.first + szM p.mod) l) := by
        conv => lhs; unfold runsFrom gapOf
        unfold fitOf
        split
        · simp
        · simp [hx]
      have hn : ∀ x, e ≤ x → x < p.first + szM p.mod → ¬ clearAt many (p :: l) x := by
        intro x g1 g2 g3
        rcases g3 p (by simp) with g | g
        · omega
        · omega
      have hc : ∀ x, p.first + szM p.mod ≤ x → clearAt many l x → clearAt many (p :: l) x := by
        intro x g1 g2 q hq
        rcases List.mem_cons.1 hq with rfl | hq
        · exact .inl g1
        · exact g2 q hq
      have hc' : ∀ x, clearAt many (p :: l) x → clearAt many l x := fun x g q hq => g q (List.mem_cons_of_mem _ hq)
      rw [hf]
      rcases fit_spec hm h4 with ⟨r, g1, g2, g3, g4, g5⟩ | ⟨g1, g2⟩
      · refine .inl ⟨r, g1, by omega, g3, hc _ g2 g4, fun x k1 k2 k3 => ?_⟩
        by_cases k : x < p.first + szM p.mod
        · exact hn x k1 k k3
        · exact g5 x (by omega) k2 (hc' _ k3)
      · refine .inr ⟨g1, fun x k1 k2 k3 => ?_⟩
        by_cases k : x < p.first + szM p.mod
        · exact hn x k1 k k3
        · exact g2 x (by omega) k2 (hc' _ k3)

/-- Without one of them. -/
theorem ok_less : ∀ {l : List Plc} {e : Int} (i : Nat), okPl e l → okPl e (l.eraseIdx i)
  | [], _, i, h => by simpa using h
  | p :: l, e, 0, h => by
    obtain ⟨h1, h2, h3, h4⟩ := h
    rw [List.eraseIdx_cons_zero]
    cases l with
    | nil => exact (show e ≤ 16 by omega)
    | cons q l =>
      obtain ⟨g1, g2, g3, g4⟩ := h4
      exact ⟨by omega, g2, g3, g4⟩
  | p :: l, e, i + 1, h => by
    obtain ⟨h1, h2, h3, h4⟩ := h
    rw [List.eraseIdx_cons_succ]
    exact ⟨h1, h2, h3, ok_less i h4⟩
theorem sum_less : ∀ {l : List Plc} {i : Nat} {p : Plc}, l[i]? = some p → sumSz (l.eraseIdx i) + szM p.mod = sumSz l
  | [], i, p, h => by simp at h
  | x :: l, 0, p, h => by
    simp at h
    subst h
    simp [sumSz]
    omega
  | x :: l, i + 1, p, h => by
    simp at h
    have := sum_less h
    simp [sumSz] at *
    omega
theorem chkReg_less {l : List Plc} (i : Nat) (h : chkReg l = 0) : chkReg (l.eraseIdx i) = 0 := by
  obtain ⟨h1, h2, h3⟩ := chkReg_zero.1 h
  refine chkReg_zero.2 ⟨Nat.le_trans (List.length_eraseIdx_le _ _) h1, fun p hp => h2 p (List.mem_of_mem_eraseIdx hp), ok_less i h3⟩

end Go.Proofs.Ytaklbnabgcglhab
