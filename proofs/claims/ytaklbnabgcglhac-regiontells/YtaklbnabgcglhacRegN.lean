/- The document's way to the runs: sector by sector. -/
import Derived.Test.YtaklbnabgcglhacRegM
namespace Go.Proofs.Ytaklbnabgcglhac
open Go.RowKit Go.PlainAid

def bump (l : List (Int × Int)) : List (Int × Int) := l.dropLast ++ (match l.getLast? with | none => [] | some r => [(r.1, r.2 + 1)])
def scanStep (u : Nat → Bool) (i : Nat) (acc : List (Int × Int)) : List (Int × Int) :=
  if u i = true then acc else if 0 < i ∧ u (i - 1) = false then bump acc else acc ++ [((i : Int), 1)]
def scan (u : Nat → Bool) : Nat → List (Int × Int)
  | 0 => []
  | i + 1 => scanStep u i (scan u i)
theorem bump_snoc (l : List (Int × Int)) (a b : Int) : bump (l ++ [(a, b)]) = l ++ [(a, b + 1)] := by
  unfold bump
  simp
theorem scan_used {u : Nat → Bool} {a : Nat} : ∀ {n : Nat}, (∀ j, a ≤ j → j < a + n → u j = true) → scan u (a + n) = scan u a
  | 0, _ => rfl
  | n + 1, h => by
    show scanStep u (a + n) (scan u (a + n)) = _
    unfold scanStep
    rw [if_pos (h _ (by omega) (by omega)), scan_used (fun j h1 h2 => h j h1 (by omega))]
theorem scan_free {u : Nat → Bool} {a : Nat} (h0 : a = 0 ∨ u (a - 1) = true) : ∀ {n : Nat}, (∀ j, a ≤ j → j < a + (n + 1) → u j = false) → scan u (a + (n + 1)) = scan u a ++ [((a : Int), (n : Int) + 1)]
  | 0, h => by
    show scanStep u a (scan u a) = _
    unfold scanStep
    rw [if_neg (by rw [h a (Nat.le_refl _) (by omega)]; decide), if_neg ?_]
    · simp
    · rintro ⟨h1, h2⟩
      rcases h0 with h0 | h0
      · omega
      · rw [h0] at h2; exact absurd h2 (by decide)
  | n + 1, h => by
    show scanStep u (a + (n + 1)) (scan u (a + (n + 1))) = _
    unfold scanStep
    rw [if_neg (by rw [h (a + (n + 1)) (by omega) (by omega)]; decide), if_pos ⟨by omega, h _ (by omega) (by omega)⟩, scan_free h0 (fun j h1 h2 => h j h1 (by omega)), bump_snoc]
    simp
def usedBy (l : List Plc) (j : Nat) : Bool := l.any fun p => decide (p.first ≤ (j : Int)) && decide ((j : Int) < p.first + szM p.mod)
theorem usedBy_false {l : List Plc} {j : Nat} : usedBy l j = false ↔ ∀ p ∈ l, ¬ (p.first ≤ (j : Int) ∧ (j : Int) < p.first + szM p.mod) := by
  unfold usedBy
  rw [List.any_eq_false]
  simp
theorem usedBy_true {l : List Plc} {j : Nat} : usedBy l j = true ↔ ∃ p ∈ l, p.first ≤ (j : Int) ∧ (j : Int) < p.first + szM p.mod := by
  unfold usedBy
  rw [List.any_eq_true]
  simp
theorem scan_gap {u : Nat → Bool} {a b : Nat} (hab : a ≤ b) (h0 : a = 0 ∨ u (a - 1) = true) (h : ∀ j, a ≤ j → j < b → u j = false) : scan u b = scan u a ++ gapOf a b := by
  by_cases hb : a = b
  · subst hb
    simp [gapOf]
  · obtain ⟨n, rfl⟩ : ∃ n, b = a + (n + 1) := ⟨b - a - 1, by omega⟩
    rw [scan_free h0 h]
    unfold gapOf
    rw [if_neg (by omega)]
    simp
    omega
theorem scan_runs {u : Nat → Bool} : ∀ {l : List Plc} {e : Nat}, okPl e l → (e = 0 ∨ u (e - 1) = true) → (∀ j, e ≤ j → j < 16 → u j = usedBy l j) → scan u 16 = scan u e ++ runsFrom e l
  | [], e, h, h0, hu => by
    have h : (e : Int) ≤ 16 := h
    exact scan_gap (by omega) h0 (fun j h1 h2 => by rw [hu j h1 h2]; rfl)
  | p :: l, e, h, h0, hu => by
    obtain ⟨h1, h2, h3, h4⟩ := h
    obtain ⟨f, hf⟩ : ∃ f : Nat, p.first = f := ⟨p.first.toNat, by omega⟩
    rw [hf] at h1 h3 h4
    have hl := okPl_first h4
    have g1 : scan u f = scan u e ++ gapOf e f := by
      refine scan_gap (by omega) h0 fun j k1 k2 => ?_
      rw [hu j k1 (by omega), usedBy_false]
      intro q hq
      rcases List.mem_cons.1 hq with rfl | hq
      · omega
      · have := hl q hq
        omega
    have hus : ∀ j, f ≤ j → j < f + szM p.mod → u j = true := by
      intro j k1 k2
      rw [hu j (by omega) (by omega), usedBy_true]
      exact ⟨p, by simp, by omega, by omega⟩
    have g2 : scan u (f + szM p.mod) = scan u f := scan_used hus
    have e1 : ((f + szM p.mod : Nat) : Int) = p.first + szM p.mod := by rw [hf]; omega
    have g3 := scan_runs (u := u) (l := l) (e := f + szM p.mod) (by rw [e1, hf]; exact h4) (.inr (hus _ (by omega) (by omega))) (by
      intro j k1 k2
      rw [hu j (by omega) k2]
      unfold usedBy
      rw [List.any_cons]
      have : (decide (p.first ≤ (j : Int)) && decide ((j : Int) < p.first + szM p.mod)) = false := by
        simp
        omega
      rw [this, Bool.false_or])
    have g4 : runsFrom e (p :: l) = gapOf e p.first ++ runsFrom (p.first + szM p.mod) l := rfl
    rw [g3, g2, g1, e1, g4, hf, List.append_assoc]

end Go.Proofs.Ytaklbnabgcglhac
