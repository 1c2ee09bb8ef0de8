/- The contract of module.Check. -/
import Derived.Test.YtaklbnabgcglhabModC
namespace Go.Proofs.Ytaklbnabgcglhab
open Go.RowKit Go.PlainAid

/-- A value that is this module, its slices below block n₀. -/
def IsMod (n₀ : Nat) (W : World) (v : Value) (M : Mod) : Prop :=
  ∃ ve vi vp, v = .agg #[.string M.name, .int .i64 M.major, .int .i64 M.minor, .string M.text, ve, vi, vp] ∧ RowOf 2 Exp.cell n₀ W ve M.exps ∧ RowOf 4 Imp.cell n₀ W vi M.imps ∧ RowOf 4 Pat.cell n₀ W vp M.pats
def Mod.fits (M : Mod) : Prop := M.name.size ≤ 9223372036854775807 ∧ M.text.size ≤ 9223372036854775807 ∧ (∀ e ∈ M.exps, e.name.size ≤ 9223372036854775807) ∧ ∀ i ∈ M.imps, i.fits

theorem IsMod.below {n₀ : Nat} {W W' : World} {v : Value} {M : Mod} (h : IsMod n₀ W v M) (hb : Below n₀ W W') : IsMod n₀ W' v M := by
  obtain ⟨ve, vi, vp, e, h1, h2, h3⟩ := h
  exact ⟨ve, vi, vp, e, h1.below hb, h2.below hb, h3.below hb⟩
theorem IsMod.more {n₀ n₁ : Nat} {W : World} {v : Value} {M : Mod} (h : IsMod n₀ W v M) (hn : n₀ ≤ n₁) : IsMod n₁ W v M := by
  obtain ⟨ve, vi, vp, e, h1, h2, h3⟩ := h
  exact ⟨ve, vi, vp, e, h1.more hn, h2.more hn, h3.more hn⟩

theorem bcell {W w1 : World} (hb : Below W.heap.size W w1) : (∀ b o, b < W.heap.size → w1.cell? ⟨b, o, none⟩ = W.cell? ⟨b, o, none⟩) ∧ (∀ b o, b < W.heap.size → w1.frozen? ⟨b, o, none⟩ = W.frozen? ⟨b, o, none⟩) :=
  ⟨fun b o h => hb.cell (p := ⟨b, o, none⟩) h, fun b o h => hb.frozen (p := ⟨b, o, none⟩) h⟩

def tooManyB (M : Mod) : Bool := decide (256 < (M.text.size : Int)) || decide (6 < (M.exps.length : Int)) || decide (6 < (M.imps.length : Int)) || decide (12 < (M.pats.length : Int))

set_option maxHeartbeats 1000000 in
theorem tooMany_any (N T : ByteArray) (a b : Int) (l1 l2 l3 : Nat) (p1 p2 p3 : Option Addr) (k1 k2 k3 : Nat) (w : World) :
    Calls Try.prog 79 #[.agg #[.string N, .int .i64 a, .int .i64 b, .string T, .slice p1 l1 k1, .slice p2 l2 k2, .slice p3 l3 k3]] w fun e w' =>
      e = .returned (.bool (decide (256 < (T.size : Int)) || decide (6 < (l1 : Int)) || decide (6 < (l2 : Int)) || decide (12 < (l3 : Int)))) ∧ Below w.heap.size w w' := by
  by_cases h1 : 256 < (T.size : Int)
  · rw [decide_eq_true h1]
    go_enter Try.func79, Try.ntmps79
    go_wp2
    go_ret
    exact ⟨rfl, (Below.refl _ _).alloc (Nat.le_refl _) _⟩
  have h1' : decide (256 < (T.size : Int)) = false := decide_eq_false h1
  have g1 : decide (256 < T.size) = false := decide_eq_false (by omega)
  rw [h1']
  by_cases h2 : 6 < (l1 : Int)
  · rw [decide_eq_true h2]
    go_enter Try.func79, Try.ntmps79
    go_wp2
    go_ret
    exact ⟨rfl, (Below.refl _ _).alloc (Nat.le_refl _) _⟩
  have h2' : decide (6 < (l1 : Int)) = false := decide_eq_false h2
  have g2 : decide (6 < l1) = false := decide_eq_false (by omega)
  rw [h2']
  by_cases h3 : 6 < (l2 : Int)
  · rw [decide_eq_true h3]
    go_enter Try.func79, Try.ntmps79
    go_wp2
    go_ret
    exact ⟨rfl, (Below.refl _ _).alloc (Nat.le_refl _) _⟩
  have h3' : decide (6 < (l2 : Int)) = false := decide_eq_false h3
  have g3 : decide (6 < l2) = false := decide_eq_false (by omega)
  rw [h3']
  by_cases h4 : 12 < (l3 : Int)
  · rw [decide_eq_true h4]
    go_enter Try.func79, Try.ntmps79
    go_wp2
    go_ret
    exact ⟨rfl, (Below.refl _ _).alloc (Nat.le_refl _) _⟩
  · have h4' : decide (12 < (l3 : Int)) = false := decide_eq_false h4
    have g4 : decide (12 < l3) = false := decide_eq_false (by omega)
    rw [h4']
    go_enter Try.func79, Try.ntmps79
    go_wp2
    go_ret
    exact ⟨rfl, (Below.refl _ _).alloc (Nat.le_refl _) _⟩

end Go.Proofs.Ytaklbnabgcglhab
