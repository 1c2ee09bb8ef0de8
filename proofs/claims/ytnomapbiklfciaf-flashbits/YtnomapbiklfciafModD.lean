/- The contract of module.Check. -/
import Derived.Test.YtnomapbiklfciafModC
namespace Go.Proofs.Ytnomapbiklfciaf
open Go.RowKit Go.PlainAid

/-- A value that is this module, its slices below block n₀. -/
def IsMod (n₀ : Nat) (W : World) (v : Value) (M : Mod) : Prop :=
  ∃ ve vi vp, v = .agg #[.string M.name, .int .i64 M.major, .int .i64 M.minor, .string M.text, ve, vi, vp] ∧ RowOf 2 Exp.cell n₀ W ve M.exps ∧ RowOf 4 Imp.cell n₀ W vi M.imps ∧ RowOf 4 Pat.cell n₀ W vp M.pats
def Mod.fits (M : Mod) : Prop := M.name.size ≤ 9223372036854775807 ∧ M.text.size ≤ 9223372036854775807 ∧ (∀ e ∈ M.exps, e.name.size ≤ 9223372036854775807) ∧ ∀ i ∈ M.imps, i.fits

theorem IsMod.below {n₀ : Nat} {W W' : World} {v : Value} {M : Mod} (h : IsMod n₀ W v M) (hb : Below n₀ W W') : IsMod n₀ W' v M := by
  obtain ⟨ve, vi, vp, e, h1, h2, h3⟩ := h
  exact ⟨ve, vi, vp, e, h1.below hb, h2.below hb, h3.below hb⟩
theorem IsMod.more {n₀ n₁ : Nat} {W : World} {v : Value} {M : Mod} (h : IsMod n₀ W v M) (hn : n₀ ≤ n₁) : IsMod n₁ W v M := by
  obtain ⟨ve, vi, vp, e, h1, h2, h3⟩ := h
  exact ⟨ve, vi, vp, e, h1.more hn, h2.more hn, h3.more hn⟩

theorem bcell {W w1 : World} (hb : Below W.heap.size W w1) : (∀ b o, b < W.heap.size → w1.cell? ⟨b, o, none⟩ = W.cell? ⟨b, o, none⟩) ∧ (∀ b o, b < W.heap.size → w1.frozen? ⟨b, o, none⟩ = W.frozen? ⟨b, o, none⟩) :=
  ⟨fun b o h => hb.cell (p := ⟨b, o, none⟩) h, fun b o h => hb.frozen (p := ⟨b, o, none⟩) h⟩

def tooManyB (M : Mod) : Bool := decide (256 < (M.text.size : Int)) || decide (6 < (M.exps.length : Int)) || decide (6 < (M.imps.length : Int)) || decide (12 < (M.pats.length : Int))

end Go.Proofs.Ytnomapbiklfciaf
