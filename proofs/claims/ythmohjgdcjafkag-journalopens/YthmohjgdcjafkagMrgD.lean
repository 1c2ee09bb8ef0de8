/- Texts that are laid together. -/
import Derived.Test.YthmohjgdcjafkagMrgC
import Derived.Maps.OwnSet
import Derived.DeepKeys4

/- The contract of module.wrongExports. -/
namespace Go.Proofs.Ythmohjgdcjafkag
open Go.RowKit Go.PlainAid Go.Maps Go.WideMaps

theorem lawS : Keyed Try.prog 9 := string_keyed Try.underlying9
theorem zeroI (w : World) : (zeroValue 3).run Try.prog w = .ok (.int .i64 0) w := by kernel_rfl

theorem expErr_cases (most : Int) (met : List ByteArray) (n : ByteArray) (p : Int) :
    (isNm n = false ∧ expErr most met ⟨n, p⟩ = 1) ∨ (isNm n = true ∧ (met.any fun x => x == n) = true ∧ expErr most met ⟨n, p⟩ = 6) ∨
    (isNm n = true ∧ (met.any fun x => x == n) = false ∧ p < 0 ∧ expErr most met ⟨n, p⟩ = 3) ∨ (isNm n = true ∧ (met.any fun x => x == n) = false ∧ 0 ≤ p ∧ most ≤ p ∧ expErr most met ⟨n, p⟩ = 3) ∨
    (isNm n = true ∧ (met.any fun x => x == n) = false ∧ 0 ≤ p ∧ p < most ∧ expErr most met ⟨n, p⟩ = 0) := by
  unfold expErr
  dsimp only
  cases h1 : isNm n
  · exact .inl ⟨rfl, by simp⟩
  cases h2 : met.any fun x => x == n
  · by_cases h3 : p < 0
    · exact .inr (.inr (.inl ⟨rfl, rfl, h3, by rw [betw_false (n := p) (.inl h3)]; simp⟩))
    by_cases h4 : most ≤ p
    · exact .inr (.inr (.inr (.inl ⟨rfl, rfl, by omega, h4, by rw [betw_false (n := p) (.inr (by omega))]; simp⟩)))
    · exact .inr (.inr (.inr (.inr ⟨rfl, rfl, by omega, by omega, by rw [betw_true (n := p) (by omega) (by omega)]; simp⟩)))
  · exact .inr (.inl ⟨rfl, rfl, by simp⟩)

theorem ba_beq (x y : ByteArray) : (x == y) = true ↔ x = y := Go.MapKept.bytes_beq x y
theorem ba_bne {x y : ByteArray} (h : x ≠ y) : (x == y) = false := by
  cases e : x == y
  · rfl
  · exact absurd ((ba_beq x y).1 e) h
theorem ba_self (x : ByteArray) : (x == x) = true := (ba_beq x x).2 rfl
theorem lit_inj {x y : ByteArray} (h : Lit.string x.data.toList = Lit.string y.data.toList) : x = y := by
  injection h with h
  exact ByteArray.ext (Array.toList_inj.1 h)

/-- The map has just these names. -/
def HasNames (D : DataW Unit) (met : List ByteArray) : Prop := ∀ x : ByteArray, Maps.has D (.string x.data.toList) = met.any fun y => y == x
theorem HasNames.none : HasNames (.map []) [] := fun _ => rfl
theorem HasNames.put {D : DataW Unit} {met : List ByteArray} (h : HasNames D met) (hD : IsMap D) (n : ByteArray) (d : DataW Unit) : HasNames (D.put (.string n.data.toList) d) (met ++ [n]) := by
  intro x
  rw [List.any_append]
  by_cases e : x = n
  · subst e
    rw [has_put_same hD (show WideAt.IsKeyLit (.string x.data.toList) from trivial)]
    simp [ba_self]
  · rw [has_put_other (fun he => e (lit_inj he)), h x]
    have : (n == x) = false := ba_bne (fun he => e he.symm)
    simp [this]

end Go.Proofs.Ythmohjgdcjafkag

/- The contract of module.wrongImports. -/
namespace Go.Proofs.Ythmohjgdcjafkag
open Go.RowKit Go.PlainAid Go.Maps Go.WideMaps

set_option maxRecDepth 100000

theorem laidOut : laidOutB Try.prog = true := by kernel_rfl
theorem impErr_cases (met : List (ByteArray × ByteArray)) (m n : ByteArray) (a b : Int) :
    (isNm m = false ∧ impErr met ⟨m, n, a, b⟩ = 1) ∨ (isNm m = true ∧ isNm n = false ∧ impErr met ⟨m, n, a, b⟩ = 1) ∨ (isNm m = true ∧ isNm n = true ∧ (met.any fun x => x.1 == m && x.2 == n) = true ∧ impErr met ⟨m, n, a, b⟩ = 6) ∨
    (isNm m = true ∧ isNm n = true ∧ (met.any fun x => x.1 == m && x.2 == n) = false ∧ isVer a b = false ∧ impErr met ⟨m, n, a, b⟩ = 3) ∨ (isNm m = true ∧ isNm n = true ∧ (met.any fun x => x.1 == m && x.2 == n) = false ∧ isVer a b = true ∧ impErr met ⟨m, n, a, b⟩ = 0) := by
  unfold impErr
  dsimp only
  cases h1 : isNm m
  · exact .inl ⟨rfl, by simp⟩
  cases h2 : isNm n
  · exact .inr (.inl ⟨rfl, rfl, by simp⟩)
  cases h3 : met.any fun x => x.1 == m && x.2 == n
  · cases h4 : isVer a b
    · exact .inr (.inr (.inr (.inl ⟨rfl, rfl, rfl, rfl, by simp⟩)))
    · exact .inr (.inr (.inr (.inr ⟨rfl, rfl, rfl, rfl, by simp⟩)))
  · exact .inr (.inr (.inl ⟨rfl, rfl, rfl, by simp⟩))

end Go.Proofs.Ythmohjgdcjafkag

/- The contract of module.Check. -/
namespace Go.Proofs.Ythmohjgdcjafkag
open Go.RowKit Go.PlainAid

/-- A value that is this module, its slices below block n₀. -/
def IsMod (n₀ : Nat) (W : World) (v : Value) (M : Mod) : Prop :=
  ∃ ve vi vp, v = .agg #[.string M.name, .int .i64 M.major, .int .i64 M.minor, .string M.text, ve, vi, vp] ∧ RowOf 2 Exp.cell n₀ W ve M.exps ∧ RowOf 4 Imp.cell n₀ W vi M.imps ∧ RowOf 4 Pat.cell n₀ W vp M.pats
def Mod.fits (M : Mod) : Prop := M.name.size ≤ 9223372036854775807 ∧ M.text.size ≤ 9223372036854775807 ∧ (∀ e ∈ M.exps, e.name.size ≤ 9223372036854775807) ∧ ∀ i ∈ M.imps, i.fits

theorem IsMod.below {n₀ : Nat} {W W' : World} {v : Value} {M : Mod} (h : IsMod n₀ W v M) (hb : Below n₀ W W') : IsMod n₀ W' v M := by
  obtain ⟨ve, vi, vp, e, h1, h2, h3⟩ := h
  exact ⟨ve, vi, vp, e, h1.below hb, h2.below hb, h3.below hb⟩
theorem IsMod.more {n₀ n₁ : Nat} {W : World} {v : Value} {M : Mod} (h : IsMod n₀ W v M) (hn : n₀ ≤ n₁) : IsMod n₁ W v M := by
  obtain ⟨ve, vi, vp, e, h1, h2, h3⟩ := h
  exact ⟨ve, vi, vp, e, h1.more hn, h2.more hn, h3.more hn⟩

theorem bcell {W w1 : World} (hb : Below W.heap.size W w1) : (∀ b o, b < W.heap.size → w1.cell? ⟨b, o, none⟩ = W.cell? ⟨b, o, none⟩) ∧ (∀ b o, b < W.heap.size → w1.frozen? ⟨b, o, none⟩ = W.frozen? ⟨b, o, none⟩) :=
  ⟨fun b o h => hb.cell (p := ⟨b, o, none⟩) h, fun b o h => hb.frozen (p := ⟨b, o, none⟩) h⟩

def tooManyB (M : Mod) : Bool := decide (256 < (M.text.size : Int)) || decide (6 < (M.exps.length : Int)) || decide (6 < (M.imps.length : Int)) || decide (12 < (M.pats.length : Int))

end Go.Proofs.Ythmohjgdcjafkag
