/- The contract of module.wrongExports. -/
import Derived.Test.YtnomapbiklfciafModA
import Derived.Maps.OwnSet
namespace Go.Proofs.Ytnomapbiklfciaf
open Go.RowKit Go.PlainAid Go.Maps Go.WideMaps

theorem lawS : Keyed Try.prog 9 := string_keyed Try.underlying9
theorem zeroI (w : World) : (zeroValue 3).run Try.prog w = .ok (.int .i64 0) w := by kernel_rfl

theorem expErr_cases (most : Int) (met : List ByteArray) (n : ByteArray) (p : Int) :
    (isNm n = false ∧ expErr most met ⟨n, p⟩ = 1) ∨ (isNm n = true ∧ (met.any fun x => x == n) = true ∧ expErr most met ⟨n, p⟩ = 6) ∨
    (isNm n = true ∧ (met.any fun x => x == n) = false ∧ p < 0 ∧ expErr most met ⟨n, p⟩ = 3) ∨ (isNm n = true ∧ (met.any fun x => x == n) = false ∧ 0 ≤ p ∧ most ≤ p ∧ expErr most met ⟨n, p⟩ = 3) ∨
    (isNm n = true ∧ (met.any fun x => x == n) = false ∧ 0 ≤ p ∧ p < most ∧ expErr most met ⟨n, p⟩ = 0) := by
  unfold expErr
  dsimp only
  cases h1 : isNm n
  · exact .inl ⟨rfl, by simp⟩
  cases h2 : met.any fun x => x == n
  · by_cases h3 : p < 0
    · exact .inr (.inr (.inl ⟨rfl, rfl, h3, by rw [betw_false (n := p) (.inl h3)]; simp⟩))
    by_cases h4 : most ≤ p
    · exact .inr (.inr (.inr (.inl ⟨rfl, rfl, by omega, h4, by rw [betw_false (n := p) (.inr (by omega))]; simp⟩)))
    · exact .inr (.inr (.inr (.inr ⟨rfl, rfl, by omega, by omega, by rw [betw_true (n := p) (by omega) (by omega)]; simp⟩)))
  · exact .inr (.inl ⟨rfl, rfl, by simp⟩)

theorem ba_beq (x y : ByteArray) : (x == y) = true ↔ x = y := Go.MapKept.bytes_beq x y
theorem ba_bne {x y : ByteArray} (h : x ≠ y) : (x == y) = false := by
  cases e : x == y
  · rfl
  · exact absurd ((ba_beq x y).1 e) h
theorem ba_self (x : ByteArray) : (x == x) = true := (ba_beq x x).2 rfl
theorem lit_inj {x y : ByteArray} (h : Lit.string x.data.toList = Lit.string y.data.toList) : x = y := by
  injection h with h
  exact ByteArray.ext (Array.toList_inj.1 h)

/-- The map has just these names. -/
def HasNames (D : DataW Unit) (met : List ByteArray) : Prop := ∀ x : ByteArray, Maps.has D (.string x.data.toList) = met.any fun y => y == x
theorem HasNames.none : HasNames (.map []) [] := fun _ => rfl
theorem HasNames.put {D : DataW Unit} {met : List ByteArray} (h : HasNames D met) (hD : IsMap D) (n : ByteArray) (d : DataW Unit) : HasNames (D.put (.string n.data.toList) d) (met ++ [n]) := by
  intro x
  rw [List.any_append]
  by_cases e : x = n
  · subst e
    rw [has_put_same hD (show WideAt.IsKeyLit (.string x.data.toList) from trivial)]
    simp [ba_self]
  · rw [has_put_other (fun he => e (lit_inj he)), h x]
    have : (n == x) = false := ba_bne (fun he => e he.symm)
    simp [this]

end Go.Proofs.Ytnomapbiklfciaf
