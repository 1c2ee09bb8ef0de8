/- Modules in memory. -/
import Derived.Test.YtnomapbiklfciafNameR
namespace Go.Proofs.Ytnomapbiklfciaf
open Go.RowKit Go.PlainAid

/-- A slice of things of so many cells each: below block n₀. -/
def RowOf {α : Type} (sz : Nat) (cells : α → Nat → Value) (n₀ : Nat) (W : World) (v : Value) (l : List α) : Prop :=
  ∃ a cap, v = .slice a l.length cap ∧ l.length ≤ 9223372036854775807 ∧ (l = [] ∨ ∃ b off, a = some ⟨b, off, none⟩ ∧ b < n₀ ∧ ∀ j x, l[j]? = some x → ∀ i, i < sz → W.cell? ⟨b, off + j * sz + i, none⟩ = some (cells x i))

theorem RowOf.below {α : Type} {sz : Nat} {cells : α → Nat → Value} {n₀ : Nat} {W W' : World} {v : Value} {l : List α} (h : RowOf sz cells n₀ W v l) (hb : Below n₀ W W') : RowOf sz cells n₀ W' v l := by
  obtain ⟨a, cap, e, hl, h | ⟨b, off, e2, hlt, hc⟩⟩ := h
  · exact ⟨a, cap, e, hl, .inl h⟩
  · exact ⟨a, cap, e, hl, .inr ⟨b, off, e2, hlt, fun j x hj i hi => (hb.cell (p := ⟨b, off + j * sz + i, none⟩) hlt).trans (hc j x hj i hi)⟩⟩

theorem RowOf.more {α : Type} {sz : Nat} {cells : α → Nat → Value} {n₀ n₁ : Nat} {W : World} {v : Value} {l : List α} (h : RowOf sz cells n₀ W v l) (hn : n₀ ≤ n₁) : RowOf sz cells n₁ W v l := by
  obtain ⟨a, cap, e, hl, h | ⟨b, off, e2, hlt, hc⟩⟩ := h
  · exact ⟨a, cap, e, hl, .inl h⟩
  · exact ⟨a, cap, e, hl, .inr ⟨b, off, e2, by omega, hc⟩⟩

def Exp.cell (e : Exp) : Nat → Value
  | 0 => .string e.name
  | _ => .int .i64 e.pos
def Imp.cell (i : Imp) : Nat → Value
  | 0 => .string i.mod
  | 1 => .string i.name
  | 2 => .int .i64 i.major
  | _ => .int .i64 i.minor
def Pat.cell (p : Pat) : Nat → Value
  | 0 => .int .i64 p.kind
  | 1 => .int .i64 p.pos
  | 2 => .int .i64 p.sym
  | _ => .int .i64 p.add

theorem drop_at {α : Type} {l : List α} {k : Nat} {x : α} (h : l[k]? = some x) : l.drop k = x :: l.drop (k + 1) := by
  obtain ⟨hk, rfl⟩ := List.getElem?_eq_some_iff.1 h
  exact List.drop_eq_getElem_cons hk

theorem patErr_cases (bytes imports E K A S D : Int) : (width K = 0 ∧ patErr bytes imports E ⟨K, A, S, D⟩ = 7) ∨
    (width K ≠ 0 ∧ ((S < -1 ∧ patErr bytes imports E ⟨K, A, S, D⟩ = 3) ∨ (-1 ≤ S ∧ imports ≤ S ∧ patErr bytes imports E ⟨K, A, S, D⟩ = 3) ∨ (-1 ≤ S ∧ S < imports ∧ D < 0 ∧ patErr bytes imports E ⟨K, A, S, D⟩ = 3) ∨ (-1 ≤ S ∧ S < imports ∧ 0 ≤ D ∧ 65535 < D ∧ patErr bytes imports E ⟨K, A, S, D⟩ = 3) ∨
      (-1 ≤ S ∧ S < imports ∧ 0 ≤ D ∧ D ≤ 65535 ∧ ((A < 0 ∧ patErr bytes imports E ⟨K, A, S, D⟩ = 3) ∨ (0 ≤ A ∧ bytes - width K < A ∧ patErr bytes imports E ⟨K, A, S, D⟩ = 3) ∨ (0 ≤ A ∧ A ≤ bytes - width K ∧ A < E ∧ patErr bytes imports E ⟨K, A, S, D⟩ = 4) ∨
        (0 ≤ A ∧ A ≤ bytes - width K ∧ E ≤ A ∧ patErr bytes imports E ⟨K, A, S, D⟩ = 0))))) := by
  unfold patErr
  dsimp only
  by_cases h0 : width K = 0
  · exact .inl ⟨h0, by rw [if_pos h0]⟩
  refine .inr ⟨h0, ?_⟩
  rw [if_neg h0]
  by_cases h1 : S < -1
  · exact .inl ⟨h1, by rw [betw_false (n := S) (.inl h1)]; rfl⟩
  by_cases h2 : imports ≤ S
  · exact .inr (.inl ⟨by omega, h2, by rw [betw_false (n := S) (.inr (by omega))]; rfl⟩)
  have hS : betw S (-1) (imports - 1) = true := betw_true (by omega) (by omega)
  by_cases h3 : D < 0
  · exact .inr (.inr (.inl ⟨by omega, by omega, h3, by rw [hS, betw_false (n := D) (.inl h3)]; rfl⟩))
  by_cases h4 : 65535 < D
  · exact .inr (.inr (.inr (.inl ⟨by omega, by omega, by omega, h4, by rw [hS, betw_false (n := D) (.inr h4)]; rfl⟩)))
  have hD : betw D 0 65535 = true := betw_true (by omega) (by omega)
  refine .inr (.inr (.inr (.inr ⟨by omega, by omega, by omega, by omega, ?_⟩)))
  rw [hS, hD]
  by_cases h5 : A < 0
  · exact .inl ⟨h5, by rw [betw_false (n := A) (.inl h5)]; rfl⟩
  by_cases h6 : bytes - width K < A
  · exact .inr (.inl ⟨by omega, h6, by rw [betw_false (n := A) (.inr h6)]; rfl⟩)
  have hA : betw A 0 (bytes - width K) = true := betw_true (by omega) (by omega)
  rw [hA]
  by_cases h7 : A < E
  · exact .inr (.inr (.inl ⟨by omega, by omega, h7, by rw [if_pos h7]; rfl⟩))
  · exact .inr (.inr (.inr ⟨by omega, by omega, by omega, by rw [if_neg h7]; rfl⟩))

theorem width_bd (k : Int) : 0 ≤ width k ∧ width k ≤ 4 := by
  rcases width_cases k with ⟨_, h⟩ | ⟨_, h⟩ | ⟨_, h⟩ | ⟨_, h⟩ | ⟨_, h⟩ | ⟨_, _, _, _, _, h⟩ <;> omega

end Go.Proofs.Ytnomapbiklfciaf
