/- Texts that are laid together. -/
import Derived.Test.YthmohjgdcjafkagMrgB

/- The contracts of small functions: names, versions, widths. -/
namespace Go.Proofs.Ythmohjgdcjafkag
open Go.RowKit Go.PlainAid

theorem width_cases (k : Int) : (k = 1 ∧ width k = 4) ∨ (k = 2 ∧ width k = 4) ∨ (k = 3 ∧ width k = 2) ∨ (k = 4 ∧ width k = 2) ∨ (k = 5 ∧ width k = 3) ∨ (k ≠ 1 ∧ k ≠ 2 ∧ k ≠ 3 ∧ k ≠ 4 ∧ k ≠ 5 ∧ width k = 0) := by
  by_cases h1 : k = 1
  · subst h1; exact .inl ⟨rfl, by decide⟩
  by_cases h2 : k = 2
  · subst h2; exact .inr (.inl ⟨rfl, by decide⟩)
  by_cases h3 : k = 3
  · subst h3; exact .inr (.inr (.inl ⟨rfl, by decide⟩))
  by_cases h4 : k = 4
  · subst h4; exact .inr (.inr (.inr (.inl ⟨rfl, by decide⟩)))
  by_cases h5 : k = 5
  · subst h5; exact .inr (.inr (.inr (.inr (.inl ⟨rfl, by decide⟩))))
  · refine .inr (.inr (.inr (.inr (.inr ⟨h1, h2, h3, h4, h5, ?_⟩))))
    unfold width
    rw [if_neg (by omega), if_neg (by omega), if_neg h5]

end Go.Proofs.Ythmohjgdcjafkag

/- The contracts of the document's names and imports. -/
namespace Go.Proofs.Ythmohjgdcjafkag
open Go.RowKit Go.PlainAid

theorem wrap_bt (s : ByteArray) (k : Nat) : wrap64 (bt s k) = bt s k := by
  have a := bt_nonneg s k
  have b := bt_le s k
  unfold wrap64; omega

theorem okc_parts {c : Int} (hc : okc c = true) : betw c 97 122 = true ∨ (betw c 97 122 = false ∧ (betw c 48 57 = true ∨ (betw c 48 57 = false ∧ (c != 95) = false))) := by
  unfold okc at hc
  cases ha : betw c 97 122
  · cases hb : betw c 48 57
    · rw [ha, hb] at hc
      refine .inr ⟨rfl, .inr ⟨rfl, ?_⟩⟩
      simpa using hc
    · exact .inr ⟨rfl, .inl rfl⟩
  · exact .inl rfl
theorem okc_none {c : Int} (hcf : okc c = false) : betw c 97 122 = false ∧ betw c 48 57 = false ∧ (c != 95) = true := by
  unfold okc at hcf
  rw [Bool.or_eq_false_iff, Bool.or_eq_false_iff] at hcf
  exact ⟨hcf.1, hcf.2.1, by simpa using hcf.2.2⟩

/-- What is wrong with an import by itself. -/
def impOwn (i : Imp) : Int := if (isNm i.mod && isNm i.name) = false then 1 else if isVer i.major i.minor = false then 3 else 0
def Imp.fits (i : Imp) : Prop := i.mod.size ≤ 9223372036854775807 ∧ i.name.size ≤ 9223372036854775807

end Go.Proofs.Ythmohjgdcjafkag

/- Modules in memory. -/
namespace Go.Proofs.Ythmohjgdcjafkag
open Go.RowKit Go.PlainAid

/-- A slice of things of so many cells each: below block n₀. -/
def RowOf {α : Type} (sz : Nat) (cells : α → Nat → Value) (n₀ : Nat) (W : World) (v : Value) (l : List α) : Prop :=
  ∃ a cap, v = .slice a l.length cap ∧ l.length ≤ 9223372036854775807 ∧ (l = [] ∨ ∃ b off, a = some ⟨b, off, none⟩ ∧ b < n₀ ∧ ∀ j x, l[j]? = some x → ∀ i, i < sz → W.cell? ⟨b, off + j * sz + i, none⟩ = some (cells x i))

theorem RowOf.below {α : Type} {sz : Nat} {cells : α → Nat → Value} {n₀ : Nat} {W W' : World} {v : Value} {l : List α} (h : RowOf sz cells n₀ W v l) (hb : Below n₀ W W') : RowOf sz cells n₀ W' v l := by
  obtain ⟨a, cap, e, hl, h | ⟨b, off, e2, hlt, hc⟩⟩ := h
  · exact ⟨a, cap, e, hl, .inl h⟩
  · exact ⟨a, cap, e, hl, .inr ⟨b, off, e2, hlt, fun j x hj i hi => (hb.cell (p := ⟨b, off + j * sz + i, none⟩) hlt).trans (hc j x hj i hi)⟩⟩

theorem RowOf.more {α : Type} {sz : Nat} {cells : α → Nat → Value} {n₀ n₁ : Nat} {W : World} {v : Value} {l : List α} (h : RowOf sz cells n₀ W v l) (hn : n₀ ≤ n₁) : RowOf sz cells n₁ W v l := by
  obtain ⟨a, cap, e, hl, h | ⟨b, off, e2, hlt, hc⟩⟩ := h
  · exact ⟨a, cap, e, hl, .inl h⟩
  · exact ⟨a, cap, e, hl, .inr ⟨b, off, e2, by omega, hc⟩⟩

def Exp.cell (e : Exp) : Nat → Value
  | 0 => .string e.name
  | _ => .int .i64 e.pos
def Imp.cell (i : Imp) : Nat → Value
  | 0 => .string i.mod
  | 1 => .string i.name
  | 2 => .int .i64 i.major
  | _ => .int .i64 i.minor
def Pat.cell (p : Pat) : Nat → Value
  | 0 => .int .i64 p.kind
  | 1 => .int .i64 p.pos
  | 2 => .int .i64 p.sym
  | _ => .int .i64 p.add

theorem drop_at {α : Type} {l : List α} {k : Nat} {x : α} (h : l[k]? = some x) : l.drop k = x :: l.drop (k + 1) := by
  obtain ⟨hk, rfl⟩ := List.getElem?_eq_some_iff.1 h
  exact List.drop_eq_getElem_cons hk

theorem patErr_cases (bytes imports E K A S D : Int) : (width K = 0 ∧ patErr bytes imports E ⟨K, A, S, D⟩ = 7) ∨
    (width K ≠ 0 ∧ ((S < -1 ∧ patErr bytes imports E ⟨K, A, S, D⟩ = 3) ∨ (-1 ≤ S ∧ imports ≤ S ∧ patErr bytes imports E ⟨K, A, S, D⟩ = 3) ∨ (-1 ≤ S ∧ S < imports ∧ D < 0 ∧ patErr bytes imports E ⟨K, A, S, D⟩ = 3) ∨ (-1 ≤ S ∧ S < imports ∧ 0 ≤ D ∧ 65535 < D ∧ patErr bytes imports E ⟨K, A, S, D⟩ = 3) ∨
      (-1 ≤ S ∧ S < imports ∧ 0 ≤ D ∧ D ≤ 65535 ∧ ((A < 0 ∧ patErr bytes imports E ⟨K, A, S, D⟩ = 3) ∨ (0 ≤ A ∧ bytes - width K < A ∧ patErr bytes imports E ⟨K, A, S, D⟩ = 3) ∨ (0 ≤ A ∧ A ≤ bytes - width K ∧ A < E ∧ patErr bytes imports E ⟨K, A, S, D⟩ = 4) ∨
        (0 ≤ A ∧ A ≤ bytes - width K ∧ E ≤ A ∧ patErr bytes imports E ⟨K, A, S, D⟩ = 0))))) := by
  unfold patErr
  dsimp only
  by_cases h0 : width K = 0
  · exact .inl ⟨h0, by rw [if_pos h0]⟩
  refine .inr ⟨h0, ?_⟩
  rw [if_neg h0]
  by_cases h1 : S < -1
  · exact .inl ⟨h1, by rw [betw_false (n := S) (.inl h1)]; rfl⟩
  by_cases h2 : imports ≤ S
  · exact .inr (.inl ⟨by omega, h2, by rw [betw_false (n := S) (.inr (by omega))]; rfl⟩)
  have hS : betw S (-1) (imports - 1) = true := betw_true (by omega) (by omega)
  by_cases h3 : D < 0
  · exact .inr (.inr (.inl ⟨by omega, by omega, h3, by rw [hS, betw_false (n := D) (.inl h3)]; rfl⟩))
  by_cases h4 : 65535 < D
  · exact .inr (.inr (.inr (.inl ⟨by omega, by omega, by omega, h4, by rw [hS, betw_false (n := D) (.inr h4)]; rfl⟩)))
  have hD : betw D 0 65535 = true := betw_true (by omega) (by omega)
  refine .inr (.inr (.inr (.inr ⟨by omega, by omega, by omega, by omega, ?_⟩)))
  rw [hS, hD]
  by_cases h5 : A < 0
  · exact .inl ⟨h5, by rw [betw_false (n := A) (.inl h5)]; rfl⟩
  by_cases h6 : bytes - width K < A
  · exact .inr (.inl ⟨by omega, h6, by rw [betw_false (n := A) (.inr h6)]; rfl⟩)
  have hA : betw A 0 (bytes - width K) = true := betw_true (by omega) (by omega)
  rw [hA]
  by_cases h7 : A < E
  · exact .inr (.inr (.inl ⟨by omega, by omega, h7, by rw [if_pos h7]; rfl⟩))
  · exact .inr (.inr (.inr ⟨by omega, by omega, by omega, by rw [if_neg h7]; rfl⟩))

theorem width_bd (k : Int) : 0 ≤ width k ∧ width k ≤ 4 := by
  rcases width_cases k with ⟨_, h⟩ | ⟨_, h⟩ | ⟨_, h⟩ | ⟨_, h⟩ | ⟨_, h⟩ | ⟨_, _, _, _, _, h⟩ <;> omega

end Go.Proofs.Ythmohjgdcjafkag
