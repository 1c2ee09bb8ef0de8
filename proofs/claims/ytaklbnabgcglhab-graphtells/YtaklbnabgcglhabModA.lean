/- Modules in memory. -/
import Derived.Test.YtaklbnabgcglhabNameR
namespace Go.Proofs.Ytaklbnabgcglhab
open Go.RowKit Go.PlainAid

/-- A slice of things of so many cells each: below block n₀. -/
def RowOf {α : Type} (sz : Nat) (cells : α → Nat → Value) (n₀ : Nat) (W : World) (v : Value) (l : List α) : Prop :=
  ∃ a cap, v = .slice a l.length cap ∧ l.length ≤ 9223372036854775807 ∧ (l = [] ∨ ∃ b off, a = some ⟨b, off, none⟩ ∧ b < n₀ ∧ ∀ j x, l[j]? = some x → ∀ i, i < sz → W.cell? ⟨b, off + j * sz + i, none⟩ = some (cells x i))

theorem RowOf.below {α : Type} {sz : Nat} {cells : α → Nat → Value} {n₀ : Nat} {W W' : World} {v : Value} {l : List α} (h : RowOf sz cells n₀ W v l) (hb : Below n₀ W W') : RowOf sz cells n₀ W' v l := by
  obtain ⟨a, cap, e, hl, h | ⟨b, off, e2, hlt, hc⟩⟩ := h
  · exact ⟨a, cap, e, hl, .inl h⟩
  · exact ⟨a, cap, e, hl, .inr ⟨b, off, e2, hlt, fun j x hj i hi => (hb.cell (p := ⟨b, off + j * sz + i, none⟩) hlt).trans (hc j x hj i hi)⟩⟩

theorem RowOf.more {α : Type} {sz : Nat} {cells : α → Nat → Value} {n₀ n₁ : Nat} {W : World} {v : Value} {l : List α} (h : RowOf sz cells n₀ W v l) (hn : n₀ ≤ n₁) : RowOf sz cells n₁ W v l := by
  obtain ⟨a, cap, e, hl, h | ⟨b, off, e2, hlt, hc⟩⟩ := h
  · exact ⟨a, cap, e, hl, .inl h⟩
  · exact ⟨a, cap, e, hl, .inr ⟨b, off, e2, by omega, hc⟩⟩

def Exp.cell (e : Exp) : Nat → Value
  | 0 => .string e.name
  | _ => .int .i64 e.pos
def Imp.cell (i : Imp) : Nat → Value
  | 0 => .string i.mod
  | 1 => .string i.name
  | 2 => .int .i64 i.major
  | _ => .int .i64 i.minor
def Pat.cell (p : Pat) : Nat → Value
  | 0 => .int .i64 p.kind
  | 1 => .int .i64 p.pos
  | 2 => .int .i64 p.sym
  | _ => .int .i64 p.add

theorem drop_at {α : Type} {l : List α} {k : Nat} {x : α} (h : l[k]? = some x) : l.drop k = x :: l.drop (k + 1) := by
  obtain ⟨hk, rfl⟩ := List.getElem?_eq_some_iff.1 h
  exact List.drop_eq_getElem_cons hk

theorem patErr_cases (bytes imports E K A S D : Int) : (width K = 0 ∧ patErr bytes imports E ⟨K, A, S, D⟩ = 7) ∨
    (width K ≠ 0 ∧ ((S < -1 ∧ patErr bytes imports E ⟨K, A, S, D⟩ = 3) ∨ (-1 ≤ S ∧ imports ≤ S ∧ patErr bytes imports E ⟨K, A, S, D⟩ = 3) ∨ (-1 ≤ S ∧ S < imports ∧ D < 0 ∧ patErr bytes imports E ⟨K, A, S, D⟩ = 3) ∨ (-1 ≤ S ∧ S < imports ∧ 0 ≤ D ∧ 65535 < D ∧ patErr bytes imports E ⟨K, A, S, D⟩ = 3) ∨
      (-1 ≤ S ∧ S < imports ∧ 0 ≤ D ∧ D ≤ 65535 ∧ ((A < 0 ∧ patErr bytes imports E ⟨K, A, S, D⟩ = 3) ∨ (0 ≤ A ∧ bytes - width K < A ∧ patErr bytes imports E ⟨K, A, S, D⟩ = 3) ∨ (0 ≤ A ∧ A ≤ bytes - width K ∧ A < E ∧ patErr bytes imports E ⟨K, A, S, D⟩ = 4) ∨
        (0 ≤ A ∧ A ≤ bytes - width K ∧ E ≤ A ∧ patErr bytes imports E ⟨K, A, S, D⟩ = 0))))) := by
  unfold patErr
  dsimp only
  by_cases h0 : width K = 0
  · exact .inl ⟨h0, by rw [if_pos h0]⟩
  refine .inr ⟨h0, ?_⟩
  rw [if_neg h0]
  by_cases h1 : S < -1
  · exact .inl ⟨h1, by rw [betw_false (n := S) (.inl h1)]; rfl⟩
  by_cases h2 : imports ≤ S
  · exact .inr (.inl ⟨by omega, h2, by rw [betw_false (n := S) (.inr (by omega))]; rfl⟩)
  have hS : betw S (-1) (imports - 1) = true := betw_true (by omega) (by omega)
  by_cases h3 : D < 0
  · exact .inr (.inr (.inl ⟨by omega, by omega, h3, by rw [hS, betw_false (n := D) (.inl h3)]; rfl⟩))
  by_cases h4 : 65535 < D
  · exact .inr (.inr (.inr (.inl ⟨by omega, by omega, by omega, h4, by rw [hS, betw_false (n := D) (.inr h4)]; rfl⟩)))
  have hD : betw D 0 65535 = true := betw_true (by omega) (by omega)
  refine .inr (.inr (.inr (.inr ⟨by omega, by omega, by omega, by omega, ?_⟩)))
  rw [hS, hD]
  by_cases h5 : A < 0
  · exact .inl ⟨h5, by rw [betw_false (n := A) (.inl h5)]; rfl⟩
  by_cases h6 : bytes - width K < A
  · exact .inr (.inl ⟨by omega, h6, by rw [betw_false (n := A) (.inr h6)]; rfl⟩)
  have hA : betw A 0 (bytes - width K) = true := betw_true (by omega) (by omega)
  rw [hA]
  by_cases h7 : A < E
  · exact .inr (.inr (.inl ⟨by omega, by omega, h7, by rw [if_pos h7]; rfl⟩))
  · exact .inr (.inr (.inr ⟨by omega, by omega, by omega, by rw [if_neg h7]; rfl⟩))

theorem width_bd (k : Int) : 0 ≤ width k ∧ width k ≤ 4 := by
  rcases width_cases k with ⟨_, h⟩ | ⟨_, h⟩ | ⟨_, h⟩ | ⟨_, h⟩ | ⟨_, h⟩ | ⟨_, _, _, _, _, h⟩ <;> omega

set_option maxHeartbeats 2000000 in
theorem wrongPatches_any (l : List Pat) (v : Value) (bytes imports : Int) (w : World) (hrow : RowOf 4 Pat.cell w.heap.size w v l) (hb0 : 0 ≤ bytes) (hb1 : bytes ≤ 140737488351232) (hl : l.length ≤ 12) :
    Calls Try.prog 80 #[v, .int .i64 bytes, .int .i64 imports] w fun e w' => e = .returned (.int .i64 (chkPats bytes imports 0 l)) ∧ Below w.heap.size w w' := by
  obtain ⟨a, cap, rfl, _, hrow⟩ := hrow
  go_enter Try.func80, Try.ntmps80
  go_wp2
  go_loopw [7, 13] (fun en i wr => ∃ (k : Nat) (E : Int), k ≤ l.length ∧ i = .int .i64 k ∧ en = .int .i64 E ∧ 0 ≤ E ∧ E ≤ 140737488351232 ∧ Hid (chkPats bytes imports 0 l = chkPats bytes imports E (l.drop k)) ∧ Below w.heap.size w wr) (fun _ i _ => l.length - (intOf i).toNat)
  case atStart => exact ⟨0, 0, Nat.zero_le _, rfl, rfl, by omega, by omega, by show chkPats bytes imports 0 l = chkPats bytes imports 0 (l.drop 0); rfl, Below.refl _ _⟩
  case round =>
    obtain ⟨k, E, hk, rfl, rfl, e0, e1, HC, B⟩ := hrel
    by_cases hlt : k < l.length
    · obtain ⟨p, hp⟩ : ∃ p, l[k]? = some p := ⟨_, List.getElem?_eq_getElem hlt⟩
      rcases hrow with h | ⟨b, off, rfl, hbn, hcells⟩
      · subst h; simp at hlt
      obtain ⟨K, A, S, D⟩ := p
      have c0 := (B.cell (p := ⟨b, off + k * 4 + 0, none⟩) hbn).trans (hcells k _ hp 0 (by omega))
      have c1 := (B.cell (p := ⟨b, off + k * 4 + 1, none⟩) hbn).trans (hcells k _ hp 1 (by omega))
      have c2 := (B.cell (p := ⟨b, off + k * 4 + 2, none⟩) hbn).trans (hcells k _ hp 2 (by omega))
      have c3 := (B.cell (p := ⟨b, off + k * 4 + 3, none⟩) hbn).trans (hcells k _ hp 3 (by omega))
      dsimp only [Pat.cell] at c0 c1 c2 c3
      rw [Nat.add_zero] at c0
      have HR : Hid (chkPats bytes imports 0 l = if patErr bytes imports E ⟨K, A, S, D⟩ = 0 then chkPats bytes imports (A + width K) (l.drop (k + 1)) else patErr bytes imports E ⟨K, A, S, D⟩) := by
        show chkPats bytes imports 0 l = _
        rw [HC.out, drop_at hp]; rfl
      have key := patErr_cases bytes imports E K A S D
      have hwd := width_bd K
      have PW : Hid (∀ w, Calls Try.prog 38 #[.int .i64 K] w fun e w' => e = .returned (.int .i64 (width K)) ∧ w' = w) := fun w => patched_any K w
      clear HC hcells hp
      generalize patErr bytes imports E ⟨K, A, S, D⟩ = R at key HR
      generalize width K = Wd at *
      rcases key with ⟨h0, rfl⟩ | ⟨h0, ⟨h1, rfl⟩ | ⟨h1, h2, rfl⟩ | ⟨h1, h2, h3, rfl⟩ | ⟨h1, h2, h3, h4, rfl⟩ | ⟨h1, h2, h3, h4, ⟨h5, rfl⟩ | ⟨h5, h6, rfl⟩ | ⟨h5, h6, h7, rfl⟩ | ⟨h5, h6, h7, rfl⟩⟩⟩
      case inl =>
        subst h0
        go_wp2_with (go_at_call 38; refine (PW.out _).mono ?_; rintro e w' ⟨rfl, rfl⟩)
        go_ret
        exact ⟨by rw [HR.out]; rfl, B.alloc B.size _⟩
      all_goals
        have h0' : (Wd == 0) = false := beq_eq_false_iff_ne.2 h0
        obtain ⟨hw0, hw4⟩ := hwd
      all_goals
        go_wp2_with (go_at_call 38; refine (PW.out _).mono ?_; rintro e w' ⟨rfl, rfl⟩)
      case roundEnd =>
        exact ⟨⟨k + 1, A + Wd, by omega, by go_num, rfl, by omega, by omega, HR.out, B.alloc B.size _⟩, by simp [intOf]; omega⟩
      all_goals
        go_ret
        exact ⟨by rw [HR.out]; rfl, B.alloc B.size _⟩
    · obtain rfl : k = l.length := by omega
      have HZ : Hid (chkPats bytes imports 0 l = 0) := by
        show chkPats bytes imports 0 l = 0
        rw [HC.out, List.drop_length]; rfl
      go_wp2
      go_ret
      exact ⟨by rw [HZ.out]; rfl, B⟩

end Go.Proofs.Ytaklbnabgcglhab
