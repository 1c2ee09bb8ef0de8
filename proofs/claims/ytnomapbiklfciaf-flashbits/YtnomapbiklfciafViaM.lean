/- One is come to from another one, in one step or more; a table of that. -/
import Derived.PlainAid
namespace Go.Proofs.Ytnomapbiklfciaf
open Go.RowKit Go.PlainAid

/-- One is come to from another one, in one step or more: it is in all that holds the first steps and is closed under steps. -/
def Via (E : Nat → Nat → Prop) (i k : Nat) : Prop := ∀ S : Nat → Prop, (∀ q, E i q → S q) → (∀ j q, S j → E j q → S q) → S k
theorem Via.one {E : Nat → Nat → Prop} {i k : Nat} (e : E i k) : Via E i k := fun _ h0 _ => h0 _ e
theorem Via.more {E : Nat → Nat → Prop} {i j k : Nat} (h : Via E i j) (e : E j k) : Via E i k := fun S h0 h1 => h1 _ _ (h S h0 h1) e
theorem Via.walk {E : Nat → Nat → Prop} {i : Nat} {M : Nat → Prop} (one : ∀ k, E i k → M k) (more : ∀ j k, Via E i j → M j → E j k → M k) {k : Nat} (h : Via E i k) : M k :=
  (h (fun q => Via E i q ∧ M q) (fun q e => ⟨.one e, one q e⟩) (fun j q hj e => ⟨hj.1.more e, more j q hj.1 hj.2 e⟩)).2
theorem Via.trans {E : Nat → Nat → Prop} {i j k : Nat} (h : Via E i j) (g : Via E j k) : Via E i k :=
  g.walk (M := fun k => Via E i k) (fun _ e => h.more e) (fun _ _ _ ih e => ih.more e)
theorem Via.turn {E : Nat → Nat → Prop} {i k : Nat} (h : Via E i k) : Via (fun a b => E b a) k i :=
  h.walk (M := fun k => Via (fun a b => E b a) k i) (fun _ e => .one e) (fun _ _ _ ih e => Via.trans (.one e) ih)
/-- What is closed under single steps is closed under many. -/
theorem Via.closed {E : Nat → Nat → Prop} {S : Nat → Prop} {i : Nat} (h0 : ∀ k, E i k → S k) (hS : ∀ j k, S j → E j k → S k) {k : Nat} (h : Via E i k) : S k := h S h0 hS

/-- One is come to from another one, by way of those below a number alone. -/
def ViaB (E : Nat → Nat → Prop) (m i k : Nat) : Prop := ∀ S : Nat → Prop, (∀ q, E i q → S q) → (∀ j q, S j → j < m → E j q → S q) → S k
theorem ViaB.one {E : Nat → Nat → Prop} {m i k : Nat} (e : E i k) : ViaB E m i k := fun _ h0 _ => h0 _ e
theorem ViaB.more {E : Nat → Nat → Prop} {m i j k : Nat} (h : ViaB E m i j) (hj : j < m) (e : E j k) : ViaB E m i k := fun S h0 h1 => h1 _ _ (h S h0 h1) hj e
theorem ViaB.none {E : Nat → Nat → Prop} {i k : Nat} (h : ViaB E 0 i k) : E i k := h (fun q => E i q) (fun _ e => e) (fun _ _ _ hj _ => absurd hj (by omega))
/-- By way of one number more: without it, or to it and from it on. -/
theorem ViaB.part {E : Nat → Nat → Prop} {m i k : Nat} (h : ViaB E (m + 1) i k) : ViaB E m i k ∨ (ViaB E m i m ∧ ViaB E m m k) := by
  refine h (fun q => ViaB E m i q ∨ (ViaB E m i m ∧ ViaB E m m q)) (fun q e => .inl (.one e)) (fun j q ih hj e => ?_)
  by_cases hjm : j = m
  · subst hjm
    rcases ih with ih | ⟨ih, _⟩
    · exact .inr ⟨ih, .one e⟩
    · exact .inr ⟨ih, .one e⟩
  · rcases ih with ih | ⟨ih1, ih2⟩
    · exact .inl (ih.more (by omega) e)
    · exact .inr ⟨ih1, ih2.more (by omega) e⟩
theorem Via.bound {E : Nat → Nat → Prop} {n i k : Nat} (hE : ∀ i k, E i k → i < n) (h : Via E i k) : ViaB E n i k :=
  h.walk (M := fun k => ViaB E n i k) (fun _ e => .one e) (fun _ _ _ ih e => ih.more (hE _ _ e) e)

/-- A table that is filled up number by number, row by row, place by place. -/
structure Fill (E : Nat → Nat → Prop) (n m i k : Nat) (T : Nat → Nat → Bool) : Prop where
  snd : ∀ a b, a < n → b < n → T a b = true → Via E a b
  low : ∀ a b, a < n → b < n → ViaB E m a b → T a b = true
  row : ∀ a b, a < n → b < n → a < i → ViaB E (m + 1) a b → T a b = true
  cel : ∀ b, i < n → b < n → b < k → ViaB E (m + 1) i b → T i b = true
def setT (T : Nat → Nat → Bool) (i k : Nat) (v : Bool) : Nat → Nat → Bool := fun a b => if a = i ∧ b = k then v else T a b
theorem setT_at (T : Nat → Nat → Bool) (i k : Nat) (v : Bool) : setT T i k v i k = v := by unfold setT; rw [if_pos ⟨rfl, rfl⟩]
theorem setT_ne {T : Nat → Nat → Bool} {i k a b : Nat} {v : Bool} (h : ¬ (a = i ∧ b = k)) : setT T i k v a b = T a b := by unfold setT; rw [if_neg h]
theorem setT_grow {T : Nat → Nat → Bool} {i k a b : Nat} {v : Bool} (hv : T i k = true → v = true) (h : T a b = true) : setT T i k v a b = true := by
  by_cases e : a = i ∧ b = k
  · obtain ⟨rfl, rfl⟩ := e
    rw [setT_at]; exact hv h
  · rw [setT_ne e]; exact h
theorem Fill.step {E : Nat → Nat → Prop} {n m i k : Nat} {T : Nat → Nat → Bool} (h : Fill E n m i k T) (hm : m < n) (hi : i < n) (hk : k < n) : Fill E n m i (k + 1) (setT T i k (T i k || (T i m && T m k))) := by
  have hv : T i k = true → (T i k || (T i m && T m k)) = true := fun h => by rw [h]; rfl
  refine ⟨fun a b ha hb hT => ?_, fun a b ha hb hV => setT_grow hv (h.low a b ha hb hV), fun a b ha hb hai hV => setT_grow hv (h.row a b ha hb hai hV), fun b hi' hb hbk hV => ?_⟩
  · by_cases e : a = i ∧ b = k
    · obtain ⟨rfl, rfl⟩ := e
      rw [setT_at, Bool.or_eq_true, Bool.and_eq_true] at hT
      rcases hT with hT | ⟨h1, h2⟩
      · exact h.snd _ _ ha hb hT
      · exact (h.snd _ _ ha hm h1).trans (h.snd _ _ hm hb h2)
    · rw [setT_ne e] at hT
      exact h.snd a b ha hb hT
  · by_cases e : b = k
    · subst e
      rw [setT_at, Bool.or_eq_true, Bool.and_eq_true]
      rcases hV.part with h1 | ⟨h1, h2⟩
      · exact .inl (h.low _ _ hi hb h1)
      · exact .inr ⟨h.low _ _ hi hm h1, h.low _ _ hm hb h2⟩
    · exact setT_grow hv (h.cel b hi' hb (by omega) hV)
theorem Fill.nextRow {E : Nat → Nat → Prop} {n m i : Nat} {T : Nat → Nat → Bool} (h : Fill E n m i n T) : Fill E n m (i + 1) 0 T :=
  ⟨h.snd, h.low, fun a b ha hb hai hV => by
    by_cases e : a = i
    · subst e; exact h.cel b ha hb hb hV
    · exact h.row a b ha hb (by omega) hV, fun b _ _ hb _ => by omega⟩
theorem Fill.nextNum {E : Nat → Nat → Prop} {n m : Nat} {T : Nat → Nat → Bool} (h : Fill E n m n 0 T) : Fill E n (m + 1) 0 0 T :=
  ⟨h.snd, fun a b ha hb hV => h.row a b ha hb ha hV, fun a b _ _ ha _ => by omega, fun b _ _ hb _ => by omega⟩
theorem Fill.start {E : Nat → Nat → Prop} {n : Nat} {T : Nat → Nat → Bool} (h : ∀ a b, a < n → b < n → (T a b = true ↔ E a b)) : Fill E n 0 0 0 T :=
  ⟨fun a b ha hb hT => .one ((h a b ha hb).1 hT), fun a b ha hb hV => (h a b ha hb).2 hV.none, fun a b _ _ ha _ => by omega, fun b _ _ hb _ => by omega⟩
theorem Fill.all {E : Nat → Nat → Prop} {n : Nat} {T : Nat → Nat → Bool} (h : Fill E n n 0 0 T) (hE : ∀ i k, E i k → i < n) {a b : Nat} (ha : a < n) (hb : b < n) : T a b = true ↔ Via E a b :=
  ⟨h.snd a b ha hb, fun hV => h.low a b ha hb (hV.bound hE)⟩

end Go.Proofs.Ytnomapbiklfciaf
