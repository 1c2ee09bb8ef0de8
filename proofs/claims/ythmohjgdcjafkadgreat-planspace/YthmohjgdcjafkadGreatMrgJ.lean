/- Texts that are laid together. -/
import Derived.PlainAid
import Derived.MapKept
import Derived.Test.YthmohjgdcjafkadGreatMrgA
import Derived.Test.YthmohjgdcjafkadGreatMrgH
import Derived.Test.YthmohjgdcjafkadGreatMrgB

/- Where the first one is of which something holds. -/
namespace Go.Proofs.YthmohjgdcjafkadGreat
open Go.RowKit Go.PlainAid

def ixFrom {α : Type} (p : α → Bool) (k : Nat) : List α → Int
  | [] => -1
  | x :: l => if p x then (k : Int) else ixFrom p (k + 1) l

theorem ix_find {α : Type} (p : α → Bool) : ∀ (l : List α) (k : Nat), (l.find? p = none ∧ ixFrom p k l = -1) ∨ ∃ j x, l.find? p = some x ∧ l[j]? = some x ∧ ixFrom p k l = ((k + j : Nat) : Int)
  | [], _ => .inl ⟨rfl, rfl⟩
  | y :: l, k => by
    unfold ixFrom
    cases hy : p y
    · rcases ix_find p l (k + 1) with ⟨h1, h2⟩ | ⟨j, x, h1, h2, h3⟩
      · exact .inl ⟨by rw [List.find?_cons, hy]; exact h1, by simpa using h2⟩
      · refine .inr ⟨j + 1, x, by rw [List.find?_cons, hy]; exact h1, by simpa using h2, ?_⟩
        rw [if_neg (by decide), h3]
        congr 1; omega
    · exact .inr ⟨0, y, by rw [List.find?_cons, hy], rfl, by simp⟩

end Go.Proofs.YthmohjgdcjafkadGreat

/- One is come to from another one, in one step or more; a table of that. -/
namespace Go.Proofs.YthmohjgdcjafkadGreat
open Go.RowKit Go.PlainAid

/-- One is come to from another one, in one step or more: it is in all that holds the first steps and is closed under steps. -/
def Via (E : Nat → Nat → Prop) (i k : Nat) : Prop := ∀ S : Nat → Prop, (∀ q, E i q → S q) → (∀ j q, S j → E j q → S q) → S k
theorem Via.one {E : Nat → Nat → Prop} {i k : Nat} (e : E i k) : Via E i k := fun _ h0 _ => h0 _ e
theorem Via.more {E : Nat → Nat → Prop} {i j k : Nat} (h : Via E i j) (e : E j k) : Via E i k := fun S h0 h1 => h1 _ _ (h S h0 h1) e
theorem Via.walk {E : Nat → Nat → Prop} {i : Nat} {M : Nat → Prop} (one : ∀ k, E i k → M k) (more : ∀ j k, Via E i j → M j → E j k → M k) {k : Nat} (h : Via E i k) : M k :=
  (h (fun q => Via E i q ∧ M q) (fun q e => ⟨.one e, one q e⟩) (fun j q hj e => ⟨hj.1.more e, more j q hj.1 hj.2 e⟩)).2
theorem Via.trans {E : Nat → Nat → Prop} {i j k : Nat} (h : Via E i j) (g : Via E j k) : Via E i k :=
  g.walk (M := fun k => Via E i k) (fun _ e => h.more e) (fun _ _ _ ih e => ih.more e)
theorem Via.turn {E : Nat → Nat → Prop} {i k : Nat} (h : Via E i k) : Via (fun a b => E b a) k i :=
  h.walk (M := fun k => Via (fun a b => E b a) k i) (fun _ e => .one e) (fun _ _ _ ih e => Via.trans (.one e) ih)
/-- What is closed under single steps is closed under many. -/
theorem Via.closed {E : Nat → Nat → Prop} {S : Nat → Prop} {i : Nat} (h0 : ∀ k, E i k → S k) (hS : ∀ j k, S j → E j k → S k) {k : Nat} (h : Via E i k) : S k := h S h0 hS

/-- One is come to from another one, by way of those below a number alone. -/
def ViaB (E : Nat → Nat → Prop) (m i k : Nat) : Prop := ∀ S : Nat → Prop, (∀ q, E i q → S q) → (∀ j q, S j → j < m → E j q → S q) → S k
theorem ViaB.one {E : Nat → Nat → Prop} {m i k : Nat} (e : E i k) : ViaB E m i k := fun _ h0 _ => h0 _ e
theorem ViaB.more {E : Nat → Nat → Prop} {m i j k : Nat} (h : ViaB E m i j) (hj : j < m) (e : E j k) : ViaB E m i k := fun S h0 h1 => h1 _ _ (h S h0 h1) hj e
theorem ViaB.none {E : Nat → Nat → Prop} {i k : Nat} (h : ViaB E 0 i k) : E i k := h (fun q => E i q) (fun _ e => e) (fun _ _ _ hj _ => absurd hj (by omega))
/-- By way of one number more: without it, or to it and from it on. -/
theorem ViaB.part {E : Nat → Nat → Prop} {m i k : Nat} (h : ViaB E (m + 1) i k) : ViaB E m i k ∨ (ViaB E m i m ∧ ViaB E m m k) := by
  refine h (fun q => ViaB E m i q ∨ (ViaB E m i m ∧ ViaB E m m q)) (fun q e => .inl (.one e)) (fun j q ih hj e => ?_)
  by_cases hjm : j = m
  · subst hjm
    rcases ih with ih | ⟨ih, _⟩
    · exact .inr ⟨ih, .one e⟩
    · exact .inr ⟨ih, .one e⟩
  · rcases ih with ih | ⟨ih1, ih2⟩
    · exact .inl (ih.more (by omega) e)
    · exact .inr ⟨ih1, ih2.more (by omega) e⟩
theorem Via.bound {E : Nat → Nat → Prop} {n i k : Nat} (hE : ∀ i k, E i k → i < n) (h : Via E i k) : ViaB E n i k :=
  h.walk (M := fun k => ViaB E n i k) (fun _ e => .one e) (fun _ _ _ ih e => ih.more (hE _ _ e) e)

/-- A table that is filled up number by number, row by row, place by place. -/
structure Fill (E : Nat → Nat → Prop) (n m i k : Nat) (T : Nat → Nat → Bool) : Prop where
  snd : ∀ a b, a < n → b < n → T a b = true → Via E a b
  low : ∀ a b, a < n → b < n → ViaB E m a b → T a b = true
  row : ∀ a b, a < n → b < n → a < i → ViaB E (m + 1) a b → T a b = true
  cel : ∀ b, i < n → b < n → b < k → ViaB E (m + 1) i b → T i b = true
def setT (T : Nat → Nat → Bool) (i k : Nat) (v : Bool) : Nat → Nat → Bool := fun a b => if a = i ∧ b = k then v else T a b
theorem setT_at (T : Nat → Nat → Bool) (i k : Nat) (v : Bool) : setT T i k v i k = v := by unfold setT; rw [if_pos ⟨rfl, rfl⟩]
theorem setT_ne {T : Nat → Nat → Bool} {i k a b : Nat} {v : Bool} (h : ¬ (a = i ∧ b = k)) : setT T i k v a b = T a b := by unfold setT; rw [if_neg h]
theorem setT_grow {T : Nat → Nat → Bool} {i k a b : Nat} {v : Bool} (hv : T i k = true → v = true) (h : T a b = true) : setT T i k v a b = true := by
  by_cases e : a = i ∧ b = k
  · obtain ⟨rfl, rfl⟩ := e
    rw [setT_at]; exact hv h
  · rw [setT_ne e]; exact h
theorem Fill.step {E : Nat → Nat → Prop} {n m i k : Nat} {T : Nat → Nat → Bool} (h : Fill E n m i k T) (hm : m < n) (hi : i < n) (hk : k < n) : Fill E n m i (k + 1) (setT T i k (T i k || (T i m && T m k))) := by
  have hv : T i k = true → (T i k || (T i m && T m k)) = true := fun h => by rw [h]; rfl
  refine ⟨fun a b ha hb hT => ?_, fun a b ha hb hV => setT_grow hv (h.low a b ha hb hV), fun a b ha hb hai hV => setT_grow hv (h.row a b ha hb hai hV), fun b hi' hb hbk hV => ?_⟩
  · by_cases e : a = i ∧ b = k
    · obtain ⟨rfl, rfl⟩ := e
      rw [setT_at, Bool.or_eq_true, Bool.and_eq_true] at hT
      rcases hT with hT | ⟨h1, h2⟩
      · exact h.snd _ _ ha hb hT
      · exact (h.snd _ _ ha hm h1).trans (h.snd _ _ hm hb h2)
    · rw [setT_ne e] at hT
      exact h.snd a b ha hb hT
  · by_cases e : b = k
    · subst e
      rw [setT_at, Bool.or_eq_true, Bool.and_eq_true]
      rcases hV.part with h1 | ⟨h1, h2⟩
      · exact .inl (h.low _ _ hi hb h1)
      · exact .inr ⟨h.low _ _ hi hm h1, h.low _ _ hm hb h2⟩
    · exact setT_grow hv (h.cel b hi' hb (by omega) hV)
theorem Fill.nextRow {E : Nat → Nat → Prop} {n m i : Nat} {T : Nat → Nat → Bool} (h : Fill E n m i n T) : Fill E n m (i + 1) 0 T :=
  ⟨h.snd, h.low, fun a b ha hb hai hV => by
    by_cases e : a = i
    · subst e; exact h.cel b ha hb hb hV
    · exact h.row a b ha hb (by omega) hV, fun b _ _ hb _ => by omega⟩
theorem Fill.nextNum {E : Nat → Nat → Prop} {n m : Nat} {T : Nat → Nat → Bool} (h : Fill E n m n 0 T) : Fill E n (m + 1) 0 0 T :=
  ⟨h.snd, fun a b ha hb hV => h.row a b ha hb ha hV, fun a b _ _ ha _ => by omega, fun b _ _ hb _ => by omega⟩
theorem Fill.start {E : Nat → Nat → Prop} {n : Nat} {T : Nat → Nat → Bool} (h : ∀ a b, a < n → b < n → (T a b = true ↔ E a b)) : Fill E n 0 0 0 T :=
  ⟨fun a b ha hb hT => .one ((h a b ha hb).1 hT), fun a b ha hb hV => (h a b ha hb).2 hV.none, fun a b _ _ ha _ => by omega, fun b _ _ hb _ => by omega⟩
theorem Fill.all {E : Nat → Nat → Prop} {n : Nat} {T : Nat → Nat → Bool} (h : Fill E n n 0 0 T) (hE : ∀ i k, E i k → i < n) {a b : Nat} (ha : a < n) (hb : b < n) : T a b = true ↔ Via E a b :=
  ⟨h.snd a b ha hb, fun hV => h.low a b ha hb (hV.bound hE)⟩

end Go.Proofs.YthmohjgdcjafkadGreat

/- Names that rise; modules in an order in which each stands behind all that it asks. -/
namespace Go.Proofs.YthmohjgdcjafkadGreat
open Go.RowKit Go.PlainAid

/-- One name stands ahead of another one. -/
def Ahead (a b : ByteArray) : Prop := a.data.toList < b.data.toList
theorem bytes_ext {a b : ByteArray} (h : a.data.toList = b.data.toList) : a = b := ByteArray.ext (Array.toList_inj.1 h)
theorem Ahead.irrefl (a : ByteArray) : ¬ Ahead a a := List.lt_irrefl _
theorem Ahead.trans {a b c : ByteArray} (h : Ahead a b) (g : Ahead b c) : Ahead a c := List.lt_trans h g
theorem Ahead.asymm {a b : ByteArray} (h : Ahead a b) (g : Ahead b a) : False := Ahead.irrefl a (h.trans g)
theorem Ahead.total (a b : ByteArray) : Ahead a b ∨ a = b ∨ Ahead b a := by
  by_cases h1 : a.data.toList < b.data.toList
  · exact .inl h1
  by_cases h2 : b.data.toList < a.data.toList
  · exact .inr (.inr h2)
  · exact .inr (.inl (bytes_ext (List.le_antisymm (List.not_lt.1 h2) (List.not_lt.1 h1))))

def Rising (ss : List ByteArray) : Prop := ss.Pairwise Ahead
theorem Ahead.ne {a b : ByteArray} (h : Ahead a b) : a ≠ b := fun e => Ahead.irrefl a (by rw [← e] at h; exact h)
theorem Rising.nodup {ss : List ByteArray} (h : Rising ss) : ss.Nodup := List.Pairwise.imp Ahead.ne h
theorem Rising.same {a b : List ByteArray} (ha : Rising a) (hb : Rising b) (h : ∀ x, x ∈ a ↔ x ∈ b) : a = b :=
  List.Perm.eq_of_pairwise (le := Ahead) (fun _ _ _ _ h1 h2 => (h1.asymm h2).elim) ha hb ((List.perm_ext_iff_of_nodup ha.nodup hb.nodup).2 h)

theorem full_mem {α : Type} {l₁ l₂ : List α} (d : l₁.Nodup) (s : ∀ x ∈ l₁, x ∈ l₂) (h : l₂.length ≤ l₁.length) : ∀ x ∈ l₂, x ∈ l₁ := by
  intro x hx
  refine Classical.byContradiction fun hn => ?_
  have h1 : (x :: l₁).length ≤ l₂.length := List.Nodup.length_le_of_subset (List.nodup_cons.2 ⟨hn, d⟩) (fun y hy => by
    rcases List.mem_cons.1 hy with rfl | hy
    · exact hx
    · exact s y hy)
  simp at h1
  omega

theorem any_mem {met : List ByteArray} {n : ByteArray} : (met.any fun y => y == n) = true ↔ n ∈ met := by
  rw [List.any_eq_true]
  constructor
  · rintro ⟨x, hx, he⟩
    rw [← (Go.MapKept.bytes_beq x n).1 he]
    exact hx
  · exact fun h => ⟨n, h, (Go.MapKept.bytes_beq n n).2 rfl⟩

/-- Has a module an import from the one of that name? -/
def asksM (m : Mod) (n : ByteArray) : Bool := m.imps.any fun i => i.mod == n
def waitsB (met : List ByteArray) (m : Mod) : Bool := !(met.any fun y => y == m.name)
def mayB (Rs : List Mod) (met : List ByteArray) (m : Mod) : Bool := waitsB met m && !(Rs.any fun o => waitsB met o && asksM m o.name)
def orderFrom (Rs : List Mod) : Nat → List ByteArray → Option (List ByteArray)
  | 0, met => some met
  | n + 1, met => match Rs.find? (mayB Rs met) with | none => none | some m => orderFrom Rs n (met ++ [m.name])

theorem waits_iff {met : List ByteArray} {m : Mod} : waitsB met m = true ↔ m.name ∉ met := by
  unfold waitsB
  rw [Bool.not_eq_true', ← Bool.not_eq_true, List.any_eq_true]
  constructor
  · exact fun h hm => h ⟨_, hm, (Go.MapKept.bytes_beq _ _).2 rfl⟩
  · rintro h ⟨x, hx, he⟩
    rw [(Go.MapKept.bytes_beq _ _).1 he] at hx
    exact h hx
theorem may_iff {Rs : List Mod} {met : List ByteArray} {m : Mod} : mayB Rs met m = true ↔ m.name ∉ met ∧ ∀ o ∈ Rs, asksM m o.name = true → o.name ∈ met := by
  unfold mayB
  rw [Bool.and_eq_true, waits_iff, Bool.not_eq_true', ← Bool.not_eq_true, List.any_eq_true]
  constructor
  · rintro ⟨h1, h2⟩
    refine ⟨h1, fun o ho ha => Classical.byContradiction fun hn => h2 ⟨o, ho, ?_⟩⟩
    rw [Bool.and_eq_true, waits_iff]
    exact ⟨hn, ha⟩
  · rintro ⟨h1, h2⟩
    refine ⟨h1, ?_⟩
    rintro ⟨o, ho, hb⟩
    rw [Bool.and_eq_true, waits_iff] at hb
    exact hb.1 (h2 o ho hb.2)

/-- Each stands behind all that it asks. -/
def Stands (Rs : List Mod) (c : List ByteArray) : Prop := ∀ (i : Nat) (x : ByteArray), c[i]? = some x → ∃ m ∈ Rs, m.name = x ∧ x ∉ c.take i ∧ ∀ o ∈ Rs, asksM m o.name = true → o.name ∈ c.take i
theorem Stands.nil {Rs : List Mod} : Stands Rs [] := fun i x hx => by simp at hx
theorem Stands.at {Rs : List Mod} {c : List ByteArray} (h : Stands Rs c) : ∀ (i : Nat) (x : ByteArray), c[i]? = some x → ∃ m ∈ Rs, m.name = x ∧ x ∉ c.take i ∧ ∀ o ∈ Rs, asksM m o.name = true → o.name ∈ c.take i := h
theorem Stands.snoc {Rs : List Mod} {met : List ByteArray} {m : Mod} (h : Stands Rs met) (hm : m ∈ Rs) (hn : m.name ∉ met) (ha : ∀ o ∈ Rs, asksM m o.name = true → o.name ∈ met) : Stands Rs (met ++ [m.name]) := by
  intro i x hx
  by_cases hi : i < met.length
  · rw [List.getElem?_append_left hi] at hx
    rw [List.take_append_of_le_length (by omega)]
    exact h i x hx
  · have hi2 : i = met.length := by
      have := (List.getElem?_eq_some_iff.1 hx).1
      simp at this
      omega
    subst hi2
    have hx2 : m.name = x := by simpa using hx
    subst hx2
    rw [List.take_left' rfl]
    exact ⟨m, hm, rfl, hn, ha⟩
theorem Stands.nodup {Rs : List Mod} {c : List ByteArray} (h : Stands Rs c) : c.Nodup := by
  refine List.pairwise_iff_getElem.2 fun i j hi hj hij e => ?_
  obtain ⟨_, _, _, hn, _⟩ := h j c[j] (List.getElem?_eq_getElem hj)
  refine hn ?_
  rw [← e]
  exact List.mem_take_iff_getElem.2 ⟨i, by omega, rfl⟩
theorem Stands.names {Rs : List Mod} {c : List ByteArray} (h : Stands Rs c) : ∀ x ∈ c, ∃ m ∈ Rs, m.name = x := by
  intro x hx
  obtain ⟨i, hi⟩ := List.getElem?_of_mem hx
  obtain ⟨m, hm, hmx, _⟩ := h i x hi
  exact ⟨m, hm, hmx⟩
theorem order_stands {Rs : List Mod} : ∀ {n : Nat} {met c : List ByteArray}, Stands Rs met → orderFrom Rs n met = some c → Stands Rs c ∧ c.length = met.length + n ∧ c.take met.length = met
  | 0, met, c, h, he => by
    have : met = c := by simpa [orderFrom] using he
    subst this
    exact ⟨h, rfl, by simp⟩
  | n + 1, met, c, h, he => by
    unfold orderFrom at he
    split at he
    · cases he
    rename_i m hf
    have hm := List.mem_of_find?_eq_some hf
    have hp := may_iff.1 (List.find?_some hf)
    obtain ⟨h1, h2, h3⟩ := order_stands (.snoc h hm hp.1 hp.2) he
    refine ⟨h1, by simp at h2; omega, ?_⟩
    have h4 := congrArg (List.take met.length) h3
    rw [List.take_take, List.take_left' rfl] at h4
    rw [show min met.length (met ++ [m.name]).length = met.length by simp] at h4
    exact h4
/-- What is picked at each place. -/
theorem order_at {Rs : List Mod} : ∀ {n : Nat} {met c : List ByteArray}, Stands Rs met → orderFrom Rs n met = some c → ∀ j, met.length ≤ j → j < c.length → ∃ m, Rs.find? (mayB Rs (c.take j)) = some m ∧ c[j]? = some m.name
  | 0, met, c, h, he => by
    have : met = c := by simpa [orderFrom] using he
    subst this
    intro j h1 h2
    omega
  | n + 1, met, c, h, he => by
    have hall := (order_stands h he).2.2
    unfold orderFrom at he
    split at he
    · cases he
    rename_i m hf
    have hm := List.mem_of_find?_eq_some hf
    have hp := may_iff.1 (List.find?_some hf)
    have h0 : Stands Rs (met ++ [m.name]) := .snoc h hm hp.1 hp.2
    intro j h1 h2
    by_cases hj : j = met.length
    · subst hj
      refine ⟨m, by rw [hall]; exact hf, ?_⟩
      have h3 := (order_stands h0 he).2.2
      have h4 : (c.take (met ++ [m.name]).length)[met.length]? = some m.name := by rw [h3]; simp
      rw [List.getElem?_take] at h4
      rw [if_pos (by simp)] at h4
      exact h4
    · exact order_at h0 he j (by simp; omega) h2
theorem order_none {Rs : List Mod} : ∀ {n : Nat} {met : List ByteArray}, Stands Rs met → orderFrom Rs n met = none → ∃ met', Stands Rs met' ∧ met'.length < met.length + n ∧ ∀ m ∈ Rs, mayB Rs met' m = false
  | 0, met, h, he => by simp [orderFrom] at he
  | n + 1, met, h, he => by
    unfold orderFrom at he
    split at he
    · rename_i hf
      exact ⟨met, h, by omega, fun m hm => by simpa using List.find?_eq_none.1 hf m hm⟩
    · rename_i m hf
      have hm := List.mem_of_find?_eq_some hf
      have hp := may_iff.1 (List.find?_some hf)
      obtain ⟨m', h1, h2, h3⟩ := order_none (.snoc h hm hp.1 hp.2) he
      exact ⟨m', h1, by simp at h2; omega, h3⟩

theorem nodup_names {Rs : List Mod} (hd : (Rs.map (·.name)).Nodup) {a b : Mod} (ha : a ∈ Rs) (hb : b ∈ Rs) (h : a.name = b.name) : a = b := by
  obtain ⟨i, hi⟩ := List.getElem?_of_mem ha
  obtain ⟨k, hk⟩ := List.getElem?_of_mem hb
  have h1 : (Rs.map (·.name))[i]? = some a.name := by rw [List.getElem?_map, hi]; rfl
  have h2 : (Rs.map (·.name))[k]? = some a.name := by rw [List.getElem?_map, hk, h]; rfl
  have hil : i < (Rs.map (·.name)).length := (List.getElem?_eq_some_iff.1 h1).1
  have e := (List.getElem?_inj hil hd).1 (h1.trans h2.symm)
  subst e
  rw [hi] at hk
  exact Option.some.inj hk

/-- Those of which each asks one of them: one comes back to itself. -/
theorem comes_back {E : Nat → Nat → Prop} : ∀ (n : Nat) (W : List Nat), W.length ≤ n → W ≠ [] → (∀ i ∈ W, ∃ k ∈ W, E i k) → ∃ i ∈ W, Via E i i
  | 0, W, h1, h2, _ => absurd (List.length_eq_zero_iff.1 (by omega)) h2
  | n + 1, [], _, h2, _ => absurd rfl h2
  | n + 1, i :: W, h1, _, h3 => by
    by_cases hv : Via E i i
    · exact ⟨i, by simp, hv⟩
    · have hm : ∀ k, k ∈ W.filter (fun k => @decide (Via E i k) (Classical.propDecidable _)) ↔ k ∈ W ∧ Via E i k := fun k => by
        rw [List.mem_filter, @decide_eq_true_iff _ (Classical.propDecidable _)]
      obtain ⟨k, hk, he⟩ := h3 i (by simp)
      have hkW : k ∈ W := by
        rcases List.mem_cons.1 hk with rfl | hk
        · exact absurd (.one he) hv
        · exact hk
      obtain ⟨j, hj, hjv⟩ := comes_back n (W.filter (fun k => @decide (Via E i k) (Classical.propDecidable _))) (by
        have := List.length_filter_le (fun k => @decide (Via E i k) (Classical.propDecidable _)) W
        simp at h1
        omega) (List.ne_nil_of_mem ((hm k).2 ⟨hkW, .one he⟩)) (fun a ha => by
        obtain ⟨haW, hav⟩ := (hm a).1 ha
        obtain ⟨b, hb, hab⟩ := h3 a (by simp [haW])
        have hib := hav.more hab
        rcases List.mem_cons.1 hb with rfl | hb
        · exact absurd hib hv
        · exact ⟨b, (hm b).2 ⟨hb, hib⟩, hab⟩)
      exact ⟨j, by simp [((hm j).1 hj).1], hjv⟩

theorem find_least {Rs : List Mod} (hr : Rising (Rs.map (·.name))) {p : Mod → Bool} {m : Mod} (h : Rs.find? p = some m) : ∀ o ∈ Rs, p o = true → o = m ∨ Ahead m.name o.name := by
  obtain ⟨hp, i, hi, he, hlt⟩ := List.find?_eq_some_iff_getElem.1 h
  intro o ho hpo
  obtain ⟨k, hk, hko⟩ := List.getElem_of_mem ho
  by_cases hik : i < k
  · refine .inr ?_
    have h1 := List.pairwise_iff_getElem.1 hr i k (by simpa using hi) (by simpa using hk) hik
    rw [List.getElem_map, List.getElem_map, he, hko] at h1
    exact h1
  · by_cases hki : k = i
    · subst hki
      exact .inl (hko.symm.trans he)
    · have := hlt k (by omega)
      rw [hko, hpo] at this
      cases this

end Go.Proofs.YthmohjgdcjafkadGreat

/- Who needs whom, as data. -/
namespace Go.Proofs.YthmohjgdcjafkadGreat
open Go.RowKit Go.PlainAid

/-- Have two one name? -/
def twiceFrom : List ByteArray → List Plc → Bool
  | _, [] => false
  | met, p :: l => (met.any fun y => y == p.mod.name) || twiceFrom (met ++ [p.mod.name]) l
def plainErr (L : List Plc) : Int := if 8 < L.length then 2 else chkBy (fun _ => 0) L
def chkGraph (L : List Plc) : Int := if plainErr L ≠ 0 then plainErr L else if twiceFrom [] L = true then 6 else 0
theorem twice_nodup : ∀ (L : List Plc) (met : List ByteArray), met.Nodup → (twiceFrom met L = false ↔ (met ++ L.map (·.mod.name)).Nodup)
  | [], met, h => by simp [twiceFrom, h]
  | p :: l, met, h => by
    have hs : twiceFrom met (p :: l) = ((met.any fun y => y == p.mod.name) || twiceFrom (met ++ [p.mod.name]) l) := rfl
    rw [hs]
    by_cases hm : p.mod.name ∈ met
    · rw [any_mem.2 hm, Bool.true_or]
      constructor
      · intro h; cases h
      · intro hn
        rw [List.nodup_append] at hn
        exact absurd rfl (hn.2.2 _ hm _ (by simp))
    · have h0 : (met.any fun y => y == p.mod.name) = false := by
        cases he : met.any fun y => y == p.mod.name
        · rfl
        · exact absurd (any_mem.1 he) hm
      rw [h0, Bool.false_or, twice_nodup l (met ++ [p.mod.name]) (by
        rw [List.nodup_append]
        exact ⟨h, by simp, fun a ha b hb => by rw [List.mem_singleton.1 hb]; exact fun e => hm (e ▸ ha)⟩)]
      simp
theorem chkGraph_zero {L : List Plc} : chkGraph L = 0 ↔ L.length ≤ 8 ∧ (∀ p ∈ L, chkMod p.mod = 0) ∧ (L.map (·.mod.name)).Nodup := by
  have ht := twice_nodup L [] (by simp)
  rw [List.nil_append] at ht
  unfold chkGraph
  constructor
  · intro h
    split at h
    · exact absurd h ‹_›
    rename_i h1
    have h1 : plainErr L = 0 := by omega
    unfold plainErr at h1
    split at h1
    · omega
    rename_i h8
    split at h
    · omega
    rename_i h2
    exact ⟨by omega, fun p hp => (chkBy_zero.1 h1 p hp).1, ht.1 (by simpa using h2)⟩
  · rintro ⟨h1, h2, h3⟩
    have h4 : plainErr L = 0 := by
      unfold plainErr
      rw [if_neg (by omega)]
      exact chkBy_zero.2 fun p hp => ⟨h2 p hp, rfl⟩
    rw [h4, ht.2 h3]
    simp

end Go.Proofs.YthmohjgdcjafkadGreat

/- The contract of graph.wrong. -/
namespace Go.Proofs.YthmohjgdcjafkadGreat
open Go.RowKit Go.PlainAid Go.Maps Go.WideMaps

set_option maxRecDepth 100000

theorem chkGraph_cases (L : List Plc) : (plainErr L ≠ 0 ∧ chkGraph L = plainErr L) ∨ (plainErr L = 0 ∧ L.length ≤ 8 ∧ chkGraph L = if twiceFrom [] L = true then 6 else 0) := by
  unfold chkGraph
  by_cases h : plainErr L = 0
  · refine .inr ⟨h, ?_, by rw [if_neg (by omega)]⟩
    unfold plainErr at h
    split at h
    · omega
    · omega
  · exact .inl ⟨h, by rw [if_pos h]⟩

set_option maxHeartbeats 4000000 in
theorem graphWrong_any (l : List PV) (v : Value) (w : World) (hrow : IsPlcs w.heap.size w v l) (hfit : ∀ x ∈ l, x.mod.fits) :
    Calls Tryz.prog 59 #[v] w fun e w' => e = .returned (.int .i64 (chkGraph (l.map PV.plc))) ∧ Below w.heap.size w w' := by
  have HP : Hid (∀ W, Below w.heap.size w W → Calls Tryz.prog 99 #[v, .slice none 0 0] W fun e w' => e = .returned (.int .i64 (plainErr (l.map PV.plc))) ∧ Below W.heap.size W w') := by
    intro W hb
    have := placedWrong_nil l v W ((hrow.below hb).more hb.size) hfit
    unfold plainErr
    rw [List.length_map]
    exact this
  have hat := hrow.2
  obtain ⟨⟨a, cap, rfl, hmax, hrow⟩, _⟩ := hrow
  have key := chkGraph_cases (l.map PV.plc)
  rw [List.length_map] at key
  generalize chkGraph (l.map PV.plc) = R at *
  generalize plainErr (l.map PV.plc) = cp at *
  have hmm := @run_makeMap Tryz.prog
  go_enter Tryz.func59, Tryz.ntmps59
  go_wp2_with fail
  refine (HP.out w (Below.refl _ _)).mono ?_
  rintro e w2 ⟨rfl, B2⟩
  clear HP
  rcases key with ⟨h0, rfl⟩ | ⟨rfl, h8, hR⟩
  · have h0' : (R != 0) = true := by simpa using h0
    clear hrow hat h0
    go_wp2
    go_ret
    exact ⟨rfl, B2⟩
  · have HRR : Hid (R = if twiceFrom [] (l.map PV.plc) = true then 6 else 0) := hR
    clear hR
    go_wp2
    go_loopw [17] (fun i wr => ∃ (k : Nat) (D : DataW Unit), k ≤ l.length ∧ i = .int .i64 k ∧ wr.ownsMap Tryz.prog 9 (plainElem Tryz.prog 3) w2.heap.size k D ∧ HasNames D ((l.take k).map (·.mod.name)) ∧ Hid (twiceFrom [] (l.map PV.plc) = twiceFrom ((l.take k).map (·.mod.name)) ((l.drop k).map PV.plc)) ∧ Below w2.heap.size w2 wr) (fun i _ => l.length - (intOf i).toNat)
    case atStart => exact ⟨0, .map [], Nat.zero_le _, rfl, World.ownsMap_made _ _ _ _, HasNames.none, by show twiceFrom [] (l.map PV.plc) = twiceFrom [] ((l.drop 0).map PV.plc); rfl, (Below.refl _ _).alloc (Nat.le_refl _) _⟩
    case round =>
      obtain ⟨k, D, hk, rfl, hown, hD, HC, B⟩ := hrel
      have B' : Below w.heap.size w wr := B2.trans (B.mono B2.size)
      by_cases hlt : k < l.length
      · obtain ⟨x, hx⟩ : ∃ x, l[k]? = some x := ⟨_, List.getElem?_eq_getElem hlt⟩
        rcases hrow with h | ⟨b, off, rfl, hbn, hcells⟩
        · subst h; simp at hlt
        have hn : x.mod.name.size ≤ 9223372036854775807 := (hfit x (List.mem_of_getElem? hx)).1
        have htk : (l.take (k + 1)).map (·.mod.name) = (l.take k).map (·.mod.name) ++ [x.mod.name] := by rw [List.take_add_one, hx]; simp
        have HR : Hid (twiceFrom [] (l.map PV.plc) = ((((l.take k).map (·.mod.name)).any fun y => y == x.mod.name) || twiceFrom ((l.take (k + 1)).map (·.mod.name)) ((l.drop (k + 1)).map PV.plc))) := by
          show twiceFrom [] (l.map PV.plc) = _
          rw [HC.out, drop_at hx, htk]; rfl
        have hhas := hD x.mod.name
        have HPUT : Hid (∀ d, HasNames (D.put (.string x.mod.name.data.toList) d) ((l.take (k + 1)).map (·.mod.name))) := fun d => by rw [htk]; exact hD.put hown.isMap x.mod.name d
        have hkey : keyOf Tryz.prog 9 (.string x.mod.name) = some (.string x.mod.name.data.toList) := keyOf_string_mk Tryz.underlying9 hn
        obtain ⟨⟨pe, ke, e4, _⟩, ⟨pi, ki, e5, _⟩, ⟨pp, kp, e6, _⟩⟩ := hat x (List.mem_of_getElem? hx)
        obtain ⟨⟨N, ma, mi, T, es, is, ps⟩, ve, vi, vp, fi⟩ := x
        dsimp only at e4 e5 e6 hn HR hhas HPUT hkey
        subst e4 e5 e6
        have c0 := (B'.cell (p := ⟨b, off + k * 8 + 0, none⟩) hbn).trans (hcells k _ hx 0 (by omega))
        have c1 := (B'.cell (p := ⟨b, off + k * 8 + 1, none⟩) hbn).trans (hcells k _ hx 1 (by omega))
        have c2 := (B'.cell (p := ⟨b, off + k * 8 + 2, none⟩) hbn).trans (hcells k _ hx 2 (by omega))
        have c3 := (B'.cell (p := ⟨b, off + k * 8 + 3, none⟩) hbn).trans (hcells k _ hx 3 (by omega))
        have c4 := (B'.cell (p := ⟨b, off + k * 8 + 4, none⟩) hbn).trans (hcells k _ hx 4 (by omega))
        have c5 := (B'.cell (p := ⟨b, off + k * 8 + 5, none⟩) hbn).trans (hcells k _ hx 5 (by omega))
        have c6 := (B'.cell (p := ⟨b, off + k * 8 + 6, none⟩) hbn).trans (hcells k _ hx 6 (by omega))
        have c7 := (B'.cell (p := ⟨b, off + k * 8 + 7, none⟩) hbn).trans (hcells k _ hx 7 (by omega))
        dsimp only [PV.cell] at c0 c1 c2 c3 c4 c5 c6 c7
        rw [Nat.add_zero] at c0
        clear HC hcells hx hat htk hD
        generalize es.length = le at *
        generalize is.length = li at *
        generalize ps.length = lp at *
        generalize ((l.take k).map (·.mod.name)).any (fun y => y == N) = T' at HR hhas
        cases T'
        all_goals
          go_wp2_with (first
            | (at_lookup; refine wpList_lookup_own_ok_int _ rfl _ _ 132 rfl 9 3 .i64 lawS Tryz.underlying132 Tryz.underlying3 (zeroI _) w2.heap.size k D rfl (hown.kept (World.grownBy_alloc _ _ none) (by simp)) _ _ rfl hkey ?_; intro c hat hwc; clear hat hwc)
            | (at_mapUpdate; refine wpList_mapUpdate_own _ rfl _ _ _ 132 rfl 9 3 lawS Tryz.underlying132 _ w2.heap.size k _ rfl (hown.kept (World.grownBy_alloc _ _ none) (by simp)) (by unfold maxLen; omega) _ _ _ rfl rfl hkey _ [] (plainElem_int Tryz.underlying3 (WalkArith.wf_i64 (by omega))) ?_; intro w1 hown1 hgrow1))
        case roundEnd =>
          exact ⟨⟨k + 1, _, by omega, by go_num, hown1, HPUT.out _, HR.out, (B.alloc B.size _).grown hgrow1 (by simp; have := B.size; omega) (fun j hj => by cases hj; exact Nat.le_refl _)⟩, by simp [intOf]; omega⟩
        all_goals
          go_ret
          exact ⟨by rw [HRR.out, HR.out]; rfl, B'.alloc B'.size _⟩
      · obtain rfl : k = l.length := by omega
        have HZ : Hid (R = 0) := by
          show R = 0
          rw [HRR.out, HC.out, List.drop_length]; rfl
        go_wp2
        go_ret
        exact ⟨by rw [HZ.out]; rfl, B'⟩

end Go.Proofs.YthmohjgdcjafkadGreat
