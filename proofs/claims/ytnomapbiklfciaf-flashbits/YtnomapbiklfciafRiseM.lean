/- Names that rise; modules in an order in which each stands behind all that it asks. -/
import Derived.MapKept
import Derived.Test.YtnomapbiklfciafModM
import Derived.Test.YtnomapbiklfciafViaM
namespace Go.Proofs.Ytnomapbiklfciaf
open Go.RowKit Go.PlainAid

/-- One name stands ahead of another one. -/
def Ahead (a b : ByteArray) : Prop := a.data.toList < b.data.toList
theorem bytes_ext {a b : ByteArray} (h : a.data.toList = b.data.toList) : a = b := ByteArray.ext (Array.toList_inj.1 h)
theorem Ahead.irrefl (a : ByteArray) : ¬ Ahead a a := List.lt_irrefl _
theorem Ahead.trans {a b c : ByteArray} (h : Ahead a b) (g : Ahead b c) : Ahead a c := List.lt_trans h g
theorem Ahead.asymm {a b : ByteArray} (h : Ahead a b) (g : Ahead b a) : False := Ahead.irrefl a (h.trans g)
theorem Ahead.total (a b : ByteArray) : Ahead a b ∨ a = b ∨ Ahead b a := by
  by_cases h1 : a.data.toList < b.data.toList
  · exact .inl h1
  by_cases h2 : b.data.toList < a.data.toList
  · exact .inr (.inr h2)
  · exact .inr (.inl (bytes_ext (List.le_antisymm (List.not_lt.1 h2) (List.not_lt.1 h1))))

def Rising (ss : List ByteArray) : Prop := ss.Pairwise Ahead
theorem Ahead.ne {a b : ByteArray} (h : Ahead a b) : a ≠ b := fun e => Ahead.irrefl a (by rw [← e] at h; exact h)
theorem Rising.nodup {ss : List ByteArray} (h : Rising ss) : ss.Nodup := List.Pairwise.imp Ahead.ne h
theorem Rising.same {a b : List ByteArray} (ha : Rising a) (hb : Rising b) (h : ∀ x, x ∈ a ↔ x ∈ b) : a = b :=
  List.Perm.eq_of_pairwise (le := Ahead) (fun _ _ _ _ h1 h2 => (h1.asymm h2).elim) ha hb ((List.perm_ext_iff_of_nodup ha.nodup hb.nodup).2 h)

theorem full_mem {α : Type} {l₁ l₂ : List α} (d : l₁.Nodup) (s : ∀ x ∈ l₁, x ∈ l₂) (h : l₂.length ≤ l₁.length) : ∀ x ∈ l₂, x ∈ l₁ := by
  intro x hx
  refine Classical.byContradiction fun hn => ?_
  have h1 : (x :: l₁).length ≤ l₂.length := List.Nodup.length_le_of_subset (List.nodup_cons.2 ⟨hn, d⟩) (fun y hy => by
    rcases List.mem_cons.1 hy with rfl | hy
    · exact hx
    · exact s y hy)
  simp at h1
  omega

theorem any_mem {met : List ByteArray} {n : ByteArray} : (met.any fun y => y == n) = true ↔ n ∈ met := by
  rw [List.any_eq_true]
  constructor
  · rintro ⟨x, hx, he⟩
    rw [← (Go.MapKept.bytes_beq x n).1 he]
    exact hx
  · exact fun h => ⟨n, h, (Go.MapKept.bytes_beq n n).2 rfl⟩

/-- Has a module an import from the one of that name? -/
def asksM (m : Mod) (n : ByteArray) : Bool := m.imps.any fun i => i.mod == n
def waitsB (met : List ByteArray) (m : Mod) : Bool := !(met.any fun y => y == m.name)
def mayB (Rs : List Mod) (met : List ByteArray) (m : Mod) : Bool := waitsB met m && !(Rs.any fun o => waitsB met o && asksM m o.name)
def orderFrom (Rs : List Mod) : Nat → List ByteArray → Option (List ByteArray)
  | 0, met => some met
  | n + 1, met => match Rs.find? (mayB Rs met) with | none => none | some m => orderFrom Rs n (met ++ [m.name])

theorem waits_iff {met : List ByteArray} {m : Mod} : waitsB met m = true ↔ m.name ∉ met := by
  unfold waitsB
  rw [Bool.not_eq_true', ← Bool.not_eq_true, List.any_eq_true]
  constructor
  · exact fun h hm => h ⟨_, hm, (Go.MapKept.bytes_beq _ _).2 rfl⟩
  · rintro h ⟨x, hx, he⟩
    rw [(Go.MapKept.bytes_beq _ _).1 he] at hx
    exact h hx
theorem may_iff {Rs : List Mod} {met : List ByteArray} {m : Mod} : mayB Rs met m = true ↔ m.name ∉ met ∧ ∀ o ∈ Rs, asksM m o.name = true → o.name ∈ met := by
  unfold mayB
  rw [Bool.and_eq_true, waits_iff, Bool.not_eq_true', ← Bool.not_eq_true, List.any_eq_true]
  constructor
  · rintro ⟨h1, h2⟩
    refine ⟨h1, fun o ho ha => Classical.byContradiction fun hn => h2 ⟨o, ho, ?_⟩⟩
    rw [Bool.and_eq_true, waits_iff]
    exact ⟨hn, ha⟩
  · rintro ⟨h1, h2⟩
    refine ⟨h1, ?_⟩
    rintro ⟨o, ho, hb⟩
    rw [Bool.and_eq_true, waits_iff] at hb
    exact hb.1 (h2 o ho hb.2)

/-- Each stands behind all that it asks. -/
def Stands (Rs : List Mod) (c : List ByteArray) : Prop := ∀ (i : Nat) (x : ByteArray), c[i]? = some x → ∃ m ∈ Rs, m.name = x ∧ x ∉ c.take i ∧ ∀ o ∈ Rs, asksM m o.name = true → o.name ∈ c.take i
theorem Stands.nil {Rs : List Mod} : Stands Rs [] := fun i x hx => by simp at hx
theorem Stands.at {Rs : List Mod} {c : List ByteArray} (h : Stands Rs c) : ∀ (i : Nat) (x : ByteArray), c[i]? = some x → ∃ m ∈ Rs, m.name = x ∧ x ∉ c.take i ∧ ∀ o ∈ Rs, asksM m o.name = true → o.name ∈ c.take i := h
theorem Stands.snoc {Rs : List Mod} {met : List ByteArray} {m : Mod} (h : Stands Rs met) (hm : m ∈ Rs) (hn : m.name ∉ met) (ha : ∀ o ∈ Rs, asksM m o.name = true → o.name ∈ met) : Stands Rs (met ++ [m.name]) := by
  intro i x hx
  by_cases hi : i < met.length
  · rw [List.getElem?_append_left hi] at hx
    rw [List.take_append_of_le_length (by omega)]
    exact h i x hx
  · have hi2 : i = met.length := by
      have := (List.getElem?_eq_some_iff.1 hx).1
      simp at this
      omega
    subst hi2
    have hx2 : m.name = x := by simpa using hx
    subst hx2
    rw [List.take_left' rfl]
    exact ⟨m, hm, rfl, hn, ha⟩
theorem Stands.nodup {Rs : List Mod} {c : List ByteArray} (h : Stands Rs c) : c.Nodup := by
  refine List.pairwise_iff_getElem.2 fun i j hi hj hij e => ?_
  obtain ⟨_, _, _, hn, _⟩ := h j c[j] (List.getElem?_eq_getElem hj)
  refine hn ?_
  rw [← e]
  exact List.mem_take_iff_getElem.2 ⟨i, by omega, rfl⟩
theorem Stands.names {Rs : List Mod} {c : List ByteArray} (h : Stands Rs c) : ∀ x ∈ c, ∃ m ∈ Rs, m.name = x := by
  intro x hx
  obtain ⟨i, hi⟩ := List.getElem?_of_mem hx
  obtain ⟨m, hm, hmx, _⟩ := h i x hi
  exact ⟨m, hm, hmx⟩
theorem order_stands {Rs : List Mod} : ∀ {n : Nat} {met c : List ByteArray}, Stands Rs met → orderFrom Rs n met = some c → Stands Rs c ∧ c.length = met.length + n ∧ c.take met.length = met
  | 0, met, c, h, he => by
    have : met = c := by simpa [orderFrom] using he
    subst this
    exact ⟨h, rfl, by simp⟩
  | n + 1, met, c, h, he => by
    unfold orderFrom at he
    split at he
    · cases he
    rename_i m hf
    have hm := List.mem_of_find?_eq_some hf
    have hp := may_iff.1 (List.find?_some hf)
    obtain ⟨h1, h2, h3⟩ := order_stands (.snoc h hm hp.1 hp.2) he
    refine ⟨h1, by simp at h2; omega, ?_⟩
    have h4 := congrArg (List.take met.length) h3
    rw [List.take_take, List.take_left' rfl] at h4
    rw [show min met.length (met ++ [m.name]).length = met.length by simp] at h4
    exact h4
/-- What is picked at each place. -/
theorem order_at {Rs : List Mod} : ∀ {n : Nat} {met c : List ByteArray}, Stands Rs met → orderFrom Rs n met = some c → ∀ j, met.length ≤ j → j < c.length → ∃ m, Rs.find? (mayB Rs (c.take j)) = some m ∧ c[j]? = some m.name
  | 0, met, c, h, he => by
    have : met = c := by simpa [orderFrom] using he
    subst this
    intro j h1 h2
    omega
  | n + 1, met, c, h, he => by
    have hall := (order_stands h he).2.2
    unfold orderFrom at he
    split at he
    · cases he
    rename_i m hf
    have hm := List.mem_of_find?_eq_some hf
    have hp := may_iff.1 (List.find?_some hf)
    have h0 : Stands Rs (met ++ [m.name]) := .snoc h hm hp.1 hp.2
    intro j h1 h2
    by_cases hj : j = met.length
    · subst hj
      refine ⟨m, by rw [hall]; exact hf, ?_⟩
      have h3 := (order_stands h0 he).2.2
      have h4 : (c.take (met ++ [m.name]).length)[met.length]? = some m.name := by rw [h3]; simp
      rw [List.getElem?_take] at h4
      rw [if_pos (by simp)] at h4
      exact h4
    · exact order_at h0 he j (by simp; omega) h2
theorem order_none {Rs : List Mod} : ∀ {n : Nat} {met : List ByteArray}, Stands Rs met → orderFrom Rs n met = none → ∃ met', Stands Rs met' ∧ met'.length < met.length + n ∧ ∀ m ∈ Rs, mayB Rs met' m = false
  | 0, met, h, he => by simp [orderFrom] at he
  | n + 1, met, h, he => by
    unfold orderFrom at he
    split at he
    · rename_i hf
      exact ⟨met, h, by omega, fun m hm => by simpa using List.find?_eq_none.1 hf m hm⟩
    · rename_i m hf
      have hm := List.mem_of_find?_eq_some hf
      have hp := may_iff.1 (List.find?_some hf)
      obtain ⟨m', h1, h2, h3⟩ := order_none (.snoc h hm hp.1 hp.2) he
      exact ⟨m', h1, by simp at h2; omega, h3⟩

theorem nodup_names {Rs : List Mod} (hd : (Rs.map (·.name)).Nodup) {a b : Mod} (ha : a ∈ Rs) (hb : b ∈ Rs) (h : a.name = b.name) : a = b := by
  obtain ⟨i, hi⟩ := List.getElem?_of_mem ha
  obtain ⟨k, hk⟩ := List.getElem?_of_mem hb
  have h1 : (Rs.map (·.name))[i]? = some a.name := by rw [List.getElem?_map, hi]; rfl
  have h2 : (Rs.map (·.name))[k]? = some a.name := by rw [List.getElem?_map, hk, h]; rfl
  have hil : i < (Rs.map (·.name)).length := (List.getElem?_eq_some_iff.1 h1).1
  have e := (List.getElem?_inj hil hd).1 (h1.trans h2.symm)
  subst e
  rw [hi] at hk
  exact Option.some.inj hk

/-- Those of which each asks one of them: one comes back to itself. -/
theorem comes_back {E : Nat → Nat → Prop} : ∀ (n : Nat) (W : List Nat), W.length ≤ n → W ≠ [] → (∀ i ∈ W, ∃ k ∈ W, E i k) → ∃ i ∈ W, Via E i i
  | 0, W, h1, h2, _ => absurd (List.length_eq_zero_iff.1 (by omega)) h2
  | n + 1, [], _, h2, _ => absurd rfl h2
  | n + 1, i :: W, h1, _, h3 => by
    by_cases hv : Via E i i
    · exact ⟨i, by simp, hv⟩
    · have hm : ∀ k, k ∈ W.filter (fun k => @decide (Via E i k) (Classical.propDecidable _)) ↔ k ∈ W ∧ Via E i k := fun k => by
        rw [List.mem_filter, @decide_eq_true_iff _ (Classical.propDecidable _)]
      obtain ⟨k, hk, he⟩ := h3 i (by simp)
      have hkW : k ∈ W := by
        rcases List.mem_cons.1 hk with rfl | hk
        · exact absurd (.one he) hv
        · exact hk
      obtain ⟨j, hj, hjv⟩ := comes_back n (W.filter (fun k => @decide (Via E i k) (Classical.propDecidable _))) (by
        have := List.length_filter_le (fun k => @decide (Via E i k) (Classical.propDecidable _)) W
        simp at h1
        omega) (List.ne_nil_of_mem ((hm k).2 ⟨hkW, .one he⟩)) (fun a ha => by
        obtain ⟨haW, hav⟩ := (hm a).1 ha
        obtain ⟨b, hb, hab⟩ := h3 a (by simp [haW])
        have hib := hav.more hab
        rcases List.mem_cons.1 hb with rfl | hb
        · exact absurd hib hv
        · exact ⟨b, (hm b).2 ⟨hb, hib⟩, hab⟩)
      exact ⟨j, by simp [((hm j).1 hj).1], hjv⟩

theorem find_least {Rs : List Mod} (hr : Rising (Rs.map (·.name))) {p : Mod → Bool} {m : Mod} (h : Rs.find? p = some m) : ∀ o ∈ Rs, p o = true → o = m ∨ Ahead m.name o.name := by
  obtain ⟨hp, i, hi, he, hlt⟩ := List.find?_eq_some_iff_getElem.1 h
  intro o ho hpo
  obtain ⟨k, hk, hko⟩ := List.getElem_of_mem ho
  by_cases hik : i < k
  · refine .inr ?_
    have h1 := List.pairwise_iff_getElem.1 hr i k (by simpa using hi) (by simpa using hk) hik
    rw [List.getElem_map, List.getElem_map, he, hko] at h1
    exact h1
  · by_cases hki : k = i
    · subst hki
      exact .inl (hko.symm.trans he)
    · have := hlt k (by omega)
      rw [hko, hpo] at this
      cases this

end Go.Proofs.Ytnomapbiklfciaf
