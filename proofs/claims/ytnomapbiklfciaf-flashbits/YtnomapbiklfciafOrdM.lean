/- Orders: what stands in them, when there is none, and what is left without one that nobody asks. -/
import Derived.Test.YtnomapbiklfciafGrW
namespace Go.Proofs.Ytnomapbiklfciaf
open Go.RowKit Go.PlainAid

/-- One asks another one. -/
def nxNeed (a o : Mod) : Bool := asksM a o.name
/-- One is asked by another one. -/
def nxUse (a o : Mod) : Bool := asksM o a.name
theorem next_turn {Ms : List Mod} {i k : Nat} : Next nxUse Ms i k ↔ Next nxNeed Ms k i := by
  constructor
  · rintro ⟨x, y, h1, h2, h3⟩; exact ⟨y, x, h2, h1, h3⟩
  · rintro ⟨x, y, h1, h2, h3⟩; exact ⟨y, x, h2, h1, h3⟩
theorem via_turn {Ms : List Mod} {i k : Nat} : Via (Next nxUse Ms) i k ↔ Via (Next nxNeed Ms) k i := by
  constructor
  · intro h
    have := h.turn
    exact Via.closed (S := fun a => Via (Next nxNeed Ms) k a) (fun a ha => .one (next_turn.1 ha)) (fun a b ha hb => ha.more (next_turn.1 hb)) this
  · intro h
    have := h.turn
    exact Via.closed (S := fun a => Via (Next nxUse Ms) i a) (fun a ha => .one (next_turn.2 ha)) (fun a b ha hb => ha.more (next_turn.2 hb)) this
theorem Via.lt_of {nx : Mod → Mod → Bool} {Ms : List Mod} {i k : Nat} (h : Via (Next nx Ms) i k) : i < Ms.length ∧ k < Ms.length := by
  exact h.walk (M := fun k => i < Ms.length ∧ k < Ms.length) (fun _ e => e.lt) (fun _ _ _ ih e => ⟨ih.1, e.lt.2⟩)

theorem mem_nameAt {Ms : List Mod} {i : Nat} (h : i < Ms.length) : ∃ m ∈ Ms, Ms[i]? = some m ∧ nameAt Ms i = m.name :=
  ⟨Ms[i], List.getElem_mem h, List.getElem?_eq_getElem h, nameAt_some (List.getElem?_eq_getElem h)⟩
theorem nameAt_mem {Ms : List Mod} {m : Mod} (h : m ∈ Ms) : ∃ i, i < Ms.length ∧ Ms[i]? = some m ∧ nameAt Ms i = m.name := by
  obtain ⟨i, hi⟩ := List.getElem?_of_mem h
  exact ⟨i, (List.getElem?_eq_some_iff.1 hi).1, hi, nameAt_some hi⟩

section
variable {Rs Ms : List Mod} (hp : Rs.Perm Ms)
include hp

/-- What stands ahead is closed under asking. -/
theorem Stands.via {c : List ByteArray} (h : Stands Rs c) (hd : (Ms.map (·.name)).Nodup) {f k : Nat} (hv : Via (Next nxNeed Ms) f k) : ∀ j, c[j]? = some (nameAt Ms f) → nameAt Ms k ∈ c.take j := by
  have step : ∀ a b j, Next nxNeed Ms a b → c[j]? = some (nameAt Ms a) → nameAt Ms b ∈ c.take j := by
    intro a b j hab hj
    obtain ⟨x, y, hx, hy, hxy⟩ := hab
    obtain ⟨m, hm, hmx, _, hall⟩ := h.at j _ hj
    rw [nameAt_some hx] at hmx
    have e : m = x := nodup_names hd (hp.mem_iff.1 hm) (List.mem_of_getElem? hx) hmx
    subst e
    rw [nameAt_some hy]
    exact hall y (hp.mem_iff.2 (List.mem_of_getElem? hy)) hxy
  refine hv.walk (M := fun k => ∀ j, c[j]? = some (nameAt Ms f) → nameAt Ms k ∈ c.take j) (fun _ e j hj => step _ _ j e hj) (fun _ _ _ ih e => ?_)
  · intro j hj
    have h1 := ih j hj
    obtain ⟨i, hi, he⟩ := List.mem_take_iff_getElem.1 h1
    have hi2 : i < c.length := by omega
    have h2 := step _ _ i e (by rw [List.getElem?_eq_getElem hi2, he])
    exact List.mem_of_mem_take (i := i) (by
      rw [List.take_take, show min i j = i by omega]
      exact h2)

theorem Stands.noRound {c : List ByteArray} (h : Stands Rs c) (hd : (Ms.map (·.name)).Nodup) (hl : c.length = Ms.length) (i : Nat) : ¬ Via (Next nxNeed Ms) i i := by
  intro hv
  have hil := hv.lt_of.1
  have hall : ∀ x ∈ Ms.map (·.name), x ∈ c := full_mem h.nodup (fun x hx => by
    obtain ⟨m, hm, rfl⟩ := h.names x hx
    exact List.mem_map_of_mem (hp.mem_iff.1 hm)) (by simp; omega)
  obtain ⟨m, hm, hmi, hmn⟩ := mem_nameAt hil
  obtain ⟨j, hj⟩ := List.getElem?_of_mem (hall m.name (List.mem_map_of_mem hm))
  rw [← hmn] at hj
  have h1 := h.via hp hd hv j hj
  obtain ⟨_, _, _, h2, _⟩ := h.at j _ hj
  exact h2 h1

theorem order_round (hd : (Ms.map (·.name)).Nodup) (h : orderFrom Rs Rs.length [] = none) : ∃ i, Via (Next nxNeed Ms) i i := by
  obtain ⟨met, hs, hlen, hno⟩ := order_none .nil h
  simp at hlen
  have hne : (List.range Ms.length).filter (fun i => @decide (nameAt Ms i ∉ met) (Classical.propDecidable _)) ≠ [] := by
    intro he
    have hsub : ∀ x ∈ Ms.map (·.name), x ∈ met := by
      intro x hx
      obtain ⟨m, hm, rfl⟩ := List.mem_map.1 hx
      obtain ⟨i, hi, _, hn⟩ := nameAt_mem hm
      refine Classical.byContradiction fun hn2 => ?_
      have : i ∈ (List.range Ms.length).filter (fun i => @decide (nameAt Ms i ∉ met) (Classical.propDecidable _)) := by
        rw [List.mem_filter, @decide_eq_true_iff _ (Classical.propDecidable _), hn]
        exact ⟨List.mem_range.2 hi, hn2⟩
      rw [he] at this
      simp at this
    have := List.Nodup.length_le_of_subset hd hsub
    rw [List.length_map, ← hp.length_eq] at this
    omega
  obtain ⟨i, _, hi⟩ := comes_back (E := Next nxNeed Ms) _ _ (Nat.le_refl _) hne (fun i hi => by
    rw [List.mem_filter, @decide_eq_true_iff _ (Classical.propDecidable _)] at hi
    obtain ⟨m, hm, hmi, hmn⟩ := mem_nameAt (List.mem_range.1 hi.1)
    have hw : m.name ∉ met := by rw [← hmn]; exact hi.2
    have hnm := hno m (hp.mem_iff.2 hm)
    have : ∃ o ∈ Rs, asksM m o.name = true ∧ o.name ∉ met := by
      refine Classical.byContradiction fun hn => ?_
      have : mayB Rs met m = true := may_iff.2 ⟨hw, fun o ho ha => Classical.byContradiction fun h => hn ⟨o, ho, ha, h⟩⟩
      rw [hnm] at this
      cases this
    obtain ⟨o, ho, ha, hw2⟩ := this
    obtain ⟨k, hk, hko, hkn⟩ := nameAt_mem (hp.mem_iff.1 ho)
    refine ⟨k, ?_, m, o, hmi, hko, ha⟩
    rw [List.mem_filter, @decide_eq_true_iff _ (Classical.propDecidable _), hkn]
    exact ⟨List.mem_range.2 hk, hw2⟩)
  exact ⟨i, hi⟩
end

/-- Without one that nobody asks. -/
theorem less_may {Rs : List Mod} {x : Mod} (hx : ∀ o ∈ Rs, asksM o x.name = false) {Rs' : List Mod} (hR : ∀ o, o ∈ Rs' ↔ o ∈ Rs ∧ o.name ≠ x.name) {met met' : List ByteArray} (hm : ∀ y, y ∈ met' ↔ y ∈ met ∧ y ≠ x.name) {o : Mod} (ho : o ∈ Rs) (hox : o.name ≠ x.name) : mayB Rs' met' o = mayB Rs met o := by
  rw [Bool.eq_iff_iff, may_iff, may_iff, hm]
  constructor
  · rintro ⟨h1, h2⟩
    refine ⟨fun h => h1 ⟨h, hox⟩, fun p hp ha => ?_⟩
    have hpx : p.name ≠ x.name := fun e => by rw [e, hx o ho] at ha; cases ha
    exact ((hm _).1 (h2 p ((hR p).2 ⟨hp, hpx⟩) ha)).1
  · rintro ⟨h1, h2⟩
    refine ⟨fun h => h1 h.1, fun p hp ha => ?_⟩
    exact (hm _).2 ⟨h2 p ((hR p).1 hp).1 ha, ((hR p).1 hp).2⟩
def notN (n : ByteArray) (y : ByteArray) : Bool := !(y == n)
theorem notN_iff {n y : ByteArray} : notN n y = true ↔ y ≠ n := by
  unfold notN
  rw [Bool.not_eq_true', ← Bool.not_eq_true, Go.MapKept.bytes_beq]
def lessOf (n : ByteArray) (Rs : List Mod) : List Mod := Rs.filter fun o => notN n o.name
theorem mem_less {n : ByteArray} {Rs : List Mod} {o : Mod} : o ∈ lessOf n Rs ↔ o ∈ Rs ∧ o.name ≠ n := by
  unfold lessOf
  rw [List.mem_filter, notN_iff]
theorem mem_lessN {n : ByteArray} {met : List ByteArray} (y : ByteArray) : y ∈ met.filter (notN n) ↔ y ∈ met ∧ y ≠ n := by rw [List.mem_filter, notN_iff]
theorem find_less {p q : Mod → Bool} {n : ByteArray} : ∀ {Rs : List Mod}, (∀ o ∈ Rs, o.name ≠ n → p o = q o) → ∀ {m : Mod}, Rs.find? q = some m → m.name ≠ n → (lessOf n Rs).find? p = some m
  | [], _, _, h, _ => by cases h
  | o :: Rs, hpq, m, h, hm => by
    rw [List.find?_cons] at h
    have hrest : ∀ o ∈ Rs, o.name ≠ n → p o = q o := fun o ho => hpq o (by simp [ho])
    unfold lessOf
    rw [List.filter_cons]
    split at h
    · injection h with h
      subst h
      rename_i hq
      rw [if_pos (notN_iff.2 hm), List.find?_cons, hpq o (by simp) hm, hq]
    · rename_i hq
      by_cases ho : o.name = n
      · rw [if_neg (by rw [notN_iff]; exact fun h => h ho)]
        exact find_less hrest h hm
      · rw [if_pos (notN_iff.2 ho), List.find?_cons, hpq o (by simp) ho, hq]
        exact find_less hrest h hm
theorem less_snoc {n y : ByteArray} (met : List ByteArray) (h : y ≠ n) : (met ++ [y]).filter (notN n) = met.filter (notN n) ++ [y] := by
  rw [List.filter_append, List.filter_cons, if_pos (notN_iff.2 h)]; rfl
theorem less_snoc_not {n : ByteArray} (met : List ByteArray) : (met ++ [n]).filter (notN n) = met.filter (notN n) := by
  rw [List.filter_append, List.filter_cons, if_neg (by rw [notN_iff]; exact fun h => h rfl)]; simp
theorem order_less_met {Rs : List Mod} {x : Mod} (hx : ∀ o ∈ Rs, asksM o x.name = false) : ∀ {n : Nat} {met c : List ByteArray}, x.name ∈ met → orderFrom Rs n met = some c → orderFrom (lessOf x.name Rs) n (met.filter (notN x.name)) = some (c.filter (notN x.name))
  | 0, met, c, _, h => by
    have : met = c := by simpa [orderFrom] using h
    subst this
    rfl
  | n + 1, met, c, hm, h => by
    unfold orderFrom at h ⊢
    split at h
    · cases h
    rename_i m hf
    have hmx : m.name ≠ x.name := fun e => (may_iff.1 (List.find?_some hf)).1 (by rw [e]; exact hm)
    rw [find_less (p := mayB (lessOf x.name Rs) (met.filter (notN x.name))) (fun o ho hox => less_may hx (fun o => mem_less) mem_lessN ho hox) hf hmx]
    dsimp only
    rw [← less_snoc met hmx]
    exact order_less_met hx (by simp [hm]) h
theorem order_less {Rs : List Mod} {x : Mod} (hx : ∀ o ∈ Rs, asksM o x.name = false) : ∀ {n : Nat} {met c : List ByteArray}, x.name ∉ met → x.name ∈ c → orderFrom Rs (n + 1) met = some c → orderFrom (lessOf x.name Rs) n (met.filter (notN x.name)) = some (c.filter (notN x.name)) := by
  intro n
  induction n with
  | zero =>
    intro met c hm hc h
    unfold orderFrom at h
    split at h
    · cases h
    rename_i m hf
    have he : met ++ [m.name] = c := by simpa [orderFrom] using h
    subst he
    have hmx : m.name = x.name := by
      rcases List.mem_append.1 hc with hc | hc
      · exact absurd hc hm
      · exact (List.mem_singleton.1 hc).symm
    rw [hmx, less_snoc_not]
    rfl
  | succ n ih =>
    intro met c hm hc h
    unfold orderFrom at h
    split at h
    · cases h
    rename_i m hf
    by_cases hmx : m.name = x.name
    · rw [hmx] at h
      have := order_less_met hx (by simp) h
      rw [less_snoc_not] at this
      exact this
    · unfold orderFrom
      rw [find_less (p := mayB (lessOf x.name Rs) (met.filter (notN x.name))) (fun o ho hox => less_may hx (fun o => mem_less) mem_lessN ho hox) hf hmx]
      dsimp only
      rw [← less_snoc met hmx]
      exact ih (by simp [hm]; exact fun e => hmx e.symm) hc h

end Go.Proofs.Ytnomapbiklfciaf
