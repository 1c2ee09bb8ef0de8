/- The document's order, as data: of those that may stand next the least. -/
import Derived.Test.YtaklbnabgcglhabGrU
import Derived.Test.YtaklbnabgcglhabRfF
namespace Go.Proofs.Ytaklbnabgcglhab
open Go.RowKit Go.PlainAid

def okTo (T : Nat → Nat → Bool) (D : Nat → Bool) (i k : Nat) : Bool := !D i && (List.range k).all fun q => !T i q || D q
theorem okTo_zero (T : Nat → Nat → Bool) (D : Nat → Bool) (i : Nat) : okTo T D i 0 = !D i := by unfold okTo; simp
theorem okTo_succ (T : Nat → Nat → Bool) (D : Nat → Bool) (i k : Nat) : okTo T D i (k + 1) = (okTo T D i k && (!T i k || D k)) := by
  unfold okTo
  rw [List.range_succ, List.all_append, ← Bool.and_assoc]
  simp
theorem okTo_iff {T : Nat → Nat → Bool} {D : Nat → Bool} {i k : Nat} : okTo T D i k = true ↔ D i = false ∧ ∀ q, q < k → T i q = true → D q = true := by
  unfold okTo
  rw [Bool.and_eq_true, List.all_eq_true]
  constructor
  · rintro ⟨h1, h2⟩
    refine ⟨by simpa using h1, fun q hq ht => ?_⟩
    have := h2 q (List.mem_range.2 hq)
    rw [ht] at this
    simpa using this
  · rintro ⟨h1, h2⟩
    refine ⟨by rw [h1]; rfl, fun q hq => ?_⟩
    cases ht : T i q
    · rfl
    · rw [h2 q (List.mem_range.1 hq) ht]; rfl

/-- The best one so far. -/
def BestTo (ok : Nat → Bool) (nA : Nat → ByteArray) (i : Nat) (b : Int) : Prop := (b = -1 ∧ ∀ q, q < i → ok q = false) ∨ ∃ bi : Nat, bi < i ∧ b = (bi : Int) ∧ ok bi = true ∧ ∀ q, q < i → ok q = true → ¬ Ahead (nA q) (nA bi)
theorem BestTo.start (ok : Nat → Bool) (nA : Nat → ByteArray) : BestTo ok nA 0 (-1) := .inl ⟨rfl, fun q hq => by omega⟩
theorem BestTo.no {ok : Nat → Bool} {nA : Nat → ByteArray} {i : Nat} {b : Int} (h : BestTo ok nA i b) (hi : ok i = false) : BestTo ok nA (i + 1) b := by
  rcases h with ⟨rfl, h⟩ | ⟨bi, h1, rfl, h2, h3⟩
  · refine .inl ⟨rfl, fun q hq => ?_⟩
    by_cases e : q = i
    · subst e; exact hi
    · exact h q (by omega)
  · refine .inr ⟨bi, by omega, rfl, h2, fun q hq hok => ?_⟩
    by_cases e : q = i
    · subst e; rw [hi] at hok; cases hok
    · exact h3 q (by omega) hok
theorem BestTo.first {ok : Nat → Bool} {nA : Nat → ByteArray} {i : Nat} (h : BestTo ok nA i (-1)) (hi : ok i = true) : BestTo ok nA (i + 1) (i : Int) := by
  rcases h with ⟨_, h⟩ | ⟨bi, _, h1, _⟩
  · refine .inr ⟨i, by omega, rfl, hi, fun q hq hok => ?_⟩
    by_cases e : q = i
    · subst e; exact Ahead.irrefl _
    · rw [h q (by omega)] at hok; cases hok
  · omega
theorem BestTo.less {ok : Nat → Bool} {nA : Nat → ByteArray} {i bi : Nat} (h : BestTo ok nA i (bi : Int)) (hi : ok i = true) (hl : Ahead (nA i) (nA bi)) : BestTo ok nA (i + 1) (i : Int) := by
  rcases h with ⟨h, _⟩ | ⟨b', _, h1, _, h3⟩
  · omega
  · have : b' = bi := by omega
    subst this
    refine .inr ⟨i, by omega, rfl, hi, fun q hq hok e => ?_⟩
    by_cases e' : q = i
    · subst e'; exact Ahead.irrefl _ e
    · exact h3 q (by omega) hok (e.trans hl)
theorem BestTo.keep {ok : Nat → Bool} {nA : Nat → ByteArray} {i bi : Nat} (h : BestTo ok nA i (bi : Int)) (hl : ¬ Ahead (nA i) (nA bi)) : BestTo ok nA (i + 1) (bi : Int) := by
  rcases h with ⟨h, _⟩ | ⟨b', h1, h2, h4, h3⟩
  · omega
  · have : b' = bi := by omega
    subst this
    refine .inr ⟨b', by omega, rfl, h4, fun q hq hok => ?_⟩
    by_cases e' : q = i
    · subst e'; exact hl
    · exact h3 q (by omega) hok
theorem BestTo.lt {ok : Nat → Bool} {nA : Nat → ByteArray} {i : Nat} {b : Int} (h : BestTo ok nA i b) : b = -1 ∨ ∃ bi : Nat, bi < i ∧ b = (bi : Int) := by
  rcases h with ⟨h, _⟩ | ⟨bi, h1, h2, _⟩
  · exact .inl h
  · exact .inr ⟨bi, h1, h2⟩

def inB (c : List ByteArray) (x : ByteArray) : Bool := c.any fun y => y == x
theorem inB_iff {c : List ByteArray} {x : ByteArray} : inB c x = true ↔ x ∈ c := any_mem

theorem order_pick {L : List Plc} (h0 : chkGraph L = 0) {c : List ByteArray} (hc : orderFrom (risen L) (risen L).length [] = some c) {T : Nat → Nat → Bool} (hT : ∀ a b, a < L.length → b < L.length → (T a b = true ↔ Via (Next nxNeed (L.map (·.mod))) a b)) {j : Nat} (hj : j < c.length) {b : Int}
    (hb : BestTo (fun i => okTo T (fun q => inB (c.take j) (nameAt (L.map (·.mod)) q)) i L.length) (nameAt (L.map (·.mod))) L.length b) : ∃ bi : Nat, bi < L.length ∧ b = (bi : Int) ∧ c[j]? = some (nameAt (L.map (·.mod)) bi) := by
  have hd := chk_nodup h0
  have hst := (order_stands .nil hc).1
  obtain ⟨m, hf, hcj⟩ := order_at .nil hc j (Nat.zero_le _) hj
  have hrise := risen_rising (L := L) (by rw [List.map_map] at hd; exact hd)
  have hmR := List.mem_of_find?_eq_some hf
  have hmay := List.find?_some hf
  obtain ⟨im, him, himm, himn⟩ := nameAt_mem ((risen_perm L).mem_iff.1 hmR)
  have him' : im < L.length := by simpa using him
  have key : ∀ (i : Nat) (x : Mod), (L.map (·.mod))[i]? = some x → (okTo T (fun q => inB (c.take j) (nameAt (L.map (·.mod)) q)) i L.length = true ↔ mayB (risen L) (c.take j) x = true) := by
    intro i x hx
    have hil : i < L.length := by have := (List.getElem?_eq_some_iff.1 hx).1; simpa using this
    rw [okTo_iff, may_iff, nameAt_some hx, ← Bool.not_eq_true, inB_iff]
    constructor
    · rintro ⟨h1, h2⟩
      refine ⟨h1, fun o ho ha => ?_⟩
      obtain ⟨q, hq, hqo, hqn⟩ := nameAt_mem ((risen_perm L).mem_iff.1 ho)
      have hq' : q < L.length := by simpa using hq
      have := h2 q hq' ((hT i q hil hq').2 (.one ⟨x, o, hx, hqo, ha⟩))
      rw [inB_iff, hqn] at this
      exact this
    · rintro ⟨h1, h2⟩
      refine ⟨h1, fun q hq ht => ?_⟩
      rw [inB_iff]
      have hv := (hT i q hil hq).1 ht
      have one : ∀ k, Next nxNeed (L.map (·.mod)) i k → nameAt (L.map (·.mod)) k ∈ c.take j := by
        rintro k ⟨x', y, hx', hy, hxy⟩
        rw [hx] at hx'
        injection hx' with hx'
        subst hx'
        rw [nameAt_some hy]
        exact h2 y ((risen_perm L).mem_iff.2 (List.mem_of_getElem? hy)) hxy
      refine Via.closed (S := fun k => nameAt (L.map (·.mod)) k ∈ c.take j) one (fun a k ha he => ?_) hv
      obtain ⟨p, hp, hpe⟩ := List.mem_take_iff_getElem.1 ha
      have hpc : p < c.length := by omega
      have h3 := hst.via (risen_perm L) hd (.one he) p (by rw [List.getElem?_eq_getElem hpc, hpe])
      exact List.mem_of_mem_take (i := p) (by
        rw [List.take_take, show min p j = p by omega]
        exact h3)
  have hokm := (key im m himm).2 hmay
  rcases hb with ⟨_, hn⟩ | ⟨bi, hbi, rfl, hok, hmin⟩
  · have h := hn im him'
    dsimp only at h
    rw [hokm] at h
    cases h
  · refine ⟨bi, hbi, rfl, ?_⟩
    have hbi' : bi < (L.map (·.mod)).length := by simpa using hbi
    obtain ⟨x, hxm, hxb, hxn⟩ := mem_nameAt hbi'
    have hxmay := (key bi x hxb).1 hok
    rcases find_least hrise hf x ((risen_perm L).mem_iff.2 hxm) hxmay with rfl | ha
    · rw [hcj, hxn]
    · have := hmin im him' hokm
      rw [himn, hxn] at this
      exact absurd ha this

end Go.Proofs.Ytaklbnabgcglhab
