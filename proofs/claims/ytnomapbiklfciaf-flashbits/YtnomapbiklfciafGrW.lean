/- The walk from one on, as data: what has been met, and what is still to be gone on from. -/
import Derived.Test.YtnomapbiklfciafRiseM
namespace Go.Proofs.Ytnomapbiklfciaf
open Go.RowKit Go.PlainAid

/-- One comes right behind another one, in a row of modules. -/
def Next (nx : Mod → Mod → Bool) (Ms : List Mod) (i k : Nat) : Prop := ∃ x y, Ms[i]? = some x ∧ Ms[k]? = some y ∧ nx x y = true
theorem Next.lt {nx : Mod → Mod → Bool} {Ms : List Mod} {i k : Nat} (h : Next nx Ms i k) : i < Ms.length ∧ k < Ms.length := by
  obtain ⟨x, y, h1, h2, _⟩ := h
  exact ⟨(List.getElem?_eq_some_iff.1 h1).1, (List.getElem?_eq_some_iff.1 h2).1⟩
theorem Next.iff {nx : Mod → Mod → Bool} {Ms : List Mod} {i k : Nat} {x y : Mod} (hx : Ms[i]? = some x) (hy : Ms[k]? = some y) : Next nx Ms i k ↔ nx x y = true := by
  constructor
  · rintro ⟨x', y', h1, h2, h3⟩
    rw [hx] at h1
    rw [hy] at h2
    injection h1 with h1
    injection h2 with h2
    subst h1 h2
    exact h3
  · exact fun h => ⟨x, y, hx, hy, h⟩

structure Come (E : Nat → Nat → Prop) (n f : Nat) (met work : List Nat) : Prop where
  nodup : met.Nodup
  lt : ∀ k ∈ met, k < n
  via : ∀ k ∈ met, Via E f k
  wk : ∀ k ∈ work, k = f ∨ k ∈ met
  done : ∀ j, j = f ∨ j ∈ met → j ∈ work ∨ ∀ k, E j k → k ∈ met
structure ComeIn (E : Nat → Nat → Prop) (n f j i : Nat) (met work : List Nat) : Prop where
  nodup : met.Nodup
  lt : ∀ k ∈ met, k < n
  via : ∀ k ∈ met, Via E f k
  wk : ∀ k ∈ work, k = f ∨ k ∈ met
  here : j = f ∨ j ∈ met
  done : ∀ j', j' = f ∨ j' ∈ met → j' ∈ work ∨ j' = j ∨ ∀ k, E j' k → k ∈ met
  part : ∀ k, k < i → E j k → k ∈ met
theorem Come.start (E : Nat → Nat → Prop) (n f : Nat) : Come E n f [] [f] :=
  ⟨by simp, by simp, by simp, by simp, fun j hj => by
    rcases hj with rfl | hj
    · exact .inl (by simp)
    · simp at hj⟩
theorem Come.pop {E : Nat → Nat → Prop} {n f j : Nat} {met work : List Nat} (h : Come E n f met (j :: work)) : ComeIn E n f j 0 met work :=
  ⟨h.nodup, h.lt, h.via, fun k hk => h.wk k (by simp [hk]), h.wk j (by simp), fun j' hj => by
    rcases h.done j' hj with h1 | h1
    · rcases List.mem_cons.1 h1 with h2 | h2
      · exact .inr (.inl h2)
      · exact .inl h2
    · exact .inr (.inr h1), fun k hk => by omega⟩
theorem ComeIn.skip {E : Nat → Nat → Prop} {n f j i : Nat} {met work : List Nat} (h : ComeIn E n f j i met work) (hi : i ∈ met ∨ ¬ E j i) : ComeIn E n f j (i + 1) met work :=
  ⟨h.nodup, h.lt, h.via, h.wk, h.here, h.done, fun k hk he => by
    by_cases hki : k = i
    · subst hki
      rcases hi with hi | hi
      · exact hi
      · exact absurd he hi
    · exact h.part k (by omega) he⟩
theorem ComeIn.add {E : Nat → Nat → Prop} {n f j i : Nat} {met work : List Nat} (h : ComeIn E n f j i met work) (hm : i ∉ met) (hi : i < n) (he : E j i) : ComeIn E n f j (i + 1) (met ++ [i]) (work ++ [i]) := by
  have hv : Via E f i := by
    rcases h.here with rfl | hj
    · exact .one he
    · exact (h.via j hj).more he
  refine ⟨?_, ?_, ?_, ?_, ?_, ?_, ?_⟩
  · rw [List.nodup_append]
    exact ⟨h.nodup, by simp, fun a ha b hb => by rw [List.mem_singleton.1 hb]; exact fun e => hm (e ▸ ha)⟩
  · intro k hk
    rcases List.mem_append.1 hk with hk | hk
    · exact h.lt k hk
    · rw [List.mem_singleton.1 hk]; exact hi
  · intro k hk
    rcases List.mem_append.1 hk with hk | hk
    · exact h.via k hk
    · rw [List.mem_singleton.1 hk]; exact hv
  · intro k hk
    rcases List.mem_append.1 hk with hk | hk
    · rcases h.wk k hk with h1 | h1
      · exact .inl h1
      · exact .inr (by simp [h1])
    · exact .inr (by simp [List.mem_singleton.1 hk])
  · rcases h.here with h1 | h1
    · exact .inl h1
    · exact .inr (by simp [h1])
  · intro j' hj
    by_cases hji : j' = i
    · exact .inl (by simp [hji])
    · have hj2 : j' = f ∨ j' ∈ met := by
        rcases hj with h1 | h1
        · exact .inl h1
        · rcases List.mem_append.1 h1 with h1 | h1
          · exact .inr h1
          · exact absurd (List.mem_singleton.1 h1) hji
      rcases h.done j' hj2 with h1 | h1 | h1
      · exact .inl (by simp [h1])
      · exact .inr (.inl h1)
      · exact .inr (.inr fun k hk => by simp [h1 k hk])
  · intro k hk he'
    by_cases hki : k = i
    · simp [hki]
    · have := h.part k (by omega) he'
      simp [this]
theorem ComeIn.fin {E : Nat → Nat → Prop} {n f j : Nat} {met work : List Nat} (h : ComeIn E n f j n met work) (hE : ∀ k, E j k → k < n) : Come E n f met work :=
  ⟨h.nodup, h.lt, h.via, h.wk, fun j' hj => by
    rcases h.done j' hj with h1 | h1 | h1
    · exact .inl h1
    · exact .inr fun k hk => by subst h1; exact h.part k (hE k hk) hk
    · exact .inr h1⟩
theorem Come.all {E : Nat → Nat → Prop} {n f : Nat} {met : List Nat} (h : Come E n f met []) (k : Nat) : k ∈ met ↔ Via E f k := by
  constructor
  · exact h.via k
  · intro hv
    have hc : ∀ j, j = f ∨ j ∈ met → ∀ k, E j k → k ∈ met := fun j hj => by
      rcases h.done j hj with h1 | h1
      · simp at h1
      · exact h1
    exact Via.closed (S := fun k => k ∈ met) (hc f (.inl rfl)) (fun j k hj he => hc j (.inr hj) k he) hv
theorem nodup_lt : ∀ {n : Nat} {l : List Nat}, l.Nodup → (∀ k ∈ l, k < n) → l.length ≤ n
  | 0, l, _, h2 => by
    cases l with
    | nil => simp
    | cons x l => exact absurd (h2 x (by simp)) (by omega)
  | n + 1, l, h1, h2 => by
    by_cases hn : n ∈ l
    · have h3 := nodup_lt (n := n) (l := l.erase n) (h1.erase n) (fun k hk => by
        have := (h1.mem_erase_iff).1 hk
        have h4 := h2 k this.2
        omega)
      rw [List.length_erase_of_mem hn] at h3
      omega
    · have h3 := nodup_lt (n := n) (l := l) h1 (fun k hk => by
        have h4 := h2 k hk
        have : k ≠ n := fun e => hn (e ▸ hk)
        omega)
      omega
theorem Come.le {E : Nat → Nat → Prop} {n f : Nat} {met work : List Nat} (h : Come E n f met work) : met.length ≤ n := nodup_lt h.nodup h.lt
theorem ComeIn.le {E : Nat → Nat → Prop} {n f j i : Nat} {met work : List Nat} (h : ComeIn E n f j i met work) : met.length ≤ n := nodup_lt h.nodup h.lt

/-- Names, rising. -/
def nameAt (Ms : List Mod) (i : Nat) : ByteArray := match Ms[i]? with | some x => x.name | none => ⟨#[]⟩
theorem nameAt_some {Ms : List Mod} {i : Nat} {x : Mod} (h : Ms[i]? = some x) : nameAt Ms i = x.name := by unfold nameAt; rw [h]
theorem nameAt_inj {Ms : List Mod} (hd : (Ms.map (·.name)).Nodup) {i k : Nat} (hi : i < Ms.length) (hk : k < Ms.length) (h : nameAt Ms i = nameAt Ms k) : i = k := by
  rw [nameAt_some (List.getElem?_eq_getElem hi), nameAt_some (List.getElem?_eq_getElem hk)] at h
  have h1 : (Ms.map (·.name))[i]? = some Ms[i].name := by rw [List.getElem?_map, List.getElem?_eq_getElem hi]; rfl
  have h2 : (Ms.map (·.name))[k]? = some Ms[k].name := by rw [List.getElem?_map, List.getElem?_eq_getElem hk]; rfl
  rw [← h] at h2
  exact (List.getElem?_inj (by simpa using hi) hd).1 (h1.trans h2.symm)
theorem any_name {Ms : List Mod} (hd : (Ms.map (·.name)).Nodup) {met : List Nat} (hm : ∀ k ∈ met, k < Ms.length) {i : Nat} (hi : i < Ms.length) : ((met.map (nameAt Ms)).any fun y => y == nameAt Ms i) = true ↔ i ∈ met := by
  rw [any_mem]
  constructor
  · intro h
    obtain ⟨k, hk, he⟩ := List.mem_map.1 h
    rw [← nameAt_inj hd (hm k hk) hi he]
    exact hk
  · exact fun h => List.mem_map_of_mem h

end Go.Proofs.Ytnomapbiklfciaf
