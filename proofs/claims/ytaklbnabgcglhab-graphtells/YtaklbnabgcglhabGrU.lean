/- What an order is. -/
import Derived.Test.YtaklbnabgcglhabGrE
import Derived.Test.YtaklbnabgcglhabGrT
namespace Go.Proofs.Ytaklbnabgcglhab
open Go.RowKit Go.PlainAid

theorem ord_err {L : List Plc} (h : (ordOf L).2 ≠ 0) : (ordOf L).1 = [] := by
  rcases ordOf_cases L with ⟨_, e⟩ | ⟨_, e⟩
  · rw [e]
  · rw [e] at h ⊢
    unfold ordRes at h ⊢
    split
    · rfl
    · rename_i c hc
      rw [hc] at h
      exact absurd rfl h
theorem ord_ok {L : List Plc} (h : (ordOf L).2 = 0) : chkGraph L = 0 ∧ orderFrom (risen L) (risen L).length [] = some (ordOf L).1 := by
  rcases ordOf_cases L with ⟨h1, e⟩ | ⟨h1, e⟩
  · rw [e] at h
    exact absurd h h1
  · refine ⟨h1, ?_⟩
    rw [e] at h ⊢
    unfold ordRes at h ⊢
    split
    · rename_i hc
      rw [hc] at h
      exact absurd h (by decide)
    · rename_i c hc
      exact hc
theorem comeErr_of {L : List Plc} {name : ByteArray} (h0 : chkGraph L = 0) {m : Mod} (hm : m ∈ L.map (·.mod)) (hn : m.name = name) : comeErr L name = 0 := by
  unfold comeErr
  rw [if_neg (by omega), if_pos]
  obtain ⟨p, hp, rfl⟩ := List.mem_map.1 hm
  exact List.any_eq_true.2 ⟨p, hp, (Go.MapKept.bytes_beq _ _).2 hn⟩
theorem ord_facts {L : List Plc} (h : (ordOf L).2 = 0) : (ordOf L).1.length = L.length ∧ ∀ (i : Nat) (x : ByteArray), (ordOf L).1[i]? = some x → comeErr L x = 0 ∧ (((ordOf L).1.take i).any fun y => y == x) = false ∧ ∀ ns, ComeRes nxNeed L x ns → ∀ z ∈ ns, (((ordOf L).1.take i).any fun y => y == z) = true := by
  obtain ⟨h0, h1⟩ := ord_ok h
  obtain ⟨h2, h3, _⟩ := order_stands .nil h1
  generalize (ordOf L).1 = c at *
  have hd := chk_nodup h0
  refine ⟨by rw [h3, (risen_perm L).length_eq]; simp, fun i x hx => ?_⟩
  obtain ⟨m, hm, hmx, hnot, _⟩ := h2.at i x hx
  have hm2 := (risen_perm L).mem_iff.1 hm
  have he := comeErr_of h0 hm2 hmx
  refine ⟨he, ?_, fun ns hns z hz => ?_⟩
  · rw [← Bool.not_eq_true, any_mem]
    exact hnot
  · obtain ⟨f, hf, hfn, hc⟩ := hns.ok he
    obtain ⟨k, hk, rfl⟩ := (hc.2 z).1 hz
    rw [any_mem]
    exact h2.via (risen_perm L) hd hk i (by rw [hfn]; exact hx)

theorem RowOf.take {α : Type} {sz : Nat} {cells : α → Nat → Value} {n₀ : Nat} {W : World} {a : Option Addr} {n cap : Nat} {l : List α} (h : RowOf sz cells n₀ W (.slice a n cap) l) (k : Nat) (hk : k ≤ l.length) : RowOf sz cells n₀ W (.slice a k cap) (l.take k) := by
  obtain ⟨a', cap', e, hm, h⟩ := h
  injection e with e1 e2 e3
  subst e1 e3
  refine ⟨a, cap, by rw [List.length_take, Nat.min_eq_left hk], by rw [List.length_take]; omega, ?_⟩
  rcases h with h | ⟨b, off, rfl, hb, hc⟩
  · exact .inl (by rw [h]; simp)
  · refine .inr ⟨b, off, rfl, hb, fun j x hj i hi => hc j x ?_ i hi⟩
    rw [List.getElem?_take] at hj
    split at hj
    · exact hj
    · cases hj

end Go.Proofs.Ytaklbnabgcglhab
