/- Without a module that nobody needs: what others need, and their order. -/
import Derived.Test.YtaklbnabgcglhacGrU
namespace Go.Proofs.Ytaklbnabgcglhac
open Go.RowKit Go.PlainAid

/-- The place in the whole of one that is left. -/
def back (n j : Nat) : Nat := if j < n then j else j + 1
theorem back_ne (n j : Nat) : back n j ≠ n := by unfold back; split <;> omega
theorem back_of {n k : Nat} (h : k ≠ n) : ∃ j, back n j = k := by
  by_cases hk : k < n
  · exact ⟨k, by unfold back; rw [if_pos hk]⟩
  · exact ⟨k - 1, by unfold back; rw [if_neg (by omega)]; omega⟩
theorem erase_back {α : Type} (l : List α) (n j : Nat) : (l.eraseIdx n)[j]? = l[back n j]? := by
  rw [List.getElem?_eraseIdx]
  unfold back
  split <;> rfl
theorem erase_map {α β : Type} (f : α → β) : ∀ (l : List α) (n : Nat), (l.eraseIdx n).map f = (l.map f).eraseIdx n
  | [], n => by simp
  | x :: l, 0 => by simp
  | x :: l, n + 1 => by simp [erase_map f l n]
theorem name_back (Ms : List Mod) (n j : Nat) : nameAt (Ms.eraseIdx n) j = nameAt Ms (back n j) := by
  unfold nameAt
  rw [erase_back]
theorem next_back {nx : Mod → Mod → Bool} {Ms : List Mod} {n i k : Nat} : Next nx (Ms.eraseIdx n) i k ↔ Next nx Ms (back n i) (back n k) := by
  unfold Next
  rw [erase_back, erase_back]
theorem via_back {nx : Mod → Mod → Bool} {Ms : List Mod} {n : Nat} (hn : ∀ i, ¬ Next nx Ms i n) {f : Nat} : ∀ {k : Nat}, Via (Next nx Ms) (back n f) k → ∃ j, back n j = k ∧ Via (Next nx (Ms.eraseIdx n)) f j := by
  intro k h
  generalize hF : back n f = F at h
  induction h with
  | @one k e =>
    subst hF
    obtain ⟨j, hj⟩ := back_of (n := n) (k := k) (fun ee => by rw [ee] at e; exact hn _ e)
    exact ⟨j, hj, .one (next_back.2 (by rw [hj]; exact e))⟩
  | @more i' k _ e ih =>
    obtain ⟨i, hi, hv⟩ := ih
    obtain ⟨j, hj⟩ := back_of (n := n) (k := k) (fun ee => by rw [ee] at e; exact hn _ e)
    exact ⟨j, hj, hv.more (next_back.2 (by rw [hi, hj]; exact e))⟩
theorem back_via {nx : Mod → Mod → Bool} {Ms : List Mod} {n f k : Nat} (h : Via (Next nx (Ms.eraseIdx n)) f k) : Via (Next nx Ms) (back n f) (back n k) := by
  induction h with
  | one e => exact .one (next_back.1 e)
  | more _ e ih => exact ih.more (next_back.1 e)

theorem less_free {L : List Plc} {n : Nat} {p : Plc} (hp : L[n]? = some p) (h0 : comeErr L p.mod.name = 0) (hu : ComeRes nxUse L p.mod.name []) : ∀ i, ¬ Next nxNeed (L.map (·.mod)) i n := by
  intro i hi
  have hd := chk_nodup (comeErr_zero h0)
  obtain ⟨f, hf, hfn, hc⟩ := hu.ok h0
  have hm : (L.map (·.mod))[n]? = some p.mod := by rw [List.getElem?_map, hp]; rfl
  have hfe : f = n := nameAt_inj hd (by simpa using hf) (List.getElem?_eq_some_iff.1 hm).1 (by rw [hfn, nameAt_some hm])
  subst hfe
  have : nameAt (L.map (·.mod)) i ∈ ([] : List ByteArray) := (hc.2 _).2 ⟨i, .one (next_turn.2 hi), rfl⟩
  simp at this
theorem less_asks {L : List Plc} {n : Nat} {p : Plc} (hp : L[n]? = some p) (h0 : comeErr L p.mod.name = 0) (hu : ComeRes nxUse L p.mod.name []) : ∀ o ∈ risen L, asksM o p.mod.name = false := by
  intro o ho
  cases h : asksM o p.mod.name
  · rfl
  · obtain ⟨i, hi⟩ := List.getElem?_of_mem ((risen_perm L).mem_iff.1 ho)
    have hm : (L.map (·.mod))[n]? = some p.mod := by rw [List.getElem?_map, hp]; rfl
    exact absurd ⟨o, p.mod, hi, hm, h⟩ (less_free hp h0 hu i)
theorem less_chk {L : List Plc} {n : Nat} {p : Plc} (h0 : comeErr L p.mod.name = 0) : chkGraph (L.eraseIdx n) = 0 := by
  have h1 := chkGraph_zero.1 (comeErr_zero h0)
  refine chkGraph_zero.2 ⟨?_, fun q hq => h1.2.1 q (List.mem_of_mem_eraseIdx hq), ?_⟩
  · have := List.length_eraseIdx_le L n
    omega
  · rw [erase_map]
    exact h1.2.2.sublist (List.eraseIdx_sublist _ _)
theorem less_needs {L : List Plc} {n : Nat} {p : Plc} (hp : L[n]? = some p) (h0 : comeErr L p.mod.name = 0) (hu : ComeRes nxUse L p.mod.name []) {i : Nat} {q : Plc} (hq : (L.eraseIdx n)[i]? = some q) {xs ys : List ByteArray} (hx : ComeRes nxNeed L q.mod.name xs) (hy : ComeRes nxNeed (L.eraseIdx n) q.mod.name ys) : comeErr L q.mod.name = 0 ∧ comeErr (L.eraseIdx n) q.mod.name = 0 ∧ xs = ys := by
  have hc := comeErr_zero h0
  have hc' := less_chk (n := n) h0
  have e1 : comeErr (L.eraseIdx n) q.mod.name = 0 := comeErr_of hc' (List.mem_map_of_mem (List.mem_of_getElem? hq)) rfl
  have e2 : comeErr L q.mod.name = 0 := comeErr_of hc (List.mem_map_of_mem (List.mem_of_mem_eraseIdx (List.mem_of_getElem? hq))) rfl
  refine ⟨e2, e1, ?_⟩
  obtain ⟨f, hf, hfn, hr, hm⟩ := hx.ok e2
  obtain ⟨g, hg, hgn, hr', hm'⟩ := hy.ok e1
  have hE : (L.eraseIdx n).map (·.mod) = (L.map (·.mod)).eraseIdx n := erase_map _ _ _
  rw [hE] at hgn hm'
  have hd := chk_nodup hc
  have hgl : back n g < (L.map (·.mod)).length := by
    have h1 : g < ((L.map (·.mod)).eraseIdx n).length := by rw [← hE]; simpa using hg
    have h2 := erase_back (L.map (·.mod)) n g
    rw [List.getElem?_eq_getElem h1] at h2
    exact (List.getElem?_eq_some_iff.1 h2.symm).1
  have hfg : f = back n g := nameAt_inj hd (by simpa using hf) hgl (by rw [hfn, ← name_back, hgn])
  subst hfg
  refine Rising.same hr hr' fun x => ?_
  rw [hm, hm']
  constructor
  · rintro ⟨k, hk, rfl⟩
    obtain ⟨j, rfl, hv⟩ := via_back (less_free hp h0 hu) hk
    exact ⟨j, hv, name_back _ _ _⟩
  · rintro ⟨k, hk, rfl⟩
    exact ⟨back n k, back_via hk, (name_back _ _ _).symm⟩
theorem less_risen {L : List Plc} {n : Nat} {p : Plc} (hp : L[n]? = some p) (h0 : comeErr L p.mod.name = 0) : risen (L.eraseIdx n) = lessOf p.mod.name (risen L) := by
  have hd := chk_nodup (comeErr_zero h0)
  have hd1 : (L.map (·.mod.name)).Nodup := by rw [List.map_map] at hd; exact hd
  have hd2 : ((L.eraseIdx n).map (·.mod.name)).Nodup := by rw [erase_map]; exact hd1.sublist (List.eraseIdx_sublist _ _)
  have hm : (L.map (·.mod))[n]? = some p.mod := by rw [List.getElem?_map, hp]; rfl
  have hE : (L.eraseIdx n).map (·.mod) = (L.map (·.mod)).eraseIdx n := erase_map _ _ _
  have key : ∀ (Ms : List Mod) (k : Nat) (m : Mod), (Ms.map (·.name)).Nodup → Ms[k]? = some m → lessOf m.name Ms = Ms.eraseIdx k := by
    intro Ms
    induction Ms with
    | nil => intro k m _ h; simp at h
    | cons y Ms ih =>
      intro k m hn h
      rw [List.map_cons, List.nodup_cons] at hn
      unfold lessOf
      rw [List.filter_cons]
      cases k with
      | zero =>
        obtain rfl : y = m := by simpa using h
        rw [if_neg (by rw [notN_iff]; exact fun h => h rfl), List.eraseIdx_cons_zero]
        refine List.filter_eq_self.2 fun o ho => notN_iff.2 fun e => hn.1 ?_
        rw [← e]
        exact List.mem_map_of_mem ho
      | succ k =>
        have h' : Ms[k]? = some m := by simpa using h
        rw [if_pos (notN_iff.2 fun e => hn.1 (by rw [e]; exact List.mem_map_of_mem (List.mem_of_getElem? h'))), List.eraseIdx_cons_succ]
        exact congrArg (y :: ·) (ih k m hn.2 h')
  have hq : (risen (L.eraseIdx n)).Perm (lessOf p.mod.name (risen L)) := by
    have h1 := risen_perm (L.eraseIdx n)
    rw [hE, ← key _ _ _ hd hm] at h1
    exact h1.trans ((risen_perm L).filter _).symm
  refine List.Perm.eq_of_pairwise (le := fun a b => leN a b = true) (fun a b ha hb h1 h2 => ?_) (risen_up _) ((risen_up L).sublist List.filter_sublist) hq
  simp only [leN, decide_eq_true_eq] at h1 h2
  have ha' := (risen_perm (L.eraseIdx n)).mem_iff.1 ha
  have hb' := (risen_perm (L.eraseIdx n)).mem_iff.1 (hq.mem_iff.2 hb)
  exact nodup_names (by rw [List.map_map]; exact hd2) ha' hb' (bytes_ext (List.le_antisymm h1 h2))
theorem less_order {L : List Plc} {n : Nat} {p : Plc} (hp : L[n]? = some p) (h0 : comeErr L p.mod.name = 0) (hu : ComeRes nxUse L p.mod.name []) : (ordOf L).2 = (ordOf (L.eraseIdx n)).2 ∧ ((ordOf L).2 = 0 → (ordOf (L.eraseIdx n)).1 = (ordOf L).1.filter (notN p.mod.name)) := by
  have hc := comeErr_zero h0
  have hc' := less_chk (n := n) h0
  have hr := less_risen hp h0
  have hd := chk_nodup hc
  have hd' := chk_nodup hc'
  have e1 : ordOf L = ordRes (risen L) := by unfold ordOf; rw [if_neg (by omega)]
  have e2 : ordOf (L.eraseIdx n) = ordRes (risen (L.eraseIdx n)) := by unfold ordOf; rw [if_neg (by omega)]
  have hnl : n < L.length := (List.getElem?_eq_some_iff.1 hp).1
  have hl : (risen L).length = (risen (L.eraseIdx n)).length + 1 := by
    rw [(risen_perm L).length_eq, (risen_perm (L.eraseIdx n)).length_eq, List.length_map, List.length_map, List.length_eraseIdx_of_lt hnl]
    omega
  cases h1 : orderFrom (risen L) (risen L).length [] with
  | some c =>
    have hst := order_stands .nil h1
    have hin : p.mod.name ∈ c := full_mem hst.1.nodup (l₂ := (risen L).map (·.name)) (fun x hx => by
      obtain ⟨m, hm, rfl⟩ := hst.1.names x hx
      exact List.mem_map_of_mem hm) (by rw [List.length_map, hst.2.1]; simp) _ (List.mem_map.2 ⟨p.mod, (risen_perm L).mem_iff.2 (List.mem_map_of_mem (List.mem_of_getElem? hp)), rfl⟩)
    have h1' := h1
    rw [hl] at h1'
    have h2 := order_less (x := p.mod) (less_asks hp h0 hu) (by simp) hin h1'
    rw [← hr] at h2
    have h3 : orderFrom (risen (L.eraseIdx n)) (risen (L.eraseIdx n)).length [] = some (c.filter (notN p.mod.name)) := h2
    rw [e1, e2, ordRes_some h1, ordRes_some h3]
    exact ⟨rfl, fun _ => rfl⟩
  | none =>
    have h2 : orderFrom (risen (L.eraseIdx n)) (risen (L.eraseIdx n)).length [] = none := by
      cases h3 : orderFrom (risen (L.eraseIdx n)) (risen (L.eraseIdx n)).length [] with
      | none => rfl
      | some c' =>
        obtain ⟨i, hi⟩ := order_round (risen_perm L) hd h1
        have hin : i ≠ n := by
          intro e
          subst e
          cases hi with
          | one e => exact less_free hp h0 hu _ e
          | more _ e => exact less_free hp h0 hu _ e
        obtain ⟨j, rfl⟩ := back_of hin
        obtain ⟨j', hj', hv⟩ := via_back (less_free hp h0 hu) hi
        have hjj : j' = j := by
          unfold back at hj'
          split at hj' <;> split at hj' <;> omega
        subst hjj
        have hE : (L.eraseIdx n).map (·.mod) = (L.map (·.mod)).eraseIdx n := erase_map _ _ _
        rw [← hE] at hv
        have hst := order_stands .nil h3
        exact absurd hv (hst.1.noRound (risen_perm _) hd' (by rw [hst.2.1, ← (risen_perm (L.eraseIdx n)).length_eq]; simp) _)
    rw [e1, e2, ordRes_none h1, ordRes_none h2]
    exact ⟨rfl, fun h => absurd h (by decide)⟩

end Go.Proofs.Ytaklbnabgcglhac
