/- Texts that are laid together. -/
import Derived.Test.YtaklbnabgcglhacMrgP
import Derived.Test.YtaklbnabgcglhacMrgC
import Derived.ProofKit
import Derived.OpenShut
import Derived.ShutString
import Derived.ChangeOld
import Derived.SizedLaws
import Derived.Below
import Derived.Carry
import Derived.Deep.Slices
import Derived.Test.YtaklbnabgcglhacMrgD

/- Without a module that nobody needs: what others need, and their order. -/
namespace Go.Proofs.Ytaklbnabgcglhac
open Go.RowKit Go.PlainAid

/-- The place in the whole of one that is left. -/
def back (n j : Nat) : Nat := if j < n then j else j + 1
theorem back_ne (n j : Nat) : back n j ≠ n := by unfold back; split <;> omega
theorem back_of {n k : Nat} (h : k ≠ n) : ∃ j, back n j = k := by
  by_cases hk : k < n
  · exact ⟨k, by unfold back; rw [if_pos hk]⟩
  · exact ⟨k - 1, by unfold back; rw [if_neg (by omega)]; omega⟩
theorem erase_back {α : Type} (l : List α) (n j : Nat) : (l.eraseIdx n)[j]? = l[back n j]? := by
  rw [List.getElem?_eraseIdx]
  unfold back
  split <;> rfl
theorem erase_map {α β : Type} (f : α → β) : ∀ (l : List α) (n : Nat), (l.eraseIdx n).map f = (l.map f).eraseIdx n
  | [], n => by simp
  | x :: l, 0 => by simp
  | x :: l, n + 1 => by simp [erase_map f l n]
theorem name_back (Ms : List Mod) (n j : Nat) : nameAt (Ms.eraseIdx n) j = nameAt Ms (back n j) := by
  unfold nameAt
  rw [erase_back]
theorem next_back {nx : Mod → Mod → Bool} {Ms : List Mod} {n i k : Nat} : Next nx (Ms.eraseIdx n) i k ↔ Next nx Ms (back n i) (back n k) := by
  unfold Next
  rw [erase_back, erase_back]
theorem via_back {nx : Mod → Mod → Bool} {Ms : List Mod} {n : Nat} (hn : ∀ i, ¬ Next nx Ms i n) {f : Nat} : ∀ {k : Nat}, Via (Next nx Ms) (back n f) k → ∃ j, back n j = k ∧ Via (Next nx (Ms.eraseIdx n)) f j := by
  intro k h
  refine h.walk (M := fun k => ∃ j, back n j = k ∧ Via (Next nx (Ms.eraseIdx n)) f j) (fun k e => ?_) (fun i' k _ ih e => ?_)
  · obtain ⟨j, hj⟩ := back_of (n := n) (k := k) (fun ee => by rw [ee] at e; exact hn _ e)
    exact ⟨j, hj, .one (next_back.2 (by rw [hj]; exact e))⟩
  · obtain ⟨i, hi, hv⟩ := ih
    obtain ⟨j, hj⟩ := back_of (n := n) (k := k) (fun ee => by rw [ee] at e; exact hn _ e)
    exact ⟨j, hj, hv.more (next_back.2 (by rw [hi, hj]; exact e))⟩
theorem back_via {nx : Mod → Mod → Bool} {Ms : List Mod} {n f k : Nat} (h : Via (Next nx (Ms.eraseIdx n)) f k) : Via (Next nx Ms) (back n f) (back n k) := by
  exact h.walk (M := fun k => Via (Next nx Ms) (back n f) (back n k)) (fun _ e => .one (next_back.1 e)) (fun _ _ _ ih e => ih.more (next_back.1 e))

theorem less_free {L : List Plc} {n : Nat} {p : Plc} (hp : L[n]? = some p) (h0 : comeErr L p.mod.name = 0) (hu : ComeRes nxUse L p.mod.name []) : ∀ i, ¬ Next nxNeed (L.map (·.mod)) i n := by
  intro i hi
  have hd := chk_nodup (comeErr_zero h0)
  obtain ⟨f, hf, hfn, hc⟩ := hu.ok h0
  have hm : (L.map (·.mod))[n]? = some p.mod := by rw [List.getElem?_map, hp]; rfl
  have hfe : f = n := nameAt_inj hd (by simpa using hf) (List.getElem?_eq_some_iff.1 hm).1 (by rw [hfn, nameAt_some hm])
  subst hfe
  have : nameAt (L.map (·.mod)) i ∈ ([] : List ByteArray) := (hc.2 _).2 ⟨i, .one (next_turn.2 hi), rfl⟩
  simp at this
theorem less_asks {L : List Plc} {n : Nat} {p : Plc} (hp : L[n]? = some p) (h0 : comeErr L p.mod.name = 0) (hu : ComeRes nxUse L p.mod.name []) : ∀ o ∈ risen L, asksM o p.mod.name = false := by
  intro o ho
  cases h : asksM o p.mod.name
  · rfl
  · obtain ⟨i, hi⟩ := List.getElem?_of_mem ((risen_perm L).mem_iff.1 ho)
    have hm : (L.map (·.mod))[n]? = some p.mod := by rw [List.getElem?_map, hp]; rfl
    exact absurd ⟨o, p.mod, hi, hm, h⟩ (less_free hp h0 hu i)
theorem less_chk {L : List Plc} {n : Nat} {p : Plc} (h0 : comeErr L p.mod.name = 0) : chkGraph (L.eraseIdx n) = 0 := by
  have h1 := chkGraph_zero.1 (comeErr_zero h0)
  refine chkGraph_zero.2 ⟨?_, fun q hq => h1.2.1 q (List.mem_of_mem_eraseIdx hq), ?_⟩
  · have := List.length_eraseIdx_le L n
    omega
  · rw [erase_map]
    exact h1.2.2.sublist (List.eraseIdx_sublist _ _)
theorem less_needs {L : List Plc} {n : Nat} {p : Plc} (hp : L[n]? = some p) (h0 : comeErr L p.mod.name = 0) (hu : ComeRes nxUse L p.mod.name []) {i : Nat} {q : Plc} (hq : (L.eraseIdx n)[i]? = some q) {xs ys : List ByteArray} (hx : ComeRes nxNeed L q.mod.name xs) (hy : ComeRes nxNeed (L.eraseIdx n) q.mod.name ys) : comeErr L q.mod.name = 0 ∧ comeErr (L.eraseIdx n) q.mod.name = 0 ∧ xs = ys := by
  have hc := comeErr_zero h0
  have hc' := less_chk (n := n) h0
  have e1 : comeErr (L.eraseIdx n) q.mod.name = 0 := comeErr_of hc' (List.mem_map_of_mem (List.mem_of_getElem? hq)) rfl
  have e2 : comeErr L q.mod.name = 0 := comeErr_of hc (List.mem_map_of_mem (List.mem_of_mem_eraseIdx (List.mem_of_getElem? hq))) rfl
  refine ⟨e2, e1, ?_⟩
  obtain ⟨f, hf, hfn, hr, hm⟩ := hx.ok e2
  obtain ⟨g, hg, hgn, hr', hm'⟩ := hy.ok e1
  have hE : (L.eraseIdx n).map (·.mod) = (L.map (·.mod)).eraseIdx n := erase_map _ _ _
  rw [hE] at hgn hm'
  have hd := chk_nodup hc
  have hgl : back n g < (L.map (·.mod)).length := by
    have h1 : g < ((L.map (·.mod)).eraseIdx n).length := by rw [← hE]; simpa using hg
    have h2 := erase_back (L.map (·.mod)) n g
    rw [List.getElem?_eq_getElem h1] at h2
    exact (List.getElem?_eq_some_iff.1 h2.symm).1
  have hfg : f = back n g := nameAt_inj hd (by simpa using hf) hgl (by rw [hfn, ← name_back, hgn])
  subst hfg
  refine Rising.same hr hr' fun x => ?_
  rw [hm, hm']
  constructor
  · rintro ⟨k, hk, rfl⟩
    obtain ⟨j, rfl, hv⟩ := via_back (less_free hp h0 hu) hk
    exact ⟨j, hv, name_back _ _ _⟩
  · rintro ⟨k, hk, rfl⟩
    exact ⟨back n k, back_via hk, (name_back _ _ _).symm⟩
theorem less_risen {L : List Plc} {n : Nat} {p : Plc} (hp : L[n]? = some p) (h0 : comeErr L p.mod.name = 0) : risen (L.eraseIdx n) = lessOf p.mod.name (risen L) := by
  have hd := chk_nodup (comeErr_zero h0)
  have hd1 : (L.map (·.mod.name)).Nodup := by rw [List.map_map] at hd; exact hd
  have hd2 : ((L.eraseIdx n).map (·.mod.name)).Nodup := by rw [erase_map]; exact hd1.sublist (List.eraseIdx_sublist _ _)
  have hm : (L.map (·.mod))[n]? = some p.mod := by rw [List.getElem?_map, hp]; rfl
  have hE : (L.eraseIdx n).map (·.mod) = (L.map (·.mod)).eraseIdx n := erase_map _ _ _
  have key : ∀ (Ms : List Mod) (k : Nat) (m : Mod), (Ms.map (·.name)).Nodup → Ms[k]? = some m → lessOf m.name Ms = Ms.eraseIdx k := by
    intro Ms
    induction Ms with
    | nil => intro k m _ h; simp at h
    | cons y Ms ih =>
      intro k m hn h
      rw [List.map_cons, List.nodup_cons] at hn
      unfold lessOf
      rw [List.filter_cons]
      cases k with
      | zero =>
        obtain rfl : y = m := by simpa using h
        rw [if_neg (by rw [notN_iff]; exact fun h => h rfl), List.eraseIdx_cons_zero]
        refine List.filter_eq_self.2 fun o ho => notN_iff.2 fun e => hn.1 ?_
        rw [← e]
        exact List.mem_map_of_mem ho
      | succ k =>
        have h' : Ms[k]? = some m := by simpa using h
        rw [if_pos (notN_iff.2 fun e => hn.1 (by rw [e]; exact List.mem_map_of_mem (List.mem_of_getElem? h'))), List.eraseIdx_cons_succ]
        exact congrArg (y :: ·) (ih k m hn.2 h')
  have hq : (risen (L.eraseIdx n)).Perm (lessOf p.mod.name (risen L)) := by
    have h1 := risen_perm (L.eraseIdx n)
    rw [hE, ← key _ _ _ hd hm] at h1
    exact h1.trans ((risen_perm L).filter _).symm
  refine List.Perm.eq_of_pairwise (le := fun a b => leN a b = true) (fun a b ha hb h1 h2 => ?_) (risen_up _) ((risen_up L).sublist List.filter_sublist) hq
  simp only [leN, decide_eq_true_eq] at h1 h2
  have ha' := (risen_perm (L.eraseIdx n)).mem_iff.1 ha
  have hb' := (risen_perm (L.eraseIdx n)).mem_iff.1 (hq.mem_iff.2 hb)
  exact nodup_names (by rw [List.map_map]; exact hd2) ha' hb' (bytes_ext (List.le_antisymm h1 h2))
theorem less_order {L : List Plc} {n : Nat} {p : Plc} (hp : L[n]? = some p) (h0 : comeErr L p.mod.name = 0) (hu : ComeRes nxUse L p.mod.name []) : (ordOf L).2 = (ordOf (L.eraseIdx n)).2 ∧ ((ordOf L).2 = 0 → (ordOf (L.eraseIdx n)).1 = (ordOf L).1.filter (notN p.mod.name)) := by
  have hc := comeErr_zero h0
  have hc' := less_chk (n := n) h0
  have hr := less_risen hp h0
  have hd := chk_nodup hc
  have hd' := chk_nodup hc'
  have e1 : ordOf L = ordRes (risen L) := by unfold ordOf; rw [if_neg (by omega)]
  have e2 : ordOf (L.eraseIdx n) = ordRes (risen (L.eraseIdx n)) := by unfold ordOf; rw [if_neg (by omega)]
  have hnl : n < L.length := (List.getElem?_eq_some_iff.1 hp).1
  have hl : (risen L).length = (risen (L.eraseIdx n)).length + 1 := by
    rw [(risen_perm L).length_eq, (risen_perm (L.eraseIdx n)).length_eq, List.length_map, List.length_map, List.length_eraseIdx_of_lt hnl]
    omega
  cases h1 : orderFrom (risen L) (risen L).length [] with
  | some c =>
    have hst := order_stands .nil h1
    have hin : p.mod.name ∈ c := full_mem hst.1.nodup (l₂ := (risen L).map (·.name)) (fun x hx => by
      obtain ⟨m, hm, rfl⟩ := hst.1.names x hx
      exact List.mem_map_of_mem hm) (by rw [List.length_map, hst.2.1]; simp) _ (List.mem_map.2 ⟨p.mod, (risen_perm L).mem_iff.2 (List.mem_map_of_mem (List.mem_of_getElem? hp)), rfl⟩)
    have h1' := h1
    rw [hl] at h1'
    have h2 := order_less (x := p.mod) (less_asks hp h0 hu) (by simp) hin h1'
    rw [← hr] at h2
    have h3 : orderFrom (risen (L.eraseIdx n)) (risen (L.eraseIdx n)).length [] = some (c.filter (notN p.mod.name)) := h2
    rw [e1, e2, ordRes_some h1, ordRes_some h3]
    exact ⟨rfl, fun _ => rfl⟩
  | none =>
    have h2 : orderFrom (risen (L.eraseIdx n)) (risen (L.eraseIdx n)).length [] = none := by
      cases h3 : orderFrom (risen (L.eraseIdx n)) (risen (L.eraseIdx n)).length [] with
      | none => rfl
      | some c' =>
        obtain ⟨i, hi⟩ := order_round (risen_perm L) hd h1
        have hin : i ≠ n := by
          intro e
          subst e
          exact hi.walk (M := fun k => k ≠ i) (fun k e ek => less_free hp h0 hu _ (ek ▸ e)) (fun _ k _ _ e ek => less_free hp h0 hu _ (ek ▸ e)) rfl
        obtain ⟨j, rfl⟩ := back_of hin
        obtain ⟨j', hj', hv⟩ := via_back (less_free hp h0 hu) hi
        have hjj : j' = j := by
          unfold back at hj'
          split at hj' <;> split at hj' <;> omega
        subst hjj
        have hE : (L.eraseIdx n).map (·.mod) = (L.map (·.mod)).eraseIdx n := erase_map _ _ _
        rw [← hE] at hv
        have hst := order_stands .nil h3
        exact absurd hv (hst.1.noRound (risen_perm _) hd' (by rw [hst.2.1, ← (risen_perm (L.eraseIdx n)).length_eq]; simp) _)
    rw [e1, e2, ordRes_none h1, ordRes_none h2]
    exact ⟨rfl, fun h => absurd h (by decide)⟩

end Go.Proofs.Ytaklbnabgcglhac

/- Arguments that came in: texts, numbers, rows, a patch. -/
namespace Go.Proofs.Ytaklbnabgcglhac
open Go.ChangeShapes Go.WideShapes Go.ChangeAt Go.RowKit Go.PlainAid Go.Deep

set_option maxRecDepth 100000

theorem list7 {α : Type} {l : List α} (h : l.length = 7) : ∃ a b c d e f g, l = [a, b, c, d, e, f, g] := by
  match l, h with
  | [a, b, c, d, e, f, g], _ => exact ⟨a, b, c, d, e, f, g, rfl⟩
theorem list4 {α : Type} {l : List α} (h : l.length = 4) : ∃ a b c d, l = [a, b, c, d] := by
  match l, h with
  | [a, b, c, d], _ => exact ⟨a, b, c, d, rfl⟩
theorem list2 {α : Type} {l : List α} (h : l.length = 2) : ∃ a b, l = [a, b] := by
  match l, h with
  | [a, b], _ => exact ⟨a, b, rfl⟩

section
variable {H : Type} {enc : TypeId × Value → H} {W : World} {spare : Nat → Bool} {held : Bool}

theorem row_of_trod {α : Type} [Inhabited α] {t e : TypeId} {sz fuel : Nat} {c : Value} {y : DataW H × List MemPlace} {cells : α → Nat → Value} {good : α → Prop} (ht : Try.prog.underlying t = some (.slice e)) (hsz : Try.prog.cellsOf e = sz) (h0 : 0 < sz)
    (conv : ∀ n cs z, cs.length = sz → DataW.trod enc Try.prog W 0 spare held n e cs = some z → ∃ x : α, (∀ i, i < sz → cs[i]? = some (cells x i)) ∧ good x)
    (h : DataW.trod enc Try.prog W 0 spare held fuel t [c] = some y) : ∃ l : List α, RowOf sz cells W.heap.size W c l ∧ ∀ x ∈ l, good x := by
  rcases open_slice ht h with ⟨hc, _⟩ | ⟨a, len, cap, m, n, D, Pl, hc, _, hl, hm, hmm, _, hx⟩
  · injection hc with hc
    subst hc
    exact ⟨[], ⟨none, 0, rfl, Nat.zero_le _, .inl rfl⟩, by simp⟩
  · injection hc with hc
    subst hc
    rw [hsz] at hx
    have hle : len ≤ m := by rw [hmm]; split <;> omega
    obtain ⟨X, hX⟩ := choose_lt (α := α) (n := len) (p := fun i x => (∀ j, j < sz → W.cell? (a.add (i * sz + j)) = some (cells x j)) ∧ good x) (fun i hi => by
      obtain ⟨cs', h1, h2⟩ := hx i (by omega)
      obtain ⟨_, hlen, hcell⟩ := World.cells?_some h1
      obtain ⟨x, hx1, hx2⟩ := conv n cs' _ hlen h2
      refine ⟨x, fun j hj => ?_, hx2⟩
      have h3 := hcell j hj
      rw [hx1 j hj] at h3
      have hadd : (a.add (i * sz)).add j = a.add (i * sz + j) ∨ W.cell? ((a.add (i * sz)).add j) = W.cell? (a.add (i * sz + j)) := by
        unfold Addr.add
        by_cases e1 : i * sz = 0
        · rw [if_pos e1, e1, Nat.zero_add]; exact .inl rfl
        · rw [if_neg e1]
          by_cases e2 : j = 0
          · rw [if_pos e2, e2, Nat.add_zero, if_neg e1]; exact .inl rfl
          · rw [if_neg e2, if_neg (by omega), Nat.add_assoc]; exact .inl rfl
      rcases hadd with hadd | hadd
      · rw [← hadd]; exact h3
      · rw [← hadd]; exact h3)
    refine ⟨(List.range len).map X, ⟨some a, cap, by simp, by simp; unfold maxLen at hm; omega, ?_⟩, ?_⟩
    · by_cases hz : len = 0
      · left
        subst hz
        rfl
      · right
        have hc0 := (hX 0 (by omega)).1 0 h0
        rw [Nat.zero_mul, Nat.zero_add] at hc0
        obtain ⟨b, off, spot⟩ := a
        have hsp : spot = none := by simpa [Addr.add] using World.cell?_spot hc0
        subst hsp
        refine ⟨b, off, rfl, ?_, fun j x hj i hi => ?_⟩
        · have := World.block_lt_of_cell? W _ hc0
          simpa [Addr.add] using this
        · have hjl : j < len := by
            have := (List.getElem?_eq_some_iff.1 hj).1
            simpa using this
          obtain rfl : X j = x := by
            rw [List.getElem?_map, List.getElem?_range hjl] at hj
            simpa using hj
          have h4 := (hX j hjl).1 i hi
          unfold Addr.add at h4
          by_cases e0 : j * sz + i = 0
          · rw [if_pos e0] at h4
            rw [Nat.add_assoc, e0]
            exact h4
          · rw [if_neg e0] at h4
            rw [Nat.add_assoc]
            exact h4
    · intro x hx
      obtain ⟨i, hi, rfl⟩ := List.mem_map.1 hx
      exact (hX i (by simpa using hi)).2

theorem str_of_trod {n : Nat} {c : Value} {y : DataW H × List MemPlace} (h : DataW.trod enc Try.prog W 0 spare held n 9 [c] = some y) : ∃ s : ByteArray, c = .string s ∧ s.size ≤ 9223372036854775807 := by
  obtain ⟨s, hc, _, hs⟩ := DataW.trod_string Try.underlying9 h
  injection hc with hc
  exact ⟨s, hc, hs⟩
theorem int_of_trod {n : Nat} {c : Value} {y : DataW H × List MemPlace} (h : DataW.trod enc Try.prog W 0 spare held n 3 [c] = some y) : ∃ k : Int, c = .int .i64 k := by
  obtain ⟨k, hc, _, _⟩ := DataW.trod_int Try.underlying3 h
  injection hc with hc
  exact ⟨k, hc⟩

theorem exp_of_trod (n : Nat) (cs : List Value) (z : DataW H × List MemPlace) (hl : cs.length = 2) (h : DataW.trod enc Try.prog W 0 spare held n 101 cs = some z) : ∃ x : Exp, (∀ i, i < 2 → cs[i]? = some (Exp.cell x i)) ∧ x.name.size ≤ 9223372036854775807 := by
  obtain ⟨xs, m, _, _, _, hlen, hf⟩ := DataW.trod_struct Try.underlying101 h
  obtain ⟨x0, x1, rfl⟩ := list2 hlen
  obtain ⟨c0, c1, rfl⟩ := list2 hl
  obtain ⟨s, rfl, hs⟩ := str_of_trod (hf 0 _ rfl)
  obtain ⟨k, rfl⟩ := int_of_trod (hf 1 _ rfl)
  refine ⟨⟨s, k⟩, fun i hi => ?_, hs⟩
  have : i = 0 ∨ i = 1 := by omega
  rcases this with rfl | rfl <;> rfl
theorem imp_of_trod (n : Nat) (cs : List Value) (z : DataW H × List MemPlace) (hl : cs.length = 4) (h : DataW.trod enc Try.prog W 0 spare held n 71 cs = some z) : ∃ x : Imp, (∀ i, i < 4 → cs[i]? = some (Imp.cell x i)) ∧ x.fits := by
  obtain ⟨xs, m, _, _, _, hlen, hf⟩ := DataW.trod_struct Try.underlying71 h
  obtain ⟨x0, x1, x2, x3, rfl⟩ := list4 hlen
  obtain ⟨c0, c1, c2, c3, rfl⟩ := list4 hl
  obtain ⟨s, rfl, hs⟩ := str_of_trod (hf 0 _ rfl)
  obtain ⟨t, rfl, ht⟩ := str_of_trod (hf 1 _ rfl)
  obtain ⟨k, rfl⟩ := int_of_trod (hf 2 _ rfl)
  obtain ⟨j, rfl⟩ := int_of_trod (hf 3 _ rfl)
  refine ⟨⟨s, t, k, j⟩, fun i hi => ?_, ⟨hs, ht⟩⟩
  have : i = 0 ∨ i = 1 ∨ i = 2 ∨ i = 3 := by omega
  rcases this with rfl | rfl | rfl | rfl <;> rfl
theorem pat_of_trod (n : Nat) (cs : List Value) (z : DataW H × List MemPlace) (hl : cs.length = 4) (h : DataW.trod enc Try.prog W 0 spare held n 73 cs = some z) : ∃ x : Pat, (∀ i, i < 4 → cs[i]? = some (Pat.cell x i)) ∧ True := by
  obtain ⟨xs, m, _, _, _, hlen, hf⟩ := DataW.trod_struct Try.underlying73 h
  obtain ⟨x0, x1, x2, x3, rfl⟩ := list4 hlen
  obtain ⟨c0, c1, c2, c3, rfl⟩ := list4 hl
  obtain ⟨a, rfl⟩ := int_of_trod (hf 0 _ rfl)
  obtain ⟨b, rfl⟩ := int_of_trod (hf 1 _ rfl)
  obtain ⟨k, rfl⟩ := int_of_trod (hf 2 _ rfl)
  obtain ⟨j, rfl⟩ := int_of_trod (hf 3 _ rfl)
  refine ⟨⟨a, b, k, j⟩, fun i hi => ?_, trivial⟩
  have : i = 0 ∨ i = 1 ∨ i = 2 ∨ i = 3 := by omega
  rcases this with rfl | rfl | rfl | rfl <;> rfl

theorem open_patch {v : Value} {d : DataW H} {ps : List MemPlace} {base : Nat} (hv : Value.okWide Try.prog W .any base 73 v) (h : DataW.Trod enc Try.prog W 0 spare held 73 v d ps) : ∃ p : Pat, v = .agg #[.int .i64 p.kind, .int .i64 p.pos, .int .i64 p.sym, .int .i64 p.add] := by
  obtain ⟨cs, rfl, hcs⟩ := okWide_struct Try.underlying73 hv
  obtain ⟨fuel, hf⟩ := h
  obtain ⟨xs, m, _, _, hl, hlen, hf⟩ := DataW.trod_struct Try.underlying73 hf
  have hc4 : Try.prog.cellsOf 73 = 4 := by kernel_rfl
  obtain ⟨x0, x1, x2, x3, rfl⟩ := list4 hlen
  rw [hc4] at hl
  obtain ⟨c0, c1, c2, c3, hcl⟩ := list4 hl
  have hcs' : cs.toList = [c0, c1, c2, c3] := hcl
  have hcA : cs = #[c0, c1, c2, c3] := by rw [← Array.toArray_toList (xs := cs), hcs']
  subst hcA
  have f0 := hf 0 _ rfl
  have f1 := hf 1 _ rfl
  have f2 := hf 2 _ rfl
  have f3 := hf 3 _ rfl
  obtain ⟨a, rfl⟩ := int_of_trod f0
  obtain ⟨b, rfl⟩ := int_of_trod f1
  obtain ⟨c, rfl⟩ := int_of_trod f2
  obtain ⟨e, rfl⟩ := int_of_trod f3
  exact ⟨⟨a, b, c, e⟩, rfl⟩
end

end Go.Proofs.Ytaklbnabgcglhac

/- A module that came in. -/
namespace Go.Proofs.Ytaklbnabgcglhac
open Go.ChangeShapes Go.WideShapes Go.ChangeAt Go.RowKit Go.PlainAid Go.Deep

set_option maxRecDepth 100000

section
variable {H : Type} {enc : TypeId × Value → H} {W : World} {spare : Nat → Bool} {held : Bool}

theorem open_module {v : Value} {d : DataW H} {ps : List MemPlace} {base : Nat} (hv : Value.okWide Try.prog W .any base 36 v) (h : DataW.Trod enc Try.prog W 0 spare held 36 v d ps) : ∃ M, IsMod W.heap.size W v M ∧ M.fits := by
  obtain ⟨cs, rfl, hcs⟩ := okWide_struct Try.underlying36 hv
  obtain ⟨fuel, hf⟩ := h
  obtain ⟨xs, m, _, _, hl, hlen, hf⟩ := DataW.trod_struct Try.underlying36 hf
  have hc7 : Try.prog.cellsOf 36 = 7 := by kernel_rfl
  obtain ⟨x0, x1, x2, x3, x4, x5, x6, rfl⟩ := list7 hlen
  rw [hc7] at hl
  obtain ⟨c0, c1, c2, c3, c4, c5, c6, hcl⟩ := list7 hl
  have hcs' : cs.toList = [c0, c1, c2, c3, c4, c5, c6] := hcl
  have hcA : cs = #[c0, c1, c2, c3, c4, c5, c6] := by rw [← Array.toArray_toList (xs := cs), hcs']
  subst hcA
  have f0 := hf 0 _ rfl
  have f1 := hf 1 _ rfl
  have f2 := hf 2 _ rfl
  have f3 := hf 3 _ rfl
  have f4 := hf 4 _ rfl
  have f5 := hf 5 _ rfl
  have f6 := hf 6 _ rfl
  obtain ⟨N, rfl, hN⟩ := str_of_trod f0
  obtain ⟨a, rfl⟩ := int_of_trod f1
  obtain ⟨b, rfl⟩ := int_of_trod f2
  obtain ⟨T, rfl, hT⟩ := str_of_trod f3
  have _ : Inhabited Exp := ⟨⟨⟨#[]⟩, 0⟩⟩
  have _ : Inhabited Imp := ⟨⟨⟨#[]⟩, ⟨#[]⟩, 0, 0⟩⟩
  have _ : Inhabited Pat := ⟨⟨0, 0, 0, 0⟩⟩
  obtain ⟨es, hE, gE⟩ := row_of_trod (cells := Exp.cell) Try.underlying32 (sz := 2) (by kernel_rfl) (by decide) exp_of_trod f4
  obtain ⟨is, hI, gI⟩ := row_of_trod (cells := Imp.cell) Try.underlying33 (sz := 4) (by kernel_rfl) (by decide) imp_of_trod f5
  obtain ⟨ps, hP, _⟩ := row_of_trod (cells := Pat.cell) Try.underlying34 (sz := 4) (by kernel_rfl) (by decide) pat_of_trod f6
  exact ⟨⟨N, a, b, T, es, is, ps⟩, ⟨c4, c5, c6, rfl, hE, hI, hP⟩, hN, hT, gE, gI⟩
end

end Go.Proofs.Ytaklbnabgcglhac
