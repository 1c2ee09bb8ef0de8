/- Texts that are laid together. -/
import Derived.Test.YtlpnfbpgnfappaaGreatMrgI
import Derived.Test.YtlpnfbpgnfappaaGreatMrgC
import Derived.Sort.KeysCollected
import Derived.Laws.EntriesVeiled
import Derived.Test.YtlpnfbpgnfappaaGreatMrgG
import Derived.Test.YtlpnfbpgnfappaaGreatMrgD
import Derived.Shelf.SlSortCmp.SmallK
import Derived.Ground.SlsfProg
import Derived.Test.YtlpnfbpgnfappaaGreatProg

/- Orders: what stands in them, when there is none, and what is left without one that nobody asks. -/
namespace Go.Proofs.YtlpnfbpgnfappaaGreat
open Go.RowKit Go.PlainAid

/-- One asks another one. -/
def nxNeed (a o : Mod) : Bool := asksM a o.name
/-- One is asked by another one. -/
def nxUse (a o : Mod) : Bool := asksM o a.name
theorem next_turn {Ms : List Mod} {i k : Nat} : Next nxUse Ms i k ↔ Next nxNeed Ms k i := by
  constructor
  · rintro ⟨x, y, h1, h2, h3⟩; exact ⟨y, x, h2, h1, h3⟩
  · rintro ⟨x, y, h1, h2, h3⟩; exact ⟨y, x, h2, h1, h3⟩
theorem via_turn {Ms : List Mod} {i k : Nat} : Via (Next nxUse Ms) i k ↔ Via (Next nxNeed Ms) k i := by
  constructor
  · intro h
    have := h.turn
    exact Via.closed (S := fun a => Via (Next nxNeed Ms) k a) (fun a ha => .one (next_turn.1 ha)) (fun a b ha hb => ha.more (next_turn.1 hb)) this
  · intro h
    have := h.turn
    exact Via.closed (S := fun a => Via (Next nxUse Ms) i a) (fun a ha => .one (next_turn.2 ha)) (fun a b ha hb => ha.more (next_turn.2 hb)) this
theorem Via.lt_of {nx : Mod → Mod → Bool} {Ms : List Mod} {i k : Nat} (h : Via (Next nx Ms) i k) : i < Ms.length ∧ k < Ms.length := by
  exact h.walk (M := fun k => i < Ms.length ∧ k < Ms.length) (fun _ e => e.lt) (fun _ _ _ ih e => ⟨ih.1, e.lt.2⟩)

theorem mem_nameAt {Ms : List Mod} {i : Nat} (h : i < Ms.length) : ∃ m ∈ Ms, Ms[i]? = some m ∧ nameAt Ms i = m.name :=
  ⟨Ms[i], List.getElem_mem h, List.getElem?_eq_getElem h, nameAt_some (List.getElem?_eq_getElem h)⟩
theorem nameAt_mem {Ms : List Mod} {m : Mod} (h : m ∈ Ms) : ∃ i, i < Ms.length ∧ Ms[i]? = some m ∧ nameAt Ms i = m.name := by
  obtain ⟨i, hi⟩ := List.getElem?_of_mem h
  exact ⟨i, (List.getElem?_eq_some_iff.1 hi).1, hi, nameAt_some hi⟩

section
variable {Rs Ms : List Mod} (hp : Rs.Perm Ms)
include hp

/-- What stands ahead is closed under asking. -/
theorem Stands.via {c : List ByteArray} (h : Stands Rs c) (hd : (Ms.map (·.name)).Nodup) {f k : Nat} (hv : Via (Next nxNeed Ms) f k) : ∀ j, c[j]? = some (nameAt Ms f) → nameAt Ms k ∈ c.take j := by
  have step : ∀ a b j, Next nxNeed Ms a b → c[j]? = some (nameAt Ms a) → nameAt Ms b ∈ c.take j := by
    intro a b j hab hj
    obtain ⟨x, y, hx, hy, hxy⟩ := hab
    obtain ⟨m, hm, hmx, _, hall⟩ := h.at j _ hj
    rw [nameAt_some hx] at hmx
    have e : m = x := nodup_names hd (hp.mem_iff.1 hm) (List.mem_of_getElem? hx) hmx
    subst e
    rw [nameAt_some hy]
    exact hall y (hp.mem_iff.2 (List.mem_of_getElem? hy)) hxy
  refine hv.walk (M := fun k => ∀ j, c[j]? = some (nameAt Ms f) → nameAt Ms k ∈ c.take j) (fun _ e j hj => step _ _ j e hj) (fun _ _ _ ih e => ?_)
  · intro j hj
    have h1 := ih j hj
    obtain ⟨i, hi, he⟩ := List.mem_take_iff_getElem.1 h1
    have hi2 : i < c.length := by omega
    have h2 := step _ _ i e (by rw [List.getElem?_eq_getElem hi2, he])
    exact List.mem_of_mem_take (i := i) (by
      rw [List.take_take, show min i j = i by omega]
      exact h2)

theorem Stands.noRound {c : List ByteArray} (h : Stands Rs c) (hd : (Ms.map (·.name)).Nodup) (hl : c.length = Ms.length) (i : Nat) : ¬ Via (Next nxNeed Ms) i i := by
  intro hv
  have hil := hv.lt_of.1
  have hall : ∀ x ∈ Ms.map (·.name), x ∈ c := full_mem h.nodup (fun x hx => by
    obtain ⟨m, hm, rfl⟩ := h.names x hx
    exact List.mem_map_of_mem (hp.mem_iff.1 hm)) (by simp; omega)
  obtain ⟨m, hm, hmi, hmn⟩ := mem_nameAt hil
  obtain ⟨j, hj⟩ := List.getElem?_of_mem (hall m.name (List.mem_map_of_mem hm))
  rw [← hmn] at hj
  have h1 := h.via hp hd hv j hj
  obtain ⟨_, _, _, h2, _⟩ := h.at j _ hj
  exact h2 h1

theorem order_round (hd : (Ms.map (·.name)).Nodup) (h : orderFrom Rs Rs.length [] = none) : ∃ i, Via (Next nxNeed Ms) i i := by
  obtain ⟨met, hs, hlen, hno⟩ := order_none .nil h
  simp at hlen
  have hne : (List.range Ms.length).filter (fun i => @decide (nameAt Ms i ∉ met) (Classical.propDecidable _)) ≠ [] := by
    intro he
    have hsub : ∀ x ∈ Ms.map (·.name), x ∈ met := by
      intro x hx
      obtain ⟨m, hm, rfl⟩ := List.mem_map.1 hx
      obtain ⟨i, hi, _, hn⟩ := nameAt_mem hm
      refine Classical.byContradiction fun hn2 => ?_
      have : i ∈ (List.range Ms.length).filter (fun i => @decide (nameAt Ms i ∉ met) (Classical.propDecidable _)) := by
        rw [List.mem_filter, @decide_eq_true_iff _ (Classical.propDecidable _), hn]
        exact ⟨List.mem_range.2 hi, hn2⟩
      rw [he] at this
      simp at this
    have := List.Nodup.length_le_of_subset hd hsub
    rw [List.length_map, ← hp.length_eq] at this
    omega
  obtain ⟨i, _, hi⟩ := comes_back (E := Next nxNeed Ms) _ _ (Nat.le_refl _) hne (fun i hi => by
    rw [List.mem_filter, @decide_eq_true_iff _ (Classical.propDecidable _)] at hi
    obtain ⟨m, hm, hmi, hmn⟩ := mem_nameAt (List.mem_range.1 hi.1)
    have hw : m.name ∉ met := by rw [← hmn]; exact hi.2
    have hnm := hno m (hp.mem_iff.2 hm)
    have : ∃ o ∈ Rs, asksM m o.name = true ∧ o.name ∉ met := by
      refine Classical.byContradiction fun hn => ?_
      have : mayB Rs met m = true := may_iff.2 ⟨hw, fun o ho ha => Classical.byContradiction fun h => hn ⟨o, ho, ha, h⟩⟩
      rw [hnm] at this
      cases this
    obtain ⟨o, ho, ha, hw2⟩ := this
    obtain ⟨k, hk, hko, hkn⟩ := nameAt_mem (hp.mem_iff.1 ho)
    refine ⟨k, ?_, m, o, hmi, hko, ha⟩
    rw [List.mem_filter, @decide_eq_true_iff _ (Classical.propDecidable _), hkn]
    exact ⟨List.mem_range.2 hk, hw2⟩)
  exact ⟨i, hi⟩
end

/-- Without one that nobody asks. -/
theorem less_may {Rs : List Mod} {x : Mod} (hx : ∀ o ∈ Rs, asksM o x.name = false) {Rs' : List Mod} (hR : ∀ o, o ∈ Rs' ↔ o ∈ Rs ∧ o.name ≠ x.name) {met met' : List ByteArray} (hm : ∀ y, y ∈ met' ↔ y ∈ met ∧ y ≠ x.name) {o : Mod} (ho : o ∈ Rs) (hox : o.name ≠ x.name) : mayB Rs' met' o = mayB Rs met o := by
  rw [Bool.eq_iff_iff, may_iff, may_iff, hm]
  constructor
  · rintro ⟨h1, h2⟩
    refine ⟨fun h => h1 ⟨h, hox⟩, fun p hp ha => ?_⟩
    have hpx : p.name ≠ x.name := fun e => by rw [e, hx o ho] at ha; cases ha
    exact ((hm _).1 (h2 p ((hR p).2 ⟨hp, hpx⟩) ha)).1
  · rintro ⟨h1, h2⟩
    refine ⟨fun h => h1 h.1, fun p hp ha => ?_⟩
    exact (hm _).2 ⟨h2 p ((hR p).1 hp).1 ha, ((hR p).1 hp).2⟩
def notN (n : ByteArray) (y : ByteArray) : Bool := !(y == n)
theorem notN_iff {n y : ByteArray} : notN n y = true ↔ y ≠ n := by
  unfold notN
  rw [Bool.not_eq_true', ← Bool.not_eq_true, Go.MapKept.bytes_beq]
def lessOf (n : ByteArray) (Rs : List Mod) : List Mod := Rs.filter fun o => notN n o.name
theorem mem_less {n : ByteArray} {Rs : List Mod} {o : Mod} : o ∈ lessOf n Rs ↔ o ∈ Rs ∧ o.name ≠ n := by
  unfold lessOf
  rw [List.mem_filter, notN_iff]
theorem mem_lessN {n : ByteArray} {met : List ByteArray} (y : ByteArray) : y ∈ met.filter (notN n) ↔ y ∈ met ∧ y ≠ n := by rw [List.mem_filter, notN_iff]
theorem find_less {p q : Mod → Bool} {n : ByteArray} : ∀ {Rs : List Mod}, (∀ o ∈ Rs, o.name ≠ n → p o = q o) → ∀ {m : Mod}, Rs.find? q = some m → m.name ≠ n → (lessOf n Rs).find? p = some m
  | [], _, _, h, _ => by cases h
  | o :: Rs, hpq, m, h, hm => by
    rw [List.find?_cons] at h
    have hrest : ∀ o ∈ Rs, o.name ≠ n → p o = q o := fun o ho => hpq o (by simp [ho])
    unfold lessOf
    rw [List.filter_cons]
    split at h
    · injection h with h
      subst h
      rename_i hq
      rw [if_pos (notN_iff.2 hm), List.find?_cons, hpq o (by simp) hm, hq]
    · rename_i hq
      by_cases ho : o.name = n
      · rw [if_neg (by rw [notN_iff]; exact fun h => h ho)]
        exact find_less hrest h hm
      · rw [if_pos (notN_iff.2 ho), List.find?_cons, hpq o (by simp) ho, hq]
        exact find_less hrest h hm
theorem less_snoc {n y : ByteArray} (met : List ByteArray) (h : y ≠ n) : (met ++ [y]).filter (notN n) = met.filter (notN n) ++ [y] := by
  rw [List.filter_append, List.filter_cons, if_pos (notN_iff.2 h)]; rfl
theorem less_snoc_not {n : ByteArray} (met : List ByteArray) : (met ++ [n]).filter (notN n) = met.filter (notN n) := by
  rw [List.filter_append, List.filter_cons, if_neg (by rw [notN_iff]; exact fun h => h rfl)]; simp
theorem order_less_met {Rs : List Mod} {x : Mod} (hx : ∀ o ∈ Rs, asksM o x.name = false) : ∀ {n : Nat} {met c : List ByteArray}, x.name ∈ met → orderFrom Rs n met = some c → orderFrom (lessOf x.name Rs) n (met.filter (notN x.name)) = some (c.filter (notN x.name))
  | 0, met, c, _, h => by
    have : met = c := by simpa [orderFrom] using h
    subst this
    rfl
  | n + 1, met, c, hm, h => by
    unfold orderFrom at h ⊢
    split at h
    · cases h
    rename_i m hf
    have hmx : m.name ≠ x.name := fun e => (may_iff.1 (List.find?_some hf)).1 (by rw [e]; exact hm)
    rw [find_less (p := mayB (lessOf x.name Rs) (met.filter (notN x.name))) (fun o ho hox => less_may hx (fun o => mem_less) mem_lessN ho hox) hf hmx]
    dsimp only
    rw [← less_snoc met hmx]
    exact order_less_met hx (by simp [hm]) h
theorem order_less {Rs : List Mod} {x : Mod} (hx : ∀ o ∈ Rs, asksM o x.name = false) : ∀ {n : Nat} {met c : List ByteArray}, x.name ∉ met → x.name ∈ c → orderFrom Rs (n + 1) met = some c → orderFrom (lessOf x.name Rs) n (met.filter (notN x.name)) = some (c.filter (notN x.name)) := by
  intro n
  induction n with
  | zero =>
    intro met c hm hc h
    unfold orderFrom at h
    split at h
    · cases h
    rename_i m hf
    have he : met ++ [m.name] = c := by simpa [orderFrom] using h
    subst he
    have hmx : m.name = x.name := by
      rcases List.mem_append.1 hc with hc | hc
      · exact absurd hc hm
      · exact (List.mem_singleton.1 hc).symm
    rw [hmx, less_snoc_not]
    rfl
  | succ n ih =>
    intro met c hm hc h
    unfold orderFrom at h
    split at h
    · cases h
    rename_i m hf
    by_cases hmx : m.name = x.name
    · rw [hmx] at h
      have := order_less_met hx (by simp) h
      rw [less_snoc_not] at this
      exact this
    · unfold orderFrom
      rw [find_less (p := mayB (lessOf x.name Rs) (met.filter (notN x.name))) (fun o ho hox => less_may hx (fun o => mem_less) mem_lessN ho hox) hf hmx]
      dsimp only
      rw [← less_snoc met hmx]
      exact ih (by simp [hm]; exact fun e => hmx e.symm) hc h

end Go.Proofs.YtlpnfbpgnfappaaGreat

/- Sorted names in memory. -/
namespace Go.Proofs.YtlpnfbpgnfappaaGreat
open Go.RowKit Go.PlainAid Go.Maps

set_option maxRecDepth 100000

def strCell (x : ByteArray) (_ : Nat) : Value := .string x
def strC (x : ByteArray) : List Value := [.string x]
theorem strC_at (x : ByteArray) (i : Nat) (hi : i < 1) : (strC x)[i]? = some (strCell x i) := by
  obtain rfl : i = 0 := by omega
  rfl
theorem flat_str : ∀ l : List (List UInt8), l.map encStr = (l.map fun x => (⟨x.toArray⟩ : ByteArray)).flatMap strC
  | [] => rfl
  | x :: l => by rw [List.map_cons, List.map_cons, List.flatMap_cons, ← flat_str l]; rfl

theorem merge_rising {ss : List (List UInt8)} (hn : ss.Nodup) : Rising ((ss.mergeSort leB).map fun x => (⟨x.toArray⟩ : ByteArray)) := by
  have tr : ∀ a b c : List UInt8, leB a b = true → leB b c = true → leB a c = true := fun a b c h1 h2 => by simp only [leB, decide_eq_true_eq] at *; exact List.le_trans h1 h2
  have to : ∀ a b : List UInt8, (leB a b || leB b a) = true := fun a b => by simp only [leB, Bool.or_eq_true, decide_eq_true_eq]; exact List.le_total a b
  have h1 := List.pairwise_mergeSort tr to ss
  have h2 : (ss.mergeSort leB).Nodup := (List.mergeSort_perm ss leB).nodup_iff.2 hn
  refine List.pairwise_map.2 ((h1.and h2).imp fun {a b} ⟨h3, h4⟩ => ?_)
  show a < b
  simp only [leB, decide_eq_true_eq] at h3
  exact Classical.byContradiction fun h5 => h4 (List.le_antisymm h3 (List.not_lt.1 h5))

theorem sorted_names {W W0 : World} {base b nn : Nat} {v : Value} {ss : List (List UInt8)} {D : DataW Unit} {R : Value → Option (DataW Unit × List MemPlace)} {names : List ByteArray} (hown : W0.ownsMap Tryz.prog 9 R b nn D) (hD : HasNames D names) (hn : names.Nodup) (hl : names.length ≤ 255)
    (hp : ss.Perm (strKeys D)) (hr : W.ownsRow base 9 1 v ss.length ((ss.mergeSort (fun x y => decide (x ≤ y))).map encStr)) : ∃ rs : List ByteArray, RowOf 1 strCell W.heap.size W v rs ∧ Rising rs ∧ ∀ x, x ∈ rs ↔ x ∈ names := by
  have hC : Collected D (fun _ => false) (names.map fun x => x.data.toList) := by
    refine ⟨?_, fun x => ?_⟩
    · exact List.pairwise_map.2 (hn.imp fun h e => h (bytes_ext e))
    · have h1 := hD ⟨x.toArray⟩
      have h2 : (⟨x.toArray⟩ : ByteArray).data.toList = x := by simp
      rw [h2] at h1
      rw [h1, any_mem]
      constructor
      · intro h
        obtain ⟨y, hy, rfl⟩ := List.mem_map.1 h
        exact ⟨by simpa using hy, rfl⟩
      · rintro ⟨h, _⟩
        exact List.mem_map.2 ⟨_, h, h2⟩
  have hq := hC.perm hown lawS Tryz.underlying9 (fun _ => rfl)
  have hsn : ss.Nodup := (hp.trans hq.symm).nodup_iff.2 hC.1
  have hmem : ∀ x, x ∈ ss ↔ x ∈ names.map fun x => x.data.toList := fun x => (hp.trans hq.symm).mem_iff
  have hlen : ss.length = names.length := by rw [(hp.trans hq.symm).length_eq, List.length_map]
  refine ⟨(ss.mergeSort leB).map fun x => (⟨x.toArray⟩ : ByteArray), ?_, merge_rising hsn, fun x => ?_⟩
  · have e1 : ss.length = ((ss.mergeSort leB).map fun x => (⟨x.toArray⟩ : ByteArray)).length := by rw [List.length_map, List.length_mergeSort]
    rw [flat_str] at hr
    have hr2 : W.ownsRow base 9 1 v ((ss.mergeSort leB).map fun x => (⟨x.toArray⟩ : ByteArray)).length (((ss.mergeSort leB).map fun x => (⟨x.toArray⟩ : ByteArray)).flatMap strC) := by rw [← e1]; exact hr
    exact own_rows (C := strC) (cells := strCell) (sz := 1) (fun _ => rfl) strC_at hr2 (by rw [← e1, hlen]; omega)
  · constructor
    · intro h
      obtain ⟨y, hy, rfl⟩ := List.mem_map.1 h
      have := (hmem y).1 ((List.mergeSort_perm ss leB).mem_iff.1 hy)
      obtain ⟨z, hz, rfl⟩ := List.mem_map.1 this
      simpa using hz
    · intro h
      refine List.mem_map.2 ⟨x.data.toList, ?_, by simp⟩
      exact (List.mergeSort_perm ss leB).mem_iff.2 ((hmem _).2 (List.mem_map_of_mem h))

end Go.Proofs.YtlpnfbpgnfappaaGreat

/- What graph.comeTo is told, and its cases. -/
namespace Go.Proofs.YtlpnfbpgnfappaaGreat
open Go.RowKit Go.PlainAid Go.Maps Go.WideMaps

set_option maxRecDepth 100000

def comeErr (L : List Plc) (name : ByteArray) : Int := if chkGraph L ≠ 0 then chkGraph L else if (L.any fun p => p.mod.name == name) = true then 0 else 5
def Comes (nx : Mod → Mod → Bool) (Ms : List Mod) (f : Nat) (ss : List ByteArray) : Prop := Rising ss ∧ ∀ x, x ∈ ss ↔ ∃ k, Via (Next nx Ms) f k ∧ nameAt Ms k = x
def ComeRes (nx : Mod → Mod → Bool) (L : List Plc) (name : ByteArray) (ss : List ByteArray) : Prop :=
  (comeErr L name ≠ 0 ∧ ss = []) ∨ (comeErr L name = 0 ∧ ∃ f, f < L.length ∧ nameAt (L.map (·.mod)) f = name ∧ Comes nx (L.map (·.mod)) f ss)

theorem come_cases (nx : Mod → Mod → Bool) (l : List PV) (name : ByteArray) :
    (chkGraph (l.map PV.plc) ≠ 0 ∧ comeErr (l.map PV.plc) name = chkGraph (l.map PV.plc) ∧ ComeRes nx (l.map PV.plc) name []) ∨
    (chkGraph (l.map PV.plc) = 0 ∧ ixFrom (fun x : PV => x.mod.name == name) 0 l = -1 ∧ comeErr (l.map PV.plc) name = 5 ∧ ComeRes nx (l.map PV.plc) name []) ∨
    (chkGraph (l.map PV.plc) = 0 ∧ ∃ f : Nat, f < l.length ∧ ixFrom (fun x : PV => x.mod.name == name) 0 l = (f : Int) ∧ comeErr (l.map PV.plc) name = 0 ∧ ∀ ss, Comes nx (l.map (·.mod)) f ss → ComeRes nx (l.map PV.plc) name ss) := by
  have hany : ((l.map PV.plc).any fun p => p.mod.name == name) = l.any fun x : PV => x.mod.name == name := by rw [List.any_map]; rfl
  have hmm : (l.map PV.plc).map (·.mod) = l.map (·.mod) := by rw [List.map_map]; rfl
  by_cases h0 : chkGraph (l.map PV.plc) = 0
  · rcases ix_find (fun x : PV => x.mod.name == name) l 0 with ⟨h1, h2⟩ | ⟨j, x, h1, h2, h3⟩
    · have h4 : (l.any fun x : PV => x.mod.name == name) = false := by
        rw [← Bool.not_eq_true, List.any_eq_true]
        rintro ⟨y, hy, he⟩
        exact List.find?_eq_none.1 h1 y hy he
      have h5 : comeErr (l.map PV.plc) name = 5 := by
        unfold comeErr
        rw [if_neg (by omega), hany, h4]; rfl
      exact .inr (.inl ⟨h0, h2, h5, .inl ⟨by omega, rfl⟩⟩)
    · have h6 : (x.mod.name == name) = true := by simpa using List.find?_some h1
      have h4 : (l.any fun x : PV => x.mod.name == name) = true := List.any_eq_true.2 ⟨x, List.mem_of_getElem? h2, h6⟩
      have h5 : comeErr (l.map PV.plc) name = 0 := by
        unfold comeErr
        rw [if_neg (by omega), hany, h4]; rfl
      have hj : j < l.length := (List.getElem?_eq_some_iff.1 h2).1
      refine .inr (.inr ⟨h0, j, hj, by rw [h3, Nat.zero_add], h5, fun ss hs => .inr ⟨h5, j, by simpa using hj, ?_, by rw [hmm]; exact hs⟩⟩)
      rw [hmm, nameAt_some (x := x.mod) (by rw [List.getElem?_map, h2]; rfl)]
      exact (Go.MapKept.bytes_beq _ _).1 h6
  · have h5 : comeErr (l.map PV.plc) name = chkGraph (l.map PV.plc) := by
      unfold comeErr
      rw [if_pos h0]
    exact .inl ⟨h0, h5, .inl ⟨by rw [h5]; exact h0, rfl⟩⟩

set_option maxHeartbeats 1000000 in
theorem come1_any (B : Nat) (name : ByteArray) (x : PV) (w : World) (hlt : B < w.heap.size) (hB : w.cell? ⟨B, 0, none⟩ = some (.string name)) (hat : PlcAt w.heap.size w x) :
    Calls Tryz.prog 153 #[x.val, .pointer (some ⟨B, 0, none⟩)] w fun e w' => e = .returned (.bool (x.mod.name == name)) ∧ Below w.heap.size w w' := by
  rw [← toList_beq2]
  obtain ⟨⟨pe, ke, e4, _⟩, ⟨pi, ki, e5, _⟩, ⟨pp, kp, e6, _⟩⟩ := hat
  obtain ⟨⟨N, ma, mi, T, es, is, ps⟩, ve, vi, vp, fi⟩ := x
  dsimp only at e4 e5 e6
  subst e4 e5 e6
  dsimp only [PV.val]
  generalize es.length = le at *
  generalize is.length = li at *
  generalize ps.length = lp at *
  go_enter Tryz.func153, Tryz.ntmps153
  go_wp2
  go_ret
  exact ⟨rfl, (Below.refl _ _).alloc (Nat.le_refl _) _⟩

/-- What the walk is told of those that are placed. -/
structure Told (nx : Mod → Mod → Bool) (l : List PV) (E : Nat → Nat → Prop) (nA : Nat → ByteArray) : Prop where
  edge : ∀ (i k : Nat) (x y : PV), l[i]? = some x → l[k]? = some y → (E i k ↔ nx x.mod y.mod = true)
  lt : ∀ i k, E i k → k < l.length
  name : ∀ (k : Nat) (x : PV), l[k]? = some x → nA k = x.mod.name
  met : ∀ (met : List Nat), (∀ k ∈ met, k < l.length) → ∀ i, i < l.length → (((met.map nA).any fun y => y == nA i) = true ↔ i ∈ met)
  nodup : ∀ met : List Nat, (∀ k ∈ met, k < l.length) → met.Nodup → (met.map nA).Nodup
theorem told_of (nx : Mod → Mod → Bool) (l : List PV) (hd : (l.map (·.mod.name)).Nodup) : Told nx l (Next nx (l.map (·.mod))) (nameAt (l.map (·.mod))) := by
  have hd2 : ((l.map (·.mod)).map (·.name)).Nodup := by rw [List.map_map]; exact hd
  have at_ : ∀ (k : Nat) (x : PV), l[k]? = some x → (l.map (·.mod))[k]? = some x.mod := fun k x h => by rw [List.getElem?_map, h]; rfl
  refine ⟨fun i k x y hx hy => Next.iff (at_ i x hx) (at_ k y hy), fun i k h => by simpa using h.lt.2, fun k x hx => nameAt_some (at_ k x hx), fun met hm i hi => any_name hd2 (by simpa using hm) (by simpa using hi), fun met hm hn => ?_⟩
  exact List.pairwise_map.2 (hn.imp_of_mem fun {a b} ha hb hne e => hne (nameAt_inj hd2 (by simpa using hm a ha) (by simpa using hm b hb) e))

theorem map_below {W W' : World} {t : TypeId} {R : Value → Option (DataW Unit × List MemPlace)} {b n m : Nat} {D : DataW Unit} (h : W.ownsMap Tryz.prog t R b n D) (hb : Below m W W') (hlt : b < m) : W'.ownsMap Tryz.prog t R b n D := by
  obtain ⟨es, clock, h1, Ft, hs, hD⟩ := h
  exact ⟨es, clock, (hb.block b hlt).trans h1, Ft, hs, hD⟩

end Go.Proofs.YtlpnfbpgnfappaaGreat

/- The function literals of graph.ordered. -/
namespace Go.Proofs.YtlpnfbpgnfappaaGreat
open Go.RowKit Go.PlainAid Go.Maps Go.WideMaps

set_option maxRecDepth 100000

theorem cell_grown {W W' : World} {row : Option Nat} (hg : W.grownBy W' row) {b o : Nat} (hlt : b < W.heap.size) (hne : some b ≠ row) : W'.cell? ⟨b, o, none⟩ = W.cell? ⟨b, o, none⟩ := by
  unfold World.cell?
  rw [hg.block b hlt hne]

/-- What the function literals find in memory: the box of all, the map, the map's box, the box of the function that tells who waits. -/
structure OrdAt (W : World) (n₀ n : Nat) (D : DataW Unit) (r : Value) (rs : List PV) (met : List ByteArray) : Prop where
  lt : n₀ + 1 + 1 + 1 < W.heap.size
  c0 : W.cell? ⟨n₀, 0, none⟩ = some r
  own : W.ownsMap Tryz.prog 9 (plainElem Tryz.prog 3) (n₀ + 1) n D
  cm : W.cell? ⟨n₀ + 1 + 1, 0, none⟩ = some (.map (some (n₀ + 1)))
  cw : W.cell? ⟨n₀ + 1 + 1 + 1, 0, none⟩ = some (.func (.func 142) #[] #[.pointer (some ⟨n₀ + 1 + 1, 0, none⟩)])
  has : HasNames D met
  row : RowOf 7 PV.cell n₀ W r rs
  at_ : ∀ x ∈ rs, PlcAt n₀ W x
  fit : ∀ x ∈ rs, x.mod.fits
theorem OrdAt.keep {W W' : World} {n₀ n m : Nat} {D : DataW Unit} {r : Value} {rs : List PV} {met : List ByteArray} (h : OrdAt W n₀ n D r rs met) (hb : Below m W W') (hm : n₀ + 1 + 1 + 1 < m) : OrdAt W' n₀ n D r rs met :=
  ⟨Nat.lt_of_lt_of_le h.lt hb.size, (hb.cell (p := ⟨n₀, 0, none⟩) (show n₀ < m by omega)).trans h.c0, map_below h.own hb (by omega), (hb.cell (p := ⟨n₀ + 1 + 1, 0, none⟩) (show n₀ + 1 + 1 < m by omega)).trans h.cm, (hb.cell (p := ⟨n₀ + 1 + 1 + 1, 0, none⟩) hm).trans h.cw, h.has,
   h.row.below (hb.mono (by omega)), fun x hx => (h.at_ x hx).below (hb.mono (by omega)), h.fit⟩
theorem OrdAt.below {W W' : World} {n₀ n : Nat} {D : DataW Unit} {r : Value} {rs : List PV} {met : List ByteArray} (h : OrdAt W n₀ n D r rs met) (hb : Below W.heap.size W W') : OrdAt W' n₀ n D r rs met := h.keep hb h.lt
theorem OrdAt.put {W W' : World} {n₀ n n' : Nat} {D D' : DataW Unit} {r : Value} {rs : List PV} {met met' : List ByteArray} (h : OrdAt W n₀ n D r rs met) (hg : W.grownBy W' (some (n₀ + 1))) (ho : W'.ownsMap Tryz.prog 9 (plainElem Tryz.prog 3) (n₀ + 1) n' D') (hh : HasNames D' met') : OrdAt W' n₀ n' D' r rs met' := by
  have hl := h.lt
  have hb : Below n₀ W W' := (Below.refl _ _).grown hg (by omega) (fun k hk => by injection hk with hk; omega)
  refine ⟨Nat.lt_of_lt_of_le h.lt hg.size, (cell_grown hg (by omega) (fun e => ?_)).trans h.c0, ho, (cell_grown hg (by omega) (fun e => ?_)).trans h.cm, (cell_grown hg (by omega) (fun e => ?_)).trans h.cw, hh, h.row.below hb, fun x hx => (h.at_ x hx).below hb, h.fit⟩
  all_goals
    injection e with e
    omega
theorem OrdAt.rowW {W : World} {n₀ n : Nat} {D : DataW Unit} {r : Value} {rs : List PV} {met : List ByteArray} (h : OrdAt W n₀ n D r rs met) : RowOf 7 PV.cell W.heap.size W r rs := h.row.more (by have := h.lt; omega)
theorem OrdAt.atW {W : World} {n₀ n : Nat} {D : DataW Unit} {r : Value} {rs : List PV} {met : List ByteArray} (h : OrdAt W n₀ n D r rs met) : ∀ x ∈ rs, PlcAt W.heap.size W x := fun x hx => (h.at_ x hx).more (by have := h.lt; omega)

set_option maxHeartbeats 2000000 in
theorem ordered1_any (x : PV) (W : World) {n₀ n : Nat} {D : DataW Unit} {r : Value} {rs : List PV} {met : List ByteArray} (h : OrdAt W n₀ n D r rs met) (hx : x ∈ rs) :
    Calls Tryz.prog 142 #[x.modV, .pointer (some ⟨n₀ + 1 + 1, 0, none⟩)] W fun e w' => e = .returned (.bool (waitsB met x.mod)) ∧ Below W.heap.size W w' := by
  have hn : x.mod.name.size ≤ 9223372036854775807 := (h.fit x hx).1
  have hkey : keyOf Tryz.prog 9 (.string x.mod.name) = some (.string x.mod.name.data.toList) := keyOf_string_mk Tryz.underlying9 hn
  have hhas := h.has x.mod.name
  have cm := h.cm
  have lm : n₀ + 1 + 1 < W.heap.size := by have := h.lt; omega
  have hown := h.own
  obtain ⟨⟨pe, ke, e4, _⟩, ⟨pi, ki, e5, _⟩, ⟨pp, kp, e6, _⟩⟩ := h.atW x hx
  clear h hx
  unfold waitsB
  obtain ⟨⟨N, ma, mi, T, es, is, ps⟩, ve, vi, vp, fi⟩ := x
  dsimp only at e4 e5 e6 hn hkey hhas
  subst e4 e5 e6
  dsimp only [PV.modV]
  generalize es.length = le at *
  generalize is.length = li at *
  generalize ps.length = lp at *
  generalize met.any (fun y => y == N) = t at *
  cases t
  all_goals
    go_enter Tryz.func142, Tryz.ntmps142
    go_wp2_with (first
      | (at_lookup; refine wpList_lookup_own_ok_int _ rfl _ _ 171 rfl 9 3 .i64 lawS Tryz.underlying171 Tryz.underlying3 (zeroI _) (n₀ + 1) n D rfl (hown.kept (World.grownBy_alloc _ _ none) (by simp)) _ _ rfl hkey ?_; intro c hat' hwc; clear hat' hwc))
    go_ret
    exact ⟨rfl, (Below.refl _ _).alloc (Nat.le_refl _) _⟩

set_option maxHeartbeats 2000000 in
theorem ordered21_any (m x : PV) (W : World) {n₀ n : Nat} {D : DataW Unit} {r : Value} {rs : List PV} {met : List ByteArray} (h : OrdAt W n₀ n D r rs met) (hm : m ∈ rs) (hx : x ∈ rs)
    (B3 : Nat) (l3 : B3 < W.heap.size) (h3 : CellsAt W B3 31 #[.string m.mod.name, .int .i64 m.mod.major, .int .i64 m.mod.minor, .string m.mod.text, m.ve, m.vi, m.vp]) :
    Calls Tryz.prog 145 #[x.modV, .pointer (some ⟨n₀ + 1 + 1 + 1, 0, none⟩), .pointer (some ⟨B3, 0, none⟩)] W fun e w' => e = .returned (.bool (waitsB met x.mod && asksM m.mod x.mod.name)) ∧ Below W.heap.size W w' := by
  have HW : Hid (∀ W', Below W.heap.size W W' → Calls Tryz.prog 142 #[x.modV, .pointer (some ⟨n₀ + 1 + 1, 0, none⟩)] W' fun e w' => e = .returned (.bool (waitsB met x.mod)) ∧ Below W'.heap.size W' w') := fun W' hb => ordered1_any x W' (h.below hb) hx
  have HA : Hid (∀ W', Below W.heap.size W W' → Calls Tryz.prog 99 #[m.modV, .string x.mod.name] W' fun e w' => e = .returned (.bool (asksM m.mod x.mod.name)) ∧ Below W'.heap.size W' w') := fun W' hb => asks_any m.mod m.modV x.mod.name W' ((((h.atW m hm).below hb).more hb.size).isMod)
  obtain ⟨⟨pe, ke, e4, _⟩, ⟨pi, ki, e5, _⟩, ⟨pp, kp, e6, _⟩⟩ := h.atW x hx
  obtain ⟨⟨ye, je, f4, _⟩, ⟨yi, ji, f5, _⟩, ⟨yp, jp, f6, _⟩⟩ := h.atW m hm
  have cw := h.cw
  have lw := h.lt
  clear h hx hm
  generalize waitsB met x.mod = t at *
  generalize asksM m.mod x.mod.name = u at *
  obtain ⟨⟨N, ma, mi, T, es, is, ps⟩, ve, vi, vp, fi⟩ := x
  obtain ⟨⟨N', ma', mi', T', es', is', ps'⟩, ve', vi', vp', fi'⟩ := m
  dsimp only at e4 e5 e6 f4 f5 f6 HA h3
  subst e4 e5 e6 f4 f5 f6
  dsimp only [PV.modV] at *
  generalize es.length = le at *
  generalize is.length = li at *
  generalize ps.length = lp at *
  generalize es'.length = le' at *
  generalize is'.length = li' at *
  generalize ps'.length = lp' at *
  have B1 : Hid (Below W.heap.size W (W.alloc (.cells #[.string N, .int .i64 ma, .int .i64 mi, .string T, .slice pe le ke, .slice pi li ki, .slice pp lp kp] 31))) := (Below.refl _ _).alloc (Nat.le_refl _) _
  have C1 : Hid (CellsAt (W.alloc (.cells #[.string N, .int .i64 ma, .int .i64 mi, .string T, .slice pe le ke, .slice pi li ki, .slice pp lp kp] 31)) W.heap.size 31 #[.string N, .int .i64 ma, .int .i64 mi, .string T, .slice pe le ke, .slice pi li ki, .slice pp lp kp]) := CellsAt.new _ _ _
  go_enter Tryz.func145, Tryz.ntmps145
  go_wp2_with fail
  refine (HW.out _ B1.out).mono ?_
  rintro e w2 ⟨rfl, b2⟩
  have B2 := B1.out.trans (b2.mono B1.out.size)
  have C2 := C1.out.below b2 (by simp)
  have D2 := h3.below B2 l3
  have l2 : W.heap.size < w2.heap.size := C2.lt
  have n0 := C2.cell 0
  have m0 := D2.cell 0
  have m1 := D2.cell 1
  have m2 := D2.cell 2
  have m3 := D2.cell 3
  have m4 := D2.cell 4
  have m5 := D2.cell 5
  have m6 := D2.cell 6
  simp at n0 m0 m1 m2 m3 m4 m5 m6
  clear HW B1 C1 b2 C2 D2 h3 cw
  cases t
  · clear HA
    go_wp2
    go_ret
    exact ⟨rfl, B2⟩
  · go_wp2_with fail
    refine (HA.out _ B2).mono ?_
    rintro e w3 ⟨rfl, b3⟩
    have B3 := B2.trans (b3.mono B2.size)
    clear HA b3 n0 m0 m1 m2 m3 m4 m5 m6
    go_wp2
    go_ret
    exact ⟨rfl, B3⟩

set_option maxHeartbeats 2000000 in
theorem ordered2_any (m : PV) (W : World) {n₀ n : Nat} {D : DataW Unit} {r : Value} {rs : List PV} {met : List ByteArray} (h : OrdAt W n₀ n D r rs met) (hm : m ∈ rs) :
    Calls Tryz.prog 143 #[m.modV, .pointer (some ⟨n₀ + 1 + 1 + 1, 0, none⟩), .pointer (some ⟨n₀, 0, none⟩)] W fun e w' => e = .returned (.bool (mayB (rs.map (·.mod)) met m.mod)) ∧ Below W.heap.size W w' := by
  have HW : Hid (∀ W', Below W.heap.size W W' → Calls Tryz.prog 142 #[m.modV, .pointer (some ⟨n₀ + 1 + 1, 0, none⟩)] W' fun e w' => e = .returned (.bool (waitsB met m.mod)) ∧ Below W'.heap.size W' w') := fun W' hb => ordered1_any m W' (h.below hb) hm
  have HA : Hid (∀ W' B3, Below W.heap.size W W' → CellsAt W' B3 31 #[.string m.mod.name, .int .i64 m.mod.major, .int .i64 m.mod.minor, .string m.mod.text, m.ve, m.vi, m.vp] → Calls Tryz.prog 144 #[r, .func (.func 145) #[] #[.pointer (some ⟨n₀ + 1 + 1 + 1, 0, none⟩), .pointer (some ⟨B3, 0, none⟩)]] W' fun e w' => e = .returned (.bool (rs.any fun x : PV => waitsB met x.mod && asksM m.mod x.mod.name)) ∧ Below W'.heap.size W' w') := fun W' B3 hb h3 =>
    anyMod_any rs r 145 (.pointer (some ⟨n₀ + 1 + 1 + 1, 0, none⟩)) (.pointer (some ⟨B3, 0, none⟩)) (fun w x => enters_of Tryz.func145 (by kernel_rfl) rfl _ w) _ W' ((h.below hb).rowW) (fun x hx W2 hb2 => ordered21_any m x W2 ((h.below hb).below hb2) hm hx B3 (Nat.lt_of_lt_of_le h3.lt hb2.size) (h3.below hb2 h3.lt))
  have hmay : mayB (rs.map (·.mod)) met m.mod = (waitsB met m.mod && !(rs.any fun x : PV => waitsB met x.mod && asksM m.mod x.mod.name)) := by
    unfold mayB
    rw [List.any_map]
    rfl
  rw [hmay]
  obtain ⟨⟨pe, ke, e4, _⟩, ⟨pi, ki, e5, _⟩, ⟨pp, kp, e6, _⟩⟩ := h.atW m hm
  have cw := h.cw
  have lw := h.lt
  have c0 := h.c0
  have l0 : n₀ < W.heap.size := by have := h.lt; omega
  obtain ⟨ra, rc, rfl, _, _⟩ := h.rowW
  clear h hm hmay
  generalize (rs.any fun x : PV => waitsB met x.mod && asksM m.mod x.mod.name) = u at *
  generalize waitsB met m.mod = t at *
  obtain ⟨⟨N, ma, mi, T, es, is, ps⟩, ve, vi, vp, fi⟩ := m
  dsimp only at e4 e5 e6 HA
  subst e4 e5 e6
  dsimp only [PV.modV] at *
  generalize es.length = le at *
  generalize is.length = li at *
  generalize ps.length = lp at *
  generalize rs.length = lr at *
  have B1 : Hid (Below W.heap.size W (W.alloc (.cells #[.string N, .int .i64 ma, .int .i64 mi, .string T, .slice pe le ke, .slice pi li ki, .slice pp lp kp] 31))) := (Below.refl _ _).alloc (Nat.le_refl _) _
  have C1 : Hid (CellsAt (W.alloc (.cells #[.string N, .int .i64 ma, .int .i64 mi, .string T, .slice pe le ke, .slice pi li ki, .slice pp lp kp] 31)) W.heap.size 31 #[.string N, .int .i64 ma, .int .i64 mi, .string T, .slice pe le ke, .slice pi li ki, .slice pp lp kp]) := CellsAt.new _ _ _
  go_enter Tryz.func143, Tryz.ntmps143
  go_wp2_with fail
  refine (HW.out _ B1.out).mono ?_
  rintro e w2 ⟨rfl, b2⟩
  have B2 := B1.out.trans (b2.mono B1.out.size)
  have C2 := C1.out.below b2 (by simp)
  have l2 : W.heap.size < w2.heap.size := C2.lt
  have c02 := (B2.cell (p := ⟨n₀, 0, none⟩) l0).trans c0
  have HC2 : Hid (CellsAt w2 W.heap.size 31 #[.string N, .int .i64 ma, .int .i64 mi, .string T, .slice pe le ke, .slice pi li ki, .slice pp lp kp]) := C2
  clear HW B1 C1 b2 C2 cw c0
  cases t
  · clear HA HC2
    go_wp2
    go_ret
    exact ⟨rfl, B2⟩
  · go_wp2_with fail
    refine (HA.out _ _ B2 HC2.out).mono ?_
    rintro e w3 ⟨rfl, b3⟩
    have B3 := B2.trans (b3.mono B2.size)
    clear HA b3
    go_wp2
    go_ret
    exact ⟨rfl, B3⟩

end Go.Proofs.YtlpnfbpgnfappaaGreat

/- The contract of graph.ordered. -/
namespace Go.Proofs.YtlpnfbpgnfappaaGreat
open Go.RowKit Go.PlainAid Go.Maps Go.WideMaps

set_option maxRecDepth 100000

def ordRes (Rs : List Mod) : List ByteArray × Int := match orderFrom Rs Rs.length [] with | none => ([], 4) | some c => (c, 0)
theorem ordRes_none {Rs : List Mod} (h : orderFrom Rs Rs.length [] = none) : ordRes Rs = ([], 4) := by unfold ordRes; rw [h]
theorem ordRes_some {Rs : List Mod} {c : List ByteArray} (h : orderFrom Rs Rs.length [] = some c) : ordRes Rs = (c, 0) := by unfold ordRes; rw [h]

def CapOk (v : Value) : Prop := ∀ a n c, v = .slice a n c → n ≤ c ∧ c ≤ 9223372036854775807
theorem capNil : CapOk (.slice none 0 0) := fun a n c h => by
  injection h with _ h2 h3
  omega
theorem own_cap {W : World} {base : Nat} {e : TypeId} {size : Nat} {v : Value} {n : Nat} {xs : List Value} (h : W.ownsRow base e size v n xs) : CapOk v := by
  rcases h.2 with ⟨rfl, _⟩ | ⟨g, cap, cur, rfl, _, _, hcap, hm, _⟩
  · exact capNil
  · intro a m c he
    injection he with _ h2 h3
    unfold maxLen at hm
    omega

theorem infoStr : (Tryz.prog.info? 9).map (fun i => (i.zero, i.size, i.bytes)) = some (some (.string ⟨#[]⟩), 1, 16) := by kernel_rfl
theorem infoStr_parts : ∃ i, Tryz.prog.info? 9 = some i ∧ i.zero = some (.string ⟨#[]⟩) ∧ i.size = 1 ∧ i.bytes = 16 := by
  have h := infoStr
  cases hi : Tryz.prog.info? 9 with
  | none => rw [hi] at h; cases h
  | some i =>
    rw [hi] at h
    simp at h
    exact ⟨i, rfl, h.1, h.2.1, h.2.2⟩

theorem OrdAt.start (rs : List PV) (r : Value) (w : World) (hrow : RowOf 7 PV.cell w.heap.size w r rs) (hat : ∀ x ∈ rs, PlcAt w.heap.size w x) (hfit : ∀ x ∈ rs, x.mod.fits) :
    OrdAt ((((w.alloc (.cells #[r] 126)).alloc (.map #[] 0)).alloc (.cells #[.map (some (w.heap.size + 1))] 171)).alloc (.cells #[.func (.func 142) #[] #[.pointer (some ⟨w.heap.size + 1 + 1, 0, none⟩)]] 149)) w.heap.size 0 (.map []) r rs [] ∧
    Below w.heap.size w ((((w.alloc (.cells #[r] 126)).alloc (.map #[] 0)).alloc (.cells #[.map (some (w.heap.size + 1))] 171)).alloc (.cells #[.func (.func 142) #[] #[.pointer (some ⟨w.heap.size + 1 + 1, 0, none⟩)]] 149)) := by
  have hB : Below w.heap.size w ((((w.alloc (.cells #[r] 126)).alloc (.map #[] 0)).alloc (.cells #[.map (some (w.heap.size + 1))] 171)).alloc (.cells #[.func (.func 142) #[] #[.pointer (some ⟨w.heap.size + 1 + 1, 0, none⟩)]] 149)) := ((((Below.refl _ _).alloc (Nat.le_refl _) _).alloc (by simp) _).alloc (by simp; omega) _).alloc (by simp; omega) _
  have k0 := ((((CellsAt.new w 126 #[r]).kept (World.grownBy_alloc _ (.map #[] 0) none) (by simp)).kept (World.grownBy_alloc _ (.cells #[.map (some (w.heap.size + 1))] 171) none) (by simp)).kept (World.grownBy_alloc _ (.cells #[.func (.func 142) #[] #[.pointer (some ⟨w.heap.size + 1 + 1, 0, none⟩)]] 149) none) (by simp)).cell 0
  have k1 := (((World.ownsMap_made (w.alloc (.cells #[r] 126)) Tryz.prog 9 (plainElem (H := Unit) Tryz.prog 3)).kept (World.grownBy_alloc _ (.cells #[.map (some (w.heap.size + 1))] 171) none) (by simp)).kept (World.grownBy_alloc _ (.cells #[.func (.func 142) #[] #[.pointer (some ⟨w.heap.size + 1 + 1, 0, none⟩)]] 149) none) (by simp))
  have k2 := ((CellsAt.new ((w.alloc (.cells #[r] 126)).alloc (.map #[] 0)) 171 #[.map (some (w.heap.size + 1))]).kept (World.grownBy_alloc _ (.cells #[.func (.func 142) #[] #[.pointer (some ⟨w.heap.size + 1 + 1, 0, none⟩)]] 149) none) (by simp)).cell 0
  have k3 := (CellsAt.new (((w.alloc (.cells #[r] 126)).alloc (.map #[] 0)).alloc (.cells #[.map (some (w.heap.size + 1))] 171)) 149 #[.func (.func 142) #[] #[.pointer (some ⟨w.heap.size + 1 + 1, 0, none⟩)]]).cell 0
  simp only [World.size_alloc] at k0 k1 k2 k3
  exact ⟨⟨by simp, k0, k1, k2, k3, HasNames.none, hrow.below hB, fun x hx => (hat x hx).below hB, hfit⟩, hB⟩

set_option maxHeartbeats 4000000 in
theorem ordered_own (rs : List PV) (r : Value) (w : World) (hrow : RowOf 7 PV.cell w.heap.size w r rs) (hat : ∀ x ∈ rs, PlcAt w.heap.size w x) (hfit : ∀ x ∈ rs, x.mod.fits) (h8 : rs.length ≤ 8) :
    Calls Tryz.prog 89 #[r] w fun e w' => (∃ v, e = .returned (.tuple #[v, .int .i64 (ordRes (rs.map (·.mod))).2]) ∧ RowOf 1 strCell w'.heap.size w' v (ordRes (rs.map (·.mod))).1 ∧ CapOk v ∧ w'.ownsRow w.heap.size 9 1 v (ordRes (rs.map (·.mod))).1.length ((ordRes (rs.map (·.mod))).1.flatMap strC)) ∧ Below w.heap.size w w' := by
  have HS := OrdAt.start rs r w hrow hat hfit
  have HSH : Hid (OrdAt ((((w.alloc (.cells #[r] 126)).alloc (.map #[] 0)).alloc (.cells #[.map (some (w.heap.size + 1))] 171)).alloc (.cells #[.func (.func 142) #[] #[.pointer (some ⟨w.heap.size + 1 + 1, 0, none⟩)]] 149)) w.heap.size 0 (.map []) r rs []) := HS.1
  have HSB : Hid (Below w.heap.size w ((((w.alloc (.cells #[r] 126)).alloc (.map #[] 0)).alloc (.cells #[.map (some (w.heap.size + 1))] 171)).alloc (.cells #[.func (.func 142) #[] #[.pointer (some ⟨w.heap.size + 1 + 1, 0, none⟩)]] 149))) := HS.2
  have HN : Hid (orderFrom (rs.map (·.mod)) rs.length [] = none → ordRes (rs.map (·.mod)) = ([], 4)) := fun h => ordRes_none (by rw [List.length_map]; exact h)
  have HY : Hid (∀ c, orderFrom (rs.map (·.mod)) rs.length [] = some c → ordRes (rs.map (·.mod)) = (c, 0)) := fun c h => ordRes_some (by rw [List.length_map]; exact h)
  have HST : Hid (∀ n met, orderFrom (rs.map (·.mod)) (n + 1) met = match (rs.map (·.mod)).find? (mayB (rs.map (·.mod)) met) with | none => none | some m => orderFrom (rs.map (·.mod)) n (met ++ [m.name])) := fun n met => rfl
  have HS0 : Hid (∀ met, orderFrom (rs.map (·.mod)) 0 met = some met) := fun met => rfl
  clear HS hat hfit
  generalize ordRes (rs.map (·.mod)) = OR at *
  obtain ⟨ra, rc, rfl, hm, hcells⟩ := hrow
  have hmm := @run_makeMap Tryz.prog
  obtain ⟨ii, hii, hz0, hz1, hz2⟩ := infoStr_parts
  go_enter Tryz.func89, Tryz.ntmps89
  go_wp2_with fail
  go_loopw [7, 14] (fun f i wr => ∃ (k : Nat) (met : List ByteArray) (D : DataW Unit), k ≤ rs.length ∧ i = .int .i64 k ∧ Hid (met.length = k ∧ orderFrom (rs.map (·.mod)) rs.length [] = orderFrom (rs.map (·.mod)) (rs.length - k) met) ∧ OrdAt wr w.heap.size k D (.slice ra rs.length rc) rs met ∧ wr.ownsRow (w.heap.size + 4) 9 1 f k (met.flatMap strC) ∧ Below w.heap.size w wr) (fun _ i _ => rs.length - (intOf i).toNat)
  case atStart => exact ⟨0, [], .map [], Nat.zero_le _, rfl, ⟨rfl, rfl⟩, HSH.out, ⟨rfl, .inl ⟨rfl, rfl⟩⟩, HSB.out⟩
  case round =>
    obtain ⟨k, met, D, hk, rfl, HM, hO, hown, B⟩ := hrel
    clear HSH HSB
    have c0 := hO.c0
    have l0 : w.heap.size < wr.heap.size := by have := hO.lt; omega
    have HO : Hid (OrdAt wr w.heap.size k D (.slice ra rs.length rc) rs met) := hO
    clear hO
    obtain ⟨av, kv, rfl⟩ := own_form hown
    by_cases hlt : k < rs.length
    · have HIX : Hid (Calls Tryz.prog 146 #[.slice ra rs.length rc, .func (.func 143) #[] #[.pointer (some ⟨w.heap.size + 1 + 1 + 1, 0, none⟩), .pointer (some ⟨w.heap.size, 0, none⟩)]] wr fun e w' => e = .returned (.int .i64 (ixFrom (fun x : PV => mayB (rs.map (·.mod)) met x.mod) 0 rs)) ∧ Below wr.heap.size wr w') :=
        ixMod_any rs _ 143 _ _ (fun w x => enters_of Tryz.func143 (by kernel_rfl) rfl _ w) _ wr HO.out.rowW (fun x hx W' hb' => ordered2_any x W' (HO.out.below hb') hx)
      have hix := ix_find (fun x : PV => mayB (rs.map (·.mod)) met x.mod) rs 0
      generalize hixv : ixFrom (fun x : PV => mayB (rs.map (·.mod)) met x.mod) 0 rs = ix at *
      clear hcells
      go_wp2_with fail
      refine HIX.out.mono ?_
      rintro e w2 ⟨rfl, b2⟩
      have HO2 : Hid (OrdAt w2 w.heap.size k D (.slice ra rs.length rc) rs met) := HO.out.below b2
      have own2 := own_below hown b2
      have B2 := B.trans (b2.mono B.size)
      clear HIX HO hown b2 c0 l0
      clear hixv
      rcases hix with ⟨h1, rfl⟩ | ⟨j, x, h1, h2, h3⟩
      · have HE : Hid (OR = ([], 4)) := HN.out (by
          rw [HM.out.2, show rs.length - k = (rs.length - k - 1) + 1 by omega, HST.out, List.find?_map, show ((mayB (rs.map (·.mod)) met) ∘ fun x : PV => x.mod) = fun x : PV => mayB (rs.map (·.mod)) met x.mod from rfl, h1]
          rfl)
        clear h1
        go_wp2
        go_ret2
        exact ⟨⟨_, by rw [HE.out]; rfl, by rw [HE.out]; exact ⟨none, 0, rfl, by simp, .inl rfl⟩, capNil, by rw [HE.out]; exact World.ownsRow_nil _ _ _ _⟩, B2⟩
      · have HE : Hid (orderFrom (rs.map (·.mod)) rs.length [] = orderFrom (rs.map (·.mod)) (rs.length - (k + 1)) (met ++ [x.mod.name])) := by
          show orderFrom (rs.map (·.mod)) rs.length [] = _
          rw [HM.out.2, show rs.length - k = (rs.length - (k + 1)) + 1 by omega, HST.out, List.find?_map, show ((mayB (rs.map (·.mod)) met) ∘ fun x : PV => x.mod) = fun x : PV => mayB (rs.map (·.mod)) met x.mod from rfl, h1]
          rfl
        rw [Nat.zero_add] at h3
        subst h3
        have hj : j < rs.length := (List.getElem?_eq_some_iff.1 h2).1
        have hO2 := HO2.out
        obtain ⟨ra', rc', ee, _, hcl⟩ := hO2.row
        injection ee with e1 e2 e3
        subst e1 e3
        rcases hcl with h | ⟨b, off, rfl, hbn, hcells⟩
        · subst h; simp at hj
        have cn := hcells j x h2 0 (by omega)
        dsimp only [PV.cell] at cn
        have hn : x.mod.name.size ≤ 9223372036854775807 := (hO2.fit x (List.mem_of_getElem? h2)).1
        have hkey : keyOf Tryz.prog 9 (.string x.mod.name) = some (.string x.mod.name.data.toList) := keyOf_string_mk Tryz.underlying9 hn
        have cm := hO2.cm
        have c0 := hO2.c0
        have lm : w.heap.size + 1 + 1 < w2.heap.size := by have := hO2.lt; omega
        have l0 : w.heap.size < w2.heap.size := by have := hO2.lt; omega
        have hbn2 : b < w2.heap.size := by omega
        have hown := hO2.own
        have HML : Hid (met.length = k) := HM.out.1
        clear hcells h1 h2 hO2 HM HST HN e2 hmm
        obtain ⟨⟨N, ma, mi, T, es, is, ps⟩, ve, vi, vp, fi⟩ := x
        dsimp only at cn hn hkey HE
        rw [Nat.add_zero] at cn
        go_wp2_with fail
        refine wp_region_noPanic ?_
        refine wp_region_L (S := fun w' => w'.cell? ⟨w.heap.size + 1 + 1, 0, none⟩ = some (.map (some (w.heap.size + 1))) ∧ w'.cell? ⟨w.heap.size, 0, none⟩ = some (.slice (some ⟨b, off, none⟩) rs.length rc) ∧ w'.cell? ⟨b, off + j * 7, none⟩ = some (.string N)) (x := 7) (by kernel_rfl) ?_
        have hS0 : w2.drew.cell? ⟨w.heap.size + 1 + 1, 0, none⟩ = some (.map (some (w.heap.size + 1))) ∧ w2.drew.cell? ⟨w.heap.size, 0, none⟩ = some (.slice (some ⟨b, off, none⟩) rs.length rc) ∧ w2.drew.cell? ⟨b, off + j * 7, none⟩ = some (.string N) := ⟨cm, c0, cn⟩
        refine wpL_take 0 21 (.map (some (w.heap.size + 1))) rfl (by kernel_rfl) (fun _ _ _ h => h) hS0 rfl rfl (fun w' hSw => by (try dsimp only at hSw); go_simp) ?_
        simp only [List.setIfInBounds_toArray, List.set_cons_zero, List.set_cons_succ]
        refine wpL_take 1 22 (.slice (some ⟨b, off, none⟩) rs.length rc) rfl (by kernel_rfl) (fun _ _ _ h => h) hS0 rfl rfl (fun w' hSw => by (try dsimp only at hSw); go_simp) ?_
        simp only [List.setIfInBounds_toArray, List.set_cons_zero, List.set_cons_succ]
        refine wpL_take 2 23 (.int .i64 j) rfl (by kernel_rfl) (fun _ _ _ h => h) hS0 rfl rfl (fun w' hSw => by (try dsimp only at hSw); go_simp) ?_
        simp only [List.setIfInBounds_toArray, List.set_cons_zero, List.set_cons_succ]
        refine wpL_take 3 24 (.pointer (some ⟨b, off + j * 7, none⟩)) rfl (by kernel_rfl) (fun _ _ _ h => h) hS0 rfl rfl (fun w' hSw => by (try dsimp only at hSw); go_simp) ?_
        simp only [List.setIfInBounds_toArray, List.set_cons_zero, List.set_cons_succ]
        refine wpL_take 4 25 (.pointer (some ⟨b, off + j * 7, none⟩)) rfl (by kernel_rfl) (fun _ _ _ h => h) hS0 rfl rfl (fun w' hSw => by (try dsimp only at hSw); go_simp) ?_
        simp only [List.setIfInBounds_toArray, List.set_cons_zero, List.set_cons_succ]
        refine wpL_take 5 26 (.string N) rfl (by kernel_rfl) (fun _ _ _ h => h) hS0 rfl rfl (fun w' hSw => by (try dsimp only at hSw); go_simp) ?_
        simp only [List.setIfInBounds_toArray, List.set_cons_zero, List.set_cons_succ]
        refine wpL_take 6 27 (.int .i64 j) rfl (by kernel_rfl) (fun _ _ _ h => h) hS0 rfl rfl (fun w' hSw => by (try dsimp only at hSw); go_simp) ?_
        simp only [List.setIfInBounds_toArray, List.set_cons_zero, List.set_cons_succ]
        refine wpL_last (x := 7) rfl (by kernel_rfl) (by kernel_rfl) (fun K hK => ?_)
        obtain ⟨w3, hrun, hown3, hg3⟩ := hown.drew.update lawS Tryz.underlying171 (by unfold maxLen; omega) hkey (plainElem_int Tryz.underlying3 (WalkArith.wf_i64 (n := (j : Int)) (by omega)))
        go_simp
        refine hK.out _ _ ?_
        refine NoPanic.normal ?_
        have hOd : OrdAt w2.drew w.heap.size k D (.slice (some ⟨b, off, none⟩) rs.length rc) rs met := HO2.out.below ((Below.refl _ _).drew)
        have HO3 : Hid (OrdAt w3 w.heap.size (k + 1) (D.put (.string N.data.toList) (.lit (.int .i64 j))) (.slice (some ⟨b, off, none⟩) rs.length rc) rs (met ++ [N])) := hOd.put hg3 hown3 (HO2.out.has.put HO2.out.own.isMap N _)
        have c03 := HO3.out.c0
        have l03 : w.heap.size < w3.heap.size := by have := HO3.out.lt; omega
        have BB : Below w.heap.size w2 w3 := ((Below.refl _ _).drew).grown hg3 (by show w.heap.size ≤ w2.heap.size; omega) (fun i hi => by injection hi with hi; omega)
        have cn3 := (BB.cell (p := ⟨b, off + j * 7, none⟩) hbn).trans cn
        have B3 := B2.trans BB
        have own3 := own2.drew.kept hg3 (.inr (fun e => by have := own_block own2 _ e; omega))
        have HSZ : Hid (w.heap.size + 1 + 1 + 1 < w3.heap.size) := HO3.out.lt
        have HB3 : Hid (Below w.heap.size w w3) := B3
        clear hK K hS0 hrun hown3 hg3 hOd HO2 own2 B2 BB cm c0 cn lm l0 hown B B3 hkey
        generalize hacc : met.flatMap strC = acc at own3
        have HACC : Hid (met.flatMap strC = acc) := hacc
        clear hacc
        go_wp2_with (at_builtin; refine wpList_append_lies _ rfl _ _ _ rfl (w.heap.size + 4) 9 ii _ 1 16 Tryz.underlying67 hii hz0 hz1 hz2 rfl (by omega) (.slice av k kv) k acc rfl (own3.alloc _) ⟨w3.heap.size, 0, none⟩ 1 1 [.string N] rfl rfl (World.news_of_block (cs := #[.string N]) (t := 9) (fr := (0, 0)) (CellsAt.new w3 9 #[.string N])) (by simp [Value.oneCell']) (by omega) (by unfold maxLen; omega) (by omega) (by have := HSZ.out; simp; omega) (w3.heap.size + 1) (by simp) ?_; intro g gc w8 hown8 hgrow hat hltg)
        have B8 : Below (w.heap.size + 4) w3 w8 := ((Below.refl _ _).alloc (by have := HSZ.out; omega) _).grown hgrow (by have := HSZ.out; simp; omega) (fun i hi => own_block own3 i hi)
        exact ⟨⟨k + 1, met ++ [N], _, by omega, by go_num, ⟨by rw [List.length_append, HML.out]; rfl, HE.out⟩, HO3.out.keep B8 (by omega), by rw [List.flatMap_append, HACC.out]; exact hown8, HB3.out.trans (B8.mono (by omega))⟩, by simp [intOf]; omega⟩
    · obtain rfl : k = rs.length := by omega
      have HE : Hid (OR = (met, 0)) := HY.out met (by rw [HM.out.2, Nat.sub_self, HS0.out])
      have HL := HM.out.1
      go_wp2
      go_ret2
      refine ⟨⟨_, by rw [HE.out]; rfl, ?_, own_cap hown, by rw [HE.out]; show wr.ownsRow _ _ _ _ met.length (met.flatMap strC); rw [HL]; exact own_down hown (by omega)⟩, B⟩
      rw [HE.out]
      show RowOf 1 strCell wr.heap.size wr _ met
      rw [← HL] at hown ⊢
      exact own_rows (C := strC) (cells := strCell) (sz := 1) (fun _ => rfl) strC_at hown (by omega)
theorem ordered_any (rs : List PV) (r : Value) (w : World) (hrow : RowOf 7 PV.cell w.heap.size w r rs) (hat : ∀ x ∈ rs, PlcAt w.heap.size w x) (hfit : ∀ x ∈ rs, x.mod.fits) (h8 : rs.length ≤ 8) :
    Calls Tryz.prog 89 #[r] w fun e w' => (∃ v, e = .returned (.tuple #[v, .int .i64 (ordRes (rs.map (·.mod))).2]) ∧ RowOf 1 strCell w'.heap.size w' v (ordRes (rs.map (·.mod))).1 ∧ CapOk v) ∧ Below w.heap.size w w' := by
  refine (ordered_own rs r w hrow hat hfit h8).mono ?_
  rintro e w' ⟨⟨r, h1, h2, h3, _⟩, hb⟩
  exact ⟨⟨r, h1, h2, h3⟩, hb⟩

end Go.Proofs.YtlpnfbpgnfappaaGreat

/- The laying of slices.SortFunc at modules. -/
namespace Go.Proofs.YtlpnfbpgnfappaaGreat
open Go.Shelf

set_option maxRecDepth 100000

def sortFL_ren : Go.Shelf.Ren := ⟨fun | 6 => 147 | 15 => 175 | 14 => 174 | 28 => 198 | 29 => 199 | 20 => 190 | 21 => 191 | 22 => 192 | 23 => 193 | 24 => 194 | 25 => 195 | 26 => 196 | 27 => 197 | 46 => 215 | 47 => 216 | 48 => 217 | 49 => 218 | 50 => 219 | 57 => 235 | n => n, fun | 22 => 126 | 24 => 31 | 25 => 177 | 3 => 3 | 39 => 204 | 0 => 0 | 53 => 224 | 55 => 226 | 4 => 4 | 46 => 218 | 45 => 217 | 50 => 172 | 5 => 5 | 9 => 9 | 66 => 245 | 70 => 249 | 76 => 260 | 77 => 261 | n => n, fun | n => n⟩
theorem sortFL : Go.Proofs.SlLaysF0.n6 Tryz.prog sortFL_ren := {
  mixed := by kernel_rfl
  f6 := ⟨Tryz.f147.name, by decide, Tryz.func147.trans (congrArg some (by kernel_rfl))⟩
  f14 := ⟨Tryz.f174.name, by decide, Tryz.func174.trans (congrArg some (by kernel_rfl))⟩
  f15 := Tryz.func175.trans (congrArg some (by kernel_rfl))
  f20 := ⟨Tryz.f190.name, by decide, Tryz.func190.trans (congrArg some (by kernel_rfl))⟩
  f21 := ⟨Tryz.f191.name, by decide, Tryz.func191.trans (congrArg some (by kernel_rfl))⟩
  f22 := ⟨Tryz.f192.name, by decide, Tryz.func192.trans (congrArg some (by kernel_rfl))⟩
  f23 := ⟨Tryz.f193.name, by decide, Tryz.func193.trans (congrArg some (by kernel_rfl))⟩
  f24 := ⟨Tryz.f194.name, by decide, Tryz.func194.trans (congrArg some (by kernel_rfl))⟩
  f25 := ⟨Tryz.f195.name, by decide, Tryz.func195.trans (congrArg some (by kernel_rfl))⟩
  f26 := ⟨Tryz.f196.name, by decide, Tryz.func196.trans (congrArg some (by kernel_rfl))⟩
  f27 := ⟨Tryz.f197.name, by decide, Tryz.func197.trans (congrArg some (by kernel_rfl))⟩
  f28 := Tryz.func198.trans (congrArg some (by kernel_rfl))
  f29 := Tryz.func199.trans (congrArg some (by kernel_rfl))
  f46 := ⟨Tryz.f215.name, by decide, Tryz.func215.trans (congrArg some (by kernel_rfl))⟩
  f47 := Tryz.func216.trans (congrArg some (by kernel_rfl))
  f48 := Tryz.func217.trans (congrArg some (by kernel_rfl))
  f49 := ⟨Tryz.f218.name, by decide, Tryz.func218.trans (congrArg some (by kernel_rfl))⟩
  f50 := ⟨Tryz.f219.name, by decide, Tryz.func219.trans (congrArg some (by kernel_rfl))⟩
  f57 := ⟨Tryz.f235.name, by decide, Tryz.func235.trans (congrArg some (by kernel_rfl))⟩
  t0 := Tryz.underlying0
  a0 := Tryz.isAgg0
  z0 := Tryz.sizeOf0
  v0 := Tryz.zeroValue0
  t3 := Tryz.underlying3
  a3 := Tryz.isAgg3
  z3 := Tryz.sizeOf3
  v3 := Tryz.zeroValue3
  t4 := Tryz.underlying4
  a4 := Tryz.isAgg4
  z4 := Tryz.sizeOf4
  v4 := Tryz.zeroValue4
  t5 := Tryz.underlying5
  a5 := Tryz.isAgg5
  z5 := Tryz.sizeOf5
  v5 := Tryz.zeroValue5
  t9 := Tryz.underlying9
  a9 := Tryz.isAgg9
  z9 := Tryz.sizeOf9
  v9 := Tryz.zeroValue9
  t22 := Tryz.underlying126
  a22 := Tryz.isAgg126
  z22 := Tryz.sizeOf126
  v22 := Tryz.zeroValue126
  t25 := Tryz.underlying177
  a25 := Tryz.isAgg177
  z25 := Tryz.sizeOf177
  v25 := Tryz.zeroValue177
  t39 := Tryz.underlying204
  a39 := Tryz.isAgg204
  z39 := Tryz.sizeOf204
  v39 := Tryz.zeroValue204
  t45 := Tryz.underlying217
  a45 := Tryz.isAgg217
  z45 := Tryz.sizeOf217
  v45 := Tryz.zeroValue217
  t46 := Tryz.underlying218
  a46 := Tryz.isAgg218
  z46 := Tryz.sizeOf218
  v46 := Tryz.zeroValue218
  t50 := Tryz.underlying172
  a50 := Tryz.isAgg172
  z50 := Tryz.sizeOf172
  v50 := Tryz.zeroValue172
  t53 := Tryz.underlying224
  a53 := Tryz.isAgg224
  z53 := Tryz.sizeOf224
  v53 := Tryz.zeroValue224
  t55 := Tryz.underlying226
  a55 := Tryz.isAgg226
  z55 := Tryz.sizeOf226
  v55 := Tryz.zeroValue226
  t66 := Tryz.underlying245
  a66 := Tryz.isAgg245
  z66 := Tryz.sizeOf245
  v66 := Tryz.zeroValue245
  t70 := Tryz.underlying249
  a70 := Tryz.isAgg249
  z70 := Tryz.sizeOf249
  v70 := Tryz.zeroValue249
  t76 := Tryz.underlying260
  a76 := Tryz.isAgg260
  z76 := Tryz.sizeOf260
  v76 := Tryz.zeroValue260
  t77 := Tryz.underlying261
  a77 := Tryz.isAgg261
  z77 := Tryz.sizeOf261
  v77 := Tryz.zeroValue261 }

end Go.Proofs.YtlpnfbpgnfappaaGreat
