/- Texts that are laid together. -/
import Derived.Test.YtppmihnbpmkbnadGreatMrgJ
import Derived.Test.YtppmihnbpmkbnadGreatMrgS
import Derived.Test.YtppmihnbpmkbnadGreatMrgP
import Derived.Test.YtppmihnbpmkbnadGreatMrgK
import Derived.Test.YtppmihnbpmkbnadGreatMrgL
import Derived.Test.YtppmihnbpmkbnadGreatMrgN
import Derived.Test.YtppmihnbpmkbnadGreatMrgR
import Derived.Test.YtppmihnbpmkbnadGreatMrgC

/- What is come to, both ways. -/
namespace Go.Proofs.YtppmihnbpmkbnadGreat
open Go.RowKit Go.PlainAid

theorem comeErr_zero {L : List Plc} {name : ByteArray} (h : comeErr L name = 0) : chkGraph L = 0 := by
  unfold comeErr at h
  split at h
  · exact absurd h ‹_›
  · omega
theorem chk_nodup {L : List Plc} (h : chkGraph L = 0) : ((L.map (·.mod)).map (·.name)).Nodup := by
  have := (chkGraph_zero.1 h).2.2
  rw [List.map_map]
  exact this
theorem ComeRes.err {nx : Mod → Mod → Bool} {L : List Plc} {name : ByteArray} {ss : List ByteArray} (h : ComeRes nx L name ss) (he : comeErr L name ≠ 0) : ss = [] := by
  rcases h with ⟨_, h⟩ | ⟨h, _⟩
  · exact h
  · exact absurd h he
theorem ComeRes.ok {nx : Mod → Mod → Bool} {L : List Plc} {name : ByteArray} {ss : List ByteArray} (h : ComeRes nx L name ss) (he : comeErr L name = 0) : ∃ f, f < L.length ∧ nameAt (L.map (·.mod)) f = name ∧ Comes nx (L.map (·.mod)) f ss := by
  rcases h with ⟨h, _⟩ | ⟨_, h⟩
  · exact absurd he h
  · exact h
theorem Comes.has {nx : Mod → Mod → Bool} {Ms : List Mod} (hd : (Ms.map (·.name)).Nodup) {f k : Nat} {ss : List ByteArray} (h : Comes nx Ms f ss) (hk : k < Ms.length) : nameAt Ms k ∈ ss ↔ Via (Next nx Ms) f k := by
  rw [h.2]
  constructor
  · rintro ⟨j, hj, he⟩
    rw [← nameAt_inj hd hj.lt_of.2 hk he]
    exact hj
  · exact fun hv => ⟨k, hv, rfl⟩
theorem turned_has {L : List Plc} {a b : ByteArray} {xs ys : List ByteArray} (ha : comeErr L a = 0) (hb : comeErr L b = 0) (hx : ComeRes nxNeed L a xs) (hy : ComeRes nxUse L b ys) : (xs.any fun y => y == b) = (ys.any fun y => y == a) := by
  have hd := chk_nodup (comeErr_zero ha)
  obtain ⟨fa, la, na, ca⟩ := hx.ok ha
  obtain ⟨fb, lb, nb, cb⟩ := hy.ok hb
  have la' : fa < (L.map (·.mod)).length := by simpa using la
  have lb' : fb < (L.map (·.mod)).length := by simpa using lb
  rw [Bool.eq_iff_iff, any_mem, any_mem, ← na, ← nb, ca.has hd lb', cb.has hd la', via_turn]
theorem turned_more {L : List Plc} {a b : ByteArray} {xs zs : List ByteArray} (ha : comeErr L a = 0) (hb : comeErr L b = 0) (hx : ComeRes nxNeed L a xs) (hz : ComeRes nxNeed L b zs) (h : (xs.any fun y => y == b) = true) : ∀ z ∈ zs, (xs.any fun y => y == z) = true := by
  have hd := chk_nodup (comeErr_zero ha)
  obtain ⟨fa, la, na, ca⟩ := hx.ok ha
  obtain ⟨fb, lb, nb, cb⟩ := hz.ok hb
  have lb' : fb < (L.map (·.mod)).length := by simpa using lb
  rw [any_mem, ← nb, ca.has hd lb'] at h
  intro z hz2
  rw [any_mem]
  obtain ⟨k, hk, rfl⟩ := (cb.2 z).1 hz2
  exact (ca.has hd hk.lt_of.2).2 (h.trans hk)

end Go.Proofs.YtppmihnbpmkbnadGreat

/- The contracts of the document's IsRound and NeedsOf. -/
namespace Go.Proofs.YtppmihnbpmkbnadGreat
open Go.RowKit Go.PlainAid

set_option maxRecDepth 100000

set_option maxHeartbeats 2000000 in
theorem isRound_any (l : List PV) (v : Value) (w : World) (hrow : IsPlcs w.heap.size w v l) (h8 : l.length ≤ 8) (rb : Bool) (hrb : rb = true ↔ ∃ i, Via (Next nxNeed (l.map (·.mod))) i i) :
    Calls Tryz.prog 47 #[v] w fun e w' => e = .returned (.bool rb) ∧ Below w.heap.size w w' := by
  have HR : Hid (Calls Tryz.prog 91 #[v] w fun e w' => (∃ r T, e = .returned r ∧ MatAt w' w.heap.size l.length r T ∧ ∀ a b, a < l.length → b < l.length → (T a b = true ↔ Via (Next nxNeed (l.map (·.mod))) a b)) ∧ Below w.heap.size w w') := reach_any l v w hrow h8
  have HLT : Hid (∀ i, Via (Next nxNeed (l.map (·.mod))) i i → i < l.length) := fun i h => by simpa using h.lt_of.1
  obtain ⟨⟨a, cap, rfl, hmax, _⟩, _⟩ := hrow
  generalize Via (Next nxNeed (l.map (·.mod))) = V at *
  generalize l.length = n at *
  have HRB : Hid (rb = true ↔ ∃ i, V i i) := hrb
  clear hrb
  go_enter Tryz.func47, Tryz.ntmps47
  go_wp2_with fail
  refine HR.out.mono ?_
  rintro e w2 ⟨⟨r, T, rfl, hM, hT⟩, B2⟩
  clear HR
  have HT : Hid (∀ a b, a < n → b < n → (T a b = true ↔ V a b)) := hT
  have HM : Hid (MatAt w2 w.heap.size n r T) := hM
  obtain ⟨ar, cr, rfl⟩ : ∃ ar cr, r = .slice ar n cr := by
    obtain ⟨vs, _, h2, _⟩ := hM
    exact own_form h2
  clear hT hM
  go_wp2_with fail
  go_loopw [4] (fun q wr => ∃ (k : Nat), k ≤ n ∧ q = .int .i64 k ∧ Hid (∀ j, j < k → T j j = false) ∧ Below w2.heap.size w2 wr) (fun q _ => n - (intOf q).toNat)
  case atStart => exact ⟨0, Nat.zero_le _, rfl, fun j hj => by omega, Below.refl _ _⟩
  case round =>
    obtain ⟨k, hk, rfl, HJ, B⟩ := hrel
    by_cases hlt : k < n
    · obtain ⟨go, co, hv, hbg, hgl, gs, cs, hall⟩ := (HM.out.below B).at (by omega)
      injection hv with e1 _ e3
      subst e1 e3
      obtain ⟨rk, _, lk, rk4⟩ := hall k hlt
      have ckk := (rk4 k hlt).1
      have hlt' : (k : Int) < (n : Int) := by omega
      have HJ2 : Hid (T k k = false → ∀ j, j < k + 1 → T j j = false) := fun h j hj => by
        by_cases e : j = k
        · subst e; exact h
        · exact HJ.out j (by omega)
      have HV : Hid (T k k = true → ∃ i, V i i) := fun h => ⟨k, (HT.out k k hlt hlt).1 h⟩
      clear hall rk4 HJ
      generalize gs k = gk at *
      generalize cs k = ck at *
      generalize T k k = t at *
      cases t
      · go_wp2
        exact ⟨⟨k + 1, by omega, by go_num, HJ2.out (by first | rfl | trivial), B⟩, by simp [intOf]; omega⟩
      · go_wp2
        go_ret
        exact ⟨by rw [HRB.out.2 (HV.out (by first | rfl | trivial))]; rfl, B2.trans (B.mono B2.size)⟩
    · obtain rfl : k = n := by omega
      go_wp2
      go_ret
      have hf : rb = false := by
        cases hr : rb
        · rfl
        · obtain ⟨i, hi⟩ := HRB.out.1 hr
          have h1 := HLT.out i hi
          have h2 := HJ.out i h1
          rw [(HT.out i i h1 h1).2 hi] at h2
          cases h2
      exact ⟨by rw [hf]; rfl, B2.trans (B.mono B2.size)⟩

def nxOf (b : Bool) : Mod → Mod → Bool := if b then nxUse else nxNeed
def tabOf (b : Bool) (T : Nat → Nat → Bool) (f k : Nat) : Bool := if b then T k f else T f k
theorem tab_via {Ms : List Mod} {T : Nat → Nat → Bool} {n : Nat} (h : ∀ a b, a < n → b < n → (T a b = true ↔ Via (Next nxNeed Ms) a b)) {f k : Nat} (hf : f < n) (hk : k < n) (b : Bool) : tabOf b T f k = true ↔ Via (Next (nxOf b) Ms) f k := by
  cases b
  · exact h f k hf hk
  · exact (h k f hk hf).trans via_turn.symm
def pickTo (P : Nat → Bool) (nA : Nat → ByteArray) (k : Nat) : List ByteArray := ((List.range k).filter P).map nA
theorem pickTo_succ (P : Nat → Bool) (nA : Nat → ByteArray) (k : Nat) : pickTo P nA (k + 1) = if P k = true then pickTo P nA k ++ [nA k] else pickTo P nA k := by
  unfold pickTo
  rw [List.range_succ, List.filter_append, List.map_append, List.filter_cons]
  split <;> simp_all
theorem pickTo_len (P : Nat → Bool) (nA : Nat → ByteArray) (k : Nat) : (pickTo P nA k).length ≤ k := by
  unfold pickTo
  rw [List.length_map]
  have := List.length_filter_le P (List.range k)
  simpa using this
theorem rows_sorted {ss rs : List ByteArray} (hp : rs.Perm ss) (hu : rs.Pairwise NotBehind) (hn : ss.Nodup) : Rising rs := by
  have h1 : rs.Nodup := hp.nodup_iff.2 hn
  refine (hu.and h1).imp fun {a b} h => ?_
  rcases Ahead.total a b with h2 | h2 | h2
  · exact h2
  · exact absurd h2 h.2
  · exact absurd h2 h.1
theorem pick_comes {nx : Mod → Mod → Bool} {Ms : List Mod} (hd : (Ms.map (·.name)).Nodup) {f : Nat} {P : Nat → Bool} (hP : ∀ k, k < Ms.length → (P k = true ↔ Via (Next nx Ms) f k)) {rs : List ByteArray} (hp : rs.Perm (pickTo P (nameAt Ms) Ms.length)) (hu : rs.Pairwise NotBehind) : Comes nx Ms f rs := by
  have hn : (pickTo P (nameAt Ms) Ms.length).Nodup := by
    unfold pickTo
    refine List.pairwise_map.2 ((List.Pairwise.filter P (List.nodup_range (n := Ms.length))).imp_of_mem fun {a b} ha hb hne e => hne (nameAt_inj hd ?_ ?_ e))
    · exact List.mem_range.1 (List.mem_filter.1 ha).1
    · exact List.mem_range.1 (List.mem_filter.1 hb).1
  refine ⟨rows_sorted hp hu hn, fun x => ?_⟩
  rw [hp.mem_iff]
  unfold pickTo
  rw [List.mem_map]
  constructor
  · rintro ⟨k, hk, rfl⟩
    obtain ⟨h1, h2⟩ := List.mem_filter.1 hk
    exact ⟨k, (hP k (List.mem_range.1 h1)).1 h2, rfl⟩
  · rintro ⟨k, hk, rfl⟩
    have hl := hk.lt_of.2
    exact ⟨k, List.mem_filter.2 ⟨List.mem_range.2 hl, (hP k hl).2 hk⟩, rfl⟩

end Go.Proofs.YtppmihnbpmkbnadGreat

/- What an order is. -/
namespace Go.Proofs.YtppmihnbpmkbnadGreat
open Go.RowKit Go.PlainAid

theorem ord_err {L : List Plc} (h : (ordOf L).2 ≠ 0) : (ordOf L).1 = [] := by
  rcases ordOf_cases L with ⟨_, e⟩ | ⟨_, e⟩
  · rw [e]
  · rw [e] at h ⊢
    unfold ordRes at h ⊢
    split
    · rfl
    · rename_i c hc
      rw [hc] at h
      exact absurd rfl h
theorem ord_ok {L : List Plc} (h : (ordOf L).2 = 0) : chkGraph L = 0 ∧ orderFrom (risen L) (risen L).length [] = some (ordOf L).1 := by
  rcases ordOf_cases L with ⟨h1, e⟩ | ⟨h1, e⟩
  · rw [e] at h
    exact absurd h h1
  · refine ⟨h1, ?_⟩
    rw [e] at h ⊢
    unfold ordRes at h ⊢
    split
    · rename_i hc
      rw [hc] at h
      exact absurd h (by decide)
    · rename_i c hc
      exact hc
theorem comeErr_of {L : List Plc} {name : ByteArray} (h0 : chkGraph L = 0) {m : Mod} (hm : m ∈ L.map (·.mod)) (hn : m.name = name) : comeErr L name = 0 := by
  unfold comeErr
  rw [if_neg (by omega), if_pos]
  obtain ⟨p, hp, rfl⟩ := List.mem_map.1 hm
  exact List.any_eq_true.2 ⟨p, hp, (Go.MapKept.bytes_beq _ _).2 hn⟩
theorem ord_facts {L : List Plc} (h : (ordOf L).2 = 0) : (ordOf L).1.length = L.length ∧ ∀ (i : Nat) (x : ByteArray), (ordOf L).1[i]? = some x → comeErr L x = 0 ∧ (((ordOf L).1.take i).any fun y => y == x) = false ∧ ∀ ns, ComeRes nxNeed L x ns → ∀ z ∈ ns, (((ordOf L).1.take i).any fun y => y == z) = true := by
  obtain ⟨h0, h1⟩ := ord_ok h
  obtain ⟨h2, h3, _⟩ := order_stands .nil h1
  generalize (ordOf L).1 = c at *
  have hd := chk_nodup h0
  refine ⟨by rw [h3, (risen_perm L).length_eq]; simp, fun i x hx => ?_⟩
  obtain ⟨m, hm, hmx, hnot, _⟩ := h2.at i x hx
  have hm2 := (risen_perm L).mem_iff.1 hm
  have he := comeErr_of h0 hm2 hmx
  refine ⟨he, ?_, fun ns hns z hz => ?_⟩
  · rw [← Bool.not_eq_true, any_mem]
    exact hnot
  · obtain ⟨f, hf, hfn, hc⟩ := hns.ok he
    obtain ⟨k, hk, rfl⟩ := (hc.2 z).1 hz
    rw [any_mem]
    exact h2.via (risen_perm L) hd hk i (by rw [hfn]; exact hx)

theorem RowOf.take {α : Type} {sz : Nat} {cells : α → Nat → Value} {n₀ : Nat} {W : World} {a : Option Addr} {n cap : Nat} {l : List α} (h : RowOf sz cells n₀ W (.slice a n cap) l) (k : Nat) (hk : k ≤ l.length) : RowOf sz cells n₀ W (.slice a k cap) (l.take k) := by
  obtain ⟨a', cap', e, hm, h⟩ := h
  injection e with e1 e2 e3
  subst e1 e3
  refine ⟨a, cap, by rw [List.length_take, Nat.min_eq_left hk], by rw [List.length_take]; omega, ?_⟩
  rcases h with h | ⟨b, off, rfl, hb, hc⟩
  · exact .inl (by rw [h]; simp)
  · refine .inr ⟨b, off, rfl, hb, fun j x hj i hi => hc j x ?_ i hi⟩
    rw [List.getElem?_take] at hj
    split at hj
    · exact hj
    · cases hj

end Go.Proofs.YtppmihnbpmkbnadGreat

/- The contract of the document's CheckRegistry. -/
namespace Go.Proofs.YtppmihnbpmkbnadGreat
open Go.RowKit Go.PlainAid

set_option maxRecDepth 100000

theorem ord_round {l : List PV} (h0 : chkGraph (l.map PV.plc) = 0) : ((ordOf (l.map PV.plc)).2 = 0 ∧ ((false = true) ↔ ∃ i, Via (Next nxNeed (l.map (·.mod))) i i)) ∨ ((ordOf (l.map PV.plc)).2 = 4 ∧ ((true = true) ↔ ∃ i, Via (Next nxNeed (l.map (·.mod))) i i)) := by
  have hmm : (l.map PV.plc).map (·.mod) = l.map (·.mod) := by rw [List.map_map]; rfl
  have hd := chk_nodup h0
  rcases ordOf_cases (l.map PV.plc) with ⟨e, _⟩ | ⟨_, e⟩
  · exact absurd h0 e
  · cases ho : orderFrom (risen (l.map PV.plc)) (risen (l.map PV.plc)).length [] with
    | none =>
      refine .inr ⟨by rw [e, ordRes_none ho], fun _ => ?_, fun _ => rfl⟩
      have := order_round (risen_perm _) hd ho
      rw [hmm] at this
      exact this
    | some c =>
      refine .inl ⟨by rw [e, ordRes_some ho], fun h => (by cases h), ?_⟩
      rintro ⟨i, hi⟩
      have hst := order_stands .nil ho
      refine absurd hi ?_
      intro hi
      refine hst.1.noRound (risen_perm _) hd ?_ i (by rw [hmm]; exact hi)
      rw [hst.2.1, (risen_perm (l.map PV.plc)).length_eq]
      simp

set_option maxHeartbeats 4000000 in
theorem checkRegistry_any (K : Ker) (l : List PV) (v : Value) (w : World) (h : IsReg w.heap.size w v K l) (hf : K.fits) (hfit : ∀ x ∈ l, x.mod.fits) :
    Calls Tryz.prog 18 #[v] w fun e w' => e = .returned (.int .i64 (chkRg K (l.map PV.plc))) ∧ Below w.heap.size w w' := by
  obtain ⟨ve, vl, rfl, hE, hL⟩ := h
  have hK : IsKer w.heap.size w (.agg #[.int .i64 K.major, .int .i64 K.minor, ve]) K := ⟨ve, rfl, hE⟩
  have HC : Hid (∀ W, Below w.heap.size w W → Calls Tryz.prog 11 #[.agg #[.int .i64 K.major, .int .i64 K.minor, ve], vl] W fun e w' => e = .returned (.int .i64 (chkLink K (l.map PV.plc))) ∧ Below W.heap.size W w') := fun W hb => checkLink_any K _ l vl W ((hK.below hb).more hb.size) hf ((hL.below hb).more hb.size) hfit
  have HA : Hid (chkLink K (l.map PV.plc) = 0 → ∀ W, Below w.heap.size w W → Calls Tryz.prog 14 #[.agg #[.int .i64 K.major, .int .i64 K.minor, ve], vl] W fun e w' => e = .returned (.tuple #[.string (areaFrom K (l.map PV.plc) ⟨#[]⟩ (l.map PV.plc)).1, .int .i64 (areaFrom K (l.map PV.plc) ⟨#[]⟩ (l.map PV.plc)).2]) ∧ Below W.heap.size W w') := fun h0 W hb => rfArea_any K _ l vl W ((hK.below hb).more hb.size) ((hL.below hb).more hb.size) h0
  have key : (chkLink K (l.map PV.plc) ≠ 0 ∧ chkRg K (l.map PV.plc) = chkLink K (l.map PV.plc)) ∨ ∃ rb : Bool, chkLink K (l.map PV.plc) = 0 ∧ Hid (∀ W, Below w.heap.size w W → Calls Tryz.prog 47 #[vl] W fun e w' => e = .returned (.bool rb) ∧ Below W.heap.size W w') ∧ ((rb = true ∧ chkRg K (l.map PV.plc) = 4) ∨ (rb = false ∧ chkRg K (l.map PV.plc) = (areaFrom K (l.map PV.plc) ⟨#[]⟩ (l.map PV.plc)).2)) := by
    by_cases h0 : chkLink K (l.map PV.plc) = 0
    · right
      have h2 := (chkLink_zero h0).2.1
      have h8 : l.length ≤ 8 := by simpa using (chkReg_zero.1 h2).1
      have hcr : chkRg K (l.map PV.plc) = if (ordOf (l.map PV.plc)).2 ≠ 0 then (ordOf (l.map PV.plc)).2 else (areaOf K (l.map PV.plc)).2 := by unfold chkRg; rw [if_neg (by omega)]
      rcases lnOrd_err h2 with ⟨h3, _⟩ | ⟨_, h3, _⟩
      · rw [(chkLink_zero h0).2.2] at h3; cases h3
      rcases ord_round h3 with ⟨h4, h5⟩ | ⟨h4, h5⟩
      · refine ⟨false, h0, fun W hb => isRound_any l vl W ((hL.below hb).more hb.size) h8 false h5, .inr ⟨rfl, ?_⟩⟩
        rw [hcr, if_neg (by omega)]
        unfold areaOf
        rw [if_neg (by omega)]
      · refine ⟨true, h0, fun W hb => isRound_any l vl W ((hL.below hb).more hb.size) h8 true h5, .inl ⟨rfl, ?_⟩⟩
        rw [hcr, if_pos (by omega), h4]
    · left
      refine ⟨h0, ?_⟩
      unfold chkRg
      rw [if_pos h0]
  generalize chkRg K (l.map PV.plc) = cr at *
  clear hK hf hfit
  obtain ⟨qe, je, rfl, _, _⟩ := hE
  obtain ⟨⟨a, cap, rfl, _, _⟩, _⟩ := hL
  generalize areaFrom K (l.map PV.plc) ⟨#[]⟩ (l.map PV.plc) = ar at *
  generalize chkLink K (l.map PV.plc) = cl at *
  obtain ⟨az, ae⟩ := ar
  obtain ⟨ma, mi, ks⟩ := K
  dsimp only at *
  generalize ks.length = lk at *
  generalize l.length = ll at *
  have BB : Below w.heap.size w (w.alloc (.cells #[.int .i64 ma, .int .i64 mi, .slice qe lk je, .slice a ll cap] 48)) := (Below.refl _ _).alloc (Nat.le_refl _) _
  have KB : CellsAt (w.alloc (.cells #[.int .i64 ma, .int .i64 mi, .slice qe lk je, .slice a ll cap] 48)) w.heap.size 48 #[.int .i64 ma, .int .i64 mi, .slice qe lk je, .slice a ll cap] := CellsAt.new w 48 #[.int .i64 ma, .int .i64 mi, .slice qe lk je, .slice a ll cap]
  go_enter Tryz.func18, Tryz.ntmps18
  go_wp2_with fail
  refine (HC.out _ BB).mono ?_
  rintro e w2 ⟨rfl, b1⟩
  replace KB := KB.below b1 KB.lt
  replace BB := BB.trans (b1.mono BB.size)
  clear b1 HC
  have k0 := KB.cell 0
  have k1 := KB.cell 1
  have k2 := KB.cell 2
  have k3 := KB.cell 3
  have hk := KB.lt
  simp at k0 k1 k2 k3
  rcases key with ⟨h1, rfl⟩ | ⟨rb, rfl, HB, ⟨rfl, rfl⟩ | ⟨rfl, rfl⟩⟩
  · have h1' : (cr == 0) = false := by simpa using h1
    clear h1 HA
    go_wp2
    go_ret
    exact ⟨rfl, BB⟩
  · clear HA
    go_wp2_with fail
    refine (HB.out _ BB).mono ?_
    rintro e w3 ⟨rfl, b1⟩
    replace BB := BB.trans (b1.mono BB.size)
    clear b1
    go_wp2
    go_ret
    exact ⟨rfl, BB⟩
  · have HAA : Hid (∀ W, Below w.heap.size w W → Calls Tryz.prog 14 #[.agg #[.int .i64 ma, .int .i64 mi, .slice qe lk je], .slice a ll cap] W fun e w' => e = .returned (.tuple #[.string az, .int .i64 cr]) ∧ Below W.heap.size W w') := HA.out (by first | rfl | trivial)
    clear HA
    go_wp2_with fail
    refine (HB.out _ BB).mono ?_
    rintro e w3 ⟨rfl, b1⟩
    replace KB := KB.below b1 KB.lt
    replace BB := BB.trans (b1.mono BB.size)
    clear b1 HB k0 k1 k2 k3 hk
    have k0 := KB.cell 0
    have k1 := KB.cell 1
    have k2 := KB.cell 2
    have k3 := KB.cell 3
    have hk := KB.lt
    simp at k0 k1 k2 k3
    go_wp2_with fail
    refine (HAA.out _ BB).mono ?_
    rintro e w4 ⟨rfl, b1⟩
    replace BB := BB.trans (b1.mono BB.size)
    clear b1
    go_wp2
    go_ret
    exact ⟨rfl, BB⟩

end Go.Proofs.YtppmihnbpmkbnadGreat

/- The contracts of the document's SameExports and SameModule: where both are the same. -/
namespace Go.Proofs.YtppmihnbpmkbnadGreat
open Go.RowKit Go.PlainAid

set_option maxHeartbeats 1000000 in
theorem sameExports_yes (l : List Exp) (v v' : Value) (w : World) (h1 : RowOf 2 Exp.cell w.heap.size w v l) (h2 : RowOf 2 Exp.cell w.heap.size w v' l) :
    Calls Tryz.prog 50 #[v, v'] w fun e w' => e = .returned (.bool true) ∧ ∃ q, w' = w.drewN q := by
  obtain ⟨a, cap, rfl, hz, h1⟩ := h1
  obtain ⟨a', cap', rfl, _, h2⟩ := h2
  have hne : ((l.length : Int) != (l.length : Int)) = false := by simp
  go_enter Tryz.func50, Tryz.ntmps50
  go_wp2
  go_loopw [5] (fun i wr => ∃ (k : Nat), k ≤ l.length ∧ i = .int .i64 k ∧ Hid (∃ q, wr = w.drewN q)) (fun i _ => l.length - (intOf i).toNat)
  case atStart => exact ⟨0, Nat.zero_le _, rfl, (⟨0, rfl⟩ : ∃ q, w = w.drewN q)⟩
  case round =>
    obtain ⟨k, hk, rfl, HQ⟩ := hrel
    by_cases hlt : k < l.length
    · obtain ⟨p, hp⟩ : ∃ p, l[k]? = some p := ⟨_, List.getElem?_eq_getElem hlt⟩
      rcases h1 with h | ⟨b, off, rfl, hbn, hc⟩
      · subst h; simp at hlt
      rcases h2 with h | ⟨b', off', rfl, hbn', hc'⟩
      · subst h; simp at hlt
      have hcl : ∀ p, wr.cell? p = w.cell? p := fun p => by obtain ⟨q, hq⟩ := HQ.out; rw [hq]; simp
      have c0 := (hcl _).trans (hc k _ hp 0 (by omega))
      have c1 := (hcl _).trans (hc k _ hp 1 (by omega))
      have d0 := (hcl _).trans (hc' k _ hp 0 (by omega))
      have d1 := (hcl _).trans (hc' k _ hp 1 (by omega))
      obtain ⟨n, A⟩ := p
      dsimp only [Exp.cell] at c0 c1 d0 d1
      rw [Nat.add_zero] at c0 d0
      clear hcl hc hc' hp
      go_wp2
      go_quiet (fail)
      go_wp2
      obtain ⟨q, hq⟩ := HQ.out
      exact ⟨⟨k + 1, by omega, by go_num, (⟨q + _, by rw [hq, World.drewN_drewN]⟩ : ∃ q, _ = w.drewN q)⟩, by simp [intOf]; omega⟩
    · go_wp2
      go_ret
      exact ⟨rfl, HQ.out⟩

set_option maxRecDepth 100000 in
set_option maxHeartbeats 2000000 in
theorem sameModule_yes (M : Mod) (v v' : Value) (w : World) (h : IsMod w.heap.size w v M) (h' : IsMod w.heap.size w v' M) :
    Calls Tryz.prog 21 #[v, v'] w fun e w' => e = .returned (.bool true) ∧ Below w.heap.size w w' := by
  obtain ⟨ve, vi, vp, rfl, hE, hI, hP⟩ := h
  obtain ⟨ve', vi', vp', rfl, hE', hI', hP'⟩ := h'
  obtain ⟨N, a, b, T, es, is, ps⟩ := M
  dsimp only at *
  have HE : Hid (∀ w', Below w.heap.size w w' → Calls Tryz.prog 50 #[ve, ve'] w' fun e w'' => e = .returned (.bool true) ∧ ∃ q, w'' = w'.drewN q) :=
    fun w' hb => sameExports_yes es ve ve' w' ((hE.below hb).more hb.size) ((hE'.below hb).more hb.size)
  obtain ⟨pe, ke, rfl, _, _⟩ := hE
  obtain ⟨pe', ke', rfl, _, _⟩ := hE'
  have HI : Hid (RowOf 4 Imp.cell w.heap.size w vi is) := hI
  have HI' : Hid (RowOf 4 Imp.cell w.heap.size w vi' is) := hI'
  have HP : Hid (RowOf 4 Pat.cell w.heap.size w vp ps) := hP
  have HP' : Hid (RowOf 4 Pat.cell w.heap.size w vp' ps) := hP'
  obtain ⟨pi, ki, rfl, _, _⟩ := hI
  obtain ⟨pi', ki', rfl, _, _⟩ := hI'
  obtain ⟨pp, kp, rfl, _, _⟩ := hP
  obtain ⟨pp', kp', rfl, _, _⟩ := hP'
  have n1 : ((is.length : Int) != (is.length : Int)) = false := by simp
  have n2 : ((ps.length : Int) != (ps.length : Int)) = false := by simp
  have HW : Hid (Below w.heap.size w ((w.alloc (.cells #[.string N, .int .i64 a, .int .i64 b, .string T, .slice pe es.length ke, .slice pi is.length ki, .slice pp ps.length kp] 39)).alloc (.cells #[.string N, .int .i64 a, .int .i64 b, .string T, .slice pe' es.length ke', .slice pi' is.length ki', .slice pp' ps.length kp'] 39))) :=
    ((Below.refl _ _).alloc (Nat.le_refl _) _).alloc (by simp) _
  go_enter Tryz.func21, Tryz.ntmps21
  go_wp2_with fail
  refine (HE.out _ HW.out).mono ?_
  rintro e w1 ⟨rfl, q, hq⟩
  have B1 : Below w.heap.size w w1 := by rw [hq]; exact below_drewN HW.out q
  have hcl : ∀ p, w1.cell? p = ((w.alloc (.cells #[.string N, .int .i64 a, .int .i64 b, .string T, .slice pe es.length ke, .slice pi is.length ki, .slice pp ps.length kp] 39)).alloc (.cells #[.string N, .int .i64 a, .int .i64 b, .string T, .slice pe' es.length ke', .slice pi' is.length ki', .slice pp' ps.length kp'] 39)).cell? p := fun p => by rw [hq]; simp
  have d5 := hcl ⟨w.heap.size, 5, none⟩
  have d6 := hcl ⟨w.heap.size, 6, none⟩
  have f5 := hcl ⟨w.heap.size + 1, 5, none⟩
  have f6 := hcl ⟨w.heap.size + 1, 6, none⟩
  have hz1 : w.heap.size + 1 < w1.heap.size := by rw [hq]; simp
  simp at d5 d6 f5 f6
  obtain ⟨_, _, e0, _, hI⟩ := (HI.out.below B1).more B1.size
  obtain ⟨_, _, e1, _, hI'⟩ := (HI'.out.below B1).more B1.size
  obtain ⟨_, _, e2, _, hP⟩ := (HP.out.below B1).more B1.size
  obtain ⟨_, _, e3, _, hP'⟩ := (HP'.out.below B1).more B1.size
  cases e0; cases e1; cases e2; cases e3
  clear hcl hq HE HI HI' HP HP' HW
  go_wp2
  go_loopw [5] (fun i wr => ∃ (k : Nat), k ≤ is.length ∧ i = .int .i64 k ∧ Below w1.heap.size w1 wr) (fun i _ => is.length - (intOf i).toNat)
  case atStart => exact ⟨0, Nat.zero_le _, rfl, Below.refl _ _⟩
  case round =>
    obtain ⟨k, hk, rfl, B⟩ := hrel
    have x5 := (B.cell (p := ⟨w.heap.size, 5, none⟩) (by simp; omega)).trans d5
    have y5 := (B.cell (p := ⟨w.heap.size + 1, 5, none⟩) (by simp; omega)).trans f5
    by_cases hlt : k < is.length
    · obtain ⟨p, hp⟩ : ∃ p, is[k]? = some p := ⟨_, List.getElem?_eq_getElem hlt⟩
      rcases hI with h | ⟨bb, off, rfl, hbn, hc⟩
      · subst h; simp at hlt
      rcases hI' with h | ⟨bb', off', rfl, hbn', hc'⟩
      · subst h; simp at hlt
      have c0 := (B.cell (p := ⟨bb, off + k * 4 + 0, none⟩) hbn).trans (hc k _ hp 0 (by omega))
      have c1 := (B.cell (p := ⟨bb, off + k * 4 + 1, none⟩) hbn).trans (hc k _ hp 1 (by omega))
      have c2 := (B.cell (p := ⟨bb, off + k * 4 + 2, none⟩) hbn).trans (hc k _ hp 2 (by omega))
      have c3 := (B.cell (p := ⟨bb, off + k * 4 + 3, none⟩) hbn).trans (hc k _ hp 3 (by omega))
      have g0 := (B.cell (p := ⟨bb', off' + k * 4 + 0, none⟩) hbn').trans (hc' k _ hp 0 (by omega))
      have g1 := (B.cell (p := ⟨bb', off' + k * 4 + 1, none⟩) hbn').trans (hc' k _ hp 1 (by omega))
      have g2 := (B.cell (p := ⟨bb', off' + k * 4 + 2, none⟩) hbn').trans (hc' k _ hp 2 (by omega))
      have g3 := (B.cell (p := ⟨bb', off' + k * 4 + 3, none⟩) hbn').trans (hc' k _ hp 3 (by omega))
      obtain ⟨m, n, va, vb⟩ := p
      dsimp only [Imp.cell] at c0 c1 c2 c3 g0 g1 g2 g3
      rw [Nat.add_zero] at c0 g0
      clear hc hc' hp hP hP' d6 f6
      go_wp2
      go_quiet (fail)
      go_wp2
      exact ⟨⟨k + 1, by omega, by go_num, below_drewN B _⟩, by simp [intOf]; omega⟩
    · clear hI hI'
      go_wp2
      go_loopw [6] (fun i wr2 => ∃ (k : Nat), k ≤ ps.length ∧ i = .int .i64 k ∧ Below w1.heap.size w1 wr2) (fun i _ => ps.length - (intOf i).toNat)
      case atStart => exact ⟨0, Nat.zero_le _, rfl, B⟩
      case round =>
        obtain ⟨j, hj, rfl, B2⟩ := hrel
        have x6 := (B2.cell (p := ⟨w.heap.size, 6, none⟩) (by simp; omega)).trans d6
        have y6 := (B2.cell (p := ⟨w.heap.size + 1, 6, none⟩) (by simp; omega)).trans f6
        by_cases hlt2 : j < ps.length
        · obtain ⟨p, hp⟩ : ∃ p, ps[j]? = some p := ⟨_, List.getElem?_eq_getElem hlt2⟩
          rcases hP with h | ⟨bb, off, rfl, hbn, hc⟩
          · subst h; simp at hlt2
          rcases hP' with h | ⟨bb', off', rfl, hbn', hc'⟩
          · subst h; simp at hlt2
          have c0 := (B2.cell (p := ⟨bb, off + j * 4 + 0, none⟩) hbn).trans (hc j _ hp 0 (by omega))
          have c1 := (B2.cell (p := ⟨bb, off + j * 4 + 1, none⟩) hbn).trans (hc j _ hp 1 (by omega))
          have c2 := (B2.cell (p := ⟨bb, off + j * 4 + 2, none⟩) hbn).trans (hc j _ hp 2 (by omega))
          have c3 := (B2.cell (p := ⟨bb, off + j * 4 + 3, none⟩) hbn).trans (hc j _ hp 3 (by omega))
          have g0 := (B2.cell (p := ⟨bb', off' + j * 4 + 0, none⟩) hbn').trans (hc' j _ hp 0 (by omega))
          have g1 := (B2.cell (p := ⟨bb', off' + j * 4 + 1, none⟩) hbn').trans (hc' j _ hp 1 (by omega))
          have g2 := (B2.cell (p := ⟨bb', off' + j * 4 + 2, none⟩) hbn').trans (hc' j _ hp 2 (by omega))
          have g3 := (B2.cell (p := ⟨bb', off' + j * 4 + 3, none⟩) hbn').trans (hc' j _ hp 3 (by omega))
          obtain ⟨K, A, S, D⟩ := p
          dsimp only [Pat.cell] at c0 c1 c2 c3 g0 g1 g2 g3
          rw [Nat.add_zero] at c0 g0
          clear hc hc' hp
          go_wp2
          go_quiet (fail)
          go_wp2
          exact ⟨⟨j + 1, by omega, by go_num, below_drewN B2 _⟩, by simp [intOf]; omega⟩
        · clear hP hP'
          go_wp2
          go_ret
          exact ⟨rfl, B1.trans (B2.mono B1.size)⟩

end Go.Proofs.YtppmihnbpmkbnadGreat
