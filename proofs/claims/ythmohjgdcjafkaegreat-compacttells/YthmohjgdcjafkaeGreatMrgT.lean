/- Texts that are laid together. -/
import Derived.Test.YthmohjgdcjafkaeGreatMrgS
import Derived.Test.YthmohjgdcjafkaeGreatMrgQ
import Derived.Test.YthmohjgdcjafkaeGreatMrgI
import Derived.Test.YthmohjgdcjafkaeGreatMrgJ
import Derived.Test.YthmohjgdcjafkaeGreatMrgL
import Derived.Test.YthmohjgdcjafkaeGreatMrgR
import Derived.Test.YthmohjgdcjafkaeGreatMrgP
import Derived.Test.YthmohjgdcjafkaeGreatMrgB
import Derived.ProofKit
import Derived.OpenShut
import Derived.ShutString
import Derived.ChangeOld
import Derived.SizedLaws
import Derived.Below
import Derived.Carry
import Derived.Deep.Slices

/- The contracts of the document's IsRound and NeedsOf. -/
namespace Go.Proofs.YthmohjgdcjafkaeGreat
open Go.RowKit Go.PlainAid

set_option maxRecDepth 100000

set_option maxHeartbeats 2000000 in
theorem isRound_any (l : List PV) (v : Value) (w : World) (hrow : IsPlcs w.heap.size w v l) (h8 : l.length ≤ 8) (rb : Bool) (hrb : rb = true ↔ ∃ i, Via (Next nxNeed (l.map (·.mod))) i i) :
    Calls Tryz.prog 42 #[v] w fun e w' => e = .returned (.bool rb) ∧ Below w.heap.size w w' := by
  have HR : Hid (Calls Tryz.prog 87 #[v] w fun e w' => (∃ r T, e = .returned r ∧ MatAt w' w.heap.size l.length r T ∧ ∀ a b, a < l.length → b < l.length → (T a b = true ↔ Via (Next nxNeed (l.map (·.mod))) a b)) ∧ Below w.heap.size w w') := reach_any l v w hrow h8
  have HLT : Hid (∀ i, Via (Next nxNeed (l.map (·.mod))) i i → i < l.length) := fun i h => by simpa using h.lt_of.1
  obtain ⟨⟨a, cap, rfl, hmax, _⟩, _⟩ := hrow
  generalize Via (Next nxNeed (l.map (·.mod))) = V at *
  generalize l.length = n at *
  have HRB : Hid (rb = true ↔ ∃ i, V i i) := hrb
  clear hrb
  go_enter Tryz.func42, Tryz.ntmps42
  go_wp2_with fail
  refine HR.out.mono ?_
  rintro e w2 ⟨⟨r, T, rfl, hM, hT⟩, B2⟩
  clear HR
  have HT : Hid (∀ a b, a < n → b < n → (T a b = true ↔ V a b)) := hT
  have HM : Hid (MatAt w2 w.heap.size n r T) := hM
  obtain ⟨ar, cr, rfl⟩ : ∃ ar cr, r = .slice ar n cr := by
    obtain ⟨vs, _, h2, _⟩ := hM
    exact own_form h2
  clear hT hM
  go_wp2_with fail
  go_loopw [4] (fun q wr => ∃ (k : Nat), k ≤ n ∧ q = .int .i64 k ∧ Hid (∀ j, j < k → T j j = false) ∧ Below w2.heap.size w2 wr) (fun q _ => n - (intOf q).toNat)
  case atStart => exact ⟨0, Nat.zero_le _, rfl, fun j hj => by omega, Below.refl _ _⟩
  case round =>
    obtain ⟨k, hk, rfl, HJ, B⟩ := hrel
    by_cases hlt : k < n
    · obtain ⟨go, co, hv, hbg, hgl, gs, cs, hall⟩ := (HM.out.below B).at (by omega)
      injection hv with e1 _ e3
      subst e1 e3
      obtain ⟨rk, _, lk, rk4⟩ := hall k hlt
      have ckk := (rk4 k hlt).1
      have hlt' : (k : Int) < (n : Int) := by omega
      have HJ2 : Hid (T k k = false → ∀ j, j < k + 1 → T j j = false) := fun h j hj => by
        by_cases e : j = k
        · subst e; exact h
        · exact HJ.out j (by omega)
      have HV : Hid (T k k = true → ∃ i, V i i) := fun h => ⟨k, (HT.out k k hlt hlt).1 h⟩
      clear hall rk4 HJ
      generalize gs k = gk at *
      generalize cs k = ck at *
      generalize T k k = t at *
      cases t
      · go_wp2
        exact ⟨⟨k + 1, by omega, by go_num, HJ2.out (by first | rfl | trivial), B⟩, by simp [intOf]; omega⟩
      · go_wp2
        go_ret
        exact ⟨by rw [HRB.out.2 (HV.out (by first | rfl | trivial))]; rfl, B2.trans (B.mono B2.size)⟩
    · obtain rfl : k = n := by omega
      go_wp2
      go_ret
      have hf : rb = false := by
        cases hr : rb
        · rfl
        · obtain ⟨i, hi⟩ := HRB.out.1 hr
          have h1 := HLT.out i hi
          have h2 := HJ.out i h1
          rw [(HT.out i i h1 h1).2 hi] at h2
          cases h2
      exact ⟨by rw [hf]; rfl, B2.trans (B.mono B2.size)⟩

def nxOf (b : Bool) : Mod → Mod → Bool := if b then nxUse else nxNeed
def tabOf (b : Bool) (T : Nat → Nat → Bool) (f k : Nat) : Bool := if b then T k f else T f k
theorem tab_via {Ms : List Mod} {T : Nat → Nat → Bool} {n : Nat} (h : ∀ a b, a < n → b < n → (T a b = true ↔ Via (Next nxNeed Ms) a b)) {f k : Nat} (hf : f < n) (hk : k < n) (b : Bool) : tabOf b T f k = true ↔ Via (Next (nxOf b) Ms) f k := by
  cases b
  · exact h f k hf hk
  · exact (h k f hk hf).trans via_turn.symm
def pickTo (P : Nat → Bool) (nA : Nat → ByteArray) (k : Nat) : List ByteArray := ((List.range k).filter P).map nA
theorem pickTo_succ (P : Nat → Bool) (nA : Nat → ByteArray) (k : Nat) : pickTo P nA (k + 1) = if P k = true then pickTo P nA k ++ [nA k] else pickTo P nA k := by
  unfold pickTo
  rw [List.range_succ, List.filter_append, List.map_append, List.filter_cons]
  split <;> simp_all
theorem pickTo_len (P : Nat → Bool) (nA : Nat → ByteArray) (k : Nat) : (pickTo P nA k).length ≤ k := by
  unfold pickTo
  rw [List.length_map]
  have := List.length_filter_le P (List.range k)
  simpa using this
theorem rows_sorted {ss rs : List ByteArray} (hp : rs.Perm ss) (hu : rs.Pairwise NotBehind) (hn : ss.Nodup) : Rising rs := by
  have h1 : rs.Nodup := hp.nodup_iff.2 hn
  refine (hu.and h1).imp fun {a b} h => ?_
  rcases Ahead.total a b with h2 | h2 | h2
  · exact h2
  · exact absurd h2 h.2
  · exact absurd h2 h.1
theorem pick_comes {nx : Mod → Mod → Bool} {Ms : List Mod} (hd : (Ms.map (·.name)).Nodup) {f : Nat} {P : Nat → Bool} (hP : ∀ k, k < Ms.length → (P k = true ↔ Via (Next nx Ms) f k)) {rs : List ByteArray} (hp : rs.Perm (pickTo P (nameAt Ms) Ms.length)) (hu : rs.Pairwise NotBehind) : Comes nx Ms f rs := by
  have hn : (pickTo P (nameAt Ms) Ms.length).Nodup := by
    unfold pickTo
    refine List.pairwise_map.2 ((List.Pairwise.filter P (List.nodup_range (n := Ms.length))).imp_of_mem fun {a b} ha hb hne e => hne (nameAt_inj hd ?_ ?_ e))
    · exact List.mem_range.1 (List.mem_filter.1 ha).1
    · exact List.mem_range.1 (List.mem_filter.1 hb).1
  refine ⟨rows_sorted hp hu hn, fun x => ?_⟩
  rw [hp.mem_iff]
  unfold pickTo
  rw [List.mem_map]
  constructor
  · rintro ⟨k, hk, rfl⟩
    obtain ⟨h1, h2⟩ := List.mem_filter.1 hk
    exact ⟨k, (hP k (List.mem_range.1 h1)).1 h2, rfl⟩
  · rintro ⟨k, hk, rfl⟩
    have hl := hk.lt_of.2
    exact ⟨k, List.mem_filter.2 ⟨List.mem_range.2 hl, (hP k hl).2 hk⟩, rfl⟩

end Go.Proofs.YthmohjgdcjafkaeGreat

/- What an order is. -/
namespace Go.Proofs.YthmohjgdcjafkaeGreat
open Go.RowKit Go.PlainAid

theorem ord_err {L : List Plc} (h : (ordOf L).2 ≠ 0) : (ordOf L).1 = [] := by
  rcases ordOf_cases L with ⟨_, e⟩ | ⟨_, e⟩
  · rw [e]
  · rw [e] at h ⊢
    unfold ordRes at h ⊢
    split
    · rfl
    · rename_i c hc
      rw [hc] at h
      exact absurd rfl h
theorem ord_ok {L : List Plc} (h : (ordOf L).2 = 0) : chkGraph L = 0 ∧ orderFrom (risen L) (risen L).length [] = some (ordOf L).1 := by
  rcases ordOf_cases L with ⟨h1, e⟩ | ⟨h1, e⟩
  · rw [e] at h
    exact absurd h h1
  · refine ⟨h1, ?_⟩
    rw [e] at h ⊢
    unfold ordRes at h ⊢
    split
    · rename_i hc
      rw [hc] at h
      exact absurd h (by decide)
    · rename_i c hc
      exact hc
theorem comeErr_of {L : List Plc} {name : ByteArray} (h0 : chkGraph L = 0) {m : Mod} (hm : m ∈ L.map (·.mod)) (hn : m.name = name) : comeErr L name = 0 := by
  unfold comeErr
  rw [if_neg (by omega), if_pos]
  obtain ⟨p, hp, rfl⟩ := List.mem_map.1 hm
  exact List.any_eq_true.2 ⟨p, hp, (Go.MapKept.bytes_beq _ _).2 hn⟩
theorem ord_facts {L : List Plc} (h : (ordOf L).2 = 0) : (ordOf L).1.length = L.length ∧ ∀ (i : Nat) (x : ByteArray), (ordOf L).1[i]? = some x → comeErr L x = 0 ∧ (((ordOf L).1.take i).any fun y => y == x) = false ∧ ∀ ns, ComeRes nxNeed L x ns → ∀ z ∈ ns, (((ordOf L).1.take i).any fun y => y == z) = true := by
  obtain ⟨h0, h1⟩ := ord_ok h
  obtain ⟨h2, h3, _⟩ := order_stands .nil h1
  generalize (ordOf L).1 = c at *
  have hd := chk_nodup h0
  refine ⟨by rw [h3, (risen_perm L).length_eq]; simp, fun i x hx => ?_⟩
  obtain ⟨m, hm, hmx, hnot, _⟩ := h2.at i x hx
  have hm2 := (risen_perm L).mem_iff.1 hm
  have he := comeErr_of h0 hm2 hmx
  refine ⟨he, ?_, fun ns hns z hz => ?_⟩
  · rw [← Bool.not_eq_true, any_mem]
    exact hnot
  · obtain ⟨f, hf, hfn, hc⟩ := hns.ok he
    obtain ⟨k, hk, rfl⟩ := (hc.2 z).1 hz
    rw [any_mem]
    exact h2.via (risen_perm L) hd hk i (by rw [hfn]; exact hx)

theorem RowOf.take {α : Type} {sz : Nat} {cells : α → Nat → Value} {n₀ : Nat} {W : World} {a : Option Addr} {n cap : Nat} {l : List α} (h : RowOf sz cells n₀ W (.slice a n cap) l) (k : Nat) (hk : k ≤ l.length) : RowOf sz cells n₀ W (.slice a k cap) (l.take k) := by
  obtain ⟨a', cap', e, hm, h⟩ := h
  injection e with e1 e2 e3
  subst e1 e3
  refine ⟨a, cap, by rw [List.length_take, Nat.min_eq_left hk], by rw [List.length_take]; omega, ?_⟩
  rcases h with h | ⟨b, off, rfl, hb, hc⟩
  · exact .inl (by rw [h]; simp)
  · refine .inr ⟨b, off, rfl, hb, fun j x hj i hi => hc j x ?_ i hi⟩
    rw [List.getElem?_take] at hj
    split at hj
    · exact hj
    · cases hj

end Go.Proofs.YthmohjgdcjafkaeGreat

/- The contract of the document's CheckRegistry. -/
namespace Go.Proofs.YthmohjgdcjafkaeGreat
open Go.RowKit Go.PlainAid

set_option maxRecDepth 100000

theorem ord_round {l : List PV} (h0 : chkGraph (l.map PV.plc) = 0) : ((ordOf (l.map PV.plc)).2 = 0 ∧ ((false = true) ↔ ∃ i, Via (Next nxNeed (l.map (·.mod))) i i)) ∨ ((ordOf (l.map PV.plc)).2 = 4 ∧ ((true = true) ↔ ∃ i, Via (Next nxNeed (l.map (·.mod))) i i)) := by
  have hmm : (l.map PV.plc).map (·.mod) = l.map (·.mod) := by rw [List.map_map]; rfl
  have hd := chk_nodup h0
  rcases ordOf_cases (l.map PV.plc) with ⟨e, _⟩ | ⟨_, e⟩
  · exact absurd h0 e
  · cases ho : orderFrom (risen (l.map PV.plc)) (risen (l.map PV.plc)).length [] with
    | none =>
      refine .inr ⟨by rw [e, ordRes_none ho], fun _ => ?_, fun _ => rfl⟩
      have := order_round (risen_perm _) hd ho
      rw [hmm] at this
      exact this
    | some c =>
      refine .inl ⟨by rw [e, ordRes_some ho], fun h => (by cases h), ?_⟩
      rintro ⟨i, hi⟩
      have hst := order_stands .nil ho
      refine absurd hi ?_
      intro hi
      refine hst.1.noRound (risen_perm _) hd ?_ i (by rw [hmm]; exact hi)
      rw [hst.2.1, (risen_perm (l.map PV.plc)).length_eq]
      simp

set_option maxHeartbeats 4000000 in
theorem checkRegistry_any (K : Ker) (l : List PV) (v : Value) (w : World) (h : IsReg w.heap.size w v K l) (hf : K.fits) (hfit : ∀ x ∈ l, x.mod.fits) :
    Calls Tryz.prog 12 #[v] w fun e w' => e = .returned (.int .i64 (chkRg K (l.map PV.plc))) ∧ Below w.heap.size w w' := by
  obtain ⟨ve, vl, rfl, hE, hL⟩ := h
  have hK : IsKer w.heap.size w (.agg #[.int .i64 K.major, .int .i64 K.minor, ve]) K := ⟨ve, rfl, hE⟩
  have HC : Hid (∀ W, Below w.heap.size w W → Calls Tryz.prog 41 #[.agg #[.int .i64 K.major, .int .i64 K.minor, ve], vl] W fun e w' => e = .returned (.int .i64 (chkLink K (l.map PV.plc))) ∧ Below W.heap.size W w') := fun W hb => checkLink_any K _ l vl W ((hK.below hb).more hb.size) hf ((hL.below hb).more hb.size) hfit
  have HA : Hid (chkLink K (l.map PV.plc) = 0 → ∀ W, Below w.heap.size w W → Calls Tryz.prog 43 #[.agg #[.int .i64 K.major, .int .i64 K.minor, ve], vl] W fun e w' => e = .returned (.tuple #[.string (areaFrom K (l.map PV.plc) ⟨#[]⟩ (l.map PV.plc)).1, .int .i64 (areaFrom K (l.map PV.plc) ⟨#[]⟩ (l.map PV.plc)).2]) ∧ Below W.heap.size W w') := fun h0 W hb => rfArea_any K _ l vl W ((hK.below hb).more hb.size) ((hL.below hb).more hb.size) h0
  have key : (chkLink K (l.map PV.plc) ≠ 0 ∧ chkRg K (l.map PV.plc) = chkLink K (l.map PV.plc)) ∨ ∃ rb : Bool, chkLink K (l.map PV.plc) = 0 ∧ Hid (∀ W, Below w.heap.size w W → Calls Tryz.prog 42 #[vl] W fun e w' => e = .returned (.bool rb) ∧ Below W.heap.size W w') ∧ ((rb = true ∧ chkRg K (l.map PV.plc) = 4) ∨ (rb = false ∧ chkRg K (l.map PV.plc) = (areaFrom K (l.map PV.plc) ⟨#[]⟩ (l.map PV.plc)).2)) := by
    by_cases h0 : chkLink K (l.map PV.plc) = 0
    · right
      have h2 := (chkLink_zero h0).2.1
      have h8 : l.length ≤ 8 := by simpa using (chkReg_zero.1 h2).1
      have hcr : chkRg K (l.map PV.plc) = if (ordOf (l.map PV.plc)).2 ≠ 0 then (ordOf (l.map PV.plc)).2 else (areaOf K (l.map PV.plc)).2 := by unfold chkRg; rw [if_neg (by omega)]
      rcases lnOrd_err h2 with ⟨h3, _⟩ | ⟨_, h3, _⟩
      · rw [(chkLink_zero h0).2.2] at h3; cases h3
      rcases ord_round h3 with ⟨h4, h5⟩ | ⟨h4, h5⟩
      · refine ⟨false, h0, fun W hb => isRound_any l vl W ((hL.below hb).more hb.size) h8 false h5, .inr ⟨rfl, ?_⟩⟩
        rw [hcr, if_neg (by omega)]
        unfold areaOf
        rw [if_neg (by omega)]
      · refine ⟨true, h0, fun W hb => isRound_any l vl W ((hL.below hb).more hb.size) h8 true h5, .inl ⟨rfl, ?_⟩⟩
        rw [hcr, if_pos (by omega), h4]
    · left
      refine ⟨h0, ?_⟩
      unfold chkRg
      rw [if_pos h0]
  generalize chkRg K (l.map PV.plc) = cr at *
  clear hK hf hfit
  obtain ⟨qe, je, rfl, _, _⟩ := hE
  obtain ⟨⟨a, cap, rfl, _, _⟩, _⟩ := hL
  generalize areaFrom K (l.map PV.plc) ⟨#[]⟩ (l.map PV.plc) = ar at *
  generalize chkLink K (l.map PV.plc) = cl at *
  obtain ⟨az, ae⟩ := ar
  obtain ⟨ma, mi, ks⟩ := K
  dsimp only at *
  generalize ks.length = lk at *
  generalize l.length = ll at *
  have BB : Below w.heap.size w (w.alloc (.cells #[.int .i64 ma, .int .i64 mi, .slice qe lk je, .slice a ll cap] 27)) := (Below.refl _ _).alloc (Nat.le_refl _) _
  have KB : CellsAt (w.alloc (.cells #[.int .i64 ma, .int .i64 mi, .slice qe lk je, .slice a ll cap] 27)) w.heap.size 27 #[.int .i64 ma, .int .i64 mi, .slice qe lk je, .slice a ll cap] := CellsAt.new w 27 #[.int .i64 ma, .int .i64 mi, .slice qe lk je, .slice a ll cap]
  go_enter Tryz.func12, Tryz.ntmps12
  go_wp2_with fail
  refine (HC.out _ BB).mono ?_
  rintro e w2 ⟨rfl, b1⟩
  replace KB := KB.below b1 KB.lt
  replace BB := BB.trans (b1.mono BB.size)
  clear b1 HC
  have k0 := KB.cell 0
  have k1 := KB.cell 1
  have k2 := KB.cell 2
  have k3 := KB.cell 3
  have hk := KB.lt
  simp at k0 k1 k2 k3
  rcases key with ⟨h1, rfl⟩ | ⟨rb, rfl, HB, ⟨rfl, rfl⟩ | ⟨rfl, rfl⟩⟩
  · have h1' : (cr == 0) = false := by simpa using h1
    clear h1 HA
    go_wp2
    go_ret
    exact ⟨rfl, BB⟩
  · clear HA
    go_wp2_with fail
    refine (HB.out _ BB).mono ?_
    rintro e w3 ⟨rfl, b1⟩
    replace BB := BB.trans (b1.mono BB.size)
    clear b1
    go_wp2
    go_ret
    exact ⟨rfl, BB⟩
  · have HAA : Hid (∀ W, Below w.heap.size w W → Calls Tryz.prog 43 #[.agg #[.int .i64 ma, .int .i64 mi, .slice qe lk je], .slice a ll cap] W fun e w' => e = .returned (.tuple #[.string az, .int .i64 cr]) ∧ Below W.heap.size W w') := HA.out (by first | rfl | trivial)
    clear HA
    go_wp2_with fail
    refine (HB.out _ BB).mono ?_
    rintro e w3 ⟨rfl, b1⟩
    replace KB := KB.below b1 KB.lt
    replace BB := BB.trans (b1.mono BB.size)
    clear b1 HB k0 k1 k2 k3 hk
    have k0 := KB.cell 0
    have k1 := KB.cell 1
    have k2 := KB.cell 2
    have k3 := KB.cell 3
    have hk := KB.lt
    simp at k0 k1 k2 k3
    go_wp2_with fail
    refine (HAA.out _ BB).mono ?_
    rintro e w4 ⟨rfl, b1⟩
    replace BB := BB.trans (b1.mono BB.size)
    clear b1
    go_wp2
    go_ret
    exact ⟨rfl, BB⟩

end Go.Proofs.YthmohjgdcjafkaeGreat

/- The walk of the law CompactTells: it returns true. Printed by genct.py. -/
namespace Go.Proofs.YthmohjgdcjafkaeGreat.compactTells
open Go.RowKit Go.PlainAid Go.Lib

set_option maxRecDepth 100000

set_option maxHeartbeats 16000000 in
theorem walk0 (K : Ker) (l : List PV) (v : Value) (w : World) (h : IsReg w.heap.size w v K l) (hf : K.fits) (hfit : ∀ x ∈ l, x.mod.fits) (h0 : chkRg K (l.map PV.plc) = 0) :
    Calls Tryz.prog 7 #[v] w fun e w' => e = .returned (.bool true) ∧ Below w.heap.size w w' := by
  obtain ⟨SL, sb, hsr⟩ : ∃ SL sb, stepRes (l.map PV.plc) = (SL, sb) := ⟨_, _, rfl⟩
  obtain ⟨PL, hpl⟩ : ∃ PL, packFrom 0 (l.map PV.plc) = PL := ⟨_, rfl⟩
  obtain ⟨nn, hnn⟩ : ∃ nn, offFrom 0 (l.map PV.plc) = nn := ⟨_, rfl⟩
  have HST : Hid (∀ W, Below w.heap.size w W → Calls Tryz.prog 24 #[v] W fun e w' => (∃ (v' : Value) (l' : List PV), e = .returned (.tuple #[v', .bool sb, .int .i64 0]) ∧ l'.map PV.plc = SL ∧ IsReg w'.heap.size w' v' K l') ∧ Below W.heap.size W w') := fun W hb => by
    refine (compStep_any K l v W ((h.below hb).more hb.size) hf hfit).mono ?_
    rintro e w' ⟨⟨v', l', rfl, hp, _, ho⟩, hb⟩
    have hi := stepAns_reg hp ho
    have ha : stepAns K (l.map PV.plc) = ((K, SL), sb, 0) := by
      unfold stepAns
      rw [if_pos h0, hsr]
    rw [ha] at hp hi ⊢
    exact ⟨⟨v', l', rfl, hp, hi⟩, hb⟩
  have HPK : Hid (∀ W, Below w.heap.size w W → Calls Tryz.prog 22 #[v] W fun e w' => (∃ (v' : Value) (l' : List PV), e = .returned (.tuple #[v', .int .i64 (nn : Int), .int .i64 0]) ∧ l'.map PV.plc = PL ∧ IsReg w'.heap.size w' v' K l') ∧ Below W.heap.size W w') := fun W hb => by
    refine (compPack_any K l v W ((h.below hb).more hb.size) hf hfit).mono ?_
    rintro e w' ⟨⟨v', l', rfl, hp, _, ho⟩, hb⟩
    have hi := packAns_reg hp ho
    have ha : packAns K (l.map PV.plc) = ((K, PL), nn, 0) := by
      unfold packAns
      rw [if_pos h0, hpl, hnn]
    rw [ha] at hp hi ⊢
    exact ⟨⟨v', l', rfl, hp, hi⟩, hb⟩
  have HCR : Hid (∀ W, Below w.heap.size w W → Calls Tryz.prog 12 #[v] W fun e w' => e = .returned (.int .i64 0) ∧ Below W.heap.size W w') := fun W hb => by
    have := checkRegistry_any K l v W ((h.below hb).more hb.size) hf hfit
    rw [h0] at this
    exact this
  have HSO : Hid (∀ W, Below w.heap.size w W → Calls Tryz.prog 25 #[v] W fun e w' => (∃ (v' : Value) (l' : List PV), e = .returned (.tuple #[v', .bool sb]) ∧ l'.map PV.plc = SL ∧ IsReg w'.heap.size w' v' K l') ∧ Below W.heap.size W w') := fun W hb => by
    have h3 := (rg_lens h0).2.2.2
    refine (stepOf_any K l v W ((h.below hb).more hb.size) (reg_lens h3).1 fun x hx => (chkMod_exps ((chkReg_zero.1 h3).2.1 x.plc (List.mem_map_of_mem hx))).2.1).mono ?_
    rintro e w' ⟨⟨v', l', rfl, hp, _, hi⟩, hb⟩
    rw [hsr] at hp ⊢
    exact ⟨⟨v', l', rfl, hp, hi⟩, hb⟩
  have HPO : Hid (∀ W, Below w.heap.size w W → Calls Tryz.prog 26 #[v] W fun e w' => (∃ (v' : Value) (l' : List PV), e = .returned (.tuple #[v', .int .i64 (nn : Int)]) ∧ l'.map PV.plc = PL ∧ IsReg w'.heap.size w' v' K l') ∧ Below W.heap.size W w') := fun W hb => by
    refine (packOf_any K l v W ((h.below hb).more hb.size) h0).mono ?_
    rintro e w' ⟨⟨v', l', rfl, hp, _, hi⟩, hb⟩
    rw [hpl] at hp
    rw [hnn]
    exact ⟨⟨v', l', rfl, hp, hi⟩, hb⟩
  obtain ⟨qe, je, a, cap, rfl⟩ := h.shape
  clear h hf hfit h0 hsr hpl hnn
  generalize hlk : K.exps.length = lk at *
  have HLK : Hid (K.exps.length = lk) := hlk
  clear hlk
  have HB0 : Hid (Below w.heap.size w w) := Below.refl _ _
  go_enter Tryz.func7, Tryz.ntmps7
  have ba : Below w.heap.size w (w.alloc (.cells #[.int .i64 K.major, .int .i64 K.minor, .slice qe lk je, .slice a l.length cap] 27)) := (Below.refl _ _).alloc (Nat.le_refl _) _
  have HB1 : Hid (Below w.heap.size w (w.alloc (.cells #[.int .i64 K.major, .int .i64 K.minor, .slice qe lk je, .slice a l.length cap] 27))) := HB0.out.trans (ba.mono HB0.out.size)
  clear HB0
  clear ba
  have HC2_g1 : Hid (CellsAt (w.alloc (.cells #[.int .i64 K.major, .int .i64 K.minor, .slice qe lk je, .slice a l.length cap] 27)) w.heap.size 27 #[.int .i64 K.major, .int .i64 K.minor, .slice qe lk je, .slice a l.length cap]) := CellsAt.new _ _ _
  go_wp2_with fail
  refine (HST.out _ HB1.out).mono ?_
  generalize (w.alloc (.cells #[.int .i64 K.major, .int .i64 K.minor, .slice qe lk je, .slice a l.length cap] 27)) = w1 at *
  rintro e w2 ⟨⟨vg3, lg3, rfl, hpg3, hig3⟩, bg3⟩
  have HB3 : Hid (Below w.heap.size w w2) := HB1.out.trans (bg3.mono HB1.out.size)
  have HC3_g1 : Hid (CellsAt w2 w.heap.size 27 #[.int .i64 K.major, .int .i64 K.minor, .slice qe lk je, .slice a l.length cap]) := HC2_g1.out.below bg3 HC2_g1.out.lt
  clear HB1 HC2_g1
  obtain ⟨qg3, jg3, ag3, cg3, rfl⟩ := hig3.shape0
  rw [HLK.out] at hig3 ⊢
  have HR4_g3 : Hid (IsReg w2.heap.size w2 (.agg #[.int .i64 K.major, .int .i64 K.minor, .slice qg3 lk jg3, .slice ag3 lg3.length cg3]) K lg3) := hig3
  have HPg3 : Hid (lg3.map PV.plc = SL) := hpg3
  clear bg3 hig3 hpg3
  clear HST
  have ba : Below w2.heap.size w2 (w2.alloc (.cells #[.int .i64 K.major, .int .i64 K.minor, .slice qg3 lk jg3, .slice ag3 lg3.length cg3] 27)) := (Below.refl _ _).alloc (Nat.le_refl _) _
  have og_g1_g3 : w.heap.size < w2.heap.size := CellsAt.lt HC3_g1.out
  have HB5 : Hid (Below w.heap.size w (w2.alloc (.cells #[.int .i64 K.major, .int .i64 K.minor, .slice qg3 lk jg3, .slice ag3 lg3.length cg3] 27))) := HB3.out.trans (ba.mono HB3.out.size)
  have HC5_g1 : Hid (CellsAt (w2.alloc (.cells #[.int .i64 K.major, .int .i64 K.minor, .slice qg3 lk jg3, .slice ag3 lg3.length cg3] 27)) w.heap.size 27 #[.int .i64 K.major, .int .i64 K.minor, .slice qe lk je, .slice a l.length cap]) := HC3_g1.out.below ba HC3_g1.out.lt
  have HR5_g3 : Hid (IsReg (w2.alloc (.cells #[.int .i64 K.major, .int .i64 K.minor, .slice qg3 lk jg3, .slice ag3 lg3.length cg3] 27)).heap.size (w2.alloc (.cells #[.int .i64 K.major, .int .i64 K.minor, .slice qg3 lk jg3, .slice ag3 lg3.length cg3] 27)) (.agg #[.int .i64 K.major, .int .i64 K.minor, .slice qg3 lk jg3, .slice ag3 lg3.length cg3]) K lg3) := (HR4_g3.out.below ba).more ba.size
  clear HB3 HC3_g1 HR4_g3
  clear ba
  have HC6_g3 : Hid (CellsAt (w2.alloc (.cells #[.int .i64 K.major, .int .i64 K.minor, .slice qg3 lk jg3, .slice ag3 lg3.length cg3] 27)) w2.heap.size 27 #[.int .i64 K.major, .int .i64 K.minor, .slice qg3 lk jg3, .slice ag3 lg3.length cg3]) := CellsAt.new _ _ _
  have rg10 := CellsAt.cell HC5_g1.out 0
  have rg11 := CellsAt.cell HC5_g1.out 1
  have rg12 := CellsAt.cell HC5_g1.out 2
  have rg13 := CellsAt.cell HC5_g1.out 3
  have rg1l := CellsAt.lt HC5_g1.out
  simp at rg10 rg11 rg12 rg13
  go_wp2_with fail
  clear rg10 rg11 rg12 rg13 rg1l
  refine (HPK.out _ HB5.out).mono ?_
  generalize (w2.alloc (.cells #[.int .i64 K.major, .int .i64 K.minor, .slice qg3 lk jg3, .slice ag3 lg3.length cg3] 27)) = w3 at *
  generalize w2.heap.size = g3 at *
  rintro e w4 ⟨⟨vg6, lg6, rfl, hpg6, hig6⟩, bg6⟩
  have HB7 : Hid (Below w.heap.size w w4) := HB5.out.trans (bg6.mono HB5.out.size)
  have HC7_g1 : Hid (CellsAt w4 w.heap.size 27 #[.int .i64 K.major, .int .i64 K.minor, .slice qe lk je, .slice a l.length cap]) := HC5_g1.out.below bg6 HC5_g1.out.lt
  have HC7_g3 : Hid (CellsAt w4 g3 27 #[.int .i64 K.major, .int .i64 K.minor, .slice qg3 lk jg3, .slice ag3 lg3.length cg3]) := HC6_g3.out.below bg6 HC6_g3.out.lt
  have HR7_g3 : Hid (IsReg w4.heap.size w4 (.agg #[.int .i64 K.major, .int .i64 K.minor, .slice qg3 lk jg3, .slice ag3 lg3.length cg3]) K lg3) := (HR5_g3.out.below bg6).more bg6.size
  clear HB5 HC5_g1 HC6_g3 HR5_g3
  obtain ⟨qg6, jg6, ag6, cg6, rfl⟩ := hig6.shape0
  rw [HLK.out] at hig6 ⊢
  have HR8_g6 : Hid (IsReg w4.heap.size w4 (.agg #[.int .i64 K.major, .int .i64 K.minor, .slice qg6 lk jg6, .slice ag6 lg6.length cg6]) K lg6) := hig6
  have HPg6 : Hid (lg6.map PV.plc = PL) := hpg6
  clear bg6 hig6 hpg6
  clear HPK
  have ba : Below w4.heap.size w4 (w4.alloc (.cells #[.int .i64 K.major, .int .i64 K.minor, .slice qg6 lk jg6, .slice ag6 lg6.length cg6] 27)) := (Below.refl _ _).alloc (Nat.le_refl _) _
  have og_g1_g6 : w.heap.size < w4.heap.size := CellsAt.lt HC7_g1.out
  have og_g3_g6 : g3 < w4.heap.size := CellsAt.lt HC7_g3.out
  have HB9 : Hid (Below w.heap.size w (w4.alloc (.cells #[.int .i64 K.major, .int .i64 K.minor, .slice qg6 lk jg6, .slice ag6 lg6.length cg6] 27))) := HB7.out.trans (ba.mono HB7.out.size)
  have HC9_g1 : Hid (CellsAt (w4.alloc (.cells #[.int .i64 K.major, .int .i64 K.minor, .slice qg6 lk jg6, .slice ag6 lg6.length cg6] 27)) w.heap.size 27 #[.int .i64 K.major, .int .i64 K.minor, .slice qe lk je, .slice a l.length cap]) := HC7_g1.out.below ba HC7_g1.out.lt
  have HC9_g3 : Hid (CellsAt (w4.alloc (.cells #[.int .i64 K.major, .int .i64 K.minor, .slice qg6 lk jg6, .slice ag6 lg6.length cg6] 27)) g3 27 #[.int .i64 K.major, .int .i64 K.minor, .slice qg3 lk jg3, .slice ag3 lg3.length cg3]) := HC7_g3.out.below ba HC7_g3.out.lt
  have HR9_g3 : Hid (IsReg (w4.alloc (.cells #[.int .i64 K.major, .int .i64 K.minor, .slice qg6 lk jg6, .slice ag6 lg6.length cg6] 27)).heap.size (w4.alloc (.cells #[.int .i64 K.major, .int .i64 K.minor, .slice qg6 lk jg6, .slice ag6 lg6.length cg6] 27)) (.agg #[.int .i64 K.major, .int .i64 K.minor, .slice qg3 lk jg3, .slice ag3 lg3.length cg3]) K lg3) := (HR7_g3.out.below ba).more ba.size
  have HR9_g6 : Hid (IsReg (w4.alloc (.cells #[.int .i64 K.major, .int .i64 K.minor, .slice qg6 lk jg6, .slice ag6 lg6.length cg6] 27)).heap.size (w4.alloc (.cells #[.int .i64 K.major, .int .i64 K.minor, .slice qg6 lk jg6, .slice ag6 lg6.length cg6] 27)) (.agg #[.int .i64 K.major, .int .i64 K.minor, .slice qg6 lk jg6, .slice ag6 lg6.length cg6]) K lg6) := (HR8_g6.out.below ba).more ba.size
  clear HB7 HC7_g1 HC7_g3 HR7_g3 HR8_g6
  clear ba
  have HC10_g6 : Hid (CellsAt (w4.alloc (.cells #[.int .i64 K.major, .int .i64 K.minor, .slice qg6 lk jg6, .slice ag6 lg6.length cg6] 27)) w4.heap.size 27 #[.int .i64 K.major, .int .i64 K.minor, .slice qg6 lk jg6, .slice ag6 lg6.length cg6]) := CellsAt.new _ _ _
  have rg10 := CellsAt.cell HC9_g1.out 0
  have rg11 := CellsAt.cell HC9_g1.out 1
  have rg12 := CellsAt.cell HC9_g1.out 2
  have rg13 := CellsAt.cell HC9_g1.out 3
  have rg1l := CellsAt.lt HC9_g1.out
  simp at rg10 rg11 rg12 rg13
  go_wp2_with fail
  clear rg10 rg11 rg12 rg13 rg1l
  refine (HCR.out _ HB9.out).mono ?_
  generalize (w4.alloc (.cells #[.int .i64 K.major, .int .i64 K.minor, .slice qg6 lk jg6, .slice ag6 lg6.length cg6] 27)) = w5 at *
  generalize w4.heap.size = g6 at *
  rintro e w6 ⟨rfl, b6⟩
  have HB11 : Hid (Below w.heap.size w w6) := HB9.out.trans (b6.mono HB9.out.size)
  have HC11_g1 : Hid (CellsAt w6 w.heap.size 27 #[.int .i64 K.major, .int .i64 K.minor, .slice qe lk je, .slice a l.length cap]) := HC9_g1.out.below b6 HC9_g1.out.lt
  have HC11_g3 : Hid (CellsAt w6 g3 27 #[.int .i64 K.major, .int .i64 K.minor, .slice qg3 lk jg3, .slice ag3 lg3.length cg3]) := HC9_g3.out.below b6 HC9_g3.out.lt
  have HC11_g6 : Hid (CellsAt w6 g6 27 #[.int .i64 K.major, .int .i64 K.minor, .slice qg6 lk jg6, .slice ag6 lg6.length cg6]) := HC10_g6.out.below b6 HC10_g6.out.lt
  have HR11_g3 : Hid (IsReg w6.heap.size w6 (.agg #[.int .i64 K.major, .int .i64 K.minor, .slice qg3 lk jg3, .slice ag3 lg3.length cg3]) K lg3) := (HR9_g3.out.below b6).more b6.size
  have HR11_g6 : Hid (IsReg w6.heap.size w6 (.agg #[.int .i64 K.major, .int .i64 K.minor, .slice qg6 lk jg6, .slice ag6 lg6.length cg6]) K lg6) := (HR9_g6.out.below b6).more b6.size
  clear HB9 HC9_g1 HC9_g3 HC10_g6 HR9_g3 HR9_g6
  clear b6 HCR
  have og_g1_g10 : w.heap.size < w6.heap.size := CellsAt.lt HC11_g1.out
  have og_g3_g10 : g3 < w6.heap.size := CellsAt.lt HC11_g3.out
  have og_g6_g10 : g6 < w6.heap.size := CellsAt.lt HC11_g6.out
  have ba : Below w6.heap.size w6 ((w6.alloc (.cells #[.int .i64 0, .int .i64 0, .slice none 0 0, .slice none 0 0] 27)).alloc (.cells #[.int .i64 0, .int .i64 0, .slice none 0 0, .slice none 0 0] 27)) := ((Below.refl _ _).alloc (Nat.le_refl _) _).alloc (by simp) _
  have HB12 : Hid (Below w.heap.size w ((w6.alloc (.cells #[.int .i64 0, .int .i64 0, .slice none 0 0, .slice none 0 0] 27)).alloc (.cells #[.int .i64 0, .int .i64 0, .slice none 0 0, .slice none 0 0] 27))) := HB11.out.trans (ba.mono HB11.out.size)
  have HC12_g1 : Hid (CellsAt ((w6.alloc (.cells #[.int .i64 0, .int .i64 0, .slice none 0 0, .slice none 0 0] 27)).alloc (.cells #[.int .i64 0, .int .i64 0, .slice none 0 0, .slice none 0 0] 27)) w.heap.size 27 #[.int .i64 K.major, .int .i64 K.minor, .slice qe lk je, .slice a l.length cap]) := HC11_g1.out.below ba HC11_g1.out.lt
  have HC12_g3 : Hid (CellsAt ((w6.alloc (.cells #[.int .i64 0, .int .i64 0, .slice none 0 0, .slice none 0 0] 27)).alloc (.cells #[.int .i64 0, .int .i64 0, .slice none 0 0, .slice none 0 0] 27)) g3 27 #[.int .i64 K.major, .int .i64 K.minor, .slice qg3 lk jg3, .slice ag3 lg3.length cg3]) := HC11_g3.out.below ba HC11_g3.out.lt
  have HC12_g6 : Hid (CellsAt ((w6.alloc (.cells #[.int .i64 0, .int .i64 0, .slice none 0 0, .slice none 0 0] 27)).alloc (.cells #[.int .i64 0, .int .i64 0, .slice none 0 0, .slice none 0 0] 27)) g6 27 #[.int .i64 K.major, .int .i64 K.minor, .slice qg6 lk jg6, .slice ag6 lg6.length cg6]) := HC11_g6.out.below ba HC11_g6.out.lt
  have HR12_g3 : Hid (IsReg ((w6.alloc (.cells #[.int .i64 0, .int .i64 0, .slice none 0 0, .slice none 0 0] 27)).alloc (.cells #[.int .i64 0, .int .i64 0, .slice none 0 0, .slice none 0 0] 27)).heap.size ((w6.alloc (.cells #[.int .i64 0, .int .i64 0, .slice none 0 0, .slice none 0 0] 27)).alloc (.cells #[.int .i64 0, .int .i64 0, .slice none 0 0, .slice none 0 0] 27)) (.agg #[.int .i64 K.major, .int .i64 K.minor, .slice qg3 lk jg3, .slice ag3 lg3.length cg3]) K lg3) := (HR11_g3.out.below ba).more ba.size
  have HR12_g6 : Hid (IsReg ((w6.alloc (.cells #[.int .i64 0, .int .i64 0, .slice none 0 0, .slice none 0 0] 27)).alloc (.cells #[.int .i64 0, .int .i64 0, .slice none 0 0, .slice none 0 0] 27)).heap.size ((w6.alloc (.cells #[.int .i64 0, .int .i64 0, .slice none 0 0, .slice none 0 0] 27)).alloc (.cells #[.int .i64 0, .int .i64 0, .slice none 0 0, .slice none 0 0] 27)) (.agg #[.int .i64 K.major, .int .i64 K.minor, .slice qg6 lk jg6, .slice ag6 lg6.length cg6]) K lg6) := (HR11_g6.out.below ba).more ba.size
  clear HB11 HC11_g1 HC11_g3 HC11_g6 HR11_g3 HR11_g6
  clear ba
  have HZ10 : Hid (CellsAt ((w6.alloc (.cells #[.int .i64 0, .int .i64 0, .slice none 0 0, .slice none 0 0] 27)).alloc (.cells #[.int .i64 0, .int .i64 0, .slice none 0 0, .slice none 0 0] 27)) w6.heap.size 27 #[.int .i64 0, .int .i64 0, .slice none 0 0, .slice none 0 0]) := (CellsAt.new _ _ _).kept (World.grownBy_alloc _ _ none) (by simp)
  have HZ11 : Hid (CellsAt ((w6.alloc (.cells #[.int .i64 0, .int .i64 0, .slice none 0 0, .slice none 0 0] 27)).alloc (.cells #[.int .i64 0, .int .i64 0, .slice none 0 0, .slice none 0 0] 27)) (w6.heap.size + 1) 27 #[.int .i64 0, .int .i64 0, .slice none 0 0, .slice none 0 0]) := by
    have := CellsAt.new (w6.alloc (.cells #[.int .i64 0, .int .i64 0, .slice none 0 0, .slice none 0 0] 27)) 27 #[.int .i64 0, .int .i64 0, .slice none 0 0, .slice none 0 0]
    rw [World.size_alloc] at this
    exact this
  go_upto_region 6 with fail
  generalize ((w6.alloc (.cells #[.int .i64 0, .int .i64 0, .slice none 0 0, .slice none 0 0] 27)).alloc (.cells #[.int .i64 0, .int .i64 0, .slice none 0 0, .slice none 0 0] 27)) = w8 at *
  generalize w6.heap.size = g10 at *
  have rg10 := CellsAt.cell HC12_g1.out 0
  have rg11 := CellsAt.cell HC12_g1.out 1
  have rg12 := CellsAt.cell HC12_g1.out 2
  have rg13 := CellsAt.cell HC12_g1.out 3
  have rg1l := CellsAt.lt HC12_g1.out
  simp at rg10 rg11 rg12 rg13
  go_wp2_with fail
  clear rg10 rg11 rg12 rg13 rg1l
  refine (HSO.out _ HB12.out).mono ?_
  rintro e w9 ⟨⟨vgx, lgx, rfl, hpgx, higx⟩, bgx⟩
  have HB13 : Hid (Below w.heap.size w w9) := HB12.out.trans (bgx.mono HB12.out.size)
  have HC13_g1 : Hid (CellsAt w9 w.heap.size 27 #[.int .i64 K.major, .int .i64 K.minor, .slice qe lk je, .slice a l.length cap]) := HC12_g1.out.below bgx HC12_g1.out.lt
  have HC13_g3 : Hid (CellsAt w9 g3 27 #[.int .i64 K.major, .int .i64 K.minor, .slice qg3 lk jg3, .slice ag3 lg3.length cg3]) := HC12_g3.out.below bgx HC12_g3.out.lt
  have HC13_g6 : Hid (CellsAt w9 g6 27 #[.int .i64 K.major, .int .i64 K.minor, .slice qg6 lk jg6, .slice ag6 lg6.length cg6]) := HC12_g6.out.below bgx HC12_g6.out.lt
  have HC13_g10 : Hid (CellsAt w9 g10 27 #[.int .i64 0, .int .i64 0, .slice none 0 0, .slice none 0 0]) := HZ10.out.below bgx HZ10.out.lt
  have HC13_g11 : Hid (CellsAt w9 (g10 + 1) 27 #[.int .i64 0, .int .i64 0, .slice none 0 0, .slice none 0 0]) := HZ11.out.below bgx HZ11.out.lt
  have HR13_g3 : Hid (IsReg w9.heap.size w9 (.agg #[.int .i64 K.major, .int .i64 K.minor, .slice qg3 lk jg3, .slice ag3 lg3.length cg3]) K lg3) := (HR12_g3.out.below bgx).more bgx.size
  have HR13_g6 : Hid (IsReg w9.heap.size w9 (.agg #[.int .i64 K.major, .int .i64 K.minor, .slice qg6 lk jg6, .slice ag6 lg6.length cg6]) K lg6) := (HR12_g6.out.below bgx).more bgx.size
  clear HB12 HC12_g1 HC12_g3 HC12_g6 HZ10 HZ11 HR12_g3 HR12_g6
  obtain ⟨qgx, jgx, agx, cgx, rfl⟩ := higx.shape0
  rw [HLK.out] at higx ⊢
  have HR14_gx : Hid (IsReg w9.heap.size w9 (.agg #[.int .i64 K.major, .int .i64 K.minor, .slice qgx lk jgx, .slice agx lgx.length cgx]) K lgx) := higx
  have HPgx : Hid (lgx.map PV.plc = SL) := hpgx
  clear bgx higx hpgx
  clear HSO
  have rg100 := CellsAt.cell HC13_g10.out 0
  have rg101 := CellsAt.cell HC13_g10.out 1
  have rg102 := CellsAt.cell HC13_g10.out 2
  have rg103 := CellsAt.cell HC13_g10.out 3
  have fg100 := CellsAt.frozen HC13_g10.out 0
  have fg101 := CellsAt.frozen HC13_g10.out 1
  have fg102 := CellsAt.frozen HC13_g10.out 2
  have fg103 := CellsAt.frozen HC13_g10.out 3
  have rg10l := CellsAt.lt HC13_g10.out
  simp at rg100 rg101 rg102 rg103
  have hG := sets4_grown w9 g10 (.int .i64 K.major) (.int .i64 K.minor) (.slice qgx lk jgx) (.slice agx lgx.length cgx)
  have HB15 : Hid (Below w.heap.size w ((((w9.setCell ⟨g10, 0, none⟩ (.int .i64 K.major)).setCell ⟨g10, 1, none⟩ (.int .i64 K.minor)).setCell ⟨g10, 2, none⟩ (.slice qgx lk jgx)).setCell ⟨g10, 3, none⟩ (.slice agx lgx.length cgx))) := HB13.out.grown hG HB13.out.size (fun q hq => by obtain rfl := Option.some.inj hq; omega)
  have HR15_g3 : Hid (IsReg ((((w9.setCell ⟨g10, 0, none⟩ (.int .i64 K.major)).setCell ⟨g10, 1, none⟩ (.int .i64 K.minor)).setCell ⟨g10, 2, none⟩ (.slice qgx lk jgx)).setCell ⟨g10, 3, none⟩ (.slice agx lgx.length cgx)).heap.size ((((w9.setCell ⟨g10, 0, none⟩ (.int .i64 K.major)).setCell ⟨g10, 1, none⟩ (.int .i64 K.minor)).setCell ⟨g10, 2, none⟩ (.slice qgx lk jgx)).setCell ⟨g10, 3, none⟩ (.slice agx lgx.length cgx)) (.agg #[.int .i64 K.major, .int .i64 K.minor, .slice qg3 lk jg3, .slice ag3 lg3.length cg3]) K lg3) := (HR13_g3.out.apart hG (Nat.le_refl _) HC13_g10.out).more hG.size
  have HR15_g6 : Hid (IsReg ((((w9.setCell ⟨g10, 0, none⟩ (.int .i64 K.major)).setCell ⟨g10, 1, none⟩ (.int .i64 K.minor)).setCell ⟨g10, 2, none⟩ (.slice qgx lk jgx)).setCell ⟨g10, 3, none⟩ (.slice agx lgx.length cgx)).heap.size ((((w9.setCell ⟨g10, 0, none⟩ (.int .i64 K.major)).setCell ⟨g10, 1, none⟩ (.int .i64 K.minor)).setCell ⟨g10, 2, none⟩ (.slice qgx lk jgx)).setCell ⟨g10, 3, none⟩ (.slice agx lgx.length cgx)) (.agg #[.int .i64 K.major, .int .i64 K.minor, .slice qg6 lk jg6, .slice ag6 lg6.length cg6]) K lg6) := (HR13_g6.out.apart hG (Nat.le_refl _) HC13_g10.out).more hG.size
  have HR15_gx : Hid (IsReg ((((w9.setCell ⟨g10, 0, none⟩ (.int .i64 K.major)).setCell ⟨g10, 1, none⟩ (.int .i64 K.minor)).setCell ⟨g10, 2, none⟩ (.slice qgx lk jgx)).setCell ⟨g10, 3, none⟩ (.slice agx lgx.length cgx)).heap.size ((((w9.setCell ⟨g10, 0, none⟩ (.int .i64 K.major)).setCell ⟨g10, 1, none⟩ (.int .i64 K.minor)).setCell ⟨g10, 2, none⟩ (.slice qgx lk jgx)).setCell ⟨g10, 3, none⟩ (.slice agx lgx.length cgx)) (.agg #[.int .i64 K.major, .int .i64 K.minor, .slice qgx lk jgx, .slice agx lgx.length cgx]) K lgx) := (HR14_gx.out.apart hG (Nat.le_refl _) HC13_g10.out).more hG.size
  have HC15_g1 : Hid (CellsAt ((((w9.setCell ⟨g10, 0, none⟩ (.int .i64 K.major)).setCell ⟨g10, 1, none⟩ (.int .i64 K.minor)).setCell ⟨g10, 2, none⟩ (.slice qgx lk jgx)).setCell ⟨g10, 3, none⟩ (.slice agx lgx.length cgx)) w.heap.size 27 #[.int .i64 K.major, .int .i64 K.minor, .slice qe lk je, .slice a l.length cap]) := HC13_g1.out.kept hG (by intro e; have := Option.some.inj e; omega)
  have HC15_g3 : Hid (CellsAt ((((w9.setCell ⟨g10, 0, none⟩ (.int .i64 K.major)).setCell ⟨g10, 1, none⟩ (.int .i64 K.minor)).setCell ⟨g10, 2, none⟩ (.slice qgx lk jgx)).setCell ⟨g10, 3, none⟩ (.slice agx lgx.length cgx)) g3 27 #[.int .i64 K.major, .int .i64 K.minor, .slice qg3 lk jg3, .slice ag3 lg3.length cg3]) := HC13_g3.out.kept hG (by intro e; have := Option.some.inj e; omega)
  have HC15_g6 : Hid (CellsAt ((((w9.setCell ⟨g10, 0, none⟩ (.int .i64 K.major)).setCell ⟨g10, 1, none⟩ (.int .i64 K.minor)).setCell ⟨g10, 2, none⟩ (.slice qgx lk jgx)).setCell ⟨g10, 3, none⟩ (.slice agx lgx.length cgx)) g6 27 #[.int .i64 K.major, .int .i64 K.minor, .slice qg6 lk jg6, .slice ag6 lg6.length cg6]) := HC13_g6.out.kept hG (by intro e; have := Option.some.inj e; omega)
  have HC15_g10 : Hid (CellsAt ((((w9.setCell ⟨g10, 0, none⟩ (.int .i64 K.major)).setCell ⟨g10, 1, none⟩ (.int .i64 K.minor)).setCell ⟨g10, 2, none⟩ (.slice qgx lk jgx)).setCell ⟨g10, 3, none⟩ (.slice agx lgx.length cgx)) g10 27 #[.int .i64 K.major, .int .i64 K.minor, .slice qgx lk jgx, .slice agx lgx.length cgx]) := sets4 HC13_g10.out _ _ _ _
  have HC15_g11 : Hid (CellsAt ((((w9.setCell ⟨g10, 0, none⟩ (.int .i64 K.major)).setCell ⟨g10, 1, none⟩ (.int .i64 K.minor)).setCell ⟨g10, 2, none⟩ (.slice qgx lk jgx)).setCell ⟨g10, 3, none⟩ (.slice agx lgx.length cgx)) (g10 + 1) 27 #[.int .i64 0, .int .i64 0, .slice none 0 0, .slice none 0 0]) := HC13_g11.out.kept hG (by intro e; have := Option.some.inj e; omega)
  clear hG HB13 HR13_g3 HR13_g6 HR14_gx HC13_g1 HC13_g3 HC13_g6 HC13_g10 HC13_g11
  go_upto_region 8 with fail
  generalize ((((w9.setCell ⟨g10, 0, none⟩ (.int .i64 K.major)).setCell ⟨g10, 1, none⟩ (.int .i64 K.minor)).setCell ⟨g10, 2, none⟩ (.slice qgx lk jgx)).setCell ⟨g10, 3, none⟩ (.slice agx lgx.length cgx)) = w10 at *
  clear rg100 rg101 rg102 rg103 rg10l fg100 fg101 fg102 fg103
  have rg10 := CellsAt.cell HC15_g1.out 0
  have rg11 := CellsAt.cell HC15_g1.out 1
  have rg12 := CellsAt.cell HC15_g1.out 2
  have rg13 := CellsAt.cell HC15_g1.out 3
  have rg1l := CellsAt.lt HC15_g1.out
  simp at rg10 rg11 rg12 rg13
  go_wp2_with fail
  clear rg10 rg11 rg12 rg13 rg1l
  refine (HPO.out _ HB15.out).mono ?_
  rintro e w11 ⟨⟨vgy, lgy, rfl, hpgy, higy⟩, bgy⟩
  have HB16 : Hid (Below w.heap.size w w11) := HB15.out.trans (bgy.mono HB15.out.size)
  have HC16_g1 : Hid (CellsAt w11 w.heap.size 27 #[.int .i64 K.major, .int .i64 K.minor, .slice qe lk je, .slice a l.length cap]) := HC15_g1.out.below bgy HC15_g1.out.lt
  have HC16_g3 : Hid (CellsAt w11 g3 27 #[.int .i64 K.major, .int .i64 K.minor, .slice qg3 lk jg3, .slice ag3 lg3.length cg3]) := HC15_g3.out.below bgy HC15_g3.out.lt
  have HC16_g6 : Hid (CellsAt w11 g6 27 #[.int .i64 K.major, .int .i64 K.minor, .slice qg6 lk jg6, .slice ag6 lg6.length cg6]) := HC15_g6.out.below bgy HC15_g6.out.lt
  have HC16_g10 : Hid (CellsAt w11 g10 27 #[.int .i64 K.major, .int .i64 K.minor, .slice qgx lk jgx, .slice agx lgx.length cgx]) := HC15_g10.out.below bgy HC15_g10.out.lt
  have HC16_g11 : Hid (CellsAt w11 (g10 + 1) 27 #[.int .i64 0, .int .i64 0, .slice none 0 0, .slice none 0 0]) := HC15_g11.out.below bgy HC15_g11.out.lt
  have HR16_g3 : Hid (IsReg w11.heap.size w11 (.agg #[.int .i64 K.major, .int .i64 K.minor, .slice qg3 lk jg3, .slice ag3 lg3.length cg3]) K lg3) := (HR15_g3.out.below bgy).more bgy.size
  have HR16_g6 : Hid (IsReg w11.heap.size w11 (.agg #[.int .i64 K.major, .int .i64 K.minor, .slice qg6 lk jg6, .slice ag6 lg6.length cg6]) K lg6) := (HR15_g6.out.below bgy).more bgy.size
  have HR16_gx : Hid (IsReg w11.heap.size w11 (.agg #[.int .i64 K.major, .int .i64 K.minor, .slice qgx lk jgx, .slice agx lgx.length cgx]) K lgx) := (HR15_gx.out.below bgy).more bgy.size
  clear HB15 HC15_g1 HC15_g3 HC15_g6 HC15_g10 HC15_g11 HR15_g3 HR15_g6 HR15_gx
  obtain ⟨qgy, jgy, agy, cgy, rfl⟩ := higy.shape0
  rw [HLK.out] at higy ⊢
  have HR17_gy : Hid (IsReg w11.heap.size w11 (.agg #[.int .i64 K.major, .int .i64 K.minor, .slice qgy lk jgy, .slice agy lgy.length cgy]) K lgy) := higy
  have HPgy : Hid (lgy.map PV.plc = PL) := hpgy
  clear bgy higy hpgy
  clear HPO
  have rg110 := CellsAt.cell HC16_g11.out 0
  have rg111 := CellsAt.cell HC16_g11.out 1
  have rg112 := CellsAt.cell HC16_g11.out 2
  have rg113 := CellsAt.cell HC16_g11.out 3
  have fg110 := CellsAt.frozen HC16_g11.out 0
  have fg111 := CellsAt.frozen HC16_g11.out 1
  have fg112 := CellsAt.frozen HC16_g11.out 2
  have fg113 := CellsAt.frozen HC16_g11.out 3
  have rg11l := CellsAt.lt HC16_g11.out
  simp at rg110 rg111 rg112 rg113
  have hG := sets4_grown w11 (g10 + 1) (.int .i64 K.major) (.int .i64 K.minor) (.slice qgy lk jgy) (.slice agy lgy.length cgy)
  have HB18 : Hid (Below w.heap.size w ((((w11.setCell ⟨(g10 + 1), 0, none⟩ (.int .i64 K.major)).setCell ⟨(g10 + 1), 1, none⟩ (.int .i64 K.minor)).setCell ⟨(g10 + 1), 2, none⟩ (.slice qgy lk jgy)).setCell ⟨(g10 + 1), 3, none⟩ (.slice agy lgy.length cgy))) := HB16.out.grown hG HB16.out.size (fun q hq => by obtain rfl := Option.some.inj hq; omega)
  have HR18_g3 : Hid (IsReg ((((w11.setCell ⟨(g10 + 1), 0, none⟩ (.int .i64 K.major)).setCell ⟨(g10 + 1), 1, none⟩ (.int .i64 K.minor)).setCell ⟨(g10 + 1), 2, none⟩ (.slice qgy lk jgy)).setCell ⟨(g10 + 1), 3, none⟩ (.slice agy lgy.length cgy)).heap.size ((((w11.setCell ⟨(g10 + 1), 0, none⟩ (.int .i64 K.major)).setCell ⟨(g10 + 1), 1, none⟩ (.int .i64 K.minor)).setCell ⟨(g10 + 1), 2, none⟩ (.slice qgy lk jgy)).setCell ⟨(g10 + 1), 3, none⟩ (.slice agy lgy.length cgy)) (.agg #[.int .i64 K.major, .int .i64 K.minor, .slice qg3 lk jg3, .slice ag3 lg3.length cg3]) K lg3) := (HR16_g3.out.apart hG (Nat.le_refl _) HC16_g11.out).more hG.size
  have HR18_g6 : Hid (IsReg ((((w11.setCell ⟨(g10 + 1), 0, none⟩ (.int .i64 K.major)).setCell ⟨(g10 + 1), 1, none⟩ (.int .i64 K.minor)).setCell ⟨(g10 + 1), 2, none⟩ (.slice qgy lk jgy)).setCell ⟨(g10 + 1), 3, none⟩ (.slice agy lgy.length cgy)).heap.size ((((w11.setCell ⟨(g10 + 1), 0, none⟩ (.int .i64 K.major)).setCell ⟨(g10 + 1), 1, none⟩ (.int .i64 K.minor)).setCell ⟨(g10 + 1), 2, none⟩ (.slice qgy lk jgy)).setCell ⟨(g10 + 1), 3, none⟩ (.slice agy lgy.length cgy)) (.agg #[.int .i64 K.major, .int .i64 K.minor, .slice qg6 lk jg6, .slice ag6 lg6.length cg6]) K lg6) := (HR16_g6.out.apart hG (Nat.le_refl _) HC16_g11.out).more hG.size
  have HR18_gx : Hid (IsReg ((((w11.setCell ⟨(g10 + 1), 0, none⟩ (.int .i64 K.major)).setCell ⟨(g10 + 1), 1, none⟩ (.int .i64 K.minor)).setCell ⟨(g10 + 1), 2, none⟩ (.slice qgy lk jgy)).setCell ⟨(g10 + 1), 3, none⟩ (.slice agy lgy.length cgy)).heap.size ((((w11.setCell ⟨(g10 + 1), 0, none⟩ (.int .i64 K.major)).setCell ⟨(g10 + 1), 1, none⟩ (.int .i64 K.minor)).setCell ⟨(g10 + 1), 2, none⟩ (.slice qgy lk jgy)).setCell ⟨(g10 + 1), 3, none⟩ (.slice agy lgy.length cgy)) (.agg #[.int .i64 K.major, .int .i64 K.minor, .slice qgx lk jgx, .slice agx lgx.length cgx]) K lgx) := (HR16_gx.out.apart hG (Nat.le_refl _) HC16_g11.out).more hG.size
  have HR18_gy : Hid (IsReg ((((w11.setCell ⟨(g10 + 1), 0, none⟩ (.int .i64 K.major)).setCell ⟨(g10 + 1), 1, none⟩ (.int .i64 K.minor)).setCell ⟨(g10 + 1), 2, none⟩ (.slice qgy lk jgy)).setCell ⟨(g10 + 1), 3, none⟩ (.slice agy lgy.length cgy)).heap.size ((((w11.setCell ⟨(g10 + 1), 0, none⟩ (.int .i64 K.major)).setCell ⟨(g10 + 1), 1, none⟩ (.int .i64 K.minor)).setCell ⟨(g10 + 1), 2, none⟩ (.slice qgy lk jgy)).setCell ⟨(g10 + 1), 3, none⟩ (.slice agy lgy.length cgy)) (.agg #[.int .i64 K.major, .int .i64 K.minor, .slice qgy lk jgy, .slice agy lgy.length cgy]) K lgy) := (HR17_gy.out.apart hG (Nat.le_refl _) HC16_g11.out).more hG.size
  have HC18_g1 : Hid (CellsAt ((((w11.setCell ⟨(g10 + 1), 0, none⟩ (.int .i64 K.major)).setCell ⟨(g10 + 1), 1, none⟩ (.int .i64 K.minor)).setCell ⟨(g10 + 1), 2, none⟩ (.slice qgy lk jgy)).setCell ⟨(g10 + 1), 3, none⟩ (.slice agy lgy.length cgy)) w.heap.size 27 #[.int .i64 K.major, .int .i64 K.minor, .slice qe lk je, .slice a l.length cap]) := HC16_g1.out.kept hG (by intro e; have := Option.some.inj e; omega)
  have HC18_g3 : Hid (CellsAt ((((w11.setCell ⟨(g10 + 1), 0, none⟩ (.int .i64 K.major)).setCell ⟨(g10 + 1), 1, none⟩ (.int .i64 K.minor)).setCell ⟨(g10 + 1), 2, none⟩ (.slice qgy lk jgy)).setCell ⟨(g10 + 1), 3, none⟩ (.slice agy lgy.length cgy)) g3 27 #[.int .i64 K.major, .int .i64 K.minor, .slice qg3 lk jg3, .slice ag3 lg3.length cg3]) := HC16_g3.out.kept hG (by intro e; have := Option.some.inj e; omega)
  have HC18_g6 : Hid (CellsAt ((((w11.setCell ⟨(g10 + 1), 0, none⟩ (.int .i64 K.major)).setCell ⟨(g10 + 1), 1, none⟩ (.int .i64 K.minor)).setCell ⟨(g10 + 1), 2, none⟩ (.slice qgy lk jgy)).setCell ⟨(g10 + 1), 3, none⟩ (.slice agy lgy.length cgy)) g6 27 #[.int .i64 K.major, .int .i64 K.minor, .slice qg6 lk jg6, .slice ag6 lg6.length cg6]) := HC16_g6.out.kept hG (by intro e; have := Option.some.inj e; omega)
  have HC18_g10 : Hid (CellsAt ((((w11.setCell ⟨(g10 + 1), 0, none⟩ (.int .i64 K.major)).setCell ⟨(g10 + 1), 1, none⟩ (.int .i64 K.minor)).setCell ⟨(g10 + 1), 2, none⟩ (.slice qgy lk jgy)).setCell ⟨(g10 + 1), 3, none⟩ (.slice agy lgy.length cgy)) g10 27 #[.int .i64 K.major, .int .i64 K.minor, .slice qgx lk jgx, .slice agx lgx.length cgx]) := HC16_g10.out.kept hG (by intro e; have := Option.some.inj e; omega)
  have HC18_g11 : Hid (CellsAt ((((w11.setCell ⟨(g10 + 1), 0, none⟩ (.int .i64 K.major)).setCell ⟨(g10 + 1), 1, none⟩ (.int .i64 K.minor)).setCell ⟨(g10 + 1), 2, none⟩ (.slice qgy lk jgy)).setCell ⟨(g10 + 1), 3, none⟩ (.slice agy lgy.length cgy)) (g10 + 1) 27 #[.int .i64 K.major, .int .i64 K.minor, .slice qgy lk jgy, .slice agy lgy.length cgy]) := sets4 HC16_g11.out _ _ _ _
  clear hG HB16 HR16_g3 HR16_g6 HR16_gx HR17_gy HC16_g1 HC16_g3 HC16_g6 HC16_g10 HC16_g11
  go_upto_region 9 with fail
  generalize ((((w11.setCell ⟨(g10 + 1), 0, none⟩ (.int .i64 K.major)).setCell ⟨(g10 + 1), 1, none⟩ (.int .i64 K.minor)).setCell ⟨(g10 + 1), 2, none⟩ (.slice qgy lk jgy)).setCell ⟨(g10 + 1), 3, none⟩ (.slice agy lgy.length cgy)) = w12 at *
  clear rg110 rg111 rg112 rg113 rg11l fg110 fg111 fg112 fg113
  go_wp2_with fail
  refine (compactBegun_any _).mono ?_
  rintro e w13 ⟨rfl, b13⟩
  have HB19 : Hid (Below w.heap.size w w13) := HB18.out.trans (b13.mono HB18.out.size)
  have HC19_g1 : Hid (CellsAt w13 w.heap.size 27 #[.int .i64 K.major, .int .i64 K.minor, .slice qe lk je, .slice a l.length cap]) := HC18_g1.out.below b13 HC18_g1.out.lt
  have HC19_g3 : Hid (CellsAt w13 g3 27 #[.int .i64 K.major, .int .i64 K.minor, .slice qg3 lk jg3, .slice ag3 lg3.length cg3]) := HC18_g3.out.below b13 HC18_g3.out.lt
  have HC19_g6 : Hid (CellsAt w13 g6 27 #[.int .i64 K.major, .int .i64 K.minor, .slice qg6 lk jg6, .slice ag6 lg6.length cg6]) := HC18_g6.out.below b13 HC18_g6.out.lt
  have HC19_g10 : Hid (CellsAt w13 g10 27 #[.int .i64 K.major, .int .i64 K.minor, .slice qgx lk jgx, .slice agx lgx.length cgx]) := HC18_g10.out.below b13 HC18_g10.out.lt
  have HC19_g11 : Hid (CellsAt w13 (g10 + 1) 27 #[.int .i64 K.major, .int .i64 K.minor, .slice qgy lk jgy, .slice agy lgy.length cgy]) := HC18_g11.out.below b13 HC18_g11.out.lt
  have HR19_g3 : Hid (IsReg w13.heap.size w13 (.agg #[.int .i64 K.major, .int .i64 K.minor, .slice qg3 lk jg3, .slice ag3 lg3.length cg3]) K lg3) := (HR18_g3.out.below b13).more b13.size
  have HR19_g6 : Hid (IsReg w13.heap.size w13 (.agg #[.int .i64 K.major, .int .i64 K.minor, .slice qg6 lk jg6, .slice ag6 lg6.length cg6]) K lg6) := (HR18_g6.out.below b13).more b13.size
  have HR19_gx : Hid (IsReg w13.heap.size w13 (.agg #[.int .i64 K.major, .int .i64 K.minor, .slice qgx lk jgx, .slice agx lgx.length cgx]) K lgx) := (HR18_gx.out.below b13).more b13.size
  have HR19_gy : Hid (IsReg w13.heap.size w13 (.agg #[.int .i64 K.major, .int .i64 K.minor, .slice qgy lk jgy, .slice agy lgy.length cgy]) K lgy) := (HR18_gy.out.below b13).more b13.size
  clear HB18 HC18_g1 HC18_g3 HC18_g6 HC18_g10 HC18_g11 HR18_g3 HR18_g6 HR18_gx HR18_gy
  clear b13
  have rg30 := CellsAt.cell HC19_g3.out 0
  have rg31 := CellsAt.cell HC19_g3.out 1
  have rg32 := CellsAt.cell HC19_g3.out 2
  have rg33 := CellsAt.cell HC19_g3.out 3
  have rg3l := CellsAt.lt HC19_g3.out
  simp at rg30 rg31 rg32 rg33
  have rg100 := CellsAt.cell HC19_g10.out 0
  have rg101 := CellsAt.cell HC19_g10.out 1
  have rg102 := CellsAt.cell HC19_g10.out 2
  have rg103 := CellsAt.cell HC19_g10.out 3
  have rg10l := CellsAt.lt HC19_g10.out
  simp at rg100 rg101 rg102 rg103
  go_wp2_with fail
  clear rg30 rg31 rg32 rg33 rg3l
  clear rg100 rg101 rg102 rg103 rg10l
  refine (regIs_ok K lg3 lgx _ _ _ HR19_g3.out HR19_gx.out (HPg3.out.trans HPgx.out.symm)).mono ?_
  rintro e w14 ⟨rfl, bz⟩
  have HB20 : Hid (Below w.heap.size w w14) := HB19.out.trans (bz.mono HB19.out.size)
  have HC20_g1 : Hid (CellsAt w14 w.heap.size 27 #[.int .i64 K.major, .int .i64 K.minor, .slice qe lk je, .slice a l.length cap]) := HC19_g1.out.below bz HC19_g1.out.lt
  have HC20_g3 : Hid (CellsAt w14 g3 27 #[.int .i64 K.major, .int .i64 K.minor, .slice qg3 lk jg3, .slice ag3 lg3.length cg3]) := HC19_g3.out.below bz HC19_g3.out.lt
  have HC20_g6 : Hid (CellsAt w14 g6 27 #[.int .i64 K.major, .int .i64 K.minor, .slice qg6 lk jg6, .slice ag6 lg6.length cg6]) := HC19_g6.out.below bz HC19_g6.out.lt
  have HC20_g10 : Hid (CellsAt w14 g10 27 #[.int .i64 K.major, .int .i64 K.minor, .slice qgx lk jgx, .slice agx lgx.length cgx]) := HC19_g10.out.below bz HC19_g10.out.lt
  have HC20_g11 : Hid (CellsAt w14 (g10 + 1) 27 #[.int .i64 K.major, .int .i64 K.minor, .slice qgy lk jgy, .slice agy lgy.length cgy]) := HC19_g11.out.below bz HC19_g11.out.lt
  have HR20_g3 : Hid (IsReg w14.heap.size w14 (.agg #[.int .i64 K.major, .int .i64 K.minor, .slice qg3 lk jg3, .slice ag3 lg3.length cg3]) K lg3) := (HR19_g3.out.below bz).more bz.size
  have HR20_g6 : Hid (IsReg w14.heap.size w14 (.agg #[.int .i64 K.major, .int .i64 K.minor, .slice qg6 lk jg6, .slice ag6 lg6.length cg6]) K lg6) := (HR19_g6.out.below bz).more bz.size
  have HR20_gx : Hid (IsReg w14.heap.size w14 (.agg #[.int .i64 K.major, .int .i64 K.minor, .slice qgx lk jgx, .slice agx lgx.length cgx]) K lgx) := (HR19_gx.out.below bz).more bz.size
  have HR20_gy : Hid (IsReg w14.heap.size w14 (.agg #[.int .i64 K.major, .int .i64 K.minor, .slice qgy lk jgy, .slice agy lgy.length cgy]) K lgy) := (HR19_gy.out.below bz).more bz.size
  clear HB19 HC19_g1 HC19_g3 HC19_g6 HC19_g10 HC19_g11 HR19_g3 HR19_g6 HR19_gx HR19_gy
  clear bz
  have rg60 := CellsAt.cell HC20_g6.out 0
  have rg61 := CellsAt.cell HC20_g6.out 1
  have rg62 := CellsAt.cell HC20_g6.out 2
  have rg63 := CellsAt.cell HC20_g6.out 3
  have rg6l := CellsAt.lt HC20_g6.out
  simp at rg60 rg61 rg62 rg63
  have rg110 := CellsAt.cell HC20_g11.out 0
  have rg111 := CellsAt.cell HC20_g11.out 1
  have rg112 := CellsAt.cell HC20_g11.out 2
  have rg113 := CellsAt.cell HC20_g11.out 3
  have rg11l := CellsAt.lt HC20_g11.out
  simp at rg110 rg111 rg112 rg113
  go_wp2_with fail
  clear rg60 rg61 rg62 rg63 rg6l
  clear rg110 rg111 rg112 rg113 rg11l
  refine (regIs_ok K lg6 lgy _ _ _ HR20_g6.out HR20_gy.out (HPg6.out.trans HPgy.out.symm)).mono ?_
  rintro e w15 ⟨rfl, bz⟩
  have HB21 : Hid (Below w.heap.size w w15) := HB20.out.trans (bz.mono HB20.out.size)
  have HC21_g1 : Hid (CellsAt w15 w.heap.size 27 #[.int .i64 K.major, .int .i64 K.minor, .slice qe lk je, .slice a l.length cap]) := HC20_g1.out.below bz HC20_g1.out.lt
  have HC21_g3 : Hid (CellsAt w15 g3 27 #[.int .i64 K.major, .int .i64 K.minor, .slice qg3 lk jg3, .slice ag3 lg3.length cg3]) := HC20_g3.out.below bz HC20_g3.out.lt
  have HC21_g6 : Hid (CellsAt w15 g6 27 #[.int .i64 K.major, .int .i64 K.minor, .slice qg6 lk jg6, .slice ag6 lg6.length cg6]) := HC20_g6.out.below bz HC20_g6.out.lt
  have HC21_g10 : Hid (CellsAt w15 g10 27 #[.int .i64 K.major, .int .i64 K.minor, .slice qgx lk jgx, .slice agx lgx.length cgx]) := HC20_g10.out.below bz HC20_g10.out.lt
  have HC21_g11 : Hid (CellsAt w15 (g10 + 1) 27 #[.int .i64 K.major, .int .i64 K.minor, .slice qgy lk jgy, .slice agy lgy.length cgy]) := HC20_g11.out.below bz HC20_g11.out.lt
  have HR21_g3 : Hid (IsReg w15.heap.size w15 (.agg #[.int .i64 K.major, .int .i64 K.minor, .slice qg3 lk jg3, .slice ag3 lg3.length cg3]) K lg3) := (HR20_g3.out.below bz).more bz.size
  have HR21_g6 : Hid (IsReg w15.heap.size w15 (.agg #[.int .i64 K.major, .int .i64 K.minor, .slice qg6 lk jg6, .slice ag6 lg6.length cg6]) K lg6) := (HR20_g6.out.below bz).more bz.size
  have HR21_gx : Hid (IsReg w15.heap.size w15 (.agg #[.int .i64 K.major, .int .i64 K.minor, .slice qgx lk jgx, .slice agx lgx.length cgx]) K lgx) := (HR20_gx.out.below bz).more bz.size
  have HR21_gy : Hid (IsReg w15.heap.size w15 (.agg #[.int .i64 K.major, .int .i64 K.minor, .slice qgy lk jgy, .slice agy lgy.length cgy]) K lgy) := (HR20_gy.out.below bz).more bz.size
  clear HB20 HC20_g1 HC20_g3 HC20_g6 HC20_g10 HC20_g11 HR20_g3 HR20_g6 HR20_gx HR20_gy
  clear bz
  go_wp2
  go_ret
  exact ⟨rfl, HB21.out⟩

set_option maxHeartbeats 16000000 in
theorem walkE (K : Ker) (l : List PV) (v : Value) (w : World) (h : IsReg w.heap.size w v K l) (hf : K.fits) (hfit : ∀ x ∈ l, x.mod.fits) (h0 : ¬ chkRg K (l.map PV.plc) = 0) :
    Calls Tryz.prog 7 #[v] w fun e w' => e = .returned (.bool true) ∧ Below w.heap.size w w' := by
  obtain ⟨cr, hcr⟩ : ∃ cr, chkRg K (l.map PV.plc) = cr := ⟨_, rfl⟩
  have hne : cr ≠ 0 := by rw [← hcr]; exact h0
  have HST : Hid (∀ W, Below w.heap.size w W → Calls Tryz.prog 24 #[v] W fun e w' => (∃ (v' : Value) (l' : List PV), e = .returned (.tuple #[v', .bool false, .int .i64 cr]) ∧ l'.map PV.plc = [] ∧ IsReg w'.heap.size w' v' emptyK l') ∧ Below W.heap.size W w') := fun W hb => by
    refine (compStep_any K l v W ((h.below hb).more hb.size) hf hfit).mono ?_
    rintro e w' ⟨⟨v', l', rfl, hp, _, ho⟩, hb⟩
    have hi := stepAns_reg hp ho
    have ha : stepAns K (l.map PV.plc) = ((emptyK, []), false, cr) := by
      unfold stepAns
      rw [if_neg h0, hcr]
    rw [ha] at hp hi ⊢
    exact ⟨⟨v', l', rfl, hp, hi⟩, hb⟩
  have HPK : Hid (∀ W, Below w.heap.size w W → Calls Tryz.prog 22 #[v] W fun e w' => (∃ (v' : Value) (l' : List PV), e = .returned (.tuple #[v', .int .i64 0, .int .i64 cr]) ∧ l'.map PV.plc = [] ∧ IsReg w'.heap.size w' v' emptyK l') ∧ Below W.heap.size W w') := fun W hb => by
    refine (compPack_any K l v W ((h.below hb).more hb.size) hf hfit).mono ?_
    rintro e w' ⟨⟨v', l', rfl, hp, _, ho⟩, hb⟩
    have hi := packAns_reg hp ho
    have ha : packAns K (l.map PV.plc) = ((emptyK, []), 0, cr) := by
      unfold packAns
      rw [if_neg h0, hcr]
    rw [ha] at hp hi ⊢
    exact ⟨⟨v', l', rfl, hp, hi⟩, hb⟩
  have HCR : Hid (∀ W, Below w.heap.size w W → Calls Tryz.prog 12 #[v] W fun e w' => e = .returned (.int .i64 cr) ∧ Below W.heap.size W w') := fun W hb => by
    have := checkRegistry_any K l v W ((h.below hb).more hb.size) hf hfit
    rw [hcr] at this
    exact this
  obtain ⟨qe, je, a, cap, rfl⟩ := h.shape
  clear h hf hfit h0 hcr
  have hcz : (cr == 0) = false := by simpa using hne
  generalize K.exps.length = lk at *
  have HB0 : Hid (Below w.heap.size w w) := Below.refl _ _
  go_enter Tryz.func7, Tryz.ntmps7
  have ba : Below w.heap.size w (w.alloc (.cells #[.int .i64 K.major, .int .i64 K.minor, .slice qe lk je, .slice a l.length cap] 27)) := (Below.refl _ _).alloc (Nat.le_refl _) _
  have HB1 : Hid (Below w.heap.size w (w.alloc (.cells #[.int .i64 K.major, .int .i64 K.minor, .slice qe lk je, .slice a l.length cap] 27))) := HB0.out.trans (ba.mono HB0.out.size)
  clear HB0
  clear ba
  have HC2_g1 : Hid (CellsAt (w.alloc (.cells #[.int .i64 K.major, .int .i64 K.minor, .slice qe lk je, .slice a l.length cap] 27)) w.heap.size 27 #[.int .i64 K.major, .int .i64 K.minor, .slice qe lk je, .slice a l.length cap]) := CellsAt.new _ _ _
  go_wp2_with fail
  refine (HST.out _ HB1.out).mono ?_
  generalize (w.alloc (.cells #[.int .i64 K.major, .int .i64 K.minor, .slice qe lk je, .slice a l.length cap] 27)) = w1 at *
  rintro e w2 ⟨⟨vg3, lg3, rfl, hpg3, hig3⟩, bg3⟩
  have HB3 : Hid (Below w.heap.size w w2) := HB1.out.trans (bg3.mono HB1.out.size)
  have HC3_g1 : Hid (CellsAt w2 w.heap.size 27 #[.int .i64 K.major, .int .i64 K.minor, .slice qe lk je, .slice a l.length cap]) := HC2_g1.out.below bg3 HC2_g1.out.lt
  clear HB1 HC2_g1
  obtain rfl : lg3 = [] := List.map_eq_nil_iff.1 hpg3
  obtain ⟨qg3, jg3, ag3, cg3, rfl⟩ := hig3.shape0
  dsimp only [emptyK, List.length_nil] at hig3 ⊢
  have HR4_g3 : Hid (IsReg w2.heap.size w2 (.agg #[.int .i64 0, .int .i64 0, .slice qg3 0 jg3, .slice ag3 0 cg3]) ⟨0, 0, []⟩ []) := hig3
  clear bg3 hig3 hpg3
  clear HST
  have ba : Below w2.heap.size w2 (w2.alloc (.cells #[.int .i64 0, .int .i64 0, .slice qg3 0 jg3, .slice ag3 0 cg3] 27)) := (Below.refl _ _).alloc (Nat.le_refl _) _
  have og_g1_g3 : w.heap.size < w2.heap.size := CellsAt.lt HC3_g1.out
  have HB5 : Hid (Below w.heap.size w (w2.alloc (.cells #[.int .i64 0, .int .i64 0, .slice qg3 0 jg3, .slice ag3 0 cg3] 27))) := HB3.out.trans (ba.mono HB3.out.size)
  have HC5_g1 : Hid (CellsAt (w2.alloc (.cells #[.int .i64 0, .int .i64 0, .slice qg3 0 jg3, .slice ag3 0 cg3] 27)) w.heap.size 27 #[.int .i64 K.major, .int .i64 K.minor, .slice qe lk je, .slice a l.length cap]) := HC3_g1.out.below ba HC3_g1.out.lt
  have HR5_g3 : Hid (IsReg (w2.alloc (.cells #[.int .i64 0, .int .i64 0, .slice qg3 0 jg3, .slice ag3 0 cg3] 27)).heap.size (w2.alloc (.cells #[.int .i64 0, .int .i64 0, .slice qg3 0 jg3, .slice ag3 0 cg3] 27)) (.agg #[.int .i64 0, .int .i64 0, .slice qg3 0 jg3, .slice ag3 0 cg3]) ⟨0, 0, []⟩ []) := (HR4_g3.out.below ba).more ba.size
  clear HB3 HC3_g1 HR4_g3
  clear ba
  have HC6_g3 : Hid (CellsAt (w2.alloc (.cells #[.int .i64 0, .int .i64 0, .slice qg3 0 jg3, .slice ag3 0 cg3] 27)) w2.heap.size 27 #[.int .i64 0, .int .i64 0, .slice qg3 0 jg3, .slice ag3 0 cg3]) := CellsAt.new _ _ _
  have rg10 := CellsAt.cell HC5_g1.out 0
  have rg11 := CellsAt.cell HC5_g1.out 1
  have rg12 := CellsAt.cell HC5_g1.out 2
  have rg13 := CellsAt.cell HC5_g1.out 3
  have rg1l := CellsAt.lt HC5_g1.out
  simp at rg10 rg11 rg12 rg13
  go_wp2_with fail
  clear rg10 rg11 rg12 rg13 rg1l
  refine (HPK.out _ HB5.out).mono ?_
  generalize (w2.alloc (.cells #[.int .i64 0, .int .i64 0, .slice qg3 0 jg3, .slice ag3 0 cg3] 27)) = w3 at *
  generalize w2.heap.size = g3 at *
  rintro e w4 ⟨⟨vg6, lg6, rfl, hpg6, hig6⟩, bg6⟩
  have HB7 : Hid (Below w.heap.size w w4) := HB5.out.trans (bg6.mono HB5.out.size)
  have HC7_g1 : Hid (CellsAt w4 w.heap.size 27 #[.int .i64 K.major, .int .i64 K.minor, .slice qe lk je, .slice a l.length cap]) := HC5_g1.out.below bg6 HC5_g1.out.lt
  have HC7_g3 : Hid (CellsAt w4 g3 27 #[.int .i64 0, .int .i64 0, .slice qg3 0 jg3, .slice ag3 0 cg3]) := HC6_g3.out.below bg6 HC6_g3.out.lt
  have HR7_g3 : Hid (IsReg w4.heap.size w4 (.agg #[.int .i64 0, .int .i64 0, .slice qg3 0 jg3, .slice ag3 0 cg3]) ⟨0, 0, []⟩ []) := (HR5_g3.out.below bg6).more bg6.size
  clear HB5 HC5_g1 HC6_g3 HR5_g3
  obtain rfl : lg6 = [] := List.map_eq_nil_iff.1 hpg6
  obtain ⟨qg6, jg6, ag6, cg6, rfl⟩ := hig6.shape0
  dsimp only [emptyK, List.length_nil] at hig6 ⊢
  have HR8_g6 : Hid (IsReg w4.heap.size w4 (.agg #[.int .i64 0, .int .i64 0, .slice qg6 0 jg6, .slice ag6 0 cg6]) ⟨0, 0, []⟩ []) := hig6
  clear bg6 hig6 hpg6
  clear HPK
  have ba : Below w4.heap.size w4 (w4.alloc (.cells #[.int .i64 0, .int .i64 0, .slice qg6 0 jg6, .slice ag6 0 cg6] 27)) := (Below.refl _ _).alloc (Nat.le_refl _) _
  have og_g1_g6 : w.heap.size < w4.heap.size := CellsAt.lt HC7_g1.out
  have og_g3_g6 : g3 < w4.heap.size := CellsAt.lt HC7_g3.out
  have HB9 : Hid (Below w.heap.size w (w4.alloc (.cells #[.int .i64 0, .int .i64 0, .slice qg6 0 jg6, .slice ag6 0 cg6] 27))) := HB7.out.trans (ba.mono HB7.out.size)
  have HC9_g1 : Hid (CellsAt (w4.alloc (.cells #[.int .i64 0, .int .i64 0, .slice qg6 0 jg6, .slice ag6 0 cg6] 27)) w.heap.size 27 #[.int .i64 K.major, .int .i64 K.minor, .slice qe lk je, .slice a l.length cap]) := HC7_g1.out.below ba HC7_g1.out.lt
  have HC9_g3 : Hid (CellsAt (w4.alloc (.cells #[.int .i64 0, .int .i64 0, .slice qg6 0 jg6, .slice ag6 0 cg6] 27)) g3 27 #[.int .i64 0, .int .i64 0, .slice qg3 0 jg3, .slice ag3 0 cg3]) := HC7_g3.out.below ba HC7_g3.out.lt
  have HR9_g3 : Hid (IsReg (w4.alloc (.cells #[.int .i64 0, .int .i64 0, .slice qg6 0 jg6, .slice ag6 0 cg6] 27)).heap.size (w4.alloc (.cells #[.int .i64 0, .int .i64 0, .slice qg6 0 jg6, .slice ag6 0 cg6] 27)) (.agg #[.int .i64 0, .int .i64 0, .slice qg3 0 jg3, .slice ag3 0 cg3]) ⟨0, 0, []⟩ []) := (HR7_g3.out.below ba).more ba.size
  have HR9_g6 : Hid (IsReg (w4.alloc (.cells #[.int .i64 0, .int .i64 0, .slice qg6 0 jg6, .slice ag6 0 cg6] 27)).heap.size (w4.alloc (.cells #[.int .i64 0, .int .i64 0, .slice qg6 0 jg6, .slice ag6 0 cg6] 27)) (.agg #[.int .i64 0, .int .i64 0, .slice qg6 0 jg6, .slice ag6 0 cg6]) ⟨0, 0, []⟩ []) := (HR8_g6.out.below ba).more ba.size
  clear HB7 HC7_g1 HC7_g3 HR7_g3 HR8_g6
  clear ba
  have HC10_g6 : Hid (CellsAt (w4.alloc (.cells #[.int .i64 0, .int .i64 0, .slice qg6 0 jg6, .slice ag6 0 cg6] 27)) w4.heap.size 27 #[.int .i64 0, .int .i64 0, .slice qg6 0 jg6, .slice ag6 0 cg6]) := CellsAt.new _ _ _
  have rg10 := CellsAt.cell HC9_g1.out 0
  have rg11 := CellsAt.cell HC9_g1.out 1
  have rg12 := CellsAt.cell HC9_g1.out 2
  have rg13 := CellsAt.cell HC9_g1.out 3
  have rg1l := CellsAt.lt HC9_g1.out
  simp at rg10 rg11 rg12 rg13
  go_wp2_with fail
  clear rg10 rg11 rg12 rg13 rg1l
  refine (HCR.out _ HB9.out).mono ?_
  generalize (w4.alloc (.cells #[.int .i64 0, .int .i64 0, .slice qg6 0 jg6, .slice ag6 0 cg6] 27)) = w5 at *
  generalize w4.heap.size = g6 at *
  rintro e w6 ⟨rfl, b6⟩
  have HB11 : Hid (Below w.heap.size w w6) := HB9.out.trans (b6.mono HB9.out.size)
  have HC11_g1 : Hid (CellsAt w6 w.heap.size 27 #[.int .i64 K.major, .int .i64 K.minor, .slice qe lk je, .slice a l.length cap]) := HC9_g1.out.below b6 HC9_g1.out.lt
  have HC11_g3 : Hid (CellsAt w6 g3 27 #[.int .i64 0, .int .i64 0, .slice qg3 0 jg3, .slice ag3 0 cg3]) := HC9_g3.out.below b6 HC9_g3.out.lt
  have HC11_g6 : Hid (CellsAt w6 g6 27 #[.int .i64 0, .int .i64 0, .slice qg6 0 jg6, .slice ag6 0 cg6]) := HC10_g6.out.below b6 HC10_g6.out.lt
  have HR11_g3 : Hid (IsReg w6.heap.size w6 (.agg #[.int .i64 0, .int .i64 0, .slice qg3 0 jg3, .slice ag3 0 cg3]) ⟨0, 0, []⟩ []) := (HR9_g3.out.below b6).more b6.size
  have HR11_g6 : Hid (IsReg w6.heap.size w6 (.agg #[.int .i64 0, .int .i64 0, .slice qg6 0 jg6, .slice ag6 0 cg6]) ⟨0, 0, []⟩ []) := (HR9_g6.out.below b6).more b6.size
  clear HB9 HC9_g1 HC9_g3 HC10_g6 HR9_g3 HR9_g6
  clear b6 HCR
  have og_g1_g10 : w.heap.size < w6.heap.size := CellsAt.lt HC11_g1.out
  have og_g3_g10 : g3 < w6.heap.size := CellsAt.lt HC11_g3.out
  have og_g6_g10 : g6 < w6.heap.size := CellsAt.lt HC11_g6.out
  have ba : Below w6.heap.size w6 ((w6.alloc (.cells #[.int .i64 0, .int .i64 0, .slice none 0 0, .slice none 0 0] 27)).alloc (.cells #[.int .i64 0, .int .i64 0, .slice none 0 0, .slice none 0 0] 27)) := ((Below.refl _ _).alloc (Nat.le_refl _) _).alloc (by simp) _
  have HB12 : Hid (Below w.heap.size w ((w6.alloc (.cells #[.int .i64 0, .int .i64 0, .slice none 0 0, .slice none 0 0] 27)).alloc (.cells #[.int .i64 0, .int .i64 0, .slice none 0 0, .slice none 0 0] 27))) := HB11.out.trans (ba.mono HB11.out.size)
  have HC12_g1 : Hid (CellsAt ((w6.alloc (.cells #[.int .i64 0, .int .i64 0, .slice none 0 0, .slice none 0 0] 27)).alloc (.cells #[.int .i64 0, .int .i64 0, .slice none 0 0, .slice none 0 0] 27)) w.heap.size 27 #[.int .i64 K.major, .int .i64 K.minor, .slice qe lk je, .slice a l.length cap]) := HC11_g1.out.below ba HC11_g1.out.lt
  have HC12_g3 : Hid (CellsAt ((w6.alloc (.cells #[.int .i64 0, .int .i64 0, .slice none 0 0, .slice none 0 0] 27)).alloc (.cells #[.int .i64 0, .int .i64 0, .slice none 0 0, .slice none 0 0] 27)) g3 27 #[.int .i64 0, .int .i64 0, .slice qg3 0 jg3, .slice ag3 0 cg3]) := HC11_g3.out.below ba HC11_g3.out.lt
  have HC12_g6 : Hid (CellsAt ((w6.alloc (.cells #[.int .i64 0, .int .i64 0, .slice none 0 0, .slice none 0 0] 27)).alloc (.cells #[.int .i64 0, .int .i64 0, .slice none 0 0, .slice none 0 0] 27)) g6 27 #[.int .i64 0, .int .i64 0, .slice qg6 0 jg6, .slice ag6 0 cg6]) := HC11_g6.out.below ba HC11_g6.out.lt
  have HR12_g3 : Hid (IsReg ((w6.alloc (.cells #[.int .i64 0, .int .i64 0, .slice none 0 0, .slice none 0 0] 27)).alloc (.cells #[.int .i64 0, .int .i64 0, .slice none 0 0, .slice none 0 0] 27)).heap.size ((w6.alloc (.cells #[.int .i64 0, .int .i64 0, .slice none 0 0, .slice none 0 0] 27)).alloc (.cells #[.int .i64 0, .int .i64 0, .slice none 0 0, .slice none 0 0] 27)) (.agg #[.int .i64 0, .int .i64 0, .slice qg3 0 jg3, .slice ag3 0 cg3]) ⟨0, 0, []⟩ []) := (HR11_g3.out.below ba).more ba.size
  have HR12_g6 : Hid (IsReg ((w6.alloc (.cells #[.int .i64 0, .int .i64 0, .slice none 0 0, .slice none 0 0] 27)).alloc (.cells #[.int .i64 0, .int .i64 0, .slice none 0 0, .slice none 0 0] 27)).heap.size ((w6.alloc (.cells #[.int .i64 0, .int .i64 0, .slice none 0 0, .slice none 0 0] 27)).alloc (.cells #[.int .i64 0, .int .i64 0, .slice none 0 0, .slice none 0 0] 27)) (.agg #[.int .i64 0, .int .i64 0, .slice qg6 0 jg6, .slice ag6 0 cg6]) ⟨0, 0, []⟩ []) := (HR11_g6.out.below ba).more ba.size
  clear HB11 HC11_g1 HC11_g3 HC11_g6 HR11_g3 HR11_g6
  clear ba
  have HZ10 : Hid (CellsAt ((w6.alloc (.cells #[.int .i64 0, .int .i64 0, .slice none 0 0, .slice none 0 0] 27)).alloc (.cells #[.int .i64 0, .int .i64 0, .slice none 0 0, .slice none 0 0] 27)) w6.heap.size 27 #[.int .i64 0, .int .i64 0, .slice none 0 0, .slice none 0 0]) := (CellsAt.new _ _ _).kept (World.grownBy_alloc _ _ none) (by simp)
  have HZ11 : Hid (CellsAt ((w6.alloc (.cells #[.int .i64 0, .int .i64 0, .slice none 0 0, .slice none 0 0] 27)).alloc (.cells #[.int .i64 0, .int .i64 0, .slice none 0 0, .slice none 0 0] 27)) (w6.heap.size + 1) 27 #[.int .i64 0, .int .i64 0, .slice none 0 0, .slice none 0 0]) := by
    have := CellsAt.new (w6.alloc (.cells #[.int .i64 0, .int .i64 0, .slice none 0 0, .slice none 0 0] 27)) 27 #[.int .i64 0, .int .i64 0, .slice none 0 0, .slice none 0 0]
    rw [World.size_alloc] at this
    exact this
  go_upto_region 6 with fail
  generalize ((w6.alloc (.cells #[.int .i64 0, .int .i64 0, .slice none 0 0, .slice none 0 0] 27)).alloc (.cells #[.int .i64 0, .int .i64 0, .slice none 0 0, .slice none 0 0] 27)) = w8 at *
  generalize w6.heap.size = g10 at *
  go_wp2_with fail
  refine (compactBegun_any _).mono ?_
  rintro e w13 ⟨rfl, b13⟩
  have HB13 : Hid (Below w.heap.size w w13) := HB12.out.trans (b13.mono HB12.out.size)
  have HC13_g1 : Hid (CellsAt w13 w.heap.size 27 #[.int .i64 K.major, .int .i64 K.minor, .slice qe lk je, .slice a l.length cap]) := HC12_g1.out.below b13 HC12_g1.out.lt
  have HC13_g3 : Hid (CellsAt w13 g3 27 #[.int .i64 0, .int .i64 0, .slice qg3 0 jg3, .slice ag3 0 cg3]) := HC12_g3.out.below b13 HC12_g3.out.lt
  have HC13_g6 : Hid (CellsAt w13 g6 27 #[.int .i64 0, .int .i64 0, .slice qg6 0 jg6, .slice ag6 0 cg6]) := HC12_g6.out.below b13 HC12_g6.out.lt
  have HC13_g10 : Hid (CellsAt w13 g10 27 #[.int .i64 0, .int .i64 0, .slice none 0 0, .slice none 0 0]) := HZ10.out.below b13 HZ10.out.lt
  have HC13_g11 : Hid (CellsAt w13 (g10 + 1) 27 #[.int .i64 0, .int .i64 0, .slice none 0 0, .slice none 0 0]) := HZ11.out.below b13 HZ11.out.lt
  have HR13_g3 : Hid (IsReg w13.heap.size w13 (.agg #[.int .i64 0, .int .i64 0, .slice qg3 0 jg3, .slice ag3 0 cg3]) ⟨0, 0, []⟩ []) := (HR12_g3.out.below b13).more b13.size
  have HR13_g6 : Hid (IsReg w13.heap.size w13 (.agg #[.int .i64 0, .int .i64 0, .slice qg6 0 jg6, .slice ag6 0 cg6]) ⟨0, 0, []⟩ []) := (HR12_g6.out.below b13).more b13.size
  clear HB12 HC12_g1 HC12_g3 HC12_g6 HZ10 HZ11 HR12_g3 HR12_g6
  clear b13
  have rg30 := CellsAt.cell HC13_g3.out 0
  have rg31 := CellsAt.cell HC13_g3.out 1
  have rg32 := CellsAt.cell HC13_g3.out 2
  have rg33 := CellsAt.cell HC13_g3.out 3
  have rg3l := CellsAt.lt HC13_g3.out
  simp at rg30 rg31 rg32 rg33
  have rg100 := CellsAt.cell HC13_g10.out 0
  have rg101 := CellsAt.cell HC13_g10.out 1
  have rg102 := CellsAt.cell HC13_g10.out 2
  have rg103 := CellsAt.cell HC13_g10.out 3
  have rg10l := CellsAt.lt HC13_g10.out
  simp at rg100 rg101 rg102 rg103
  go_wp2_with fail
  clear rg30 rg31 rg32 rg33 rg3l
  clear rg100 rg101 rg102 rg103 rg10l
  refine (regIs_err emptyK [] _ _ cr _ hne HR13_g3.out (zero_isReg _ _)).mono ?_
  rintro e w14 ⟨rfl, bz⟩
  have HB14 : Hid (Below w.heap.size w w14) := HB13.out.trans (bz.mono HB13.out.size)
  have HC14_g1 : Hid (CellsAt w14 w.heap.size 27 #[.int .i64 K.major, .int .i64 K.minor, .slice qe lk je, .slice a l.length cap]) := HC13_g1.out.below bz HC13_g1.out.lt
  have HC14_g3 : Hid (CellsAt w14 g3 27 #[.int .i64 0, .int .i64 0, .slice qg3 0 jg3, .slice ag3 0 cg3]) := HC13_g3.out.below bz HC13_g3.out.lt
  have HC14_g6 : Hid (CellsAt w14 g6 27 #[.int .i64 0, .int .i64 0, .slice qg6 0 jg6, .slice ag6 0 cg6]) := HC13_g6.out.below bz HC13_g6.out.lt
  have HC14_g10 : Hid (CellsAt w14 g10 27 #[.int .i64 0, .int .i64 0, .slice none 0 0, .slice none 0 0]) := HC13_g10.out.below bz HC13_g10.out.lt
  have HC14_g11 : Hid (CellsAt w14 (g10 + 1) 27 #[.int .i64 0, .int .i64 0, .slice none 0 0, .slice none 0 0]) := HC13_g11.out.below bz HC13_g11.out.lt
  have HR14_g3 : Hid (IsReg w14.heap.size w14 (.agg #[.int .i64 0, .int .i64 0, .slice qg3 0 jg3, .slice ag3 0 cg3]) ⟨0, 0, []⟩ []) := (HR13_g3.out.below bz).more bz.size
  have HR14_g6 : Hid (IsReg w14.heap.size w14 (.agg #[.int .i64 0, .int .i64 0, .slice qg6 0 jg6, .slice ag6 0 cg6]) ⟨0, 0, []⟩ []) := (HR13_g6.out.below bz).more bz.size
  clear HB13 HC13_g1 HC13_g3 HC13_g6 HC13_g10 HC13_g11 HR13_g3 HR13_g6
  clear bz
  have rg60 := CellsAt.cell HC14_g6.out 0
  have rg61 := CellsAt.cell HC14_g6.out 1
  have rg62 := CellsAt.cell HC14_g6.out 2
  have rg63 := CellsAt.cell HC14_g6.out 3
  have rg6l := CellsAt.lt HC14_g6.out
  simp at rg60 rg61 rg62 rg63
  have rg110 := CellsAt.cell HC14_g11.out 0
  have rg111 := CellsAt.cell HC14_g11.out 1
  have rg112 := CellsAt.cell HC14_g11.out 2
  have rg113 := CellsAt.cell HC14_g11.out 3
  have rg11l := CellsAt.lt HC14_g11.out
  simp at rg110 rg111 rg112 rg113
  go_wp2_with fail
  clear rg60 rg61 rg62 rg63 rg6l
  clear rg110 rg111 rg112 rg113 rg11l
  refine (regIs_err emptyK [] _ _ cr _ hne HR14_g6.out (zero_isReg _ _)).mono ?_
  rintro e w15 ⟨rfl, bz⟩
  have HB15 : Hid (Below w.heap.size w w15) := HB14.out.trans (bz.mono HB14.out.size)
  have HC15_g1 : Hid (CellsAt w15 w.heap.size 27 #[.int .i64 K.major, .int .i64 K.minor, .slice qe lk je, .slice a l.length cap]) := HC14_g1.out.below bz HC14_g1.out.lt
  have HC15_g3 : Hid (CellsAt w15 g3 27 #[.int .i64 0, .int .i64 0, .slice qg3 0 jg3, .slice ag3 0 cg3]) := HC14_g3.out.below bz HC14_g3.out.lt
  have HC15_g6 : Hid (CellsAt w15 g6 27 #[.int .i64 0, .int .i64 0, .slice qg6 0 jg6, .slice ag6 0 cg6]) := HC14_g6.out.below bz HC14_g6.out.lt
  have HC15_g10 : Hid (CellsAt w15 g10 27 #[.int .i64 0, .int .i64 0, .slice none 0 0, .slice none 0 0]) := HC14_g10.out.below bz HC14_g10.out.lt
  have HC15_g11 : Hid (CellsAt w15 (g10 + 1) 27 #[.int .i64 0, .int .i64 0, .slice none 0 0, .slice none 0 0]) := HC14_g11.out.below bz HC14_g11.out.lt
  have HR15_g3 : Hid (IsReg w15.heap.size w15 (.agg #[.int .i64 0, .int .i64 0, .slice qg3 0 jg3, .slice ag3 0 cg3]) ⟨0, 0, []⟩ []) := (HR14_g3.out.below bz).more bz.size
  have HR15_g6 : Hid (IsReg w15.heap.size w15 (.agg #[.int .i64 0, .int .i64 0, .slice qg6 0 jg6, .slice ag6 0 cg6]) ⟨0, 0, []⟩ []) := (HR14_g6.out.below bz).more bz.size
  clear HB14 HC14_g1 HC14_g3 HC14_g6 HC14_g10 HC14_g11 HR14_g3 HR14_g6
  clear bz
  go_wp2
  go_ret
  exact ⟨rfl, HB15.out⟩

theorem walk (K : Ker) (l : List PV) (v : Value) (w : World) (h : IsReg w.heap.size w v K l) (hf : K.fits) (hfit : ∀ x ∈ l, x.mod.fits) :
    Calls Tryz.prog 7 #[v] w fun e w' => e = .returned (.bool true) ∧ Below w.heap.size w w' := by
  by_cases h0 : chkRg K (l.map PV.plc) = 0
  · exact walk0 K l v w h hf hfit h0
  · exact walkE K l v w h hf hfit h0

end Go.Proofs.YthmohjgdcjafkaeGreat.compactTells

/- Arguments that came in: texts, numbers, rows, a patch. -/
namespace Go.Proofs.YthmohjgdcjafkaeGreat
open Go.ChangeShapes Go.WideShapes Go.ChangeAt Go.RowKit Go.PlainAid Go.Deep

set_option maxRecDepth 100000

theorem list7 {α : Type} {l : List α} (h : l.length = 7) : ∃ a b c d e f g, l = [a, b, c, d, e, f, g] := by
  match l, h with
  | [a, b, c, d, e, f, g], _ => exact ⟨a, b, c, d, e, f, g, rfl⟩
theorem list4 {α : Type} {l : List α} (h : l.length = 4) : ∃ a b c d, l = [a, b, c, d] := by
  match l, h with
  | [a, b, c, d], _ => exact ⟨a, b, c, d, rfl⟩
theorem list2 {α : Type} {l : List α} (h : l.length = 2) : ∃ a b, l = [a, b] := by
  match l, h with
  | [a, b], _ => exact ⟨a, b, rfl⟩

section
variable {H : Type} {enc : TypeId × Value → H} {W : World} {spare : Nat → Bool} {held : Bool}

theorem row_of_trod {α : Type} [Inhabited α] {t e : TypeId} {sz fuel : Nat} {c : Value} {y : DataW H × List MemPlace} {cells : α → Nat → Value} {good : α → Prop} (ht : Tryz.prog.underlying t = some (.slice e)) (hsz : Tryz.prog.cellsOf e = sz) (h0 : 0 < sz)
    (conv : ∀ n cs z, cs.length = sz → DataW.trod enc Tryz.prog W 0 spare held n e cs = some z → ∃ x : α, (∀ i, i < sz → cs[i]? = some (cells x i)) ∧ good x)
    (h : DataW.trod enc Tryz.prog W 0 spare held fuel t [c] = some y) : ∃ l : List α, RowOf sz cells W.heap.size W c l ∧ ∀ x ∈ l, good x := by
  rcases open_slice ht h with ⟨hc, _⟩ | ⟨a, len, cap, m, n, D, Pl, hc, _, hl, hm, hmm, _, hx⟩
  · injection hc with hc
    subst hc
    exact ⟨[], ⟨none, 0, rfl, Nat.zero_le _, .inl rfl⟩, by simp⟩
  · injection hc with hc
    subst hc
    rw [hsz] at hx
    have hle : len ≤ m := by rw [hmm]; split <;> omega
    obtain ⟨X, hX⟩ := choose_lt (α := α) (n := len) (p := fun i x => (∀ j, j < sz → W.cell? (a.add (i * sz + j)) = some (cells x j)) ∧ good x) (fun i hi => by
      obtain ⟨cs', h1, h2⟩ := hx i (by omega)
      obtain ⟨_, hlen, hcell⟩ := World.cells?_some h1
      obtain ⟨x, hx1, hx2⟩ := conv n cs' _ hlen h2
      refine ⟨x, fun j hj => ?_, hx2⟩
      have h3 := hcell j hj
      rw [hx1 j hj] at h3
      have hadd : (a.add (i * sz)).add j = a.add (i * sz + j) ∨ W.cell? ((a.add (i * sz)).add j) = W.cell? (a.add (i * sz + j)) := by
        unfold Addr.add
        by_cases e1 : i * sz = 0
        · rw [if_pos e1, e1, Nat.zero_add]; exact .inl rfl
        · rw [if_neg e1]
          by_cases e2 : j = 0
          · rw [if_pos e2, e2, Nat.add_zero, if_neg e1]; exact .inl rfl
          · rw [if_neg e2, if_neg (by omega), Nat.add_assoc]; exact .inl rfl
      rcases hadd with hadd | hadd
      · rw [← hadd]; exact h3
      · rw [← hadd]; exact h3)
    refine ⟨(List.range len).map X, ⟨some a, cap, by simp, by simp; unfold maxLen at hm; omega, ?_⟩, ?_⟩
    · by_cases hz : len = 0
      · left
        subst hz
        rfl
      · right
        have hc0 := (hX 0 (by omega)).1 0 h0
        rw [Nat.zero_mul, Nat.zero_add] at hc0
        obtain ⟨b, off, spot⟩ := a
        have hsp : spot = none := by simpa [Addr.add] using World.cell?_spot hc0
        subst hsp
        refine ⟨b, off, rfl, ?_, fun j x hj i hi => ?_⟩
        · have := World.block_lt_of_cell? W _ hc0
          simpa [Addr.add] using this
        · have hjl : j < len := by
            have := (List.getElem?_eq_some_iff.1 hj).1
            simpa using this
          obtain rfl : X j = x := by
            rw [List.getElem?_map, List.getElem?_range hjl] at hj
            simpa using hj
          have h4 := (hX j hjl).1 i hi
          unfold Addr.add at h4
          by_cases e0 : j * sz + i = 0
          · rw [if_pos e0] at h4
            rw [Nat.add_assoc, e0]
            exact h4
          · rw [if_neg e0] at h4
            rw [Nat.add_assoc]
            exact h4
    · intro x hx
      obtain ⟨i, hi, rfl⟩ := List.mem_map.1 hx
      exact (hX i (by simpa using hi)).2

theorem str_of_trod {n : Nat} {c : Value} {y : DataW H × List MemPlace} (h : DataW.trod enc Tryz.prog W 0 spare held n 9 [c] = some y) : ∃ s : ByteArray, c = .string s ∧ s.size ≤ 9223372036854775807 := by
  obtain ⟨s, hc, _, hs⟩ := DataW.trod_string Tryz.underlying9 h
  injection hc with hc
  exact ⟨s, hc, hs⟩
theorem int_of_trod {n : Nat} {c : Value} {y : DataW H × List MemPlace} (h : DataW.trod enc Tryz.prog W 0 spare held n 3 [c] = some y) : ∃ k : Int, c = .int .i64 k := by
  obtain ⟨k, hc, _, _⟩ := DataW.trod_int Tryz.underlying3 h
  injection hc with hc
  exact ⟨k, hc⟩

theorem exp_of_trod (n : Nat) (cs : List Value) (z : DataW H × List MemPlace) (hl : cs.length = 2) (h : DataW.trod enc Tryz.prog W 0 spare held n 128 cs = some z) : ∃ x : Exp, (∀ i, i < 2 → cs[i]? = some (Exp.cell x i)) ∧ x.name.size ≤ 9223372036854775807 := by
  obtain ⟨xs, m, _, _, _, hlen, hf⟩ := DataW.trod_struct Tryz.underlying128 h
  obtain ⟨x0, x1, rfl⟩ := list2 hlen
  obtain ⟨c0, c1, rfl⟩ := list2 hl
  obtain ⟨s, rfl, hs⟩ := str_of_trod (hf 0 _ rfl)
  obtain ⟨k, rfl⟩ := int_of_trod (hf 1 _ rfl)
  refine ⟨⟨s, k⟩, fun i hi => ?_, hs⟩
  have : i = 0 ∨ i = 1 := by omega
  rcases this with rfl | rfl <;> rfl
theorem imp_of_trod (n : Nat) (cs : List Value) (z : DataW H × List MemPlace) (hl : cs.length = 4) (h : DataW.trod enc Tryz.prog W 0 spare held n 100 cs = some z) : ∃ x : Imp, (∀ i, i < 4 → cs[i]? = some (Imp.cell x i)) ∧ x.fits := by
  obtain ⟨xs, m, _, _, _, hlen, hf⟩ := DataW.trod_struct Tryz.underlying100 h
  obtain ⟨x0, x1, x2, x3, rfl⟩ := list4 hlen
  obtain ⟨c0, c1, c2, c3, rfl⟩ := list4 hl
  obtain ⟨s, rfl, hs⟩ := str_of_trod (hf 0 _ rfl)
  obtain ⟨t, rfl, ht⟩ := str_of_trod (hf 1 _ rfl)
  obtain ⟨k, rfl⟩ := int_of_trod (hf 2 _ rfl)
  obtain ⟨j, rfl⟩ := int_of_trod (hf 3 _ rfl)
  refine ⟨⟨s, t, k, j⟩, fun i hi => ?_, ⟨hs, ht⟩⟩
  have : i = 0 ∨ i = 1 ∨ i = 2 ∨ i = 3 := by omega
  rcases this with rfl | rfl | rfl | rfl <;> rfl
theorem pat_of_trod (n : Nat) (cs : List Value) (z : DataW H × List MemPlace) (hl : cs.length = 4) (h : DataW.trod enc Tryz.prog W 0 spare held n 102 cs = some z) : ∃ x : Pat, (∀ i, i < 4 → cs[i]? = some (Pat.cell x i)) ∧ True := by
  obtain ⟨xs, m, _, _, _, hlen, hf⟩ := DataW.trod_struct Tryz.underlying102 h
  obtain ⟨x0, x1, x2, x3, rfl⟩ := list4 hlen
  obtain ⟨c0, c1, c2, c3, rfl⟩ := list4 hl
  obtain ⟨a, rfl⟩ := int_of_trod (hf 0 _ rfl)
  obtain ⟨b, rfl⟩ := int_of_trod (hf 1 _ rfl)
  obtain ⟨k, rfl⟩ := int_of_trod (hf 2 _ rfl)
  obtain ⟨j, rfl⟩ := int_of_trod (hf 3 _ rfl)
  refine ⟨⟨a, b, k, j⟩, fun i hi => ?_, trivial⟩
  have : i = 0 ∨ i = 1 ∨ i = 2 ∨ i = 3 := by omega
  rcases this with rfl | rfl | rfl | rfl <;> rfl

theorem open_patch {v : Value} {d : DataW H} {ps : List MemPlace} {base : Nat} (hv : Value.okWide Tryz.prog W .any base 102 v) (h : DataW.Trod enc Tryz.prog W 0 spare held 102 v d ps) : ∃ p : Pat, v = .agg #[.int .i64 p.kind, .int .i64 p.pos, .int .i64 p.sym, .int .i64 p.add] := by
  obtain ⟨cs, rfl, hcs⟩ := okWide_struct Tryz.underlying102 hv
  obtain ⟨fuel, hf⟩ := h
  obtain ⟨xs, m, _, _, hl, hlen, hf⟩ := DataW.trod_struct Tryz.underlying102 hf
  have hc4 : Tryz.prog.cellsOf 102 = 4 := by kernel_rfl
  obtain ⟨x0, x1, x2, x3, rfl⟩ := list4 hlen
  rw [hc4] at hl
  obtain ⟨c0, c1, c2, c3, hcl⟩ := list4 hl
  have hcs' : cs.toList = [c0, c1, c2, c3] := hcl
  have hcA : cs = #[c0, c1, c2, c3] := by rw [← Array.toArray_toList (xs := cs), hcs']
  subst hcA
  have f0 := hf 0 _ rfl
  have f1 := hf 1 _ rfl
  have f2 := hf 2 _ rfl
  have f3 := hf 3 _ rfl
  obtain ⟨a, rfl⟩ := int_of_trod f0
  obtain ⟨b, rfl⟩ := int_of_trod f1
  obtain ⟨c, rfl⟩ := int_of_trod f2
  obtain ⟨e, rfl⟩ := int_of_trod f3
  exact ⟨⟨a, b, c, e⟩, rfl⟩
end

end Go.Proofs.YthmohjgdcjafkaeGreat

/- A module that came in. -/
namespace Go.Proofs.YthmohjgdcjafkaeGreat
open Go.ChangeShapes Go.WideShapes Go.ChangeAt Go.RowKit Go.PlainAid Go.Deep

set_option maxRecDepth 100000

section
variable {H : Type} {enc : TypeId × Value → H} {W : World} {spare : Nat → Bool} {held : Bool}

theorem open_module {v : Value} {d : DataW H} {ps : List MemPlace} {base : Nat} (hv : Value.okWide Tryz.prog W .any base 31 v) (h : DataW.Trod enc Tryz.prog W 0 spare held 31 v d ps) : ∃ M, IsMod W.heap.size W v M ∧ M.fits := by
  obtain ⟨cs, rfl, hcs⟩ := okWide_struct Tryz.underlying31 hv
  obtain ⟨fuel, hf⟩ := h
  obtain ⟨xs, m, _, _, hl, hlen, hf⟩ := DataW.trod_struct Tryz.underlying31 hf
  have hc7 : Tryz.prog.cellsOf 31 = 7 := by kernel_rfl
  obtain ⟨x0, x1, x2, x3, x4, x5, x6, rfl⟩ := list7 hlen
  rw [hc7] at hl
  obtain ⟨c0, c1, c2, c3, c4, c5, c6, hcl⟩ := list7 hl
  have hcs' : cs.toList = [c0, c1, c2, c3, c4, c5, c6] := hcl
  have hcA : cs = #[c0, c1, c2, c3, c4, c5, c6] := by rw [← Array.toArray_toList (xs := cs), hcs']
  subst hcA
  have f0 := hf 0 _ rfl
  have f1 := hf 1 _ rfl
  have f2 := hf 2 _ rfl
  have f3 := hf 3 _ rfl
  have f4 := hf 4 _ rfl
  have f5 := hf 5 _ rfl
  have f6 := hf 6 _ rfl
  obtain ⟨N, rfl, hN⟩ := str_of_trod f0
  obtain ⟨a, rfl⟩ := int_of_trod f1
  obtain ⟨b, rfl⟩ := int_of_trod f2
  obtain ⟨T, rfl, hT⟩ := str_of_trod f3
  have _ : Inhabited Exp := ⟨⟨⟨#[]⟩, 0⟩⟩
  have _ : Inhabited Imp := ⟨⟨⟨#[]⟩, ⟨#[]⟩, 0, 0⟩⟩
  have _ : Inhabited Pat := ⟨⟨0, 0, 0, 0⟩⟩
  obtain ⟨es, hE, gE⟩ := row_of_trod (cells := Exp.cell) Tryz.underlying22 (sz := 2) (by kernel_rfl) (by decide) exp_of_trod f4
  obtain ⟨is, hI, gI⟩ := row_of_trod (cells := Imp.cell) Tryz.underlying28 (sz := 4) (by kernel_rfl) (by decide) imp_of_trod f5
  obtain ⟨ps, hP, _⟩ := row_of_trod (cells := Pat.cell) Tryz.underlying29 (sz := 4) (by kernel_rfl) (by decide) pat_of_trod f6
  exact ⟨⟨N, a, b, T, es, is, ps⟩, ⟨c4, c5, c6, rfl, hE, hI, hP⟩, hN, hT, gE, gI⟩
end

end Go.Proofs.YthmohjgdcjafkaeGreat
