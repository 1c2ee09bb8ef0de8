/- Texts that are laid together. -/
import Derived.Test.YtlpnfbpgnfappaaGreatMrgS
import Derived.Test.YtlpnfbpgnfappaaGreatMrgA
import Derived.Test.YtlpnfbpgnfappaaGreatMrgC
import Derived.BigRegion
import Derived.Test.YtlpnfbpgnfappaaGreatMrgI
import Derived.Test.YtlpnfbpgnfappaaGreatMrgQ
import Derived.Test.YtlpnfbpgnfappaaGreatMrgJ
import Derived.Test.YtlpnfbpgnfappaaGreatMrgK
import Derived.Test.YtlpnfbpgnfappaaGreatMrgR
import Derived.Test.YtlpnfbpgnfappaaGreatMrgP
import Derived.BigQuiet
import Derived.Lib.QuietBelow

/- The contract of the document's textLess. -/
namespace Go.Proofs.YtlpnfbpgnfappaaGreat
open Go.RowKit Go.PlainAid

set_option maxRecDepth 100000

end Go.Proofs.YtlpnfbpgnfappaaGreat

/- The contract of the document's sortTexts. -/
namespace Go.Proofs.YtlpnfbpgnfappaaGreat
open Go.RowKit Go.PlainAid

set_option maxRecDepth 100000

/-- One does not stand behind another one. -/
def NotBehind (a b : ByteArray) : Prop := ¬ Ahead b a
theorem NotBehind.trans {a b c : ByteArray} (h : NotBehind a b) (g : NotBehind b c) : NotBehind a c := fun e => by
  rcases Ahead.total b c with h1 | h1 | h1
  · exact h (h1.trans e)
  · subst h1; exact h e
  · exact g h1
theorem Ahead.notBehind {a b : ByteArray} (h : Ahead a b) : NotBehind a b := fun e => h.asymm e
/-- A row in which one is being put where it belongs. -/
structure Puts (pre : List ByteArray) (x : ByteArray) (mid : List ByteArray) : Prop where
  up : (pre ++ mid).Pairwise NotBehind
  mid : ∀ y ∈ mid, Ahead x y
theorem Puts.step {pre : List ByteArray} {p x : ByteArray} {mid : List ByteArray} (h : Puts (pre ++ [p]) x mid) (hx : Ahead x p) : Puts pre x (p :: mid) :=
  ⟨by have := h.up; rw [List.append_assoc] at this; exact this, fun y hy => by
    rcases List.mem_cons.1 hy with rfl | hy
    · exact hx
    · exact h.mid y hy⟩
theorem Puts.stop {pre : List ByteArray} {p x : ByteArray} {mid : List ByteArray} (h : Puts (pre ++ [p]) x mid) (hx : ¬ Ahead x p) : (pre ++ [p] ++ x :: mid).Pairwise NotBehind := by
  have h1 := List.pairwise_append.1 h.up
  refine List.pairwise_append.2 ⟨h1.1, List.pairwise_cons.2 ⟨fun y hy => (h.mid y hy).notBehind, h1.2.1⟩, fun a ha b hb => ?_⟩
  rcases List.mem_cons.1 hb with rfl | hb
  · rcases List.mem_append.1 ha with ha | ha
    · have h2 := List.pairwise_append.1 h1.1
      exact (h2.2.2 a ha p (by simp)).trans hx
    · rw [List.mem_singleton.1 ha]; exact hx
  · exact h1.2.2 a ha b hb
theorem Puts.first {x : ByteArray} {mid : List ByteArray} (h : Puts [] x mid) : (x :: mid).Pairwise NotBehind := List.pairwise_cons.2 ⟨fun y hy => (h.mid y hy).notBehind, h.up⟩

def TxtAt (W : World) (g : Nat) (ss : List ByteArray) : Prop := ∃ cs, CellsAt W g 9 cs ∧ ∀ (j : Nat) (x : ByteArray), ss[j]? = some x → cs[j]? = some (.string x)
theorem TxtAt.cell {W : World} {g : Nat} {ss : List ByteArray} (h : TxtAt W g ss) {j : Nat} {x : ByteArray} (hj : ss[j]? = some x) : W.cell? ⟨g, j, none⟩ = some (.string x) ∧ W.frozen? ⟨g, j, none⟩ = false := by
  obtain ⟨cs, h1, h2⟩ := h
  exact ⟨(h1.cell j).trans (h2 j x hj), h1.frozen j⟩
theorem TxtAt.lt {W : World} {g : Nat} {ss : List ByteArray} (h : TxtAt W g ss) : g < W.heap.size := by
  obtain ⟨cs, h1, _⟩ := h
  exact h1.lt
theorem swap_at {α : Type} (pre : List α) (p x : α) (rest : List α) (j : Nat) : (pre ++ x :: p :: rest)[j]? = if j = pre.length then some x else if j = pre.length + 1 then some p else (pre ++ p :: x :: rest)[j]? := by
  by_cases h1 : j < pre.length
  · rw [if_neg (by omega), if_neg (by omega), List.getElem?_append_left h1, List.getElem?_append_left h1]
  · rw [List.getElem?_append_right (by omega)]
    by_cases h2 : j = pre.length
    · rw [if_pos h2, h2, Nat.sub_self]; rfl
    · rw [if_neg h2]
      by_cases h3 : j = pre.length + 1
      · rw [if_pos h3, h3, Nat.add_sub_cancel_left]; rfl
      · rw [if_neg h3, List.getElem?_append_right (by omega)]
        obtain ⟨q, hq⟩ : ∃ q, j - pre.length = q + 2 := ⟨j - pre.length - 2, by omega⟩
        rw [hq]
        rfl
theorem TxtAt.swap {W : World} {g : Nat} {pre : List ByteArray} {p x : ByteArray} {rest : List ByteArray} (h : TxtAt W g (pre ++ p :: x :: rest)) : TxtAt ((W.setCell ⟨g, pre.length + 1, none⟩ (.string p)).setCell ⟨g, pre.length, none⟩ (.string x)) g (pre ++ x :: p :: rest) := by
  obtain ⟨cs, h1, h2⟩ := h
  refine ⟨_, (h1.set (pre.length + 1) (.string p)).set pre.length (.string x), fun j y hj => ?_⟩
  have b0 : pre.length < cs.size := by
    have := h2 pre.length p (by simp)
    exact (Array.getElem?_eq_some_iff.1 this).1
  have b1 : pre.length + 1 < cs.size := by
    have := h2 (pre.length + 1) x (by rw [List.getElem?_append_right (by omega)]; simp)
    exact (Array.getElem?_eq_some_iff.1 this).1
  rw [swap_at] at hj
  rw [Array.getElem?_setIfInBounds]
  by_cases e0 : j = pre.length
  · rw [if_pos e0] at hj
    injection hj with hj
    rw [if_pos e0.symm, hj, if_pos (by simpa using b0)]
  · rw [if_neg e0] at hj
    rw [if_neg (fun e => e0 e.symm), Array.getElem?_setIfInBounds]
    by_cases e1 : j = pre.length + 1
    · rw [if_pos e1] at hj
      injection hj with hj
      rw [if_pos e1.symm, hj, if_pos b1]
    · rw [if_neg e1] at hj
      rw [if_neg (fun e => e1 e.symm)]
      exact h2 j y hj
theorem TxtAt.below {W W' : World} {g m : Nat} {ss : List ByteArray} (h : TxtAt W g ss) (hb : Below m W W') (hg : g < m) : TxtAt W' g ss := by
  obtain ⟨cs, h1, h2⟩ := h
  exact ⟨cs, h1.below hb hg, h2⟩

theorem TxtAt.other {W : World} {g k m : Nat} {ss : List ByteArray} (h : TxtAt W g ss) (v : Value) (hkm : k ≠ m) : (W.setCell ⟨g, k, none⟩ v).cell? ⟨g, m, none⟩ = W.cell? ⟨g, m, none⟩ ∧ (W.setCell ⟨g, k, none⟩ v).frozen? ⟨g, m, none⟩ = false := by
  obtain ⟨cs, h1, _⟩ := h
  have h3 := h1.set k v
  refine ⟨?_, h3.frozen m⟩
  rw [h3.cell, h1.cell, Array.getElem?_setIfInBounds, if_neg hkm]

end Go.Proofs.YtlpnfbpgnfappaaGreat

/- What is come to, both ways. -/
namespace Go.Proofs.YtlpnfbpgnfappaaGreat
open Go.RowKit Go.PlainAid

theorem chk_nodup {L : List Plc} (h : chkGraph L = 0) : ((L.map (·.mod)).map (·.name)).Nodup := by
  have := (chkGraph_zero.1 h).2.2
  rw [List.map_map]
  exact this
theorem ComeRes.ok {nx : Mod → Mod → Bool} {L : List Plc} {name : ByteArray} {ss : List ByteArray} (h : ComeRes nx L name ss) (he : comeErr L name = 0) : ∃ f, f < L.length ∧ nameAt (L.map (·.mod)) f = name ∧ Comes nx (L.map (·.mod)) f ss := by
  rcases h with ⟨h, _⟩ | ⟨_, h⟩
  · exact absurd he h
  · exact h
theorem Comes.has {nx : Mod → Mod → Bool} {Ms : List Mod} (hd : (Ms.map (·.name)).Nodup) {f k : Nat} {ss : List ByteArray} (h : Comes nx Ms f ss) (hk : k < Ms.length) : nameAt Ms k ∈ ss ↔ Via (Next nx Ms) f k := by
  rw [h.2]
  constructor
  · rintro ⟨j, hj, he⟩
    rw [← nameAt_inj hd hj.lt_of.2 hk he]
    exact hj
  · exact fun hv => ⟨k, hv, rfl⟩

end Go.Proofs.YtlpnfbpgnfappaaGreat

/- The contracts of the document's IsRound and NeedsOf. -/
namespace Go.Proofs.YtlpnfbpgnfappaaGreat
open Go.RowKit Go.PlainAid

set_option maxRecDepth 100000

set_option maxHeartbeats 2000000 in
theorem isRound_any (l : List PV) (v : Value) (w : World) (hrow : IsPlcs w.heap.size w v l) (h8 : l.length ≤ 8) (rb : Bool) (hrb : rb = true ↔ ∃ i, Via (Next nxNeed (l.map (·.mod))) i i) :
    Calls Tryz.prog 47 #[v] w fun e w' => e = .returned (.bool rb) ∧ Below w.heap.size w w' := by
  have HR : Hid (Calls Tryz.prog 106 #[v] w fun e w' => (∃ r T, e = .returned r ∧ MatAt w' w.heap.size l.length r T ∧ ∀ a b, a < l.length → b < l.length → (T a b = true ↔ Via (Next nxNeed (l.map (·.mod))) a b)) ∧ Below w.heap.size w w') := reach_any l v w hrow h8
  have HLT : Hid (∀ i, Via (Next nxNeed (l.map (·.mod))) i i → i < l.length) := fun i h => by simpa using h.lt_of.1
  obtain ⟨⟨a, cap, rfl, hmax, _⟩, _⟩ := hrow
  generalize Via (Next nxNeed (l.map (·.mod))) = V at *
  generalize l.length = n at *
  have HRB : Hid (rb = true ↔ ∃ i, V i i) := hrb
  clear hrb
  go_enter Tryz.func47, Tryz.ntmps47
  go_wp2_with fail
  refine HR.out.mono ?_
  rintro e w2 ⟨⟨r, T, rfl, hM, hT⟩, B2⟩
  clear HR
  have HT : Hid (∀ a b, a < n → b < n → (T a b = true ↔ V a b)) := hT
  have HM : Hid (MatAt w2 w.heap.size n r T) := hM
  obtain ⟨ar, cr, rfl⟩ : ∃ ar cr, r = .slice ar n cr := by
    obtain ⟨vs, _, h2, _⟩ := hM
    exact own_form h2
  clear hT hM
  go_wp2_with fail
  go_loopw [4] (fun q wr => ∃ (k : Nat), k ≤ n ∧ q = .int .i64 k ∧ Hid (∀ j, j < k → T j j = false) ∧ Below w2.heap.size w2 wr) (fun q _ => n - (intOf q).toNat)
  case atStart => exact ⟨0, Nat.zero_le _, rfl, fun j hj => by omega, Below.refl _ _⟩
  case round =>
    obtain ⟨k, hk, rfl, HJ, B⟩ := hrel
    by_cases hlt : k < n
    · obtain ⟨go, co, hv, hbg, hgl, gs, cs, hall⟩ := (HM.out.below B).at (by omega)
      injection hv with e1 _ e3
      subst e1 e3
      obtain ⟨rk, _, lk, rk4⟩ := hall k hlt
      have ckk := (rk4 k hlt).1
      have hlt' : (k : Int) < (n : Int) := by omega
      have HJ2 : Hid (T k k = false → ∀ j, j < k + 1 → T j j = false) := fun h j hj => by
        by_cases e : j = k
        · subst e; exact h
        · exact HJ.out j (by omega)
      have HV : Hid (T k k = true → ∃ i, V i i) := fun h => ⟨k, (HT.out k k hlt hlt).1 h⟩
      clear hall rk4 HJ
      generalize gs k = gk at *
      generalize cs k = ck at *
      generalize T k k = t at *
      cases t
      · go_wp2
        exact ⟨⟨k + 1, by omega, by go_num, HJ2.out (by first | rfl | trivial), B⟩, by simp [intOf]; omega⟩
      · go_wp2
        go_ret
        exact ⟨by rw [HRB.out.2 (HV.out (by first | rfl | trivial))]; rfl, B2.trans (B.mono B2.size)⟩
    · obtain rfl : k = n := by omega
      go_wp2
      go_ret
      have hf : rb = false := by
        cases hr : rb
        · rfl
        · obtain ⟨i, hi⟩ := HRB.out.1 hr
          have h1 := HLT.out i hi
          have h2 := HJ.out i h1
          rw [(HT.out i i h1 h1).2 hi] at h2
          cases h2
      exact ⟨by rw [hf]; rfl, B2.trans (B.mono B2.size)⟩

end Go.Proofs.YtlpnfbpgnfappaaGreat

/- What an order is. -/
namespace Go.Proofs.YtlpnfbpgnfappaaGreat
open Go.RowKit Go.PlainAid

theorem RowOf.take {α : Type} {sz : Nat} {cells : α → Nat → Value} {n₀ : Nat} {W : World} {a : Option Addr} {n cap : Nat} {l : List α} (h : RowOf sz cells n₀ W (.slice a n cap) l) (k : Nat) (hk : k ≤ l.length) : RowOf sz cells n₀ W (.slice a k cap) (l.take k) := by
  obtain ⟨a', cap', e, hm, h⟩ := h
  injection e with e1 e2 e3
  subst e1 e3
  refine ⟨a, cap, by rw [List.length_take, Nat.min_eq_left hk], by rw [List.length_take]; omega, ?_⟩
  rcases h with h | ⟨b, off, rfl, hb, hc⟩
  · exact .inl (by rw [h]; simp)
  · refine .inr ⟨b, off, rfl, hb, fun j x hj i hi => hc j x ?_ i hi⟩
    rw [List.getElem?_take] at hj
    split at hj
    · exact hj
    · cases hj

end Go.Proofs.YtlpnfbpgnfappaaGreat

/- The contract of the document's CheckRegistry. -/
namespace Go.Proofs.YtlpnfbpgnfappaaGreat
open Go.RowKit Go.PlainAid

set_option maxRecDepth 100000

theorem ord_round {l : List PV} (h0 : chkGraph (l.map PV.plc) = 0) : ((ordOf (l.map PV.plc)).2 = 0 ∧ ((false = true) ↔ ∃ i, Via (Next nxNeed (l.map (·.mod))) i i)) ∨ ((ordOf (l.map PV.plc)).2 = 4 ∧ ((true = true) ↔ ∃ i, Via (Next nxNeed (l.map (·.mod))) i i)) := by
  have hmm : (l.map PV.plc).map (·.mod) = l.map (·.mod) := by rw [List.map_map]; rfl
  have hd := chk_nodup h0
  rcases ordOf_cases (l.map PV.plc) with ⟨e, _⟩ | ⟨_, e⟩
  · exact absurd h0 e
  · cases ho : orderFrom (risen (l.map PV.plc)) (risen (l.map PV.plc)).length [] with
    | none =>
      refine .inr ⟨by rw [e, ordRes_none ho], fun _ => ?_, fun _ => rfl⟩
      have := order_round (risen_perm _) hd ho
      rw [hmm] at this
      exact this
    | some c =>
      refine .inl ⟨by rw [e, ordRes_some ho], fun h => (by cases h), ?_⟩
      rintro ⟨i, hi⟩
      have hst := order_stands .nil ho
      refine absurd hi ?_
      intro hi
      refine hst.1.noRound (risen_perm _) hd ?_ i (by rw [hmm]; exact hi)
      rw [hst.2.1, (risen_perm (l.map PV.plc)).length_eq]
      simp

set_option maxHeartbeats 4000000 in
theorem checkRegistry_any (K : Ker) (l : List PV) (v : Value) (w : World) (h : IsReg w.heap.size w v K l) (hf : K.fits) (hfit : ∀ x ∈ l, x.mod.fits) :
    Calls Tryz.prog 9 #[v] w fun e w' => e = .returned (.int .i64 (chkRg K (l.map PV.plc))) ∧ Below w.heap.size w w' := by
  obtain ⟨ve, vl, rfl, hE, hL⟩ := h
  have hK : IsKer w.heap.size w (.agg #[.int .i64 K.major, .int .i64 K.minor, ve]) K := ⟨ve, rfl, hE⟩
  have HC : Hid (∀ W, Below w.heap.size w W → Calls Tryz.prog 46 #[.agg #[.int .i64 K.major, .int .i64 K.minor, ve], vl] W fun e w' => e = .returned (.int .i64 (chkLink K (l.map PV.plc))) ∧ Below W.heap.size W w') := fun W hb => checkLink_any K _ l vl W ((hK.below hb).more hb.size) hf ((hL.below hb).more hb.size) hfit
  have HA : Hid (chkLink K (l.map PV.plc) = 0 → ∀ W, Below w.heap.size w W → Calls Tryz.prog 48 #[.agg #[.int .i64 K.major, .int .i64 K.minor, ve], vl] W fun e w' => e = .returned (.tuple #[.string (areaFrom K (l.map PV.plc) ⟨#[]⟩ (l.map PV.plc)).1, .int .i64 (areaFrom K (l.map PV.plc) ⟨#[]⟩ (l.map PV.plc)).2]) ∧ Below W.heap.size W w') := fun h0 W hb => rfArea_any K _ l vl W ((hK.below hb).more hb.size) ((hL.below hb).more hb.size) h0
  have key : (chkLink K (l.map PV.plc) ≠ 0 ∧ chkRg K (l.map PV.plc) = chkLink K (l.map PV.plc)) ∨ ∃ rb : Bool, chkLink K (l.map PV.plc) = 0 ∧ Hid (∀ W, Below w.heap.size w W → Calls Tryz.prog 47 #[vl] W fun e w' => e = .returned (.bool rb) ∧ Below W.heap.size W w') ∧ ((rb = true ∧ chkRg K (l.map PV.plc) = 4) ∨ (rb = false ∧ chkRg K (l.map PV.plc) = (areaFrom K (l.map PV.plc) ⟨#[]⟩ (l.map PV.plc)).2)) := by
    by_cases h0 : chkLink K (l.map PV.plc) = 0
    · right
      have h2 := (chkLink_zero h0).2.1
      have h8 : l.length ≤ 8 := by simpa using (chkReg_zero.1 h2).1
      have hcr : chkRg K (l.map PV.plc) = if (ordOf (l.map PV.plc)).2 ≠ 0 then (ordOf (l.map PV.plc)).2 else (areaOf K (l.map PV.plc)).2 := by unfold chkRg; rw [if_neg (by omega)]
      rcases lnOrd_err h2 with ⟨h3, _⟩ | ⟨_, h3, _⟩
      · rw [(chkLink_zero h0).2.2] at h3; cases h3
      rcases ord_round h3 with ⟨h4, h5⟩ | ⟨h4, h5⟩
      · refine ⟨false, h0, fun W hb => isRound_any l vl W ((hL.below hb).more hb.size) h8 false h5, .inr ⟨rfl, ?_⟩⟩
        rw [hcr, if_neg (by omega)]
        unfold areaOf
        rw [if_neg (by omega)]
      · refine ⟨true, h0, fun W hb => isRound_any l vl W ((hL.below hb).more hb.size) h8 true h5, .inl ⟨rfl, ?_⟩⟩
        rw [hcr, if_pos (by omega), h4]
    · left
      refine ⟨h0, ?_⟩
      unfold chkRg
      rw [if_pos h0]
  generalize chkRg K (l.map PV.plc) = cr at *
  clear hK hf hfit
  obtain ⟨qe, je, rfl, _, _⟩ := hE
  obtain ⟨⟨a, cap, rfl, _, _⟩, _⟩ := hL
  generalize areaFrom K (l.map PV.plc) ⟨#[]⟩ (l.map PV.plc) = ar at *
  generalize chkLink K (l.map PV.plc) = cl at *
  obtain ⟨az, ae⟩ := ar
  obtain ⟨ma, mi, ks⟩ := K
  dsimp only at *
  generalize ks.length = lk at *
  generalize l.length = ll at *
  have BB : Below w.heap.size w (w.alloc (.cells #[.int .i64 ma, .int .i64 mi, .slice qe lk je, .slice a ll cap] 27)) := (Below.refl _ _).alloc (Nat.le_refl _) _
  have KB : CellsAt (w.alloc (.cells #[.int .i64 ma, .int .i64 mi, .slice qe lk je, .slice a ll cap] 27)) w.heap.size 27 #[.int .i64 ma, .int .i64 mi, .slice qe lk je, .slice a ll cap] := CellsAt.new w 27 #[.int .i64 ma, .int .i64 mi, .slice qe lk je, .slice a ll cap]
  go_enter Tryz.func9, Tryz.ntmps9
  go_wp2_with fail
  refine (HC.out _ BB).mono ?_
  rintro e w2 ⟨rfl, b1⟩
  replace KB := KB.below b1 KB.lt
  replace BB := BB.trans (b1.mono BB.size)
  clear b1 HC
  have k0 := KB.cell 0
  have k1 := KB.cell 1
  have k2 := KB.cell 2
  have k3 := KB.cell 3
  have hk := KB.lt
  simp at k0 k1 k2 k3
  rcases key with ⟨h1, rfl⟩ | ⟨rb, rfl, HB, ⟨rfl, rfl⟩ | ⟨rfl, rfl⟩⟩
  · have h1' : (cr == 0) = false := by simpa using h1
    clear h1 HA
    go_wp2
    go_ret
    exact ⟨rfl, BB⟩
  · clear HA
    go_wp2_with fail
    refine (HB.out _ BB).mono ?_
    rintro e w3 ⟨rfl, b1⟩
    replace BB := BB.trans (b1.mono BB.size)
    clear b1
    go_wp2
    go_ret
    exact ⟨rfl, BB⟩
  · have HAA : Hid (∀ W, Below w.heap.size w W → Calls Tryz.prog 48 #[.agg #[.int .i64 ma, .int .i64 mi, .slice qe lk je], .slice a ll cap] W fun e w' => e = .returned (.tuple #[.string az, .int .i64 cr]) ∧ Below W.heap.size W w') := HA.out (by first | rfl | trivial)
    clear HA
    go_wp2_with fail
    refine (HB.out _ BB).mono ?_
    rintro e w3 ⟨rfl, b1⟩
    replace KB := KB.below b1 KB.lt
    replace BB := BB.trans (b1.mono BB.size)
    clear b1 HB k0 k1 k2 k3 hk
    have k0 := KB.cell 0
    have k1 := KB.cell 1
    have k2 := KB.cell 2
    have k3 := KB.cell 3
    have hk := KB.lt
    simp at k0 k1 k2 k3
    go_wp2_with fail
    refine (HAA.out _ BB).mono ?_
    rintro e w4 ⟨rfl, b1⟩
    replace BB := BB.trans (b1.mono BB.size)
    clear b1
    go_wp2
    go_ret
    exact ⟨rfl, BB⟩

end Go.Proofs.YtlpnfbpgnfappaaGreat

/- The contract of the document's InstallOf, of a registry that is right. Printed by genptd.py. -/
namespace Go.Proofs.YtlpnfbpgnfappaaGreat
open Go.RowKit Go.PlainAid Go.Lib Go.Sort Go.BigFrame

set_option maxRecDepth 100000

/-- A cell of another block takes a value. -/
theorem reg_store {W : World} {K : Ker} {l : List PV} {v : Value} {B i : Nat} {u : Value} {x y : Int} {p q : Option Addr} {a b c d : Nat} (h : IsReg W.heap.size W v K l) (hB : CellsAt W B 27 #[.int .i64 x, .int .i64 y, .slice p a b, .slice q c d]) : IsReg (W.setCell ⟨B, i, none⟩ u).heap.size (W.setCell ⟨B, i, none⟩ u) v K l :=
  (h.apart4 (grown_set W B i u) (Nat.le_refl _) hB).more (grown_set W B i u).size

set_option maxHeartbeats 64000000 in
theorem instOf_any (K : Ker) (l : List PV) (v : Value) (M : Mod) (vm : Value) (w : World) (h : IsReg w.heap.size w v K l) (hf : K.fits) (hfit : ∀ x ∈ l, x.mod.fits) (hm : IsMod w.heap.size w vm M) (hmf : M.fits) (h0 : chkRg K (l.map PV.plc) = 0) :
    Calls Tryz.prog 10 #[v, vm] w fun e w' => (∃ (v' : Value) (l' : List PV), e = .returned (.tuple #[v', .int .i64 (planRes K (l.map PV.plc) (instDo (l.map PV.plc) M)).2]) ∧ l'.map PV.plc = (planRes K (l.map PV.plc) (instDo (l.map PV.plc) M)).1.2 ∧ IsReg w'.heap.size w' v' (planRes K (l.map PV.plc) (instDo (l.map PV.plc) M)).1.1 l') ∧ Below w.heap.size w w' := by
  have hr0 := rg_reg h0
  have hl8 : l.length ≤ 8 := by
    rcases freeRes_cases (l.map PV.plc) with ⟨g, _⟩ | ⟨_, g, _⟩
    · exact absurd hr0 g
    · simpa using g
  have hpr := planRes_zero (D := instDo (l.map PV.plc) M) h0
  have key := inst_doc l M hr0 hl8
  have HCM : Hid (∀ W, Below w.heap.size w W → Calls Tryz.prog 49 #[vm] W fun e w' => e = .returned (.int .i64 (chkMod M)) ∧ Below W.heap.size W w') := fun W hb => checkModule_any M vm W ((hm.below hb).more hb.size) hmf
  have HRG : Hid (∀ (l2 : List PV) v2 W, IsReg W.heap.size W v2 K l2 → (∀ x ∈ l2, x.mod.fits) → Calls Tryz.prog 9 #[v2] W fun e w' => e = .returned (.int .i64 (chkRg K (l2.map PV.plc))) ∧ Below W.heap.size W w') := fun l2 v2 W hr hft => checkRegistry_any K l2 v2 W hr hf hft
  have HFITS : Hid (∀ X : PV, X.mod = M → ∀ y ∈ putV l X, y.mod.fits) := fun X hX => putV_fits hfit (by rw [hX]; exact hmf)
  obtain ⟨vxe, vxi, vxp, rfl, hxE, hxI, hxP⟩ := hm
  have HPX : Hid (∀ f, PlcAt w.heap.size w ⟨M, vxe, vxi, vxp, f⟩) := fun f => ⟨hxE, hxI, hxP⟩
  obtain ⟨ve, vl, rfl, hE, hL⟩ := h
  have HEX : Hid (RowOf 2 Exp.cell w.heap.size w ve K.exps) := hE
  have HPO : Hid (∀ W, Below w.heap.size w W → Calls Tryz.prog 50 #[vl, .string M.name] W fun e w' => e = .returned (.int .i64 (ixFrom (fun z : PV => z.mod.name == M.name) 0 l)) ∧ Below W.heap.size W w') := fun W hb => by
    have := placeOf_any l vl M.name W ((hL.1.below hb).more hb.size)
    rw [idx_ix] at this
    exact this
  have HFT : Hid (∀ W, Below w.heap.size w W → Calls Tryz.prog 51 #[vl, .int .i64 (szM M : Int)] W fun e w' => e = .returned (.int .i64 (fitRes (fitOf (szM M) (runsFrom 0 (l.map PV.plc))))) ∧ Below W.heap.size W w') := fun W hb => fitOf_any l vl (szM M) W ((hL.below hb).more hb.size) hr0
  have HWI : Hid (∀ f W, Below w.heap.size w W → Calls Tryz.prog 53 #[vl, .agg #[.string M.name, .int .i64 M.major, .int .i64 M.minor, .string M.text, vxe, vxi, vxp], .int .i64 f] W fun e w' => (∃ v', e = .returned v' ∧ IsPlcs w'.heap.size w' v' (putV l ⟨M, vxe, vxi, vxp, f⟩)) ∧ Below W.heap.size W w') := fun f W hb =>
    with_any l vl M vxe vxi vxp f W ((hL.below hb).more hb.size) (by omega) ⟨(hxE.below hb).more hb.size, (hxI.below hb).more hb.size, (hxP.below hb).more hb.size⟩
  obtain ⟨qe, je, rfl, -, -⟩ := hE
  obtain ⟨⟨a, cap, rfl, -, -⟩, -⟩ := hL
  obtain ⟨pe, ke, e4, -⟩ := hxE
  obtain ⟨pi, ki, e5, -⟩ := hxI
  obtain ⟨pp, kp, e6, -⟩ := hxP
  subst e4 e5 e6
  have HSZ : Hid (chkMod M = 0 → ∀ W, Calls Tryz.prog 52 #[.agg #[.string M.name, .int .i64 M.major, .int .i64 M.minor, .string M.text, .slice pe M.exps.length ke, .slice pi M.imps.length ki, .slice pp M.pats.length kp]] W fun e w' => e = .returned (.int .i64 (szM M : Int)) ∧ Below W.heap.size W w') := fun hc W =>
    sizeOf_any M.name M.text M.major M.minor pe pi pp M.exps.length ke M.imps.length ki M.pats.length kp W (szM_bd hc).2.2.1
  clear hf hfit hmf h0 hr0
  generalize hlk : K.exps.length = lk at *
  have HLK : Hid (K.exps.length = lk) := hlk
  clear hlk
  generalize M.exps.length = le at *
  generalize M.imps.length = li at *
  generalize M.pats.length = lp at *
  generalize planRes K (l.map PV.plc) (instDo (l.map PV.plc) M) = PR at *
  generalize fitRes (fitOf (szM M : Int) (runsFrom 0 (l.map PV.plc))) = FR at *
  have HB0 : Hid (Below w.heap.size w w) := Below.refl _ _
  rcases key with ⟨hc, hd⟩ | ⟨hc, ⟨j, hix⟩, hd⟩ | ⟨hc, hix, h8, hd⟩ | ⟨hc, hix, h8, rfl, hd⟩ | ⟨hc, hix, h8, f, hf0, rfl, hd⟩
  · have HPR : Hid (PR = ((emptyK, []), chkMod M)) := by
      show PR = _
      rw [hpr, hd]
      exact if_pos hc
    clear hpr hd
    generalize chkMod M = cm at *
    go_enter Tryz.func10, Tryz.ntmps10
    have ba : Below w.heap.size w (w.alloc (.cells #[.int .i64 K.major, .int .i64 K.minor, .slice qe lk je, .slice a l.length cap] 27)) := (Below.refl _ _).alloc (Nat.le_refl _) _
    have olw_g1 : w.heap.size ≤ w.heap.size := HB0.out.size
    have HB1 : Hid (Below w.heap.size w (w.alloc (.cells #[.int .i64 K.major, .int .i64 K.minor, .slice qe lk je, .slice a l.length cap] 27))) := HB0.out.trans (ba.mono HB0.out.size)
    clear HB0
    clear ba
    have HC2_g1 : Hid (CellsAt (w.alloc (.cells #[.int .i64 K.major, .int .i64 K.minor, .slice qe lk je, .slice a l.length cap] 27)) w.heap.size 27 #[.int .i64 K.major, .int .i64 K.minor, .slice qe lk je, .slice a l.length cap]) := CellsAt.new _ _ _
    have ba : Below (w.alloc (.cells #[.int .i64 K.major, .int .i64 K.minor, .slice qe lk je, .slice a l.length cap] 27)).heap.size (w.alloc (.cells #[.int .i64 K.major, .int .i64 K.minor, .slice qe lk je, .slice a l.length cap] 27)) ((w.alloc (.cells #[.int .i64 K.major, .int .i64 K.minor, .slice qe lk je, .slice a l.length cap] 27)).alloc (.cells #[.string M.name, .int .i64 M.major, .int .i64 M.minor, .string M.text, .slice pe le ke, .slice pi li ki, .slice pp lp kp] 31)) := (Below.refl _ _).alloc (Nat.le_refl _) _
    have ol_g1_g2 : w.heap.size < (w.alloc (.cells #[.int .i64 K.major, .int .i64 K.minor, .slice qe lk je, .slice a l.length cap] 27)).heap.size := CellsAt.lt HC2_g1.out
    have olw_g2 : w.heap.size ≤ (w.alloc (.cells #[.int .i64 K.major, .int .i64 K.minor, .slice qe lk je, .slice a l.length cap] 27)).heap.size := HB1.out.size
    have HB3 : Hid (Below w.heap.size w ((w.alloc (.cells #[.int .i64 K.major, .int .i64 K.minor, .slice qe lk je, .slice a l.length cap] 27)).alloc (.cells #[.string M.name, .int .i64 M.major, .int .i64 M.minor, .string M.text, .slice pe le ke, .slice pi li ki, .slice pp lp kp] 31))) := HB1.out.trans (ba.mono HB1.out.size)
    have HC3_g1 : Hid (CellsAt ((w.alloc (.cells #[.int .i64 K.major, .int .i64 K.minor, .slice qe lk je, .slice a l.length cap] 27)).alloc (.cells #[.string M.name, .int .i64 M.major, .int .i64 M.minor, .string M.text, .slice pe le ke, .slice pi li ki, .slice pp lp kp] 31)) w.heap.size 27 #[.int .i64 K.major, .int .i64 K.minor, .slice qe lk je, .slice a l.length cap]) := HC2_g1.out.below ba HC2_g1.out.lt
    clear HB1 HC2_g1
    clear ba
    have HC4_g2 : Hid (CellsAt ((w.alloc (.cells #[.int .i64 K.major, .int .i64 K.minor, .slice qe lk je, .slice a l.length cap] 27)).alloc (.cells #[.string M.name, .int .i64 M.major, .int .i64 M.minor, .string M.text, .slice pe le ke, .slice pi li ki, .slice pp lp kp] 31)) (w.alloc (.cells #[.int .i64 K.major, .int .i64 K.minor, .slice qe lk je, .slice a l.length cap] 27)).heap.size 31 #[.string M.name, .int .i64 M.major, .int .i64 M.minor, .string M.text, .slice pe le ke, .slice pi li ki, .slice pp lp kp]) := CellsAt.new _ _ _
    rw [World.size_alloc] at HC4_g2
    clear ol_g1_g2 olw_g2 olw_g1
    have ba : Below ((w.alloc (.cells #[.int .i64 K.major, .int .i64 K.minor, .slice qe lk je, .slice a l.length cap] 27)).alloc (.cells #[.string M.name, .int .i64 M.major, .int .i64 M.minor, .string M.text, .slice pe le ke, .slice pi li ki, .slice pp lp kp] 31)).heap.size ((w.alloc (.cells #[.int .i64 K.major, .int .i64 K.minor, .slice qe lk je, .slice a l.length cap] 27)).alloc (.cells #[.string M.name, .int .i64 M.major, .int .i64 M.minor, .string M.text, .slice pe le ke, .slice pi li ki, .slice pp lp kp] 31)) (((w.alloc (.cells #[.int .i64 K.major, .int .i64 K.minor, .slice qe lk je, .slice a l.length cap] 27)).alloc (.cells #[.string M.name, .int .i64 M.major, .int .i64 M.minor, .string M.text, .slice pe le ke, .slice pi li ki, .slice pp lp kp] 31)).alloc (.cells #[.int .i64 0, .int .i64 0, .slice none 0 0, .slice none 0 0] 27)) := (Below.refl _ _).alloc (Nat.le_refl _) _
    have ol_g1_g3 : w.heap.size < ((w.alloc (.cells #[.int .i64 K.major, .int .i64 K.minor, .slice qe lk je, .slice a l.length cap] 27)).alloc (.cells #[.string M.name, .int .i64 M.major, .int .i64 M.minor, .string M.text, .slice pe le ke, .slice pi li ki, .slice pp lp kp] 31)).heap.size := CellsAt.lt HC3_g1.out
    have ol_g2_g3 : (w.heap.size + 1) < ((w.alloc (.cells #[.int .i64 K.major, .int .i64 K.minor, .slice qe lk je, .slice a l.length cap] 27)).alloc (.cells #[.string M.name, .int .i64 M.major, .int .i64 M.minor, .string M.text, .slice pe le ke, .slice pi li ki, .slice pp lp kp] 31)).heap.size := CellsAt.lt HC4_g2.out
    have olw_g3 : w.heap.size ≤ ((w.alloc (.cells #[.int .i64 K.major, .int .i64 K.minor, .slice qe lk je, .slice a l.length cap] 27)).alloc (.cells #[.string M.name, .int .i64 M.major, .int .i64 M.minor, .string M.text, .slice pe le ke, .slice pi li ki, .slice pp lp kp] 31)).heap.size := HB3.out.size
    have HB5 : Hid (Below w.heap.size w (((w.alloc (.cells #[.int .i64 K.major, .int .i64 K.minor, .slice qe lk je, .slice a l.length cap] 27)).alloc (.cells #[.string M.name, .int .i64 M.major, .int .i64 M.minor, .string M.text, .slice pe le ke, .slice pi li ki, .slice pp lp kp] 31)).alloc (.cells #[.int .i64 0, .int .i64 0, .slice none 0 0, .slice none 0 0] 27))) := HB3.out.trans (ba.mono HB3.out.size)
    have HC5_g1 : Hid (CellsAt (((w.alloc (.cells #[.int .i64 K.major, .int .i64 K.minor, .slice qe lk je, .slice a l.length cap] 27)).alloc (.cells #[.string M.name, .int .i64 M.major, .int .i64 M.minor, .string M.text, .slice pe le ke, .slice pi li ki, .slice pp lp kp] 31)).alloc (.cells #[.int .i64 0, .int .i64 0, .slice none 0 0, .slice none 0 0] 27)) w.heap.size 27 #[.int .i64 K.major, .int .i64 K.minor, .slice qe lk je, .slice a l.length cap]) := HC3_g1.out.below ba HC3_g1.out.lt
    have HC5_g2 : Hid (CellsAt (((w.alloc (.cells #[.int .i64 K.major, .int .i64 K.minor, .slice qe lk je, .slice a l.length cap] 27)).alloc (.cells #[.string M.name, .int .i64 M.major, .int .i64 M.minor, .string M.text, .slice pe le ke, .slice pi li ki, .slice pp lp kp] 31)).alloc (.cells #[.int .i64 0, .int .i64 0, .slice none 0 0, .slice none 0 0] 27)) (w.heap.size + 1) 31 #[.string M.name, .int .i64 M.major, .int .i64 M.minor, .string M.text, .slice pe le ke, .slice pi li ki, .slice pp lp kp]) := HC4_g2.out.below ba HC4_g2.out.lt
    clear HB3 HC3_g1 HC4_g2
    clear ba
    have HC6_g3 : Hid (CellsAt (((w.alloc (.cells #[.int .i64 K.major, .int .i64 K.minor, .slice qe lk je, .slice a l.length cap] 27)).alloc (.cells #[.string M.name, .int .i64 M.major, .int .i64 M.minor, .string M.text, .slice pe le ke, .slice pi li ki, .slice pp lp kp] 31)).alloc (.cells #[.int .i64 0, .int .i64 0, .slice none 0 0, .slice none 0 0] 27)) ((w.alloc (.cells #[.int .i64 K.major, .int .i64 K.minor, .slice qe lk je, .slice a l.length cap] 27)).alloc (.cells #[.string M.name, .int .i64 M.major, .int .i64 M.minor, .string M.text, .slice pe le ke, .slice pi li ki, .slice pp lp kp] 31)).heap.size 27 #[.int .i64 0, .int .i64 0, .slice none 0 0, .slice none 0 0]) := CellsAt.new _ _ _
    rw [World.size_alloc, World.size_alloc] at HC6_g3
    clear ol_g1_g3 ol_g2_g3 olw_g3
    go_upto_region 1 with fail
    generalize (((w.alloc (.cells #[.int .i64 K.major, .int .i64 K.minor, .slice qe lk je, .slice a l.length cap] 27)).alloc (.cells #[.string M.name, .int .i64 M.major, .int .i64 M.minor, .string M.text, .slice pe le ke, .slice pi li ki, .slice pp lp kp] 31)).alloc (.cells #[.int .i64 0, .int .i64 0, .slice none 0 0, .slice none 0 0] 27)) = w1 at *
    have rg20 := CellsAt.cell HC5_g2.out 0
    have rg21 := CellsAt.cell HC5_g2.out 1
    have rg22 := CellsAt.cell HC5_g2.out 2
    have rg23 := CellsAt.cell HC5_g2.out 3
    have rg24 := CellsAt.cell HC5_g2.out 4
    have rg25 := CellsAt.cell HC5_g2.out 5
    have rg26 := CellsAt.cell HC5_g2.out 6
    have rg2l := CellsAt.lt HC5_g2.out
    simp at rg20 rg21 rg22 rg23 rg24 rg25 rg26
    go_wp2_with fail
    clear rg20 rg21 rg22 rg23 rg24 rg25 rg26 rg2l
    refine (HCM.out _ HB5.out).mono ?_
    rintro e w2 ⟨rfl, b2⟩
    have HB7 : Hid (Below w.heap.size w w2) := HB5.out.trans (b2.mono HB5.out.size)
    have HC7_g1 : Hid (CellsAt w2 w.heap.size 27 #[.int .i64 K.major, .int .i64 K.minor, .slice qe lk je, .slice a l.length cap]) := HC5_g1.out.below b2 HC5_g1.out.lt
    have HC7_g2 : Hid (CellsAt w2 (w.heap.size + 1) 31 #[.string M.name, .int .i64 M.major, .int .i64 M.minor, .string M.text, .slice pe le ke, .slice pi li ki, .slice pp lp kp]) := HC5_g2.out.below b2 HC5_g2.out.lt
    have HC7_g3 : Hid (CellsAt w2 (w.heap.size + 2) 27 #[.int .i64 0, .int .i64 0, .slice none 0 0, .slice none 0 0]) := HC6_g3.out.below b2 HC6_g3.out.lt
    clear HB5 HC5_g1 HC5_g2 HC6_g3
    clear b2
    have hc' : (cm != 0) = true := by simpa using hc
    have rg30 := CellsAt.cell HC7_g3.out 0
    have rg31 := CellsAt.cell HC7_g3.out 1
    have rg32 := CellsAt.cell HC7_g3.out 2
    have rg33 := CellsAt.cell HC7_g3.out 3
    have fg30 := CellsAt.frozen HC7_g3.out 0
    have fg31 := CellsAt.frozen HC7_g3.out 1
    have fg32 := CellsAt.frozen HC7_g3.out 2
    have fg33 := CellsAt.frozen HC7_g3.out 3
    have rg3l := CellsAt.lt HC7_g3.out
    simp at rg30 rg31 rg32 rg33
    have rg10 := CellsAt.cell HC7_g1.out 0
    have rg11 := CellsAt.cell HC7_g1.out 1
    have rg12 := CellsAt.cell HC7_g1.out 2
    have rg13 := CellsAt.cell HC7_g1.out 3
    have rg1l := CellsAt.lt HC7_g1.out
    simp at rg10 rg11 rg12 rg13
    have rg20 := CellsAt.cell HC7_g2.out 0
    have rg21 := CellsAt.cell HC7_g2.out 1
    have rg22 := CellsAt.cell HC7_g2.out 2
    have rg23 := CellsAt.cell HC7_g2.out 3
    have rg24 := CellsAt.cell HC7_g2.out 4
    have rg25 := CellsAt.cell HC7_g2.out 5
    have rg26 := CellsAt.cell HC7_g2.out 6
    have rg2l := CellsAt.lt HC7_g2.out
    simp at rg20 rg21 rg22 rg23 rg24 rg25 rg26
    have hgl := HB7.out.size
    go_wp2
    have hZ9 := sets4 HC7_g3.out (.int .i64 0) (.int .i64 0) (.slice none 0 0) (.slice none 0 0)
    have hG9 := sets4_grown w2 (w.heap.size + 2) (.int .i64 0) (.int .i64 0) (.slice none 0 0) (.slice none 0 0)
    have hB9 := HB7.out.grown hG9 HB7.out.size (fun q hq => by obtain rfl := Option.some.inj hq; omega)
    refine bodyPost_ret (results_cell_tmp_row rfl _ _ _ _ _ _ _ rfl hZ9 Tryz.underlying27 rfl (by kernel_rfl)) rfl ?_
    rw [HPR.out]
    exact ⟨⟨_, [], rfl, rfl, zero_isReg _ _⟩, hB9⟩
  · have HPR : Hid (PR = ((emptyK, []), 6)) := by
      show PR = _
      rw [hpr, hd]
      exact if_pos (by decide)
    clear hpr hd
    go_enter Tryz.func10, Tryz.ntmps10
    have ba : Below w.heap.size w (w.alloc (.cells #[.int .i64 K.major, .int .i64 K.minor, .slice qe lk je, .slice a l.length cap] 27)) := (Below.refl _ _).alloc (Nat.le_refl _) _
    have olw_g1 : w.heap.size ≤ w.heap.size := HB0.out.size
    have HB1 : Hid (Below w.heap.size w (w.alloc (.cells #[.int .i64 K.major, .int .i64 K.minor, .slice qe lk je, .slice a l.length cap] 27))) := HB0.out.trans (ba.mono HB0.out.size)
    clear HB0
    clear ba
    have HC2_g1 : Hid (CellsAt (w.alloc (.cells #[.int .i64 K.major, .int .i64 K.minor, .slice qe lk je, .slice a l.length cap] 27)) w.heap.size 27 #[.int .i64 K.major, .int .i64 K.minor, .slice qe lk je, .slice a l.length cap]) := CellsAt.new _ _ _
    have ba : Below (w.alloc (.cells #[.int .i64 K.major, .int .i64 K.minor, .slice qe lk je, .slice a l.length cap] 27)).heap.size (w.alloc (.cells #[.int .i64 K.major, .int .i64 K.minor, .slice qe lk je, .slice a l.length cap] 27)) ((w.alloc (.cells #[.int .i64 K.major, .int .i64 K.minor, .slice qe lk je, .slice a l.length cap] 27)).alloc (.cells #[.string M.name, .int .i64 M.major, .int .i64 M.minor, .string M.text, .slice pe le ke, .slice pi li ki, .slice pp lp kp] 31)) := (Below.refl _ _).alloc (Nat.le_refl _) _
    have ol_g1_g2 : w.heap.size < (w.alloc (.cells #[.int .i64 K.major, .int .i64 K.minor, .slice qe lk je, .slice a l.length cap] 27)).heap.size := CellsAt.lt HC2_g1.out
    have olw_g2 : w.heap.size ≤ (w.alloc (.cells #[.int .i64 K.major, .int .i64 K.minor, .slice qe lk je, .slice a l.length cap] 27)).heap.size := HB1.out.size
    have HB3 : Hid (Below w.heap.size w ((w.alloc (.cells #[.int .i64 K.major, .int .i64 K.minor, .slice qe lk je, .slice a l.length cap] 27)).alloc (.cells #[.string M.name, .int .i64 M.major, .int .i64 M.minor, .string M.text, .slice pe le ke, .slice pi li ki, .slice pp lp kp] 31))) := HB1.out.trans (ba.mono HB1.out.size)
    have HC3_g1 : Hid (CellsAt ((w.alloc (.cells #[.int .i64 K.major, .int .i64 K.minor, .slice qe lk je, .slice a l.length cap] 27)).alloc (.cells #[.string M.name, .int .i64 M.major, .int .i64 M.minor, .string M.text, .slice pe le ke, .slice pi li ki, .slice pp lp kp] 31)) w.heap.size 27 #[.int .i64 K.major, .int .i64 K.minor, .slice qe lk je, .slice a l.length cap]) := HC2_g1.out.below ba HC2_g1.out.lt
    clear HB1 HC2_g1
    clear ba
    have HC4_g2 : Hid (CellsAt ((w.alloc (.cells #[.int .i64 K.major, .int .i64 K.minor, .slice qe lk je, .slice a l.length cap] 27)).alloc (.cells #[.string M.name, .int .i64 M.major, .int .i64 M.minor, .string M.text, .slice pe le ke, .slice pi li ki, .slice pp lp kp] 31)) (w.alloc (.cells #[.int .i64 K.major, .int .i64 K.minor, .slice qe lk je, .slice a l.length cap] 27)).heap.size 31 #[.string M.name, .int .i64 M.major, .int .i64 M.minor, .string M.text, .slice pe le ke, .slice pi li ki, .slice pp lp kp]) := CellsAt.new _ _ _
    rw [World.size_alloc] at HC4_g2
    clear ol_g1_g2 olw_g2 olw_g1
    have ba : Below ((w.alloc (.cells #[.int .i64 K.major, .int .i64 K.minor, .slice qe lk je, .slice a l.length cap] 27)).alloc (.cells #[.string M.name, .int .i64 M.major, .int .i64 M.minor, .string M.text, .slice pe le ke, .slice pi li ki, .slice pp lp kp] 31)).heap.size ((w.alloc (.cells #[.int .i64 K.major, .int .i64 K.minor, .slice qe lk je, .slice a l.length cap] 27)).alloc (.cells #[.string M.name, .int .i64 M.major, .int .i64 M.minor, .string M.text, .slice pe le ke, .slice pi li ki, .slice pp lp kp] 31)) (((w.alloc (.cells #[.int .i64 K.major, .int .i64 K.minor, .slice qe lk je, .slice a l.length cap] 27)).alloc (.cells #[.string M.name, .int .i64 M.major, .int .i64 M.minor, .string M.text, .slice pe le ke, .slice pi li ki, .slice pp lp kp] 31)).alloc (.cells #[.int .i64 0, .int .i64 0, .slice none 0 0, .slice none 0 0] 27)) := (Below.refl _ _).alloc (Nat.le_refl _) _
    have ol_g1_g3 : w.heap.size < ((w.alloc (.cells #[.int .i64 K.major, .int .i64 K.minor, .slice qe lk je, .slice a l.length cap] 27)).alloc (.cells #[.string M.name, .int .i64 M.major, .int .i64 M.minor, .string M.text, .slice pe le ke, .slice pi li ki, .slice pp lp kp] 31)).heap.size := CellsAt.lt HC3_g1.out
    have ol_g2_g3 : (w.heap.size + 1) < ((w.alloc (.cells #[.int .i64 K.major, .int .i64 K.minor, .slice qe lk je, .slice a l.length cap] 27)).alloc (.cells #[.string M.name, .int .i64 M.major, .int .i64 M.minor, .string M.text, .slice pe le ke, .slice pi li ki, .slice pp lp kp] 31)).heap.size := CellsAt.lt HC4_g2.out
    have olw_g3 : w.heap.size ≤ ((w.alloc (.cells #[.int .i64 K.major, .int .i64 K.minor, .slice qe lk je, .slice a l.length cap] 27)).alloc (.cells #[.string M.name, .int .i64 M.major, .int .i64 M.minor, .string M.text, .slice pe le ke, .slice pi li ki, .slice pp lp kp] 31)).heap.size := HB3.out.size
    have HB5 : Hid (Below w.heap.size w (((w.alloc (.cells #[.int .i64 K.major, .int .i64 K.minor, .slice qe lk je, .slice a l.length cap] 27)).alloc (.cells #[.string M.name, .int .i64 M.major, .int .i64 M.minor, .string M.text, .slice pe le ke, .slice pi li ki, .slice pp lp kp] 31)).alloc (.cells #[.int .i64 0, .int .i64 0, .slice none 0 0, .slice none 0 0] 27))) := HB3.out.trans (ba.mono HB3.out.size)
    have HC5_g1 : Hid (CellsAt (((w.alloc (.cells #[.int .i64 K.major, .int .i64 K.minor, .slice qe lk je, .slice a l.length cap] 27)).alloc (.cells #[.string M.name, .int .i64 M.major, .int .i64 M.minor, .string M.text, .slice pe le ke, .slice pi li ki, .slice pp lp kp] 31)).alloc (.cells #[.int .i64 0, .int .i64 0, .slice none 0 0, .slice none 0 0] 27)) w.heap.size 27 #[.int .i64 K.major, .int .i64 K.minor, .slice qe lk je, .slice a l.length cap]) := HC3_g1.out.below ba HC3_g1.out.lt
    have HC5_g2 : Hid (CellsAt (((w.alloc (.cells #[.int .i64 K.major, .int .i64 K.minor, .slice qe lk je, .slice a l.length cap] 27)).alloc (.cells #[.string M.name, .int .i64 M.major, .int .i64 M.minor, .string M.text, .slice pe le ke, .slice pi li ki, .slice pp lp kp] 31)).alloc (.cells #[.int .i64 0, .int .i64 0, .slice none 0 0, .slice none 0 0] 27)) (w.heap.size + 1) 31 #[.string M.name, .int .i64 M.major, .int .i64 M.minor, .string M.text, .slice pe le ke, .slice pi li ki, .slice pp lp kp]) := HC4_g2.out.below ba HC4_g2.out.lt
    clear HB3 HC3_g1 HC4_g2
    clear ba
    have HC6_g3 : Hid (CellsAt (((w.alloc (.cells #[.int .i64 K.major, .int .i64 K.minor, .slice qe lk je, .slice a l.length cap] 27)).alloc (.cells #[.string M.name, .int .i64 M.major, .int .i64 M.minor, .string M.text, .slice pe le ke, .slice pi li ki, .slice pp lp kp] 31)).alloc (.cells #[.int .i64 0, .int .i64 0, .slice none 0 0, .slice none 0 0] 27)) ((w.alloc (.cells #[.int .i64 K.major, .int .i64 K.minor, .slice qe lk je, .slice a l.length cap] 27)).alloc (.cells #[.string M.name, .int .i64 M.major, .int .i64 M.minor, .string M.text, .slice pe le ke, .slice pi li ki, .slice pp lp kp] 31)).heap.size 27 #[.int .i64 0, .int .i64 0, .slice none 0 0, .slice none 0 0]) := CellsAt.new _ _ _
    rw [World.size_alloc, World.size_alloc] at HC6_g3
    clear ol_g1_g3 ol_g2_g3 olw_g3
    go_upto_region 1 with fail
    generalize (((w.alloc (.cells #[.int .i64 K.major, .int .i64 K.minor, .slice qe lk je, .slice a l.length cap] 27)).alloc (.cells #[.string M.name, .int .i64 M.major, .int .i64 M.minor, .string M.text, .slice pe le ke, .slice pi li ki, .slice pp lp kp] 31)).alloc (.cells #[.int .i64 0, .int .i64 0, .slice none 0 0, .slice none 0 0] 27)) = w1 at *
    have rg20 := CellsAt.cell HC5_g2.out 0
    have rg21 := CellsAt.cell HC5_g2.out 1
    have rg22 := CellsAt.cell HC5_g2.out 2
    have rg23 := CellsAt.cell HC5_g2.out 3
    have rg24 := CellsAt.cell HC5_g2.out 4
    have rg25 := CellsAt.cell HC5_g2.out 5
    have rg26 := CellsAt.cell HC5_g2.out 6
    have rg2l := CellsAt.lt HC5_g2.out
    simp at rg20 rg21 rg22 rg23 rg24 rg25 rg26
    go_wp2_with fail
    clear rg20 rg21 rg22 rg23 rg24 rg25 rg26 rg2l
    refine (HCM.out _ HB5.out).mono ?_
    rintro e w2 ⟨rfl, b2⟩
    have HB7 : Hid (Below w.heap.size w w2) := HB5.out.trans (b2.mono HB5.out.size)
    have HC7_g1 : Hid (CellsAt w2 w.heap.size 27 #[.int .i64 K.major, .int .i64 K.minor, .slice qe lk je, .slice a l.length cap]) := HC5_g1.out.below b2 HC5_g1.out.lt
    have HC7_g2 : Hid (CellsAt w2 (w.heap.size + 1) 31 #[.string M.name, .int .i64 M.major, .int .i64 M.minor, .string M.text, .slice pe le ke, .slice pi li ki, .slice pp lp kp]) := HC5_g2.out.below b2 HC5_g2.out.lt
    have HC7_g3 : Hid (CellsAt w2 (w.heap.size + 2) 27 #[.int .i64 0, .int .i64 0, .slice none 0 0, .slice none 0 0]) := HC6_g3.out.below b2 HC6_g3.out.lt
    clear HB5 HC5_g1 HC5_g2 HC6_g3
    clear b2
    have rg10 := CellsAt.cell HC7_g1.out 0
    have rg11 := CellsAt.cell HC7_g1.out 1
    have rg12 := CellsAt.cell HC7_g1.out 2
    have rg13 := CellsAt.cell HC7_g1.out 3
    have rg1l := CellsAt.lt HC7_g1.out
    simp at rg10 rg11 rg12 rg13
    have rg20 := CellsAt.cell HC7_g2.out 0
    have rg21 := CellsAt.cell HC7_g2.out 1
    have rg22 := CellsAt.cell HC7_g2.out 2
    have rg23 := CellsAt.cell HC7_g2.out 3
    have rg24 := CellsAt.cell HC7_g2.out 4
    have rg25 := CellsAt.cell HC7_g2.out 5
    have rg26 := CellsAt.cell HC7_g2.out 6
    have rg2l := CellsAt.lt HC7_g2.out
    simp at rg20 rg21 rg22 rg23 rg24 rg25 rg26
    rw [hc]
    go_wp2_with fail
    clear rg10 rg11 rg12 rg13 rg1l
    clear rg20 rg21 rg22 rg23 rg24 rg25 rg26 rg2l
    refine (HPO.out _ HB7.out).mono ?_
    rw [hix]
    rintro e w3 ⟨rfl, b3⟩
    have HB8 : Hid (Below w.heap.size w w3) := HB7.out.trans (b3.mono HB7.out.size)
    have HC8_g1 : Hid (CellsAt w3 w.heap.size 27 #[.int .i64 K.major, .int .i64 K.minor, .slice qe lk je, .slice a l.length cap]) := HC7_g1.out.below b3 HC7_g1.out.lt
    have HC8_g2 : Hid (CellsAt w3 (w.heap.size + 1) 31 #[.string M.name, .int .i64 M.major, .int .i64 M.minor, .string M.text, .slice pe le ke, .slice pi li ki, .slice pp lp kp]) := HC7_g2.out.below b3 HC7_g2.out.lt
    have HC8_g3 : Hid (CellsAt w3 (w.heap.size + 2) 27 #[.int .i64 0, .int .i64 0, .slice none 0 0, .slice none 0 0]) := HC7_g3.out.below b3 HC7_g3.out.lt
    clear HB7 HC7_g1 HC7_g2 HC7_g3
    clear b3
    have hj : decide ((j : Int) ≥ 0) = true := decide_eq_true (by omega)
    have rg30 := CellsAt.cell HC8_g3.out 0
    have rg31 := CellsAt.cell HC8_g3.out 1
    have rg32 := CellsAt.cell HC8_g3.out 2
    have rg33 := CellsAt.cell HC8_g3.out 3
    have fg30 := CellsAt.frozen HC8_g3.out 0
    have fg31 := CellsAt.frozen HC8_g3.out 1
    have fg32 := CellsAt.frozen HC8_g3.out 2
    have fg33 := CellsAt.frozen HC8_g3.out 3
    have rg3l := CellsAt.lt HC8_g3.out
    simp at rg30 rg31 rg32 rg33
    have rg10 := CellsAt.cell HC8_g1.out 0
    have rg11 := CellsAt.cell HC8_g1.out 1
    have rg12 := CellsAt.cell HC8_g1.out 2
    have rg13 := CellsAt.cell HC8_g1.out 3
    have rg1l := CellsAt.lt HC8_g1.out
    simp at rg10 rg11 rg12 rg13
    have rg20 := CellsAt.cell HC8_g2.out 0
    have rg21 := CellsAt.cell HC8_g2.out 1
    have rg22 := CellsAt.cell HC8_g2.out 2
    have rg23 := CellsAt.cell HC8_g2.out 3
    have rg24 := CellsAt.cell HC8_g2.out 4
    have rg25 := CellsAt.cell HC8_g2.out 5
    have rg26 := CellsAt.cell HC8_g2.out 6
    have rg2l := CellsAt.lt HC8_g2.out
    simp at rg20 rg21 rg22 rg23 rg24 rg25 rg26
    have hgl := HB8.out.size
    go_wp2
    have hZ9 := sets4 HC8_g3.out (.int .i64 0) (.int .i64 0) (.slice none 0 0) (.slice none 0 0)
    have hG9 := sets4_grown w3 (w.heap.size + 2) (.int .i64 0) (.int .i64 0) (.slice none 0 0) (.slice none 0 0)
    have hB9 := HB8.out.grown hG9 HB8.out.size (fun q hq => by obtain rfl := Option.some.inj hq; omega)
    refine bodyPost_ret (results_cell_tmp_row rfl _ _ _ _ _ _ _ rfl hZ9 Tryz.underlying27 rfl (by kernel_rfl)) rfl ?_
    rw [HPR.out]
    exact ⟨⟨_, [], rfl, rfl, zero_isReg _ _⟩, hB9⟩
  · have HPR : Hid (PR = ((emptyK, []), 2)) := by
      show PR = _
      rw [hpr, hd]
      exact if_pos (by decide)
    clear hpr hd
    have H8 : Hid (l.length = 8) := h8
    clear h8
    go_enter Tryz.func10, Tryz.ntmps10
    have ba : Below w.heap.size w (w.alloc (.cells #[.int .i64 K.major, .int .i64 K.minor, .slice qe lk je, .slice a l.length cap] 27)) := (Below.refl _ _).alloc (Nat.le_refl _) _
    have olw_g1 : w.heap.size ≤ w.heap.size := HB0.out.size
    have HB1 : Hid (Below w.heap.size w (w.alloc (.cells #[.int .i64 K.major, .int .i64 K.minor, .slice qe lk je, .slice a l.length cap] 27))) := HB0.out.trans (ba.mono HB0.out.size)
    clear HB0
    clear ba
    have HC2_g1 : Hid (CellsAt (w.alloc (.cells #[.int .i64 K.major, .int .i64 K.minor, .slice qe lk je, .slice a l.length cap] 27)) w.heap.size 27 #[.int .i64 K.major, .int .i64 K.minor, .slice qe lk je, .slice a l.length cap]) := CellsAt.new _ _ _
    have ba : Below (w.alloc (.cells #[.int .i64 K.major, .int .i64 K.minor, .slice qe lk je, .slice a l.length cap] 27)).heap.size (w.alloc (.cells #[.int .i64 K.major, .int .i64 K.minor, .slice qe lk je, .slice a l.length cap] 27)) ((w.alloc (.cells #[.int .i64 K.major, .int .i64 K.minor, .slice qe lk je, .slice a l.length cap] 27)).alloc (.cells #[.string M.name, .int .i64 M.major, .int .i64 M.minor, .string M.text, .slice pe le ke, .slice pi li ki, .slice pp lp kp] 31)) := (Below.refl _ _).alloc (Nat.le_refl _) _
    have ol_g1_g2 : w.heap.size < (w.alloc (.cells #[.int .i64 K.major, .int .i64 K.minor, .slice qe lk je, .slice a l.length cap] 27)).heap.size := CellsAt.lt HC2_g1.out
    have olw_g2 : w.heap.size ≤ (w.alloc (.cells #[.int .i64 K.major, .int .i64 K.minor, .slice qe lk je, .slice a l.length cap] 27)).heap.size := HB1.out.size
    have HB3 : Hid (Below w.heap.size w ((w.alloc (.cells #[.int .i64 K.major, .int .i64 K.minor, .slice qe lk je, .slice a l.length cap] 27)).alloc (.cells #[.string M.name, .int .i64 M.major, .int .i64 M.minor, .string M.text, .slice pe le ke, .slice pi li ki, .slice pp lp kp] 31))) := HB1.out.trans (ba.mono HB1.out.size)
    have HC3_g1 : Hid (CellsAt ((w.alloc (.cells #[.int .i64 K.major, .int .i64 K.minor, .slice qe lk je, .slice a l.length cap] 27)).alloc (.cells #[.string M.name, .int .i64 M.major, .int .i64 M.minor, .string M.text, .slice pe le ke, .slice pi li ki, .slice pp lp kp] 31)) w.heap.size 27 #[.int .i64 K.major, .int .i64 K.minor, .slice qe lk je, .slice a l.length cap]) := HC2_g1.out.below ba HC2_g1.out.lt
    clear HB1 HC2_g1
    clear ba
    have HC4_g2 : Hid (CellsAt ((w.alloc (.cells #[.int .i64 K.major, .int .i64 K.minor, .slice qe lk je, .slice a l.length cap] 27)).alloc (.cells #[.string M.name, .int .i64 M.major, .int .i64 M.minor, .string M.text, .slice pe le ke, .slice pi li ki, .slice pp lp kp] 31)) (w.alloc (.cells #[.int .i64 K.major, .int .i64 K.minor, .slice qe lk je, .slice a l.length cap] 27)).heap.size 31 #[.string M.name, .int .i64 M.major, .int .i64 M.minor, .string M.text, .slice pe le ke, .slice pi li ki, .slice pp lp kp]) := CellsAt.new _ _ _
    rw [World.size_alloc] at HC4_g2
    clear ol_g1_g2 olw_g2 olw_g1
    have ba : Below ((w.alloc (.cells #[.int .i64 K.major, .int .i64 K.minor, .slice qe lk je, .slice a l.length cap] 27)).alloc (.cells #[.string M.name, .int .i64 M.major, .int .i64 M.minor, .string M.text, .slice pe le ke, .slice pi li ki, .slice pp lp kp] 31)).heap.size ((w.alloc (.cells #[.int .i64 K.major, .int .i64 K.minor, .slice qe lk je, .slice a l.length cap] 27)).alloc (.cells #[.string M.name, .int .i64 M.major, .int .i64 M.minor, .string M.text, .slice pe le ke, .slice pi li ki, .slice pp lp kp] 31)) (((w.alloc (.cells #[.int .i64 K.major, .int .i64 K.minor, .slice qe lk je, .slice a l.length cap] 27)).alloc (.cells #[.string M.name, .int .i64 M.major, .int .i64 M.minor, .string M.text, .slice pe le ke, .slice pi li ki, .slice pp lp kp] 31)).alloc (.cells #[.int .i64 0, .int .i64 0, .slice none 0 0, .slice none 0 0] 27)) := (Below.refl _ _).alloc (Nat.le_refl _) _
    have ol_g1_g3 : w.heap.size < ((w.alloc (.cells #[.int .i64 K.major, .int .i64 K.minor, .slice qe lk je, .slice a l.length cap] 27)).alloc (.cells #[.string M.name, .int .i64 M.major, .int .i64 M.minor, .string M.text, .slice pe le ke, .slice pi li ki, .slice pp lp kp] 31)).heap.size := CellsAt.lt HC3_g1.out
    have ol_g2_g3 : (w.heap.size + 1) < ((w.alloc (.cells #[.int .i64 K.major, .int .i64 K.minor, .slice qe lk je, .slice a l.length cap] 27)).alloc (.cells #[.string M.name, .int .i64 M.major, .int .i64 M.minor, .string M.text, .slice pe le ke, .slice pi li ki, .slice pp lp kp] 31)).heap.size := CellsAt.lt HC4_g2.out
    have olw_g3 : w.heap.size ≤ ((w.alloc (.cells #[.int .i64 K.major, .int .i64 K.minor, .slice qe lk je, .slice a l.length cap] 27)).alloc (.cells #[.string M.name, .int .i64 M.major, .int .i64 M.minor, .string M.text, .slice pe le ke, .slice pi li ki, .slice pp lp kp] 31)).heap.size := HB3.out.size
    have HB5 : Hid (Below w.heap.size w (((w.alloc (.cells #[.int .i64 K.major, .int .i64 K.minor, .slice qe lk je, .slice a l.length cap] 27)).alloc (.cells #[.string M.name, .int .i64 M.major, .int .i64 M.minor, .string M.text, .slice pe le ke, .slice pi li ki, .slice pp lp kp] 31)).alloc (.cells #[.int .i64 0, .int .i64 0, .slice none 0 0, .slice none 0 0] 27))) := HB3.out.trans (ba.mono HB3.out.size)
    have HC5_g1 : Hid (CellsAt (((w.alloc (.cells #[.int .i64 K.major, .int .i64 K.minor, .slice qe lk je, .slice a l.length cap] 27)).alloc (.cells #[.string M.name, .int .i64 M.major, .int .i64 M.minor, .string M.text, .slice pe le ke, .slice pi li ki, .slice pp lp kp] 31)).alloc (.cells #[.int .i64 0, .int .i64 0, .slice none 0 0, .slice none 0 0] 27)) w.heap.size 27 #[.int .i64 K.major, .int .i64 K.minor, .slice qe lk je, .slice a l.length cap]) := HC3_g1.out.below ba HC3_g1.out.lt
    have HC5_g2 : Hid (CellsAt (((w.alloc (.cells #[.int .i64 K.major, .int .i64 K.minor, .slice qe lk je, .slice a l.length cap] 27)).alloc (.cells #[.string M.name, .int .i64 M.major, .int .i64 M.minor, .string M.text, .slice pe le ke, .slice pi li ki, .slice pp lp kp] 31)).alloc (.cells #[.int .i64 0, .int .i64 0, .slice none 0 0, .slice none 0 0] 27)) (w.heap.size + 1) 31 #[.string M.name, .int .i64 M.major, .int .i64 M.minor, .string M.text, .slice pe le ke, .slice pi li ki, .slice pp lp kp]) := HC4_g2.out.below ba HC4_g2.out.lt
    clear HB3 HC3_g1 HC4_g2
    clear ba
    have HC6_g3 : Hid (CellsAt (((w.alloc (.cells #[.int .i64 K.major, .int .i64 K.minor, .slice qe lk je, .slice a l.length cap] 27)).alloc (.cells #[.string M.name, .int .i64 M.major, .int .i64 M.minor, .string M.text, .slice pe le ke, .slice pi li ki, .slice pp lp kp] 31)).alloc (.cells #[.int .i64 0, .int .i64 0, .slice none 0 0, .slice none 0 0] 27)) ((w.alloc (.cells #[.int .i64 K.major, .int .i64 K.minor, .slice qe lk je, .slice a l.length cap] 27)).alloc (.cells #[.string M.name, .int .i64 M.major, .int .i64 M.minor, .string M.text, .slice pe le ke, .slice pi li ki, .slice pp lp kp] 31)).heap.size 27 #[.int .i64 0, .int .i64 0, .slice none 0 0, .slice none 0 0]) := CellsAt.new _ _ _
    rw [World.size_alloc, World.size_alloc] at HC6_g3
    clear ol_g1_g3 ol_g2_g3 olw_g3
    go_upto_region 1 with fail
    generalize (((w.alloc (.cells #[.int .i64 K.major, .int .i64 K.minor, .slice qe lk je, .slice a l.length cap] 27)).alloc (.cells #[.string M.name, .int .i64 M.major, .int .i64 M.minor, .string M.text, .slice pe le ke, .slice pi li ki, .slice pp lp kp] 31)).alloc (.cells #[.int .i64 0, .int .i64 0, .slice none 0 0, .slice none 0 0] 27)) = w1 at *
    have rg20 := CellsAt.cell HC5_g2.out 0
    have rg21 := CellsAt.cell HC5_g2.out 1
    have rg22 := CellsAt.cell HC5_g2.out 2
    have rg23 := CellsAt.cell HC5_g2.out 3
    have rg24 := CellsAt.cell HC5_g2.out 4
    have rg25 := CellsAt.cell HC5_g2.out 5
    have rg26 := CellsAt.cell HC5_g2.out 6
    have rg2l := CellsAt.lt HC5_g2.out
    simp at rg20 rg21 rg22 rg23 rg24 rg25 rg26
    go_wp2_with fail
    clear rg20 rg21 rg22 rg23 rg24 rg25 rg26 rg2l
    refine (HCM.out _ HB5.out).mono ?_
    rintro e w2 ⟨rfl, b2⟩
    have HB7 : Hid (Below w.heap.size w w2) := HB5.out.trans (b2.mono HB5.out.size)
    have HC7_g1 : Hid (CellsAt w2 w.heap.size 27 #[.int .i64 K.major, .int .i64 K.minor, .slice qe lk je, .slice a l.length cap]) := HC5_g1.out.below b2 HC5_g1.out.lt
    have HC7_g2 : Hid (CellsAt w2 (w.heap.size + 1) 31 #[.string M.name, .int .i64 M.major, .int .i64 M.minor, .string M.text, .slice pe le ke, .slice pi li ki, .slice pp lp kp]) := HC5_g2.out.below b2 HC5_g2.out.lt
    have HC7_g3 : Hid (CellsAt w2 (w.heap.size + 2) 27 #[.int .i64 0, .int .i64 0, .slice none 0 0, .slice none 0 0]) := HC6_g3.out.below b2 HC6_g3.out.lt
    clear HB5 HC5_g1 HC5_g2 HC6_g3
    clear b2
    have rg10 := CellsAt.cell HC7_g1.out 0
    have rg11 := CellsAt.cell HC7_g1.out 1
    have rg12 := CellsAt.cell HC7_g1.out 2
    have rg13 := CellsAt.cell HC7_g1.out 3
    have rg1l := CellsAt.lt HC7_g1.out
    simp at rg10 rg11 rg12 rg13
    have rg20 := CellsAt.cell HC7_g2.out 0
    have rg21 := CellsAt.cell HC7_g2.out 1
    have rg22 := CellsAt.cell HC7_g2.out 2
    have rg23 := CellsAt.cell HC7_g2.out 3
    have rg24 := CellsAt.cell HC7_g2.out 4
    have rg25 := CellsAt.cell HC7_g2.out 5
    have rg26 := CellsAt.cell HC7_g2.out 6
    have rg2l := CellsAt.lt HC7_g2.out
    simp at rg20 rg21 rg22 rg23 rg24 rg25 rg26
    rw [hc]
    go_wp2_with fail
    clear rg10 rg11 rg12 rg13 rg1l
    clear rg20 rg21 rg22 rg23 rg24 rg25 rg26 rg2l
    refine (HPO.out _ HB7.out).mono ?_
    rw [hix]
    rintro e w3 ⟨rfl, b3⟩
    have HB8 : Hid (Below w.heap.size w w3) := HB7.out.trans (b3.mono HB7.out.size)
    have HC8_g1 : Hid (CellsAt w3 w.heap.size 27 #[.int .i64 K.major, .int .i64 K.minor, .slice qe lk je, .slice a l.length cap]) := HC7_g1.out.below b3 HC7_g1.out.lt
    have HC8_g2 : Hid (CellsAt w3 (w.heap.size + 1) 31 #[.string M.name, .int .i64 M.major, .int .i64 M.minor, .string M.text, .slice pe le ke, .slice pi li ki, .slice pp lp kp]) := HC7_g2.out.below b3 HC7_g2.out.lt
    have HC8_g3 : Hid (CellsAt w3 (w.heap.size + 2) 27 #[.int .i64 0, .int .i64 0, .slice none 0 0, .slice none 0 0]) := HC7_g3.out.below b3 HC7_g3.out.lt
    clear HB7 HC7_g1 HC7_g2 HC7_g3
    clear b3
    have hl9 : ((l.length : Int) == 8) = true := by rw [H8.out]; rfl
    have rg30 := CellsAt.cell HC8_g3.out 0
    have rg31 := CellsAt.cell HC8_g3.out 1
    have rg32 := CellsAt.cell HC8_g3.out 2
    have rg33 := CellsAt.cell HC8_g3.out 3
    have fg30 := CellsAt.frozen HC8_g3.out 0
    have fg31 := CellsAt.frozen HC8_g3.out 1
    have fg32 := CellsAt.frozen HC8_g3.out 2
    have fg33 := CellsAt.frozen HC8_g3.out 3
    have rg3l := CellsAt.lt HC8_g3.out
    simp at rg30 rg31 rg32 rg33
    have rg10 := CellsAt.cell HC8_g1.out 0
    have rg11 := CellsAt.cell HC8_g1.out 1
    have rg12 := CellsAt.cell HC8_g1.out 2
    have rg13 := CellsAt.cell HC8_g1.out 3
    have rg1l := CellsAt.lt HC8_g1.out
    simp at rg10 rg11 rg12 rg13
    have rg20 := CellsAt.cell HC8_g2.out 0
    have rg21 := CellsAt.cell HC8_g2.out 1
    have rg22 := CellsAt.cell HC8_g2.out 2
    have rg23 := CellsAt.cell HC8_g2.out 3
    have rg24 := CellsAt.cell HC8_g2.out 4
    have rg25 := CellsAt.cell HC8_g2.out 5
    have rg26 := CellsAt.cell HC8_g2.out 6
    have rg2l := CellsAt.lt HC8_g2.out
    simp at rg20 rg21 rg22 rg23 rg24 rg25 rg26
    have hgl := HB8.out.size
    go_wp2
    have hZ9 := sets4 HC8_g3.out (.int .i64 0) (.int .i64 0) (.slice none 0 0) (.slice none 0 0)
    have hG9 := sets4_grown w3 (w.heap.size + 2) (.int .i64 0) (.int .i64 0) (.slice none 0 0) (.slice none 0 0)
    have hB9 := HB8.out.grown hG9 HB8.out.size (fun q hq => by obtain rfl := Option.some.inj hq; omega)
    refine bodyPost_ret (results_cell_tmp_row rfl _ _ _ _ _ _ _ rfl hZ9 Tryz.underlying27 rfl (by kernel_rfl)) rfl ?_
    rw [HPR.out]
    exact ⟨⟨_, [], rfl, rfl, zero_isReg _ _⟩, hB9⟩
  · have HPR : Hid (PR = ((emptyK, []), 8)) := by
      show PR = _
      rw [hpr, hd]
      exact if_pos (by decide)
    clear hpr hd
    obtain ⟨FR, hFR⟩ : ∃ FR : Int, FR = -1 := ⟨_, rfl⟩
    rw [← hFR] at HFT
    go_enter Tryz.func10, Tryz.ntmps10
    have ba : Below w.heap.size w (w.alloc (.cells #[.int .i64 K.major, .int .i64 K.minor, .slice qe lk je, .slice a l.length cap] 27)) := (Below.refl _ _).alloc (Nat.le_refl _) _
    have olw_g1 : w.heap.size ≤ w.heap.size := HB0.out.size
    have HB1 : Hid (Below w.heap.size w (w.alloc (.cells #[.int .i64 K.major, .int .i64 K.minor, .slice qe lk je, .slice a l.length cap] 27))) := HB0.out.trans (ba.mono HB0.out.size)
    clear HB0
    clear ba
    have HC2_g1 : Hid (CellsAt (w.alloc (.cells #[.int .i64 K.major, .int .i64 K.minor, .slice qe lk je, .slice a l.length cap] 27)) w.heap.size 27 #[.int .i64 K.major, .int .i64 K.minor, .slice qe lk je, .slice a l.length cap]) := CellsAt.new _ _ _
    have ba : Below (w.alloc (.cells #[.int .i64 K.major, .int .i64 K.minor, .slice qe lk je, .slice a l.length cap] 27)).heap.size (w.alloc (.cells #[.int .i64 K.major, .int .i64 K.minor, .slice qe lk je, .slice a l.length cap] 27)) ((w.alloc (.cells #[.int .i64 K.major, .int .i64 K.minor, .slice qe lk je, .slice a l.length cap] 27)).alloc (.cells #[.string M.name, .int .i64 M.major, .int .i64 M.minor, .string M.text, .slice pe le ke, .slice pi li ki, .slice pp lp kp] 31)) := (Below.refl _ _).alloc (Nat.le_refl _) _
    have ol_g1_g2 : w.heap.size < (w.alloc (.cells #[.int .i64 K.major, .int .i64 K.minor, .slice qe lk je, .slice a l.length cap] 27)).heap.size := CellsAt.lt HC2_g1.out
    have olw_g2 : w.heap.size ≤ (w.alloc (.cells #[.int .i64 K.major, .int .i64 K.minor, .slice qe lk je, .slice a l.length cap] 27)).heap.size := HB1.out.size
    have HB3 : Hid (Below w.heap.size w ((w.alloc (.cells #[.int .i64 K.major, .int .i64 K.minor, .slice qe lk je, .slice a l.length cap] 27)).alloc (.cells #[.string M.name, .int .i64 M.major, .int .i64 M.minor, .string M.text, .slice pe le ke, .slice pi li ki, .slice pp lp kp] 31))) := HB1.out.trans (ba.mono HB1.out.size)
    have HC3_g1 : Hid (CellsAt ((w.alloc (.cells #[.int .i64 K.major, .int .i64 K.minor, .slice qe lk je, .slice a l.length cap] 27)).alloc (.cells #[.string M.name, .int .i64 M.major, .int .i64 M.minor, .string M.text, .slice pe le ke, .slice pi li ki, .slice pp lp kp] 31)) w.heap.size 27 #[.int .i64 K.major, .int .i64 K.minor, .slice qe lk je, .slice a l.length cap]) := HC2_g1.out.below ba HC2_g1.out.lt
    clear HB1 HC2_g1
    clear ba
    have HC4_g2 : Hid (CellsAt ((w.alloc (.cells #[.int .i64 K.major, .int .i64 K.minor, .slice qe lk je, .slice a l.length cap] 27)).alloc (.cells #[.string M.name, .int .i64 M.major, .int .i64 M.minor, .string M.text, .slice pe le ke, .slice pi li ki, .slice pp lp kp] 31)) (w.alloc (.cells #[.int .i64 K.major, .int .i64 K.minor, .slice qe lk je, .slice a l.length cap] 27)).heap.size 31 #[.string M.name, .int .i64 M.major, .int .i64 M.minor, .string M.text, .slice pe le ke, .slice pi li ki, .slice pp lp kp]) := CellsAt.new _ _ _
    rw [World.size_alloc] at HC4_g2
    clear ol_g1_g2 olw_g2 olw_g1
    have ba : Below ((w.alloc (.cells #[.int .i64 K.major, .int .i64 K.minor, .slice qe lk je, .slice a l.length cap] 27)).alloc (.cells #[.string M.name, .int .i64 M.major, .int .i64 M.minor, .string M.text, .slice pe le ke, .slice pi li ki, .slice pp lp kp] 31)).heap.size ((w.alloc (.cells #[.int .i64 K.major, .int .i64 K.minor, .slice qe lk je, .slice a l.length cap] 27)).alloc (.cells #[.string M.name, .int .i64 M.major, .int .i64 M.minor, .string M.text, .slice pe le ke, .slice pi li ki, .slice pp lp kp] 31)) (((w.alloc (.cells #[.int .i64 K.major, .int .i64 K.minor, .slice qe lk je, .slice a l.length cap] 27)).alloc (.cells #[.string M.name, .int .i64 M.major, .int .i64 M.minor, .string M.text, .slice pe le ke, .slice pi li ki, .slice pp lp kp] 31)).alloc (.cells #[.int .i64 0, .int .i64 0, .slice none 0 0, .slice none 0 0] 27)) := (Below.refl _ _).alloc (Nat.le_refl _) _
    have ol_g1_g3 : w.heap.size < ((w.alloc (.cells #[.int .i64 K.major, .int .i64 K.minor, .slice qe lk je, .slice a l.length cap] 27)).alloc (.cells #[.string M.name, .int .i64 M.major, .int .i64 M.minor, .string M.text, .slice pe le ke, .slice pi li ki, .slice pp lp kp] 31)).heap.size := CellsAt.lt HC3_g1.out
    have ol_g2_g3 : (w.heap.size + 1) < ((w.alloc (.cells #[.int .i64 K.major, .int .i64 K.minor, .slice qe lk je, .slice a l.length cap] 27)).alloc (.cells #[.string M.name, .int .i64 M.major, .int .i64 M.minor, .string M.text, .slice pe le ke, .slice pi li ki, .slice pp lp kp] 31)).heap.size := CellsAt.lt HC4_g2.out
    have olw_g3 : w.heap.size ≤ ((w.alloc (.cells #[.int .i64 K.major, .int .i64 K.minor, .slice qe lk je, .slice a l.length cap] 27)).alloc (.cells #[.string M.name, .int .i64 M.major, .int .i64 M.minor, .string M.text, .slice pe le ke, .slice pi li ki, .slice pp lp kp] 31)).heap.size := HB3.out.size
    have HB5 : Hid (Below w.heap.size w (((w.alloc (.cells #[.int .i64 K.major, .int .i64 K.minor, .slice qe lk je, .slice a l.length cap] 27)).alloc (.cells #[.string M.name, .int .i64 M.major, .int .i64 M.minor, .string M.text, .slice pe le ke, .slice pi li ki, .slice pp lp kp] 31)).alloc (.cells #[.int .i64 0, .int .i64 0, .slice none 0 0, .slice none 0 0] 27))) := HB3.out.trans (ba.mono HB3.out.size)
    have HC5_g1 : Hid (CellsAt (((w.alloc (.cells #[.int .i64 K.major, .int .i64 K.minor, .slice qe lk je, .slice a l.length cap] 27)).alloc (.cells #[.string M.name, .int .i64 M.major, .int .i64 M.minor, .string M.text, .slice pe le ke, .slice pi li ki, .slice pp lp kp] 31)).alloc (.cells #[.int .i64 0, .int .i64 0, .slice none 0 0, .slice none 0 0] 27)) w.heap.size 27 #[.int .i64 K.major, .int .i64 K.minor, .slice qe lk je, .slice a l.length cap]) := HC3_g1.out.below ba HC3_g1.out.lt
    have HC5_g2 : Hid (CellsAt (((w.alloc (.cells #[.int .i64 K.major, .int .i64 K.minor, .slice qe lk je, .slice a l.length cap] 27)).alloc (.cells #[.string M.name, .int .i64 M.major, .int .i64 M.minor, .string M.text, .slice pe le ke, .slice pi li ki, .slice pp lp kp] 31)).alloc (.cells #[.int .i64 0, .int .i64 0, .slice none 0 0, .slice none 0 0] 27)) (w.heap.size + 1) 31 #[.string M.name, .int .i64 M.major, .int .i64 M.minor, .string M.text, .slice pe le ke, .slice pi li ki, .slice pp lp kp]) := HC4_g2.out.below ba HC4_g2.out.lt
    clear HB3 HC3_g1 HC4_g2
    clear ba
    have HC6_g3 : Hid (CellsAt (((w.alloc (.cells #[.int .i64 K.major, .int .i64 K.minor, .slice qe lk je, .slice a l.length cap] 27)).alloc (.cells #[.string M.name, .int .i64 M.major, .int .i64 M.minor, .string M.text, .slice pe le ke, .slice pi li ki, .slice pp lp kp] 31)).alloc (.cells #[.int .i64 0, .int .i64 0, .slice none 0 0, .slice none 0 0] 27)) ((w.alloc (.cells #[.int .i64 K.major, .int .i64 K.minor, .slice qe lk je, .slice a l.length cap] 27)).alloc (.cells #[.string M.name, .int .i64 M.major, .int .i64 M.minor, .string M.text, .slice pe le ke, .slice pi li ki, .slice pp lp kp] 31)).heap.size 27 #[.int .i64 0, .int .i64 0, .slice none 0 0, .slice none 0 0]) := CellsAt.new _ _ _
    rw [World.size_alloc, World.size_alloc] at HC6_g3
    clear ol_g1_g3 ol_g2_g3 olw_g3
    go_upto_region 1 with fail
    generalize (((w.alloc (.cells #[.int .i64 K.major, .int .i64 K.minor, .slice qe lk je, .slice a l.length cap] 27)).alloc (.cells #[.string M.name, .int .i64 M.major, .int .i64 M.minor, .string M.text, .slice pe le ke, .slice pi li ki, .slice pp lp kp] 31)).alloc (.cells #[.int .i64 0, .int .i64 0, .slice none 0 0, .slice none 0 0] 27)) = w1 at *
    have rg20 := CellsAt.cell HC5_g2.out 0
    have rg21 := CellsAt.cell HC5_g2.out 1
    have rg22 := CellsAt.cell HC5_g2.out 2
    have rg23 := CellsAt.cell HC5_g2.out 3
    have rg24 := CellsAt.cell HC5_g2.out 4
    have rg25 := CellsAt.cell HC5_g2.out 5
    have rg26 := CellsAt.cell HC5_g2.out 6
    have rg2l := CellsAt.lt HC5_g2.out
    simp at rg20 rg21 rg22 rg23 rg24 rg25 rg26
    go_wp2_with fail
    clear rg20 rg21 rg22 rg23 rg24 rg25 rg26 rg2l
    refine (HCM.out _ HB5.out).mono ?_
    rintro e w2 ⟨rfl, b2⟩
    have HB7 : Hid (Below w.heap.size w w2) := HB5.out.trans (b2.mono HB5.out.size)
    have HC7_g1 : Hid (CellsAt w2 w.heap.size 27 #[.int .i64 K.major, .int .i64 K.minor, .slice qe lk je, .slice a l.length cap]) := HC5_g1.out.below b2 HC5_g1.out.lt
    have HC7_g2 : Hid (CellsAt w2 (w.heap.size + 1) 31 #[.string M.name, .int .i64 M.major, .int .i64 M.minor, .string M.text, .slice pe le ke, .slice pi li ki, .slice pp lp kp]) := HC5_g2.out.below b2 HC5_g2.out.lt
    have HC7_g3 : Hid (CellsAt w2 (w.heap.size + 2) 27 #[.int .i64 0, .int .i64 0, .slice none 0 0, .slice none 0 0]) := HC6_g3.out.below b2 HC6_g3.out.lt
    clear HB5 HC5_g1 HC5_g2 HC6_g3
    clear b2
    have rg10 := CellsAt.cell HC7_g1.out 0
    have rg11 := CellsAt.cell HC7_g1.out 1
    have rg12 := CellsAt.cell HC7_g1.out 2
    have rg13 := CellsAt.cell HC7_g1.out 3
    have rg1l := CellsAt.lt HC7_g1.out
    simp at rg10 rg11 rg12 rg13
    have rg20 := CellsAt.cell HC7_g2.out 0
    have rg21 := CellsAt.cell HC7_g2.out 1
    have rg22 := CellsAt.cell HC7_g2.out 2
    have rg23 := CellsAt.cell HC7_g2.out 3
    have rg24 := CellsAt.cell HC7_g2.out 4
    have rg25 := CellsAt.cell HC7_g2.out 5
    have rg26 := CellsAt.cell HC7_g2.out 6
    have rg2l := CellsAt.lt HC7_g2.out
    simp at rg20 rg21 rg22 rg23 rg24 rg25 rg26
    rw [hc]
    go_wp2_with fail
    clear rg10 rg11 rg12 rg13 rg1l
    clear rg20 rg21 rg22 rg23 rg24 rg25 rg26 rg2l
    refine (HPO.out _ HB7.out).mono ?_
    rw [hix]
    rintro e w3 ⟨rfl, b3⟩
    have HB8 : Hid (Below w.heap.size w w3) := HB7.out.trans (b3.mono HB7.out.size)
    have HC8_g1 : Hid (CellsAt w3 w.heap.size 27 #[.int .i64 K.major, .int .i64 K.minor, .slice qe lk je, .slice a l.length cap]) := HC7_g1.out.below b3 HC7_g1.out.lt
    have HC8_g2 : Hid (CellsAt w3 (w.heap.size + 1) 31 #[.string M.name, .int .i64 M.major, .int .i64 M.minor, .string M.text, .slice pe le ke, .slice pi li ki, .slice pp lp kp]) := HC7_g2.out.below b3 HC7_g2.out.lt
    have HC8_g3 : Hid (CellsAt w3 (w.heap.size + 2) 27 #[.int .i64 0, .int .i64 0, .slice none 0 0, .slice none 0 0]) := HC7_g3.out.below b3 HC7_g3.out.lt
    clear HB7 HC7_g1 HC7_g2 HC7_g3
    clear b3
    have hl9 : ((l.length : Int) == 8) = false := beq_eq_false_iff_ne.2 (by omega)
    have HQ1 : Hid (∀ d os, Calls Tryz.prog 52 #[.agg #[.string M.name, .int .i64 M.major, .int .i64 M.minor, .string M.text, .slice pe le ke, .slice pi li ki, .slice pp lp kp]] (grow (redrawn w3 d) os) fun e w' => e = .returned (.int .i64 (szM M : Int)) ∧ Below (grow (redrawn w3 d) os).heap.size (grow (redrawn w3 d) os) w') := fun d os => HSZ.out hc _
    have HQ2 : Hid (∀ d os, Calls Tryz.prog 51 #[.slice a l.length cap, .int .i64 (szM M : Int)] (grow (redrawn w3 d) os) fun e w' => e = .returned (.int .i64 FR) ∧ Below (grow (redrawn w3 d) os).heap.size (grow (redrawn w3 d) os) w') := fun d os => HFT.out _ (HB8.out.trans ((below_regrown w3 d os).mono HB8.out.size))
    have rg10 := CellsAt.cell HC8_g1.out 0
    have rg11 := CellsAt.cell HC8_g1.out 1
    have rg12 := CellsAt.cell HC8_g1.out 2
    have rg13 := CellsAt.cell HC8_g1.out 3
    have rg1l := CellsAt.lt HC8_g1.out
    simp at rg10 rg11 rg12 rg13
    have rg20 := CellsAt.cell HC8_g2.out 0
    have rg21 := CellsAt.cell HC8_g2.out 1
    have rg22 := CellsAt.cell HC8_g2.out 2
    have rg23 := CellsAt.cell HC8_g2.out 3
    have rg24 := CellsAt.cell HC8_g2.out 4
    have rg25 := CellsAt.cell HC8_g2.out 5
    have rg26 := CellsAt.cell HC8_g2.out 6
    have rg2l := CellsAt.lt HC8_g2.out
    simp at rg20 rg21 rg22 rg23 rg24 rg25 rg26
    have z3 := cell_regrown rg13
    have y0 := cell_regrown rg20
    have y1 := cell_regrown rg21
    have y2 := cell_regrown rg22
    have y3 := cell_regrown rg23
    have y4 := cell_regrown rg24
    have y5 := cell_regrown rg25
    have y6 := cell_regrown rg26
    go_wp2_with fail
    clear rg10 rg11 rg12 rg13 rg1l
    clear rg20 rg21 rg22 rg23 rg24 rg25 rg26 rg2l
    refine wp_region_quiet_below (by kernel_rfl) (by kernel_rfl) ?_
    go_big_quiet_step ((go_at_call 52; go_must (exact Calls.regrown_of (HQ1.out _ _))))
    go_big_quiet_step ((go_at_call 52; go_must (exact Calls.regrown_of (HQ1.out _ _))))
    go_big_quiet_step ((go_at_call 52; go_must (exact Calls.regrown_of (HQ1.out _ _))))
    go_big_quiet_step ((go_at_call 52; go_must (exact Calls.regrown_of (HQ1.out _ _))))
    repeat (go_big_quiet_step ((go_at_call 51; go_must (exact Calls.regrown_of (HQ2.out _ _)))))
    refine wpQuiet_nil ?_
    intro w4 hw'
    obtain ⟨⟨dq, osq⟩, hw''⟩ := hw'
    have bq := below_regrown w3 dq osq
    rw [← hw''] at bq
    clear hw'' HQ1 HQ2 z3 y0 y1 y2 y3 y4 y5 y6
    have HB9 : Hid (Below w.heap.size w w4) := HB8.out.trans (bq.mono HB8.out.size)
    have HC9_g1 : Hid (CellsAt w4 w.heap.size 27 #[.int .i64 K.major, .int .i64 K.minor, .slice qe lk je, .slice a l.length cap]) := HC8_g1.out.below bq HC8_g1.out.lt
    have HC9_g2 : Hid (CellsAt w4 (w.heap.size + 1) 31 #[.string M.name, .int .i64 M.major, .int .i64 M.minor, .string M.text, .slice pe le ke, .slice pi li ki, .slice pp lp kp]) := HC8_g2.out.below bq HC8_g2.out.lt
    have HC9_g3 : Hid (CellsAt w4 (w.heap.size + 2) 27 #[.int .i64 0, .int .i64 0, .slice none 0 0, .slice none 0 0]) := HC8_g3.out.below bq HC8_g3.out.lt
    clear HB8 HC8_g1 HC8_g2 HC8_g3
    clear bq
    subst hFR
    have rg30 := CellsAt.cell HC9_g3.out 0
    have rg31 := CellsAt.cell HC9_g3.out 1
    have rg32 := CellsAt.cell HC9_g3.out 2
    have rg33 := CellsAt.cell HC9_g3.out 3
    have fg30 := CellsAt.frozen HC9_g3.out 0
    have fg31 := CellsAt.frozen HC9_g3.out 1
    have fg32 := CellsAt.frozen HC9_g3.out 2
    have fg33 := CellsAt.frozen HC9_g3.out 3
    have rg3l := CellsAt.lt HC9_g3.out
    simp at rg30 rg31 rg32 rg33
    have rg10 := CellsAt.cell HC9_g1.out 0
    have rg11 := CellsAt.cell HC9_g1.out 1
    have rg12 := CellsAt.cell HC9_g1.out 2
    have rg13 := CellsAt.cell HC9_g1.out 3
    have rg1l := CellsAt.lt HC9_g1.out
    simp at rg10 rg11 rg12 rg13
    have rg20 := CellsAt.cell HC9_g2.out 0
    have rg21 := CellsAt.cell HC9_g2.out 1
    have rg22 := CellsAt.cell HC9_g2.out 2
    have rg23 := CellsAt.cell HC9_g2.out 3
    have rg24 := CellsAt.cell HC9_g2.out 4
    have rg25 := CellsAt.cell HC9_g2.out 5
    have rg26 := CellsAt.cell HC9_g2.out 6
    have rg2l := CellsAt.lt HC9_g2.out
    simp at rg20 rg21 rg22 rg23 rg24 rg25 rg26
    have hgl := HB9.out.size
    go_wp2
    have hZ9 := sets4 HC9_g3.out (.int .i64 0) (.int .i64 0) (.slice none 0 0) (.slice none 0 0)
    have hG9 := sets4_grown w4 (w.heap.size + 2) (.int .i64 0) (.int .i64 0) (.slice none 0 0) (.slice none 0 0)
    have hB9 := HB9.out.grown hG9 HB9.out.size (fun q hq => by obtain rfl := Option.some.inj hq; omega)
    refine bodyPost_ret (results_cell_tmp_row rfl _ _ _ _ _ _ _ rfl hZ9 Tryz.underlying27 rfl (by kernel_rfl)) rfl ?_
    rw [HPR.out]
    exact ⟨⟨_, [], rfl, rfl, zero_isReg _ _⟩, hB9⟩
  · rw [hd, if_neg (fun h => h rfl)] at hpr
    have hmap := putV_map ⟨M, .slice pe le ke, .slice pi li ki, .slice pp lp kp, FR⟩ l
    dsimp only [PV.plc] at hmap
    have HFX : Hid (∀ y ∈ putV l ⟨M, .slice pe le ke, .slice pi li ki, .slice pp lp kp, FR⟩, y.mod.fits) := HFITS.out _ rfl
    have HWX := HWI.out FR
    have HWF : Hid _ := HWX
    clear HWX HWI HFITS
    generalize putV l ⟨M, .slice pe le ke, .slice pi li ki, .slice pp lp kp, FR⟩ = l2 at *
    have HPR : Hid (PR = if chkRg K (l2.map PV.plc) ≠ 0 then ((emptyK, []), chkRg K (l2.map PV.plc)) else ((K, l2.map PV.plc), 0)) := by
      show PR = _
      rw [hpr, hmap]
    clear hpr hd hmap
    go_enter Tryz.func10, Tryz.ntmps10
    have ba : Below w.heap.size w (w.alloc (.cells #[.int .i64 K.major, .int .i64 K.minor, .slice qe lk je, .slice a l.length cap] 27)) := (Below.refl _ _).alloc (Nat.le_refl _) _
    have olw_g1 : w.heap.size ≤ w.heap.size := HB0.out.size
    have HB1 : Hid (Below w.heap.size w (w.alloc (.cells #[.int .i64 K.major, .int .i64 K.minor, .slice qe lk je, .slice a l.length cap] 27))) := HB0.out.trans (ba.mono HB0.out.size)
    clear HB0
    clear ba
    have HC2_g1 : Hid (CellsAt (w.alloc (.cells #[.int .i64 K.major, .int .i64 K.minor, .slice qe lk je, .slice a l.length cap] 27)) w.heap.size 27 #[.int .i64 K.major, .int .i64 K.minor, .slice qe lk je, .slice a l.length cap]) := CellsAt.new _ _ _
    have ba : Below (w.alloc (.cells #[.int .i64 K.major, .int .i64 K.minor, .slice qe lk je, .slice a l.length cap] 27)).heap.size (w.alloc (.cells #[.int .i64 K.major, .int .i64 K.minor, .slice qe lk je, .slice a l.length cap] 27)) ((w.alloc (.cells #[.int .i64 K.major, .int .i64 K.minor, .slice qe lk je, .slice a l.length cap] 27)).alloc (.cells #[.string M.name, .int .i64 M.major, .int .i64 M.minor, .string M.text, .slice pe le ke, .slice pi li ki, .slice pp lp kp] 31)) := (Below.refl _ _).alloc (Nat.le_refl _) _
    have ol_g1_g2 : w.heap.size < (w.alloc (.cells #[.int .i64 K.major, .int .i64 K.minor, .slice qe lk je, .slice a l.length cap] 27)).heap.size := CellsAt.lt HC2_g1.out
    have olw_g2 : w.heap.size ≤ (w.alloc (.cells #[.int .i64 K.major, .int .i64 K.minor, .slice qe lk je, .slice a l.length cap] 27)).heap.size := HB1.out.size
    have HB3 : Hid (Below w.heap.size w ((w.alloc (.cells #[.int .i64 K.major, .int .i64 K.minor, .slice qe lk je, .slice a l.length cap] 27)).alloc (.cells #[.string M.name, .int .i64 M.major, .int .i64 M.minor, .string M.text, .slice pe le ke, .slice pi li ki, .slice pp lp kp] 31))) := HB1.out.trans (ba.mono HB1.out.size)
    have HC3_g1 : Hid (CellsAt ((w.alloc (.cells #[.int .i64 K.major, .int .i64 K.minor, .slice qe lk je, .slice a l.length cap] 27)).alloc (.cells #[.string M.name, .int .i64 M.major, .int .i64 M.minor, .string M.text, .slice pe le ke, .slice pi li ki, .slice pp lp kp] 31)) w.heap.size 27 #[.int .i64 K.major, .int .i64 K.minor, .slice qe lk je, .slice a l.length cap]) := HC2_g1.out.below ba HC2_g1.out.lt
    clear HB1 HC2_g1
    clear ba
    have HC4_g2 : Hid (CellsAt ((w.alloc (.cells #[.int .i64 K.major, .int .i64 K.minor, .slice qe lk je, .slice a l.length cap] 27)).alloc (.cells #[.string M.name, .int .i64 M.major, .int .i64 M.minor, .string M.text, .slice pe le ke, .slice pi li ki, .slice pp lp kp] 31)) (w.alloc (.cells #[.int .i64 K.major, .int .i64 K.minor, .slice qe lk je, .slice a l.length cap] 27)).heap.size 31 #[.string M.name, .int .i64 M.major, .int .i64 M.minor, .string M.text, .slice pe le ke, .slice pi li ki, .slice pp lp kp]) := CellsAt.new _ _ _
    rw [World.size_alloc] at HC4_g2
    clear ol_g1_g2 olw_g2 olw_g1
    have ba : Below ((w.alloc (.cells #[.int .i64 K.major, .int .i64 K.minor, .slice qe lk je, .slice a l.length cap] 27)).alloc (.cells #[.string M.name, .int .i64 M.major, .int .i64 M.minor, .string M.text, .slice pe le ke, .slice pi li ki, .slice pp lp kp] 31)).heap.size ((w.alloc (.cells #[.int .i64 K.major, .int .i64 K.minor, .slice qe lk je, .slice a l.length cap] 27)).alloc (.cells #[.string M.name, .int .i64 M.major, .int .i64 M.minor, .string M.text, .slice pe le ke, .slice pi li ki, .slice pp lp kp] 31)) (((w.alloc (.cells #[.int .i64 K.major, .int .i64 K.minor, .slice qe lk je, .slice a l.length cap] 27)).alloc (.cells #[.string M.name, .int .i64 M.major, .int .i64 M.minor, .string M.text, .slice pe le ke, .slice pi li ki, .slice pp lp kp] 31)).alloc (.cells #[.int .i64 0, .int .i64 0, .slice none 0 0, .slice none 0 0] 27)) := (Below.refl _ _).alloc (Nat.le_refl _) _
    have ol_g1_g3 : w.heap.size < ((w.alloc (.cells #[.int .i64 K.major, .int .i64 K.minor, .slice qe lk je, .slice a l.length cap] 27)).alloc (.cells #[.string M.name, .int .i64 M.major, .int .i64 M.minor, .string M.text, .slice pe le ke, .slice pi li ki, .slice pp lp kp] 31)).heap.size := CellsAt.lt HC3_g1.out
    have ol_g2_g3 : (w.heap.size + 1) < ((w.alloc (.cells #[.int .i64 K.major, .int .i64 K.minor, .slice qe lk je, .slice a l.length cap] 27)).alloc (.cells #[.string M.name, .int .i64 M.major, .int .i64 M.minor, .string M.text, .slice pe le ke, .slice pi li ki, .slice pp lp kp] 31)).heap.size := CellsAt.lt HC4_g2.out
    have olw_g3 : w.heap.size ≤ ((w.alloc (.cells #[.int .i64 K.major, .int .i64 K.minor, .slice qe lk je, .slice a l.length cap] 27)).alloc (.cells #[.string M.name, .int .i64 M.major, .int .i64 M.minor, .string M.text, .slice pe le ke, .slice pi li ki, .slice pp lp kp] 31)).heap.size := HB3.out.size
    have HB5 : Hid (Below w.heap.size w (((w.alloc (.cells #[.int .i64 K.major, .int .i64 K.minor, .slice qe lk je, .slice a l.length cap] 27)).alloc (.cells #[.string M.name, .int .i64 M.major, .int .i64 M.minor, .string M.text, .slice pe le ke, .slice pi li ki, .slice pp lp kp] 31)).alloc (.cells #[.int .i64 0, .int .i64 0, .slice none 0 0, .slice none 0 0] 27))) := HB3.out.trans (ba.mono HB3.out.size)
    have HC5_g1 : Hid (CellsAt (((w.alloc (.cells #[.int .i64 K.major, .int .i64 K.minor, .slice qe lk je, .slice a l.length cap] 27)).alloc (.cells #[.string M.name, .int .i64 M.major, .int .i64 M.minor, .string M.text, .slice pe le ke, .slice pi li ki, .slice pp lp kp] 31)).alloc (.cells #[.int .i64 0, .int .i64 0, .slice none 0 0, .slice none 0 0] 27)) w.heap.size 27 #[.int .i64 K.major, .int .i64 K.minor, .slice qe lk je, .slice a l.length cap]) := HC3_g1.out.below ba HC3_g1.out.lt
    have HC5_g2 : Hid (CellsAt (((w.alloc (.cells #[.int .i64 K.major, .int .i64 K.minor, .slice qe lk je, .slice a l.length cap] 27)).alloc (.cells #[.string M.name, .int .i64 M.major, .int .i64 M.minor, .string M.text, .slice pe le ke, .slice pi li ki, .slice pp lp kp] 31)).alloc (.cells #[.int .i64 0, .int .i64 0, .slice none 0 0, .slice none 0 0] 27)) (w.heap.size + 1) 31 #[.string M.name, .int .i64 M.major, .int .i64 M.minor, .string M.text, .slice pe le ke, .slice pi li ki, .slice pp lp kp]) := HC4_g2.out.below ba HC4_g2.out.lt
    clear HB3 HC3_g1 HC4_g2
    clear ba
    have HC6_g3 : Hid (CellsAt (((w.alloc (.cells #[.int .i64 K.major, .int .i64 K.minor, .slice qe lk je, .slice a l.length cap] 27)).alloc (.cells #[.string M.name, .int .i64 M.major, .int .i64 M.minor, .string M.text, .slice pe le ke, .slice pi li ki, .slice pp lp kp] 31)).alloc (.cells #[.int .i64 0, .int .i64 0, .slice none 0 0, .slice none 0 0] 27)) ((w.alloc (.cells #[.int .i64 K.major, .int .i64 K.minor, .slice qe lk je, .slice a l.length cap] 27)).alloc (.cells #[.string M.name, .int .i64 M.major, .int .i64 M.minor, .string M.text, .slice pe le ke, .slice pi li ki, .slice pp lp kp] 31)).heap.size 27 #[.int .i64 0, .int .i64 0, .slice none 0 0, .slice none 0 0]) := CellsAt.new _ _ _
    rw [World.size_alloc, World.size_alloc] at HC6_g3
    clear ol_g1_g3 ol_g2_g3 olw_g3
    go_upto_region 1 with fail
    generalize (((w.alloc (.cells #[.int .i64 K.major, .int .i64 K.minor, .slice qe lk je, .slice a l.length cap] 27)).alloc (.cells #[.string M.name, .int .i64 M.major, .int .i64 M.minor, .string M.text, .slice pe le ke, .slice pi li ki, .slice pp lp kp] 31)).alloc (.cells #[.int .i64 0, .int .i64 0, .slice none 0 0, .slice none 0 0] 27)) = w1 at *
    have rg20 := CellsAt.cell HC5_g2.out 0
    have rg21 := CellsAt.cell HC5_g2.out 1
    have rg22 := CellsAt.cell HC5_g2.out 2
    have rg23 := CellsAt.cell HC5_g2.out 3
    have rg24 := CellsAt.cell HC5_g2.out 4
    have rg25 := CellsAt.cell HC5_g2.out 5
    have rg26 := CellsAt.cell HC5_g2.out 6
    have rg2l := CellsAt.lt HC5_g2.out
    simp at rg20 rg21 rg22 rg23 rg24 rg25 rg26
    go_wp2_with fail
    clear rg20 rg21 rg22 rg23 rg24 rg25 rg26 rg2l
    refine (HCM.out _ HB5.out).mono ?_
    rintro e w2 ⟨rfl, b2⟩
    have HB7 : Hid (Below w.heap.size w w2) := HB5.out.trans (b2.mono HB5.out.size)
    have HC7_g1 : Hid (CellsAt w2 w.heap.size 27 #[.int .i64 K.major, .int .i64 K.minor, .slice qe lk je, .slice a l.length cap]) := HC5_g1.out.below b2 HC5_g1.out.lt
    have HC7_g2 : Hid (CellsAt w2 (w.heap.size + 1) 31 #[.string M.name, .int .i64 M.major, .int .i64 M.minor, .string M.text, .slice pe le ke, .slice pi li ki, .slice pp lp kp]) := HC5_g2.out.below b2 HC5_g2.out.lt
    have HC7_g3 : Hid (CellsAt w2 (w.heap.size + 2) 27 #[.int .i64 0, .int .i64 0, .slice none 0 0, .slice none 0 0]) := HC6_g3.out.below b2 HC6_g3.out.lt
    clear HB5 HC5_g1 HC5_g2 HC6_g3
    clear b2
    have rg10 := CellsAt.cell HC7_g1.out 0
    have rg11 := CellsAt.cell HC7_g1.out 1
    have rg12 := CellsAt.cell HC7_g1.out 2
    have rg13 := CellsAt.cell HC7_g1.out 3
    have rg1l := CellsAt.lt HC7_g1.out
    simp at rg10 rg11 rg12 rg13
    have rg20 := CellsAt.cell HC7_g2.out 0
    have rg21 := CellsAt.cell HC7_g2.out 1
    have rg22 := CellsAt.cell HC7_g2.out 2
    have rg23 := CellsAt.cell HC7_g2.out 3
    have rg24 := CellsAt.cell HC7_g2.out 4
    have rg25 := CellsAt.cell HC7_g2.out 5
    have rg26 := CellsAt.cell HC7_g2.out 6
    have rg2l := CellsAt.lt HC7_g2.out
    simp at rg20 rg21 rg22 rg23 rg24 rg25 rg26
    rw [hc]
    go_wp2_with fail
    clear rg10 rg11 rg12 rg13 rg1l
    clear rg20 rg21 rg22 rg23 rg24 rg25 rg26 rg2l
    refine (HPO.out _ HB7.out).mono ?_
    rw [hix]
    rintro e w3 ⟨rfl, b3⟩
    have HB8 : Hid (Below w.heap.size w w3) := HB7.out.trans (b3.mono HB7.out.size)
    have HC8_g1 : Hid (CellsAt w3 w.heap.size 27 #[.int .i64 K.major, .int .i64 K.minor, .slice qe lk je, .slice a l.length cap]) := HC7_g1.out.below b3 HC7_g1.out.lt
    have HC8_g2 : Hid (CellsAt w3 (w.heap.size + 1) 31 #[.string M.name, .int .i64 M.major, .int .i64 M.minor, .string M.text, .slice pe le ke, .slice pi li ki, .slice pp lp kp]) := HC7_g2.out.below b3 HC7_g2.out.lt
    have HC8_g3 : Hid (CellsAt w3 (w.heap.size + 2) 27 #[.int .i64 0, .int .i64 0, .slice none 0 0, .slice none 0 0]) := HC7_g3.out.below b3 HC7_g3.out.lt
    clear HB7 HC7_g1 HC7_g2 HC7_g3
    clear b3
    have hl9 : ((l.length : Int) == 8) = false := beq_eq_false_iff_ne.2 (by omega)
    have HQ1 : Hid (∀ d os, Calls Tryz.prog 52 #[.agg #[.string M.name, .int .i64 M.major, .int .i64 M.minor, .string M.text, .slice pe le ke, .slice pi li ki, .slice pp lp kp]] (grow (redrawn w3 d) os) fun e w' => e = .returned (.int .i64 (szM M : Int)) ∧ Below (grow (redrawn w3 d) os).heap.size (grow (redrawn w3 d) os) w') := fun d os => HSZ.out hc _
    have HQ2 : Hid (∀ d os, Calls Tryz.prog 51 #[.slice a l.length cap, .int .i64 (szM M : Int)] (grow (redrawn w3 d) os) fun e w' => e = .returned (.int .i64 FR) ∧ Below (grow (redrawn w3 d) os).heap.size (grow (redrawn w3 d) os) w') := fun d os => HFT.out _ (HB8.out.trans ((below_regrown w3 d os).mono HB8.out.size))
    have rg10 := CellsAt.cell HC8_g1.out 0
    have rg11 := CellsAt.cell HC8_g1.out 1
    have rg12 := CellsAt.cell HC8_g1.out 2
    have rg13 := CellsAt.cell HC8_g1.out 3
    have rg1l := CellsAt.lt HC8_g1.out
    simp at rg10 rg11 rg12 rg13
    have rg20 := CellsAt.cell HC8_g2.out 0
    have rg21 := CellsAt.cell HC8_g2.out 1
    have rg22 := CellsAt.cell HC8_g2.out 2
    have rg23 := CellsAt.cell HC8_g2.out 3
    have rg24 := CellsAt.cell HC8_g2.out 4
    have rg25 := CellsAt.cell HC8_g2.out 5
    have rg26 := CellsAt.cell HC8_g2.out 6
    have rg2l := CellsAt.lt HC8_g2.out
    simp at rg20 rg21 rg22 rg23 rg24 rg25 rg26
    have z3 := cell_regrown rg13
    have y0 := cell_regrown rg20
    have y1 := cell_regrown rg21
    have y2 := cell_regrown rg22
    have y3 := cell_regrown rg23
    have y4 := cell_regrown rg24
    have y5 := cell_regrown rg25
    have y6 := cell_regrown rg26
    go_wp2_with fail
    clear rg10 rg11 rg12 rg13 rg1l
    clear rg20 rg21 rg22 rg23 rg24 rg25 rg26 rg2l
    refine wp_region_quiet_below (by kernel_rfl) (by kernel_rfl) ?_
    go_big_quiet_step ((go_at_call 52; go_must (exact Calls.regrown_of (HQ1.out _ _))))
    go_big_quiet_step ((go_at_call 52; go_must (exact Calls.regrown_of (HQ1.out _ _))))
    go_big_quiet_step ((go_at_call 52; go_must (exact Calls.regrown_of (HQ1.out _ _))))
    go_big_quiet_step ((go_at_call 52; go_must (exact Calls.regrown_of (HQ1.out _ _))))
    repeat (go_big_quiet_step ((go_at_call 51; go_must (exact Calls.regrown_of (HQ2.out _ _)))))
    refine wpQuiet_nil ?_
    intro w4 hw'
    obtain ⟨⟨dq, osq⟩, hw''⟩ := hw'
    have bq := below_regrown w3 dq osq
    rw [← hw''] at bq
    clear hw'' HQ1 HQ2 z3 y0 y1 y2 y3 y4 y5 y6
    have HB9 : Hid (Below w.heap.size w w4) := HB8.out.trans (bq.mono HB8.out.size)
    have HC9_g1 : Hid (CellsAt w4 w.heap.size 27 #[.int .i64 K.major, .int .i64 K.minor, .slice qe lk je, .slice a l.length cap]) := HC8_g1.out.below bq HC8_g1.out.lt
    have HC9_g2 : Hid (CellsAt w4 (w.heap.size + 1) 31 #[.string M.name, .int .i64 M.major, .int .i64 M.minor, .string M.text, .slice pe le ke, .slice pi li ki, .slice pp lp kp]) := HC8_g2.out.below bq HC8_g2.out.lt
    have HC9_g3 : Hid (CellsAt w4 (w.heap.size + 2) 27 #[.int .i64 0, .int .i64 0, .slice none 0 0, .slice none 0 0]) := HC8_g3.out.below bq HC8_g3.out.lt
    clear HB8 HC8_g1 HC8_g2 HC8_g3
    clear bq
    have hfn : decide (FR < 0) = false := decide_eq_false (by omega)
    have rg10 := CellsAt.cell HC9_g1.out 0
    have rg11 := CellsAt.cell HC9_g1.out 1
    have rg12 := CellsAt.cell HC9_g1.out 2
    have rg13 := CellsAt.cell HC9_g1.out 3
    have fg10 := CellsAt.frozen HC9_g1.out 0
    have fg11 := CellsAt.frozen HC9_g1.out 1
    have fg12 := CellsAt.frozen HC9_g1.out 2
    have fg13 := CellsAt.frozen HC9_g1.out 3
    have rg1l := CellsAt.lt HC9_g1.out
    simp at rg10 rg11 rg12 rg13
    have rg20 := CellsAt.cell HC9_g2.out 0
    have rg21 := CellsAt.cell HC9_g2.out 1
    have rg22 := CellsAt.cell HC9_g2.out 2
    have rg23 := CellsAt.cell HC9_g2.out 3
    have rg24 := CellsAt.cell HC9_g2.out 4
    have rg25 := CellsAt.cell HC9_g2.out 5
    have rg26 := CellsAt.cell HC9_g2.out 6
    have rg2l := CellsAt.lt HC9_g2.out
    simp at rg20 rg21 rg22 rg23 rg24 rg25 rg26
    go_wp2_with fail
    clear rg10 rg11 rg12 rg13 rg1l fg10 fg11 fg12 fg13
    clear rg20 rg21 rg22 rg23 rg24 rg25 rg26 rg2l
    refine (HWF.out _ HB9.out).mono ?_
    rintro e w5 ⟨⟨v5, rfl, hp5⟩, b5⟩
    have HB10 : Hid (Below w.heap.size w w5) := HB9.out.trans (b5.mono HB9.out.size)
    have HC10_g1 : Hid (CellsAt w5 w.heap.size 27 #[.int .i64 K.major, .int .i64 K.minor, .slice qe lk je, .slice a l.length cap]) := HC9_g1.out.below b5 HC9_g1.out.lt
    have HC10_g2 : Hid (CellsAt w5 (w.heap.size + 1) 31 #[.string M.name, .int .i64 M.major, .int .i64 M.minor, .string M.text, .slice pe le ke, .slice pi li ki, .slice pp lp kp]) := HC9_g2.out.below b5 HC9_g2.out.lt
    have HC10_g3 : Hid (CellsAt w5 (w.heap.size + 2) 27 #[.int .i64 0, .int .i64 0, .slice none 0 0, .slice none 0 0]) := HC9_g3.out.below b5 HC9_g3.out.lt
    clear HB9 HC9_g1 HC9_g2 HC9_g3
    clear b5
    obtain ⟨a5, c5, rfl⟩ : ∃ a5 c5, v5 = .slice a5 l2.length c5 := by obtain ⟨⟨a5, c5, h, _⟩, _⟩ := hp5; exact ⟨a5, c5, h⟩
    have hbw := HB10.out.size
    have HI5 : Hid (IsReg w5.heap.size w5 (.agg #[.int .i64 K.major, .int .i64 K.minor, .slice qe lk je, .slice a5 l2.length c5]) K l2) := ⟨_, _, rfl, (HEX.out.below HB10.out).more HB10.out.size, hp5⟩
    have HI6 : Hid (IsReg (w5.setCell ⟨w.heap.size, 3, none⟩ (.slice a5 l2.length c5)).heap.size (w5.setCell ⟨w.heap.size, 3, none⟩ (.slice a5 l2.length c5)) (.agg #[.int .i64 K.major, .int .i64 K.minor, .slice qe lk je, .slice a5 l2.length c5]) K l2) := reg_store HI5.out HC10_g1.out
    have hG := grown_set w5 w.heap.size 3 (.slice a5 l2.length c5)
    have HC6_g1 : Hid (CellsAt (w5.setCell ⟨w.heap.size, 3, none⟩ (.slice a5 l2.length c5)) w.heap.size 27 #[.int .i64 K.major, .int .i64 K.minor, .slice qe lk je, .slice a5 l2.length c5]) := by
      have := CellsAt.set 3 (.slice a5 l2.length c5) HC10_g1.out
      simp only [List.setIfInBounds_toArray, List.set_cons_zero, List.set_cons_succ] at this
      exact this
    have HC6_g2 : Hid (CellsAt (w5.setCell ⟨w.heap.size, 3, none⟩ (.slice a5 l2.length c5)) (w.heap.size + 1) 31 #[.string M.name, .int .i64 M.major, .int .i64 M.minor, .string M.text, .slice pe le ke, .slice pi li ki, .slice pp lp kp]) := HC10_g2.out.kept hG (by intro e; have := Option.some.inj e; omega)
    have HC6_g3 : Hid (CellsAt (w5.setCell ⟨w.heap.size, 3, none⟩ (.slice a5 l2.length c5)) (w.heap.size + 2) 27 #[.int .i64 0, .int .i64 0, .slice none 0 0, .slice none 0 0]) := HC10_g3.out.kept hG (by intro e; have := Option.some.inj e; omega)
    have HB6 : Hid (Below w.heap.size w (w5.setCell ⟨w.heap.size, 3, none⟩ (.slice a5 l2.length c5))) := HB10.out.grown hG HB10.out.size (fun q hq => by obtain rfl := Option.some.inj hq; omega)
    have rg10 := CellsAt.cell HC10_g1.out 0
    have rg11 := CellsAt.cell HC10_g1.out 1
    have rg12 := CellsAt.cell HC10_g1.out 2
    have rg13 := CellsAt.cell HC10_g1.out 3
    have fg10 := CellsAt.frozen HC10_g1.out 0
    have fg11 := CellsAt.frozen HC10_g1.out 1
    have fg12 := CellsAt.frozen HC10_g1.out 2
    have fg13 := CellsAt.frozen HC10_g1.out 3
    have rg1l := CellsAt.lt HC10_g1.out
    simp at rg10 rg11 rg12 rg13
    have rg20 := CellsAt.cell HC10_g2.out 0
    have rg21 := CellsAt.cell HC10_g2.out 1
    have rg22 := CellsAt.cell HC10_g2.out 2
    have rg23 := CellsAt.cell HC10_g2.out 3
    have rg24 := CellsAt.cell HC10_g2.out 4
    have rg25 := CellsAt.cell HC10_g2.out 5
    have rg26 := CellsAt.cell HC10_g2.out 6
    have rg2l := CellsAt.lt HC10_g2.out
    simp at rg20 rg21 rg22 rg23 rg24 rg25 rg26
    have rq3 := CellsAt.cell HC6_g1.out 3
    have rq0 := CellsAt.cell HC6_g1.out 0
    have rq1 := CellsAt.cell HC6_g1.out 1
    have rq2 := CellsAt.cell HC6_g1.out 2
    simp at rq0 rq1 rq2 rq3
    go_wp2_with fail
    clear rg10 rg11 rg12 rg13 rg1l fg10 fg11 fg12 fg13
    clear rg20 rg21 rg22 rg23 rg24 rg25 rg26 rg2l
    clear rq0 rq1 rq2 rq3 hG
    generalize (w5.setCell ⟨w.heap.size, 3, none⟩ (.slice a5 l2.length c5)) = w6 at *
    clear HC10_g1 HC10_g2 HC10_g3 HB10 HI5
    refine (HRG.out l2 _ _ HI6.out HFX.out).mono ?_
    rintro e w7 ⟨rfl, b7⟩
    have HB21 : Hid (Below w.heap.size w w7) := HB6.out.trans (b7.mono HB6.out.size)
    have HC21_g1 : Hid (CellsAt w7 w.heap.size 27 #[.int .i64 K.major, .int .i64 K.minor, .slice qe lk je, .slice a5 l2.length c5]) := HC6_g1.out.below b7 HC6_g1.out.lt
    have HC21_g2 : Hid (CellsAt w7 (w.heap.size + 1) 31 #[.string M.name, .int .i64 M.major, .int .i64 M.minor, .string M.text, .slice pe le ke, .slice pi li ki, .slice pp lp kp]) := HC6_g2.out.below b7 HC6_g2.out.lt
    have HC21_g3 : Hid (CellsAt w7 (w.heap.size + 2) 27 #[.int .i64 0, .int .i64 0, .slice none 0 0, .slice none 0 0]) := HC6_g3.out.below b7 HC6_g3.out.lt
    have HR21_x : Hid (IsReg w7.heap.size w7 (.agg #[.int .i64 K.major, .int .i64 K.minor, .slice qe lk je, .slice a5 l2.length c5]) K l2) := (HI6.out.below b7).more b7.size
    clear HB6 HC6_g1 HC6_g2 HC6_g3 HI6
    clear b7 HFX HRG
    generalize hcr : chkRg K (l2.map PV.plc) = cr at *
    by_cases hz : cr = 0
    · subst hz
      have rg30 := CellsAt.cell HC21_g3.out 0
      have rg31 := CellsAt.cell HC21_g3.out 1
      have rg32 := CellsAt.cell HC21_g3.out 2
      have rg33 := CellsAt.cell HC21_g3.out 3
      have fg30 := CellsAt.frozen HC21_g3.out 0
      have fg31 := CellsAt.frozen HC21_g3.out 1
      have fg32 := CellsAt.frozen HC21_g3.out 2
      have fg33 := CellsAt.frozen HC21_g3.out 3
      have rg3l := CellsAt.lt HC21_g3.out
      simp at rg30 rg31 rg32 rg33
      have rg10 := CellsAt.cell HC21_g1.out 0
      have rg11 := CellsAt.cell HC21_g1.out 1
      have rg12 := CellsAt.cell HC21_g1.out 2
      have rg13 := CellsAt.cell HC21_g1.out 3
      have rg1l := CellsAt.lt HC21_g1.out
      simp at rg10 rg11 rg12 rg13
      have rg20 := CellsAt.cell HC21_g2.out 0
      have rg21 := CellsAt.cell HC21_g2.out 1
      have rg22 := CellsAt.cell HC21_g2.out 2
      have rg23 := CellsAt.cell HC21_g2.out 3
      have rg24 := CellsAt.cell HC21_g2.out 4
      have rg25 := CellsAt.cell HC21_g2.out 5
      have rg26 := CellsAt.cell HC21_g2.out 6
      have rg2l := CellsAt.lt HC21_g2.out
      simp at rg20 rg21 rg22 rg23 rg24 rg25 rg26
      have hgl := HB21.out.size
      go_wp2
      have hZ9 := sets4 HC21_g3.out (.int .i64 K.major) (.int .i64 K.minor) (.slice qe lk je) (.slice a5 l2.length c5)
      have hG9 := sets4_grown w7 (w.heap.size + 2) (.int .i64 K.major) (.int .i64 K.minor) (.slice qe lk je) (.slice a5 l2.length c5)
      have hB9 := HB21.out.grown hG9 HB21.out.size (fun q hq => by obtain rfl := Option.some.inj hq; omega)
      refine bodyPost_ret (results_cell_tmp_row rfl _ _ _ _ _ _ _ rfl hZ9 Tryz.underlying27 rfl (by kernel_rfl)) rfl ?_
      rw [HPR.out]
      exact ⟨⟨_, l2, rfl, rfl, (HR21_x.out.apart4 hG9 (Nat.le_refl _) HC21_g3.out).more hG9.size⟩, hB9⟩
    · have hz' : (cr != 0) = true := by simpa using hz
      have rg30 := CellsAt.cell HC21_g3.out 0
      have rg31 := CellsAt.cell HC21_g3.out 1
      have rg32 := CellsAt.cell HC21_g3.out 2
      have rg33 := CellsAt.cell HC21_g3.out 3
      have fg30 := CellsAt.frozen HC21_g3.out 0
      have fg31 := CellsAt.frozen HC21_g3.out 1
      have fg32 := CellsAt.frozen HC21_g3.out 2
      have fg33 := CellsAt.frozen HC21_g3.out 3
      have rg3l := CellsAt.lt HC21_g3.out
      simp at rg30 rg31 rg32 rg33
      have rg10 := CellsAt.cell HC21_g1.out 0
      have rg11 := CellsAt.cell HC21_g1.out 1
      have rg12 := CellsAt.cell HC21_g1.out 2
      have rg13 := CellsAt.cell HC21_g1.out 3
      have rg1l := CellsAt.lt HC21_g1.out
      simp at rg10 rg11 rg12 rg13
      have rg20 := CellsAt.cell HC21_g2.out 0
      have rg21 := CellsAt.cell HC21_g2.out 1
      have rg22 := CellsAt.cell HC21_g2.out 2
      have rg23 := CellsAt.cell HC21_g2.out 3
      have rg24 := CellsAt.cell HC21_g2.out 4
      have rg25 := CellsAt.cell HC21_g2.out 5
      have rg26 := CellsAt.cell HC21_g2.out 6
      have rg2l := CellsAt.lt HC21_g2.out
      simp at rg20 rg21 rg22 rg23 rg24 rg25 rg26
      have hgl := HB21.out.size
      go_wp2
      have hZ9 := sets4 HC21_g3.out (.int .i64 0) (.int .i64 0) (.slice none 0 0) (.slice none 0 0)
      have hG9 := sets4_grown w7 (w.heap.size + 2) (.int .i64 0) (.int .i64 0) (.slice none 0 0) (.slice none 0 0)
      have hB9 := HB21.out.grown hG9 HB21.out.size (fun q hq => by obtain rfl := Option.some.inj hq; omega)
      refine bodyPost_ret (results_cell_tmp_row rfl _ _ _ _ _ _ _ rfl hZ9 Tryz.underlying27 rfl (by kernel_rfl)) rfl ?_
      rw [HPR.out, if_pos hz]
      exact ⟨⟨_, [], rfl, rfl, zero_isReg _ _⟩, hB9⟩

end Go.Proofs.YtlpnfbpgnfappaaGreat
