/- Texts that are laid together. -/
import Derived.Test.YtaklbnabgcglhabMrgR
import Derived.Test.YtaklbnabgcglhabMrgL
import Derived.Deep.LoopGhost

/- The contract of the document's NeedsOf. -/
namespace Go.Proofs.Ytaklbnabgcglhab
open Go.RowKit Go.PlainAid

set_option maxRecDepth 100000

theorem txt_own {W : World} {base g n cap : Nat} {ss : List ByteArray} (h : W.ownsRow base 9 1 (.slice (some ⟨g, 0, none⟩) n cap) n (ss.flatMap strC)) : TxtAt W g ss ∧ base ≤ g := by
  rcases h.2 with ⟨e, _⟩ | ⟨g', cap', cur, e, hg, hc, _⟩
  · cases e
  · injection e with e1 _ _
    injection e1 with e1
    injection e1 with e1
    subst e1
    refine ⟨⟨cur, hc, fun j x hj => ?_⟩, hg⟩
    have h1 := flat_at (C := strC) (sz := 1) (fun _ => rfl) ss j x 0 hj (by omega)
    rw [Nat.mul_one, Nat.add_zero] at h1
    have h2 := h.cells (g := g) rfl j _ h1
    rw [addr_add0] at h2
    exact (CellsAt.cell (t := 9) (cs := cur) hc j).symm.trans h2
theorem txt_row {W : World} {g n cap : Nat} {ss : List ByteArray} (h : TxtAt W g ss) (hn : n = ss.length) (hl : ss.length ≤ 9223372036854775807) : RowOf 1 strCell W.heap.size W (.slice (some ⟨g, 0, none⟩) n cap) ss := by
  subst hn
  refine ⟨_, cap, rfl, hl, .inr ⟨g, 0, rfl, h.lt, fun j x hj i hi => ?_⟩⟩
  obtain rfl : i = 0 := by omega
  have := (h.cell hj).1
  rw [Nat.zero_add, Nat.mul_one, Nat.add_zero]
  exact this

set_option maxHeartbeats 8000000 in
theorem needsOf_any (l : List PV) (v : Value) (name : ByteArray) (us : Bool) (w : World) (hrow : IsPlcs w.heap.size w v l) (hfit : ∀ x ∈ l, x.mod.fits) (h8 : l.length ≤ 8) (hd : ((l.map (·.mod)).map (·.name)).Nodup) (f : Nat) (hf : f < l.length) (hix : idxFrom (fun x : PV => x.mod.name == name) 0 l = (f : Int)) :
    Calls Try.prog 33 #[v, .string name, .bool us] w fun e w' => (∃ r rs, e = .returned r ∧ RowOf 1 strCell w'.heap.size w' r rs ∧ Comes (nxOf us) (l.map (·.mod)) f rs) ∧ Below w.heap.size w w' := by
  have HR : Hid (Calls Try.prog 66 #[v] w fun e w' => (∃ r T, e = .returned r ∧ MatAt w' w.heap.size l.length r T ∧ ∀ a b, a < l.length → b < l.length → (T a b = true ↔ Via (Next nxNeed (l.map (·.mod))) a b)) ∧ Below w.heap.size w w') := reach_any l v w hrow h8
  have HP : Hid (∀ W, Below w.heap.size w W → Calls Try.prog 31 #[v, .string name] W fun e w' => e = .returned (.int .i64 (f : Int)) ∧ Below W.heap.size W w') := fun W hb => by
    have := placeOf_any l v name W ((hrow.1.below hb).more hb.size)
    rw [hix] at this
    exact this
  have HC : Hid (∀ T rs, (∀ a b, a < l.length → b < l.length → (T a b = true ↔ Via (Next nxNeed (l.map (·.mod))) a b)) → rs.Perm (pickTo (tabOf us T f) (nameAt (l.map (·.mod))) l.length) → rs.Pairwise NotBehind → Comes (nxOf us) (l.map (·.mod)) f rs) := fun T rs hT hp hu => by
    refine pick_comes hd (P := tabOf us T f) (fun k hk => tab_via hT hf (by simpa using hk) us) ?_ hu
    rw [List.length_map]
    exact hp
  have HNM : Hid (∀ k x, l[k]? = some x → nameAt (l.map (·.mod)) k = x.mod.name) := fun k x hx => nameAt_some (by rw [List.getElem?_map, hx]; rfl)
  have HFN : Hid (∀ T, ∀ x ∈ pickTo (tabOf us T f) (nameAt (l.map (·.mod))) l.length, x.size ≤ 9223372036854775807) := fun T x hx => by
    unfold pickTo at hx
    obtain ⟨k, hk, rfl⟩ := List.mem_map.1 hx
    have hkl : k < l.length := List.mem_range.1 (List.mem_filter.1 hk).1
    rw [nameAt_some (x := l[k].mod) (by rw [List.getElem?_map, List.getElem?_eq_getElem hkl]; rfl)]
    exact (hfit _ (List.getElem_mem hkl)).1
  have hat := hrow.2
  obtain ⟨⟨a, cap, rfl, hmax, hcells⟩, _⟩ := hrow
  rcases hcells with h | ⟨b, off, rfl, hbn, hcells⟩
  · subst h; simp at hf
  have HCL : Hid (∀ (k : Nat) (x : PV), l[k]? = some x → w.cell? ⟨b, off + k * 8, none⟩ = some (.string x.mod.name)) := fun k x hx => hcells k x hx 0 (by omega)
  have HEX : Hid (∀ k, k < l.length → ∃ x : PV, l[k]? = some x) := fun k hk => ⟨_, List.getElem?_eq_getElem hk⟩
  clear hat hcells hix hd hfit
  generalize Comes (nxOf us) (l.map (·.mod)) f = CM at *
  generalize Via (Next nxNeed (l.map (·.mod))) = V at *
  generalize nameAt (l.map (·.mod)) = nA at *
  generalize hnn : l.length = n at *
  clear hnn
  obtain ⟨is, his, hs0, hs1, hs2⟩ := infoStr_parts
  go_enter Try.func33, Try.ntmps33
  go_wp2_with fail
  refine HR.out.mono ?_
  rintro e w2 ⟨⟨r, T, rfl, hM, hT⟩, B2⟩
  clear HR
  have HT : Hid (∀ rs, rs.Perm (pickTo (tabOf us T f) nA n) → rs.Pairwise NotBehind → CM rs) := fun rs h1 h2 => HC.out T rs hT h1 h2
  have HM : Hid (MatAt w2 w.heap.size n r T) := hM
  obtain ⟨ar, cr, rfl⟩ : ∃ ar cr, r = .slice ar n cr := by
    obtain ⟨vs, _, h2, _⟩ := hM
    exact own_form h2
  have HFT := HFN.out T
  have HFT2 : Hid (∀ x ∈ pickTo (tabOf us T f) nA n, x.size ≤ 9223372036854775807) := HFT
  clear hT hM HC HFN HFT
  go_wp2_with fail
  refine (HP.out _ B2).mono ?_
  rintro e w3 ⟨rfl, b3⟩
  have HM3 : Hid (MatAt w3 w.heap.size n (.slice ar n cr) T) := HM.out.below b3
  have B3 := B2.trans (b3.mono B2.size)
  clear HM HP b3 B2
  have hf' : (f : Int) < (n : Int) := by omega
  go_wp2_with fail
  go_loopw [9, 10] (fun o q wr => ∃ (k m : Nat), k ≤ n ∧ q = .int .i64 k ∧ m ≤ k ∧ Hid (m = (pickTo (tabOf us T f) nA k).length) ∧ wr.ownsRow w3.heap.size 9 1 o m ((pickTo (tabOf us T f) nA k).flatMap strC) ∧ Below w3.heap.size w3 wr) (fun _ q _ => n - (intOf q).toNat)
  case atStart => exact ⟨0, 0, Nat.zero_le _, rfl, Nat.le_refl _, (rfl : 0 = 0), ⟨rfl, .inl ⟨rfl, rfl⟩⟩, Below.refl _ _⟩
  case round =>
    obtain ⟨k, m, hk, rfl, hmk, HL, hown, B⟩ := hrel
    obtain ⟨av, kv, rfl⟩ := own_form hown
    have BW : Below w.heap.size w wr := B3.trans (B.mono B3.size)
    by_cases hlt : k < n
    · obtain ⟨go, co, hv, hbg, hgl, gs, cs, hall⟩ := (HM3.out.below B).at (by omega)
      injection hv with e1 _ e3
      subst e1 e3
      obtain ⟨rk, _, lk, rk4⟩ := hall k hlt
      obtain ⟨rf, _, lf, rf4⟩ := hall f hf
      have ckf := (rk4 f hf).1
      have cfk := (rf4 k hlt).1
      obtain ⟨x, hx⟩ := HEX.out k hlt
      have cx := (BW.cell (p := ⟨b, off + k * 8, none⟩) hbn).trans (HCL.out k x hx)
      have hnk := HNM.out k x hx
      have hps := pickTo_succ (tabOf us T f) nA k
      rw [hnk] at hps
      have hbw : b < wr.heap.size := Nat.lt_of_lt_of_le hbn BW.size
      have hlt' : (k : Int) < (n : Int) := by omega
      have HPS : Hid (pickTo (tabOf us T f) nA (k + 1) = if tabOf us T f k = true then pickTo (tabOf us T f) nA k ++ [x.mod.name] else pickTo (tabOf us T f) nA k) := hps
      have HTB : Hid (tabOf us T f k = if us then T k f else T f k) := (rfl : _ = _)
      have HBB : Hid (Below w3.heap.size w3 wr) := B
      have HSZ : Hid (w3.heap.size ≤ wr.heap.size) := B.size
      clear hall rk4 rf4 hps hnk hx B BW
      generalize gs k = gk at *
      generalize gs f = gf at *
      generalize cs k = ck at *
      generalize cs f = cf at *
      generalize x.mod.name = xn at *
      generalize pickTo (tabOf us T f) nA k = acc at *
      generalize tabOf us T f k = tt at *
      generalize T k f = t1 at *
      generalize T f k = t2 at *
      have go_no : tt = false → pickTo (tabOf us T f) nA (k + 1) = acc := fun h => by rw [HPS.out, h]; rfl
      have go_yes : tt = true → pickTo (tabOf us T f) nA (k + 1) = acc ++ [xn] := fun h => by rw [HPS.out, if_pos h]
      have HNO : Hid (tt = false → pickTo (tabOf us T f) nA (k + 1) = acc) := go_no
      have HYES : Hid (tt = true → pickTo (tabOf us T f) nA (k + 1) = acc ++ [xn]) := go_yes
      clear go_no go_yes HPS
      cases us
      · have htt : tt = t2 := HTB.out
        subst htt
        clear HTB
        cases tt
        · go_wp2
          exact ⟨⟨k + 1, m, by omega, by go_num, by omega, by rw [HNO.out (by first | rfl | trivial)]; exact HL.out, by rw [HNO.out (by first | rfl | trivial)]; exact hown, HBB.out⟩, by simp [intOf]; omega⟩
        · go_wp2_with (at_builtin; refine wpList_append_lies _ rfl _ _ _ rfl w3.heap.size 9 is _ 1 16 Try.underlying59 his hs0 hs1 hs2 rfl (by omega) (.slice av m kv) m (acc.flatMap strC) rfl (hown.alloc _) ⟨wr.heap.size, 0, none⟩ 1 1 [.string xn] rfl rfl (World.news_of_block (cs := #[.string xn]) (t := 9) (fr := (0, 0)) (CellsAt.new wr 9 #[.string xn])) (by simp [Value.oneCell']) (by omega) (by unfold maxLen; omega) (by omega) (by have := HSZ.out; simp; omega) (wr.heap.size + 1) (by simp) ?_; intro g gc w8 hown8 hgrow hat hltg)
          have BA := HBB.out.alloc HBB.out.size (.cells #[.string xn] 9)
          have hy := HYES.out (by first | rfl | trivial)
          exact ⟨⟨k + 1, m + 1, by omega, by go_num, by omega, by rw [hy, List.length_append, ← HL.out]; rfl, by rw [hy, List.flatMap_append]; exact hown8, BA.grown hgrow BA.size (fun i hi => own_block hown i hi)⟩, by simp [intOf]; omega⟩
      · have htt : tt = t1 := HTB.out
        subst htt
        clear HTB
        cases tt
        · go_wp2
          exact ⟨⟨k + 1, m, by omega, by go_num, by omega, by rw [HNO.out (by first | rfl | trivial)]; exact HL.out, by rw [HNO.out (by first | rfl | trivial)]; exact hown, HBB.out⟩, by simp [intOf]; omega⟩
        · go_wp2_with (at_builtin; refine wpList_append_lies _ rfl _ _ _ rfl w3.heap.size 9 is _ 1 16 Try.underlying59 his hs0 hs1 hs2 rfl (by omega) (.slice av m kv) m (acc.flatMap strC) rfl (hown.alloc _) ⟨wr.heap.size, 0, none⟩ 1 1 [.string xn] rfl rfl (World.news_of_block (cs := #[.string xn]) (t := 9) (fr := (0, 0)) (CellsAt.new wr 9 #[.string xn])) (by simp [Value.oneCell']) (by omega) (by unfold maxLen; omega) (by omega) (by have := HSZ.out; simp; omega) (wr.heap.size + 1) (by simp) ?_; intro g gc w8 hown8 hgrow hat hltg)
          have BA := HBB.out.alloc HBB.out.size (.cells #[.string xn] 9)
          have hy := HYES.out (by first | rfl | trivial)
          exact ⟨⟨k + 1, m + 1, by omega, by go_num, by omega, by rw [hy, List.length_append, ← HL.out]; rfl, by rw [hy, List.flatMap_append]; exact hown8, BA.grown hgrow BA.size (fun i hi => own_block hown i hi)⟩, by simp [intOf]; omega⟩
    · obtain rfl : k = n := by omega
      have hlt' : decide ((k : Int) < (k : Int)) = false := decide_eq_false (by omega)
      by_cases hm0 : m = 0
      · subst hm0
        have hnil : pickTo (tabOf us T f) nA k = [] := List.length_eq_zero_iff.1 HL.out.symm
        have HCM : Hid (CM []) := HT.out [] (by rw [hnil]) .nil
        clear hown HL hnil
        go_wp2_with (go_at_call 67; refine (sortTexts_none _ _ _).mono ?_; rintro e w' ⟨rfl, rfl⟩)
        go_ret
        exact ⟨⟨_, [], rfl, ⟨_, kv, rfl, by simp, .inl rfl⟩, HCM.out⟩, BW⟩
      · obtain ⟨g, rfl⟩ : ∃ g, av = some ⟨g, 0, none⟩ := by
          rcases hown.2 with ⟨_, h⟩ | ⟨g, cap', cur, e, _⟩
          · exact absurd h hm0
          · injection e with e1 _ _
            exact ⟨g, e1⟩
        obtain ⟨ht, hg⟩ := txt_own hown
        have hST := sortTexts_any (pickTo (tabOf us T f) nA k) g kv wr ht HFT2.out (by have := pickTo_len (tabOf us T f) nA k; omega)
        rw [← HL.out] at hST
        have HST : Hid (Calls Try.prog 67 #[.slice (some ⟨g, 0, none⟩) m kv] wr fun e w' => e = .returned (.tuple #[]) ∧ ∃ ss', ss'.Perm (pickTo (tabOf us T f) nA k) ∧ ss'.Pairwise NotBehind ∧ TxtAt w' g ss' ∧ wr.grownBy w' (some g)) := hST
        have HGG : Hid (w3.heap.size ≤ g) := hg
        clear hST ht hown hg
        go_wp2_with fail
        refine HST.out.mono ?_
        rintro e w5 ⟨rfl, ss', p1, p2, p3, p4⟩
        have HF : Hid (ss'.Perm (pickTo (tabOf us T f) nA k) ∧ ss'.Pairwise NotBehind ∧ TxtAt w5 g ss' ∧ wr.grownBy w5 (some g)) := ⟨p1, p2, p3, p4⟩
        clear p1 p2 p3 p4 HST
        go_wp2
        go_ret
        obtain ⟨p1, p2, p3, p4⟩ := HF.out
        refine ⟨⟨_, ss', rfl, txt_row p3 (by rw [p1.length_eq]; exact HL.out) (by rw [p1.length_eq, ← HL.out]; omega), HT.out ss' p1 p2⟩, BW.grown p4 BW.size (fun i hi => ?_)⟩
        injection hi with hi
        have h1 := HGG.out
        have h2 := B3.size
        omega

end Go.Proofs.Ytaklbnabgcglhab

/- The document's order, as data: of those that may stand next the least. -/
namespace Go.Proofs.Ytaklbnabgcglhab
open Go.RowKit Go.PlainAid

def okTo (T : Nat → Nat → Bool) (D : Nat → Bool) (i k : Nat) : Bool := !D i && (List.range k).all fun q => !T i q || D q
theorem okTo_zero (T : Nat → Nat → Bool) (D : Nat → Bool) (i : Nat) : okTo T D i 0 = !D i := by unfold okTo; simp
theorem okTo_succ (T : Nat → Nat → Bool) (D : Nat → Bool) (i k : Nat) : okTo T D i (k + 1) = (okTo T D i k && (!T i k || D k)) := by
  unfold okTo
  rw [List.range_succ, List.all_append, ← Bool.and_assoc]
  simp
theorem okTo_iff {T : Nat → Nat → Bool} {D : Nat → Bool} {i k : Nat} : okTo T D i k = true ↔ D i = false ∧ ∀ q, q < k → T i q = true → D q = true := by
  unfold okTo
  rw [Bool.and_eq_true, List.all_eq_true]
  constructor
  · rintro ⟨h1, h2⟩
    refine ⟨by simpa using h1, fun q hq ht => ?_⟩
    have := h2 q (List.mem_range.2 hq)
    rw [ht] at this
    simpa using this
  · rintro ⟨h1, h2⟩
    refine ⟨by rw [h1]; rfl, fun q hq => ?_⟩
    cases ht : T i q
    · rfl
    · rw [h2 q (List.mem_range.1 hq) ht]; rfl

/-- The best one so far. -/
def BestTo (ok : Nat → Bool) (nA : Nat → ByteArray) (i : Nat) (b : Int) : Prop := (b = -1 ∧ ∀ q, q < i → ok q = false) ∨ ∃ bi : Nat, bi < i ∧ b = (bi : Int) ∧ ok bi = true ∧ ∀ q, q < i → ok q = true → ¬ Ahead (nA q) (nA bi)
theorem BestTo.start (ok : Nat → Bool) (nA : Nat → ByteArray) : BestTo ok nA 0 (-1) := .inl ⟨rfl, fun q hq => by omega⟩
theorem BestTo.no {ok : Nat → Bool} {nA : Nat → ByteArray} {i : Nat} {b : Int} (h : BestTo ok nA i b) (hi : ok i = false) : BestTo ok nA (i + 1) b := by
  rcases h with ⟨rfl, h⟩ | ⟨bi, h1, rfl, h2, h3⟩
  · refine .inl ⟨rfl, fun q hq => ?_⟩
    by_cases e : q = i
    · subst e; exact hi
    · exact h q (by omega)
  · refine .inr ⟨bi, by omega, rfl, h2, fun q hq hok => ?_⟩
    by_cases e : q = i
    · subst e; rw [hi] at hok; cases hok
    · exact h3 q (by omega) hok
theorem BestTo.first {ok : Nat → Bool} {nA : Nat → ByteArray} {i : Nat} (h : BestTo ok nA i (-1)) (hi : ok i = true) : BestTo ok nA (i + 1) (i : Int) := by
  rcases h with ⟨_, h⟩ | ⟨bi, _, h1, _⟩
  · refine .inr ⟨i, by omega, rfl, hi, fun q hq hok => ?_⟩
    by_cases e : q = i
    · subst e; exact Ahead.irrefl _
    · rw [h q (by omega)] at hok; cases hok
  · omega
theorem BestTo.less {ok : Nat → Bool} {nA : Nat → ByteArray} {i bi : Nat} (h : BestTo ok nA i (bi : Int)) (hi : ok i = true) (hl : Ahead (nA i) (nA bi)) : BestTo ok nA (i + 1) (i : Int) := by
  rcases h with ⟨h, _⟩ | ⟨b', _, h1, _, h3⟩
  · omega
  · have : b' = bi := by omega
    subst this
    refine .inr ⟨i, by omega, rfl, hi, fun q hq hok e => ?_⟩
    by_cases e' : q = i
    · subst e'; exact Ahead.irrefl _ e
    · exact h3 q (by omega) hok (e.trans hl)
theorem BestTo.keep {ok : Nat → Bool} {nA : Nat → ByteArray} {i bi : Nat} (h : BestTo ok nA i (bi : Int)) (hl : ¬ Ahead (nA i) (nA bi)) : BestTo ok nA (i + 1) (bi : Int) := by
  rcases h with ⟨h, _⟩ | ⟨b', h1, h2, h4, h3⟩
  · omega
  · have : b' = bi := by omega
    subst this
    refine .inr ⟨b', by omega, rfl, h4, fun q hq hok => ?_⟩
    by_cases e' : q = i
    · subst e'; exact hl
    · exact h3 q (by omega) hok
theorem BestTo.lt {ok : Nat → Bool} {nA : Nat → ByteArray} {i : Nat} {b : Int} (h : BestTo ok nA i b) : b = -1 ∨ ∃ bi : Nat, bi < i ∧ b = (bi : Int) := by
  rcases h with ⟨h, _⟩ | ⟨bi, h1, h2, _⟩
  · exact .inl h
  · exact .inr ⟨bi, h1, h2⟩

def inB (c : List ByteArray) (x : ByteArray) : Bool := c.any fun y => y == x
theorem inB_iff {c : List ByteArray} {x : ByteArray} : inB c x = true ↔ x ∈ c := any_mem

theorem order_pick {L : List Plc} (h0 : chkGraph L = 0) {c : List ByteArray} (hc : orderFrom (risen L) (risen L).length [] = some c) {T : Nat → Nat → Bool} (hT : ∀ a b, a < L.length → b < L.length → (T a b = true ↔ Via (Next nxNeed (L.map (·.mod))) a b)) {j : Nat} (hj : j < c.length) {b : Int}
    (hb : BestTo (fun i => okTo T (fun q => inB (c.take j) (nameAt (L.map (·.mod)) q)) i L.length) (nameAt (L.map (·.mod))) L.length b) : ∃ bi : Nat, bi < L.length ∧ b = (bi : Int) ∧ c[j]? = some (nameAt (L.map (·.mod)) bi) := by
  have hd := chk_nodup h0
  have hst := (order_stands .nil hc).1
  obtain ⟨m, hf, hcj⟩ := order_at .nil hc j (Nat.zero_le _) hj
  have hrise := risen_rising (L := L) (by rw [List.map_map] at hd; exact hd)
  have hmR := List.mem_of_find?_eq_some hf
  have hmay := List.find?_some hf
  obtain ⟨im, him, himm, himn⟩ := nameAt_mem ((risen_perm L).mem_iff.1 hmR)
  have him' : im < L.length := by simpa using him
  have key : ∀ (i : Nat) (x : Mod), (L.map (·.mod))[i]? = some x → (okTo T (fun q => inB (c.take j) (nameAt (L.map (·.mod)) q)) i L.length = true ↔ mayB (risen L) (c.take j) x = true) := by
    intro i x hx
    have hil : i < L.length := by have := (List.getElem?_eq_some_iff.1 hx).1; simpa using this
    rw [okTo_iff, may_iff, nameAt_some hx, ← Bool.not_eq_true, inB_iff]
    constructor
    · rintro ⟨h1, h2⟩
      refine ⟨h1, fun o ho ha => ?_⟩
      obtain ⟨q, hq, hqo, hqn⟩ := nameAt_mem ((risen_perm L).mem_iff.1 ho)
      have hq' : q < L.length := by simpa using hq
      have := h2 q hq' ((hT i q hil hq').2 (.one ⟨x, o, hx, hqo, ha⟩))
      rw [inB_iff, hqn] at this
      exact this
    · rintro ⟨h1, h2⟩
      refine ⟨h1, fun q hq ht => ?_⟩
      rw [inB_iff]
      have hv := (hT i q hil hq).1 ht
      have one : ∀ k, Next nxNeed (L.map (·.mod)) i k → nameAt (L.map (·.mod)) k ∈ c.take j := by
        rintro k ⟨x', y, hx', hy, hxy⟩
        rw [hx] at hx'
        injection hx' with hx'
        subst hx'
        rw [nameAt_some hy]
        exact h2 y ((risen_perm L).mem_iff.2 (List.mem_of_getElem? hy)) hxy
      refine Via.closed (S := fun k => nameAt (L.map (·.mod)) k ∈ c.take j) one (fun a k ha he => ?_) hv
      obtain ⟨p, hp, hpe⟩ := List.mem_take_iff_getElem.1 ha
      have hpc : p < c.length := by omega
      have h3 := hst.via (risen_perm L) hd (.one he) p (by rw [List.getElem?_eq_getElem hpc, hpe])
      exact List.mem_of_mem_take (i := p) (by
        rw [List.take_take, show min p j = p by omega]
        exact h3)
  have hokm := (key im m himm).2 hmay
  rcases hb with ⟨_, hn⟩ | ⟨bi, hbi, rfl, hok, hmin⟩
  · have h := hn im him'
    dsimp only at h
    rw [hokm] at h
    cases h
  · refine ⟨bi, hbi, rfl, ?_⟩
    have hbi' : bi < (L.map (·.mod)).length := by simpa using hbi
    obtain ⟨x, hxm, hxb, hxn⟩ := mem_nameAt hbi'
    have hxmay := (key bi x hxb).1 hok
    rcases find_least hrise hf x ((risen_perm L).mem_iff.2 hxm) hxmay with rfl | ha
    · rw [hcj, hxn]
    · have := hmin im him' hokm
      rw [himn, hxn] at this
      exact absurd ha this

end Go.Proofs.Ytaklbnabgcglhab

/- The contract of the document's OrderOf. -/
namespace Go.Proofs.Ytaklbnabgcglhab
open Go.RowKit Go.PlainAid

set_option maxRecDepth 100000

/-- A row of truths in one block. -/
def BoolsAt (W : World) (g n : Nat) (D : Nat → Bool) : Prop := ∃ cs, CellsAt W g 4 cs ∧ ∀ i, i < n → cs[i]? = some (.bool (D i))
theorem BoolsAt.cell {W : World} {g n : Nat} {D : Nat → Bool} (h : BoolsAt W g n D) {i : Nat} (hi : i < n) : W.cell? ⟨g, i, none⟩ = some (.bool (D i)) ∧ W.frozen? ⟨g, i, none⟩ = false := by
  obtain ⟨cs, h1, h2⟩ := h
  exact ⟨(h1.cell i).trans (h2 i hi), h1.frozen i⟩
theorem BoolsAt.lt {W : World} {g n : Nat} {D : Nat → Bool} (h : BoolsAt W g n D) : g < W.heap.size := by
  obtain ⟨cs, h1, _⟩ := h
  exact h1.lt
theorem BoolsAt.below {W W' : World} {g n m : Nat} {D : Nat → Bool} (h : BoolsAt W g n D) (hb : Below m W W') (hg : g < m) : BoolsAt W' g n D := by
  obtain ⟨cs, h1, h2⟩ := h
  exact ⟨cs, h1.below hb hg, h2⟩
theorem BoolsAt.kept {W W' : World} {g n : Nat} {row : Option Nat} {D : Nat → Bool} (h : BoolsAt W g n D) (hg : W.grownBy W' row) (hne : some g ≠ row) : BoolsAt W' g n D := by
  obtain ⟨cs, h1, h2⟩ := h
  exact ⟨cs, h1.kept hg hne, h2⟩
theorem BoolsAt.set {W : World} {g n i : Nat} {D D' : Nat → Bool} (h : BoolsAt W g n D) (hi : i < n) (b : Bool) (hD : ∀ q, q < n → D' q = if q = i then b else D q) : BoolsAt (W.setCell ⟨g, i, none⟩ (.bool b)) g n D' := by
  obtain ⟨cs, h1, h2⟩ := h
  refine ⟨_, h1.set i (.bool b), fun q hq => ?_⟩
  rw [Array.getElem?_setIfInBounds, hD q hq]
  by_cases e : i = q
  · subst e
    have hs : i < cs.size := (Array.getElem?_eq_some_iff.1 (h2 i hi)).1
    rw [if_pos rfl, if_pos hs, if_pos rfl]
  · rw [if_neg e, if_neg (fun h => e h.symm)]
    exact h2 q hq
theorem BoolsAt.of_own {W : World} {base g n cap : Nat} (h : W.ownsRow base 4 1 (.slice (some ⟨g, 0, none⟩) n cap) n (List.replicate n (.bool false))) : BoolsAt W g n (fun _ => false) ∧ base ≤ g := by
  rcases h.2 with ⟨e, _⟩ | ⟨g', cap', cur, e, hg, hc, _⟩
  · cases e
  · injection e with e1 _ _
    injection e1 with e1
    injection e1 with e1
    subst e1
    refine ⟨⟨cur, hc, fun i hi => ?_⟩, hg⟩
    have h2 := h.cells (g := g) rfl i (.bool false) (by rw [List.getElem?_replicate, if_pos hi])
    rw [addr_add0] at h2
    exact (CellsAt.cell (t := 4) (cs := cur) hc i).symm.trans h2
/-- The table stays where another block of truths is written. -/
theorem MatAt.other {W : World} {base n : Nat} {v : Value} {T : Nat → Nat → Bool} (h : MatAt W base n v T) {g : Nat} (hg : ∀ (go co i : Nat), v = .slice (some ⟨go, 0, none⟩) n co → i < n → ∀ c, W.cell? ⟨go, i, none⟩ ≠ some (.slice (some ⟨g, 0, none⟩) n c)) {D : Nat → Bool} (hb : BoolsAt W g n D) (i : Nat) (b : Bool) : MatAt (W.setCell ⟨g, i, none⟩ (.bool b)) base n v T := by
  obtain ⟨vs, h1, h2, h3⟩ := h
  obtain ⟨cs, hc, _⟩ := hb
  have hgr := grown_set W g i (.bool b)
  refine ⟨vs, h1, h2.kept hgr (.inr fun e => own_type_ne h2 hc (by decide) e.symm), ⟨fun j v' hj => ?_, h3.apart⟩⟩
  obtain ⟨g2, c2, cs2, f1, f2, f3, f4, f5⟩ := h3.row j v' hj
  have hjn : j < n := by have := (List.getElem?_eq_some_iff.1 hj).1; omega
  have hne : some g2 ≠ some g := fun e => by
    injection e with e
    subst e
    rcases h2.2 with ⟨_, h0⟩ | ⟨go, co, cur, rfl, _⟩
    · omega
    · have h6 := h2.cells (g := go) rfl j _ hj
      rw [addr_add0, f1] at h6
      exact hg go co j rfl hjn c2 h6
  exact ⟨g2, c2, cs2, f1, f2, Nat.lt_of_lt_of_le f3 hgr.size, f4.kept hgr hne, f5⟩

end Go.Proofs.Ytaklbnabgcglhab

/- The contract of the document's OrderOf. -/
namespace Go.Proofs.Ytaklbnabgcglhab
open Go.RowKit Go.PlainAid

set_option maxRecDepth 100000

theorem made_false (n : Nat) : (madeCells (Value.bool false).cells (n * 1)).toList = List.replicate n (.bool false) := by
  rw [Nat.mul_one]
  exact toList_madeCells_one _ _
theorem inB_snoc {c : List ByteArray} {j bi : Nat} {nA : Nat → ByteArray} {n : Nat} (hinj : ∀ i k, i < n → k < n → nA i = nA k → i = k) (hb : bi < n) (hc : c[j]? = some (nA bi)) : ∀ q, q < n → inB (c.take (j + 1)) (nA q) = if q = bi then true else inB (c.take j) (nA q) := by
  intro q hq
  have htk : c.take (j + 1) = c.take j ++ [nA bi] := by rw [List.take_add_one, hc]; rfl
  rw [htk, Bool.eq_iff_iff, inB_iff, List.mem_append, List.mem_singleton]
  by_cases e : q = bi
  · subst e
    rw [if_pos rfl]
    exact ⟨fun _ => rfl, fun _ => .inr rfl⟩
  · rw [if_neg e, inB_iff]
    constructor
    · rintro (h | h)
      · exact h
      · exact absurd (hinj q bi hq hb h) e
    · exact fun h => .inl h

set_option maxHeartbeats 8000000 in
theorem orderOf_any (l : List PV) (v : Value) (w : World) (hrow : IsPlcs w.heap.size w v l) (hfit : ∀ x ∈ l, x.mod.fits) (h0 : chkGraph (l.map PV.plc) = 0) (c : List ByteArray) (hc : orderFrom (risen (l.map PV.plc)) (risen (l.map PV.plc)).length [] = some c) :
    Calls Try.prog 34 #[v] w fun e w' => (∃ r, e = .returned r ∧ RowOf 1 strCell w'.heap.size w' r c) ∧ Below w.heap.size w w' := by
  have hmm : (l.map PV.plc).map (·.mod) = l.map (·.mod) := by rw [List.map_map]; rfl
  have hcl : c.length = l.length := by
    have := (order_stands .nil hc).2.1
    rw [(risen_perm (l.map PV.plc)).length_eq] at this
    simpa using this
  have h8 : l.length ≤ 8 := by simpa using (chkGraph_zero.1 h0).1
  have HR : Hid (Calls Try.prog 66 #[v] w fun e w' => (∃ r T, e = .returned r ∧ MatAt w' w.heap.size l.length r T ∧ ∀ a b, a < l.length → b < l.length → (T a b = true ↔ Via (Next nxNeed (l.map (·.mod))) a b)) ∧ Below w.heap.size w w') := reach_any l v w hrow h8
  have HPK : Hid (∀ T, (∀ a b, a < l.length → b < l.length → (T a b = true ↔ Via (Next nxNeed (l.map (·.mod))) a b)) → ∀ j, j < l.length → ∀ b, BestTo (fun i => okTo T (fun q => inB (c.take j) (nameAt (l.map (·.mod)) q)) i l.length) (nameAt (l.map (·.mod))) l.length b → ∃ bi : Nat, bi < l.length ∧ b = (bi : Int) ∧ c[j]? = some (nameAt (l.map (·.mod)) bi)) := fun T hT j hj b hb => by
    have := order_pick h0 hc (T := T) (by rw [hmm]; simpa using hT) (j := j) (by omega) (b := b) (by rw [hmm, List.length_map]; exact hb)
    rw [hmm] at this
    simpa using this
  have HNM : Hid (∀ (k : Nat) (x : PV), l[k]? = some x → nameAt (l.map (·.mod)) k = x.mod.name) := fun k x hx => nameAt_some (by rw [List.getElem?_map, hx]; rfl)
  have HINJ : Hid (∀ i k, i < l.length → k < l.length → nameAt (l.map (·.mod)) i = nameAt (l.map (·.mod)) k → i = k) := fun i k hi hk h => by
    have hd := chk_nodup h0
    rw [hmm] at hd
    exact nameAt_inj hd (by simpa using hi) (by simpa using hk) h
  have HFT : Hid (∀ (k : Nat) (x : PV), l[k]? = some x → x.mod.name.size ≤ 9223372036854775807) := fun k x hx => (hfit x (List.mem_of_getElem? hx)).1
  obtain ⟨⟨a, cap, rfl, hmax, hcells⟩, _⟩ := hrow
  have HCL : Hid (∀ (k : Nat), k < l.length → ∃ b off, a = some ⟨b, off, none⟩ ∧ b < w.heap.size ∧ ∀ (q : Nat) (x : PV), l[q]? = some x → w.cell? ⟨b, off + q * 8, none⟩ = some (.string x.mod.name)) := fun k hk => by
    rcases hcells with h | ⟨b, off, rfl, hbn, hcells⟩
    · subst h; simp at hk
    · exact ⟨b, off, rfl, hbn, fun q x hx => hcells q x hx 0 (by omega)⟩
  have HEX : Hid (∀ k, k < l.length → ∃ x : PV, l[k]? = some x) := fun k hk => ⟨_, List.getElem?_eq_getElem hk⟩
  clear hcells hfit h0 hc hmm
  generalize Via (Next nxNeed (l.map (·.mod))) = V at *
  generalize nameAt (l.map (·.mod)) = nA at *
  generalize hnn : l.length = n at *
  clear hnn
  obtain ⟨is, his, hs0, hs1, hs2⟩ := infoStr_parts
  obtain ⟨ib, hib, hb0, hb1, hb2⟩ := infoBool_parts
  go_enter Try.func34, Try.ntmps34
  go_wp2_with fail
  refine HR.out.mono ?_
  rintro e w2 ⟨⟨r, T, rfl, hM, hT⟩, B2⟩
  clear HR
  have HM : Hid (MatAt w2 w.heap.size n r T) := hM
  have HPT : Hid (∀ j, j < n → ∀ b, BestTo (fun i => okTo T (fun q => inB (c.take j) (nA q)) i n) nA n b → ∃ bi : Nat, bi < n ∧ b = (bi : Int) ∧ c[j]? = some (nA bi)) := HPK.out T hT
  obtain ⟨ar, cr, rfl⟩ : ∃ ar cr, r = .slice ar n cr := by
    obtain ⟨vs, _, h2, _⟩ := hM
    exact own_form h2
  clear hT hM HPK
  go_wp2_with (at_make; refine wpList_make_full _ rfl _ _ _ rfl w2.heap.size 4 ib _ 1 Try.underlying100 hib hb0 hb1 .i64 .i64 _ _ n rfl rfl rfl rfl (by rw [hb2]; omega) (by unfold maxLen; omega) (Nat.le_refl _) ?_; intro w3 hown3 hgr3)
  rw [made_false] at hown3
  obtain ⟨hD3, _⟩ := BoolsAt.of_own hown3
  have HD3 : Hid (BoolsAt w3 w2.heap.size n (fun _ => false)) := hD3
  have B3 : Below w2.heap.size w2 w3 := (Below.refl _ _).grown hgr3 (Nat.le_refl _) (fun k hk => by cases hk)
  have HB3 : Hid (Below w2.heap.size w2 w3) := B3
  have HS3 : Hid (w2.heap.size + 1 ≤ w3.heap.size) := hD3.lt
  clear hown3 hD3 hgr3 B3
  go_wp2_with fail
  go_loopg [5] n (fun gk o wr => ∃ (j : Nat), Hid (gk = n - j) ∧ j ≤ n ∧ wr.ownsRow (w2.heap.size + 1) 9 1 o j ((c.take j).flatMap strC) ∧ Hid (BoolsAt wr w2.heap.size n (fun q => inB (c.take j) (nA q))) ∧ Below w2.heap.size w2 wr)
  case atStart => exact ⟨0, (by simp : n = n - 0), Nat.zero_le _, ⟨rfl, .inl ⟨rfl, rfl⟩⟩, HD3.out, HB3.out⟩
  case round =>
    obtain ⟨j, HGK, hj, hown, HDN, B⟩ := hrel
    obtain ⟨wo, hwo⟩ : ∃ wo, wo = wr := ⟨_, rfl⟩
    subst hwo
    clear HD3 HB3
    obtain ⟨ao, ko, rfl⟩ := own_form hown
    have HOW : Hid (wo.ownsRow (w2.heap.size + 1) 9 1 (.slice ao j ko) j ((c.take j).flatMap strC)) := hown
    have HB0 : Hid (Below w2.heap.size w2 wo) := B
    have HBW : Hid (Below w.heap.size w wo) := B2.trans (B.mono B2.size)
    by_cases hlt : j < n
    · have HPJ : Hid (∀ b, BestTo (fun i => okTo T (fun q => inB (c.take j) (nA q)) i n) nA n b → ∃ bi : Nat, bi < n ∧ b = (bi : Int) ∧ c[j]? = some (nA bi)) := HPT.out j hlt
      obtain ⟨DJ, hDJ⟩ : ∃ DJ : Nat → Bool, DJ = fun q => inB (c.take j) (nA q) := ⟨_, rfl⟩
      have HDJ : Hid (DJ = fun q => inB (c.take j) (nA q)) := hDJ
      rw [← hDJ] at HPJ HDN
      obtain ⟨b, off, rfl, hbn, hcx⟩ := HCL.out j hlt
      have HCX : Hid (∀ (q : Nat) (x : PV), l[q]? = some x → w.cell? ⟨b, off + q * 8, none⟩ = some (.string x.mod.name)) := hcx
      have hgd : w2.heap.size < wo.heap.size := HDN.out.lt
      clear hDJ hown B hcx HCL
      go_wp2_with fail
      go_loopw [6, 7] (fun bq iq wi => ∃ (i : Nat) (bb : Int), i ≤ n ∧ iq = .int .i64 i ∧ bq = .int .i64 bb ∧ Hid (BestTo (fun i => okTo T DJ i n) nA i bb) ∧ Below wo.heap.size wo wi) (fun _ iq _ => n - (intOf iq).toNat)
      case atStart => exact ⟨0, -1, Nat.zero_le _, rfl, rfl, BestTo.start _ _, Below.refl _ _⟩
      case round =>
        obtain ⟨i, bb, hi, rfl, rfl, HBT, BI⟩ := hrel
        by_cases hlti : i < n
        · have hdi := ((HDN.out.below BI hgd).cell hlti).1
          have hgdw : w2.heap.size < wr.heap.size := Nat.lt_of_lt_of_le hgd BI.size
          have hlti' : (i : Int) < (n : Int) := by omega
          have HZ : Hid (okTo T DJ i 0 = !DJ i) := okTo_zero T DJ i
          obtain ⟨wi, hwi⟩ : ∃ wi, wi = wr := ⟨_, rfl⟩
          subst hwi
          have HBI : Hid (Below wo.heap.size wo wi) := BI
          clear BI
          go_wp2_with fail
          rw [← HZ.out]
          go_loopw [8, 9] (fun ok kq wk => ∃ (k : Nat), k ≤ n ∧ kq = .int .i64 k ∧ ok = .bool (okTo T DJ i k) ∧ Below wo.heap.size wo wk) (fun _ kq _ => n - (intOf kq).toNat)
          case atStart => exact ⟨0, Nat.zero_le _, rfl, rfl, HBI.out⟩
          case round =>
            obtain ⟨k, hk, rfl, rfl, BK⟩ := hrel
            clear HZ hdi
            by_cases hltk : k < n
            · obtain ⟨go, co, hv, hbg, hgl, gs, cs, hall⟩ := ((HM.out.below HB0.out).below BK).at (by omega)
              injection hv with e1 _ e3
              subst e1 e3
              obtain ⟨ri, _, li, ri4⟩ := hall i hlti
              have cik := (ri4 k hltk).1
              have cdk := ((HDN.out.below BK hgd).cell hltk).1
              have hgdw2 : w2.heap.size < wr.heap.size := Nat.lt_of_lt_of_le hgd BK.size
              have hltk' : (k : Int) < (n : Int) := by omega
              have HSU : Hid (okTo T DJ i (k + 1) = (okTo T DJ i k && (!T i k || DJ k))) := okTo_succ T DJ i k
              clear hall ri4
              generalize gs i = gi at *
              generalize cs i = ci at *
              generalize okTo T DJ i k = t0 at *
              generalize T i k = t1 at *
              generalize DJ k = t2 at *
              have HSV : Hid (∀ v, v = Value.bool (t0 && (!t1 || t2)) → v = Value.bool (okTo T DJ i (k + 1))) := fun v h => by rw [h, HSU.out]
              clear HSU
              cases t0
              · go_wp2
                exact ⟨⟨k + 1, by omega, by go_num, HSV.out _ rfl, BK⟩, by simp [intOf]; omega⟩
              · cases t1
                · go_wp2
                  exact ⟨⟨k + 1, by omega, by go_num, HSV.out _ rfl, BK⟩, by simp [intOf]; omega⟩
                · go_wp2
                  exact ⟨⟨k + 1, by omega, by go_num, HSV.out _ (by cases t2 <;> rfl), BK⟩, by simp [intOf]; omega⟩
            · obtain rfl : k = n := by omega
              obtain ⟨x, hx⟩ := HEX.out i hlti
              have BWK := HBW.out.trans (BK.mono HBW.out.size)
              have cxi := (BWK.cell (p := ⟨b, off + i * 8, none⟩) hbn).trans (HCX.out i x hx)
              have hbw : b < wr.heap.size := Nat.lt_of_lt_of_le hbn BWK.size
              have hni := HNM.out i x hx
              have hfi := HFT.out i x hx
              rw [← hni] at cxi hfi
              clear hx hni
              cases ht : okTo T DJ i k
              · have HB1 : Hid (BestTo (fun i => okTo T DJ i k) nA (i + 1) bb) := HBT.out.no ht
                clear ht HBT
                go_wp2_with fail
                go_quiet (fail)
                have BQ := below_drewN BK
                go_wp2
                exact ⟨⟨i + 1, bb, by omega, by go_num, rfl, HB1.out, BQ _⟩, by simp [intOf]; omega⟩
              · rcases HBT.out.lt with rfl | ⟨bi, hbi, rfl⟩
                · have HB1 : Hid (BestTo (fun i => okTo T DJ i k) nA (i + 1) (i : Int)) := HBT.out.first ht
                  clear ht HBT
                  go_wp2_with fail
                  go_quiet (fail)
                  have BQ := below_drewN BK
                  go_wp2
                  exact ⟨⟨i + 1, i, by omega, by go_num, rfl, HB1.out, BQ _⟩, by simp [intOf]; omega⟩
                · obtain ⟨y, hy⟩ := HEX.out bi (by omega)
                  have cyi := (BWK.cell (p := ⟨b, off + bi * 8, none⟩) hbn).trans (HCX.out bi y hy)
                  rw [← HNM.out bi y hy] at cyi
                  have HTL : Hid (∀ q, Calls Try.prog 68 #[.string (nA i), .string (nA bi)] (wr.drewN q) fun e w' => e = .returned (.bool (lessT (nA i) (nA bi))) ∧ ∃ m, w' = (wr.drewN q).drewN m) := fun q => textLess_any _ _ _ hfi
                  have hbl : (bi : Int) < (k : Int) := by omega
                  have hb0' : decide ((bi : Int) < 0) = false := decide_eq_false (by omega)
                  clear hy
                  cases hl : lessT (nA i) (nA bi)
                  · rw [hl] at HTL
                    have HB1 : Hid (BestTo (fun i => okTo T DJ i k) nA (i + 1) (bi : Int)) := HBT.out.keep (lessT_false hl)
                    clear hl ht HBT
                    go_wp2_with fail
                    go_quiet ((go_at_call 68; go_must (refine Calls.quiet_of (HTL.out _))))
                    have BQ := below_drewN BK
                    go_wp2
                    exact ⟨⟨i + 1, bi, by omega, by go_num, rfl, HB1.out, BQ _⟩, by simp [intOf]; omega⟩
                  · rw [hl] at HTL
                    have HB1 : Hid (BestTo (fun i => okTo T DJ i k) nA (i + 1) (i : Int)) := HBT.out.less ht (lessT_true hl)
                    clear hl ht HBT
                    go_wp2_with fail
                    go_quiet ((go_at_call 68; go_must (refine Calls.quiet_of (HTL.out _))))
                    have BQ := below_drewN BK
                    go_wp2
                    exact ⟨⟨i + 1, i, by omega, by go_num, rfl, HB1.out, BQ _⟩, by simp [intOf]; omega⟩
        · obtain rfl : i = n := by omega
          obtain ⟨bi, hbi, rfl, hcj⟩ := HPJ.out bb HBT.out
          have BW2 := HBW.out.trans (BI.mono HBW.out.size)
          obtain ⟨y, hy⟩ := HEX.out bi hbi
          have hw2 : w.heap.size ≤ w2.heap.size := B2.size
          have BS : Below w.heap.size w (wr.setCell ⟨w2.heap.size, bi, none⟩ (.bool true)) := BW2.setCell hw2 _
          have cy := (BS.cell (p := ⟨b, off + bi * 8, none⟩) hbn).trans (HCX.out bi y hy)
          rw [← HNM.out bi y hy] at cy
          have hdn := HDN.out.below BI hgd
          obtain ⟨cd, fd⟩ := hdn.cell hbi
          have hsz : (wr.setCell ⟨w2.heap.size, bi, none⟩ (.bool true)).heap.size = wr.heap.size := by simp [World.setCell]
          have hbw : b < wr.heap.size := Nat.lt_of_lt_of_le hbn BW2.size
          have hgdw : w2.heap.size < wr.heap.size := hdn.lt
          have hbl : (bi : Int) < (i : Int) := by omega
          have ow := own_below HOW.out BI
          have ownS := ow.kept (grown_set wr w2.heap.size bi (.bool true)) (.inr fun e => by have := own_block ow _ e; omega)
          have HSB : Hid (BoolsAt (wr.setCell ⟨w2.heap.size, bi, none⟩ (.bool true)) w2.heap.size i (fun q => inB (c.take (j + 1)) (nA q))) := hdn.set hbi true (fun q hq => by
            have hd := HDJ.out
            subst hd
            exact inB_snoc HINJ.out hbi hcj q hq)
          have HBS : Hid (Below w2.heap.size w2 (wr.setCell ⟨w2.heap.size, bi, none⟩ (.bool true))) := (HB0.out.trans (BI.mono (Nat.le_of_lt hgd))).setCell (Nat.le_refl _) _
          have HTK : Hid (c.take (j + 1) = c.take j ++ [nA bi]) := by
            show c.take (j + 1) = _
            rw [List.take_add_one, hcj]; rfl
          have HNEW : Hid (CellsAt ((wr.setCell ⟨w2.heap.size, bi, none⟩ (.bool true)).alloc (.cells #[.string (nA bi)] 9)) wr.heap.size 9 #[.string (nA bi)]) := by
            have := CellsAt.new (wr.setCell ⟨w2.heap.size, bi, none⟩ (.bool true)) 9 #[.string (nA bi)]
            rw [hsz] at this
            exact this
          clear hy hdn ow BW2 BI HBT hcj HPJ hsz
          go_wp2_with (at_builtin; refine wpList_append_lies _ rfl _ _ _ rfl (w2.heap.size + 1) 9 is _ 1 16 Try.underlying59 his hs0 hs1 hs2 rfl (by omega) (.slice ao j ko) j ((c.take j).flatMap strC) rfl (ownS.alloc _) ⟨wr.heap.size, 0, none⟩ 1 1 [.string (nA bi)] rfl rfl (World.news_of_block (cs := #[.string (nA bi)]) (t := 9) (fr := (0, 0)) HNEW.out) (by simp [Value.oneCell']) (by omega) (by unfold maxLen; omega) (by omega) (by simp [World.setCell]; omega) (wr.heap.size + 1) (by simp [World.setCell]) ?_; intro g gc w8 hown8 hgrow hat hltg)
          have BA := HBS.out.alloc HBS.out.size (.cells #[.string (nA bi)] 9)
          go_roundg (i - (j + 1))
          case measure =>
            have := HGK.out
            omega
          case rel =>
            refine ⟨j + 1, (rfl : i - (j + 1) = i - (j + 1)), by omega, by rw [HTK.out, List.flatMap_append]; exact hown8, ?_, BA.grown hgrow BA.size (fun q hq => by have := own_block ownS q hq; omega)⟩
            exact (HSB.out.kept (World.grownBy_alloc _ _ none) (by simp)).kept hgrow (fun e => by have := own_block ownS _ e.symm; omega)
    · obtain rfl : j = n := by omega
      have hlt' : decide ((j : Int) < (j : Int)) = false := decide_eq_false (by omega)
      have RW : RowOf 1 strCell wo.heap.size wo (.slice ao j ko) c := by
        have h1 := HOW.out
        rw [List.take_of_length_le (by omega), ← hcl] at h1
        rw [← hcl]
        exact own_rows (C := strC) (cells := strCell) (sz := 1) (fun _ => rfl) strC_at h1 (by omega)
      have HRW : Hid (RowOf 1 strCell wo.heap.size wo (.slice ao j ko) c) := RW
      clear RW hown HOW
      go_wp2
      go_ret
      exact ⟨⟨_, rfl, HRW.out⟩, HBW.out⟩

end Go.Proofs.Ytaklbnabgcglhab
