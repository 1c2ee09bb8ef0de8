/- The contract of the document's NeedsOf. -/
import Derived.Test.YtaklbnabgcglhabRfG
namespace Go.Proofs.Ytaklbnabgcglhab
open Go.RowKit Go.PlainAid

set_option maxRecDepth 100000

theorem txt_own {W : World} {base g n cap : Nat} {ss : List ByteArray} (h : W.ownsRow base 9 1 (.slice (some ⟨g, 0, none⟩) n cap) n (ss.flatMap strC)) : TxtAt W g ss ∧ base ≤ g := by
  rcases h.2 with ⟨e, _⟩ | ⟨g', cap', cur, e, hg, hc, _⟩
  · cases e
  · injection e with e1 _ _
    injection e1 with e1
    injection e1 with e1
    subst e1
    refine ⟨⟨cur, hc, fun j x hj => ?_⟩, hg⟩
    have h1 := flat_at (C := strC) (sz := 1) (fun _ => rfl) ss j x 0 hj (by omega)
    rw [Nat.mul_one, Nat.add_zero] at h1
    have h2 := h.cells (g := g) rfl j _ h1
    rw [addr_add0] at h2
    exact (CellsAt.cell (t := 9) (cs := cur) hc j).symm.trans h2
theorem txt_row {W : World} {g n cap : Nat} {ss : List ByteArray} (h : TxtAt W g ss) (hn : n = ss.length) (hl : ss.length ≤ 9223372036854775807) : RowOf 1 strCell W.heap.size W (.slice (some ⟨g, 0, none⟩) n cap) ss := by
  subst hn
  refine ⟨_, cap, rfl, hl, .inr ⟨g, 0, rfl, h.lt, fun j x hj i hi => ?_⟩⟩
  obtain rfl : i = 0 := by omega
  have := (h.cell hj).1
  rw [Nat.zero_add, Nat.mul_one, Nat.add_zero]
  exact this

set_option maxHeartbeats 8000000 in
theorem needsOf_any (l : List PV) (v : Value) (name : ByteArray) (us : Bool) (w : World) (hrow : IsPlcs w.heap.size w v l) (hfit : ∀ x ∈ l, x.mod.fits) (h8 : l.length ≤ 8) (hd : ((l.map (·.mod)).map (·.name)).Nodup) (f : Nat) (hf : f < l.length) (hix : idxFrom (fun x : PV => x.mod.name == name) 0 l = (f : Int)) :
    Calls Try.prog 33 #[v, .string name, .bool us] w fun e w' => (∃ r rs, e = .returned r ∧ RowOf 1 strCell w'.heap.size w' r rs ∧ Comes (nxOf us) (l.map (·.mod)) f rs) ∧ Below w.heap.size w w' := by
  have HR : Hid (Calls Try.prog 66 #[v] w fun e w' => (∃ r T, e = .returned r ∧ MatAt w' w.heap.size l.length r T ∧ ∀ a b, a < l.length → b < l.length → (T a b = true ↔ Via (Next nxNeed (l.map (·.mod))) a b)) ∧ Below w.heap.size w w') := reach_any l v w hrow h8
  have HP : Hid (∀ W, Below w.heap.size w W → Calls Try.prog 31 #[v, .string name] W fun e w' => e = .returned (.int .i64 (f : Int)) ∧ Below W.heap.size W w') := fun W hb => by
    have := placeOf_any l v name W ((hrow.1.below hb).more hb.size)
    rw [hix] at this
    exact this
  have HC : Hid (∀ T rs, (∀ a b, a < l.length → b < l.length → (T a b = true ↔ Via (Next nxNeed (l.map (·.mod))) a b)) → rs.Perm (pickTo (tabOf us T f) (nameAt (l.map (·.mod))) l.length) → rs.Pairwise NotBehind → Comes (nxOf us) (l.map (·.mod)) f rs) := fun T rs hT hp hu => by
    refine pick_comes hd (P := tabOf us T f) (fun k hk => tab_via hT hf (by simpa using hk) us) ?_ hu
    rw [List.length_map]
    exact hp
  have HNM : Hid (∀ k x, l[k]? = some x → nameAt (l.map (·.mod)) k = x.mod.name) := fun k x hx => nameAt_some (by rw [List.getElem?_map, hx]; rfl)
  have HFN : Hid (∀ T, ∀ x ∈ pickTo (tabOf us T f) (nameAt (l.map (·.mod))) l.length, x.size ≤ 9223372036854775807) := fun T x hx => by
    unfold pickTo at hx
    obtain ⟨k, hk, rfl⟩ := List.mem_map.1 hx
    have hkl : k < l.length := List.mem_range.1 (List.mem_filter.1 hk).1
    rw [nameAt_some (x := l[k].mod) (by rw [List.getElem?_map, List.getElem?_eq_getElem hkl]; rfl)]
    exact (hfit _ (List.getElem_mem hkl)).1
  have hat := hrow.2
  obtain ⟨⟨a, cap, rfl, hmax, hcells⟩, _⟩ := hrow
  rcases hcells with h | ⟨b, off, rfl, hbn, hcells⟩
  · subst h; simp at hf
  have HCL : Hid (∀ (k : Nat) (x : PV), l[k]? = some x → w.cell? ⟨b, off + k * 8, none⟩ = some (.string x.mod.name)) := fun k x hx => hcells k x hx 0 (by omega)
  have HEX : Hid (∀ k, k < l.length → ∃ x : PV, l[k]? = some x) := fun k hk => ⟨_, List.getElem?_eq_getElem hk⟩
  clear hat hcells hix hd hfit
  generalize Comes (nxOf us) (l.map (·.mod)) f = CM at *
  generalize Via (Next nxNeed (l.map (·.mod))) = V at *
  generalize nameAt (l.map (·.mod)) = nA at *
  generalize hnn : l.length = n at *
  clear hnn
  obtain ⟨is, his, hs0, hs1, hs2⟩ := infoStr_parts
  go_enter Try.func33, Try.ntmps33
  go_wp2_with fail
  refine HR.out.mono ?_
  rintro e w2 ⟨⟨r, T, rfl, hM, hT⟩, B2⟩
  clear HR
  have HT : Hid (∀ rs, rs.Perm (pickTo (tabOf us T f) nA n) → rs.Pairwise NotBehind → CM rs) := fun rs h1 h2 => HC.out T rs hT h1 h2
  have HM : Hid (MatAt w2 w.heap.size n r T) := hM
  obtain ⟨ar, cr, rfl⟩ : ∃ ar cr, r = .slice ar n cr := by
    obtain ⟨vs, _, h2, _⟩ := hM
    exact own_form h2
  have HFT := HFN.out T
  have HFT2 : Hid (∀ x ∈ pickTo (tabOf us T f) nA n, x.size ≤ 9223372036854775807) := HFT
  clear hT hM HC HFN HFT
  go_wp2_with fail
  refine (HP.out _ B2).mono ?_
  rintro e w3 ⟨rfl, b3⟩
  have HM3 : Hid (MatAt w3 w.heap.size n (.slice ar n cr) T) := HM.out.below b3
  have B3 := B2.trans (b3.mono B2.size)
  clear HM HP b3 B2
  have hf' : (f : Int) < (n : Int) := by omega
  go_wp2_with fail
  go_loopw [9, 10] (fun o q wr => ∃ (k m : Nat), k ≤ n ∧ q = .int .i64 k ∧ m ≤ k ∧ Hid (m = (pickTo (tabOf us T f) nA k).length) ∧ wr.ownsRow w3.heap.size 9 1 o m ((pickTo (tabOf us T f) nA k).flatMap strC) ∧ Below w3.heap.size w3 wr) (fun _ q _ => n - (intOf q).toNat)
  case atStart => exact ⟨0, 0, Nat.zero_le _, rfl, Nat.le_refl _, (rfl : 0 = 0), ⟨rfl, .inl ⟨rfl, rfl⟩⟩, Below.refl _ _⟩
  case round =>
    obtain ⟨k, m, hk, rfl, hmk, HL, hown, B⟩ := hrel
    obtain ⟨av, kv, rfl⟩ := own_form hown
    have BW : Below w.heap.size w wr := B3.trans (B.mono B3.size)
    by_cases hlt : k < n
    · obtain ⟨go, co, hv, hbg, hgl, gs, cs, hall⟩ := (HM3.out.below B).at (by omega)
      injection hv with e1 _ e3
      subst e1 e3
      obtain ⟨rk, _, lk, rk4⟩ := hall k hlt
      obtain ⟨rf, _, lf, rf4⟩ := hall f hf
      have ckf := (rk4 f hf).1
      have cfk := (rf4 k hlt).1
      obtain ⟨x, hx⟩ := HEX.out k hlt
      have cx := (BW.cell (p := ⟨b, off + k * 8, none⟩) hbn).trans (HCL.out k x hx)
      have hnk := HNM.out k x hx
      have hps := pickTo_succ (tabOf us T f) nA k
      rw [hnk] at hps
      have hbw : b < wr.heap.size := Nat.lt_of_lt_of_le hbn BW.size
      have hlt' : (k : Int) < (n : Int) := by omega
      have HPS : Hid (pickTo (tabOf us T f) nA (k + 1) = if tabOf us T f k = true then pickTo (tabOf us T f) nA k ++ [x.mod.name] else pickTo (tabOf us T f) nA k) := hps
      have HTB : Hid (tabOf us T f k = if us then T k f else T f k) := (rfl : _ = _)
      have HBB : Hid (Below w3.heap.size w3 wr) := B
      have HSZ : Hid (w3.heap.size ≤ wr.heap.size) := B.size
      clear hall rk4 rf4 hps hnk hx B BW
      generalize gs k = gk at *
      generalize gs f = gf at *
      generalize cs k = ck at *
      generalize cs f = cf at *
      generalize x.mod.name = xn at *
      generalize pickTo (tabOf us T f) nA k = acc at *
      generalize tabOf us T f k = tt at *
      generalize T k f = t1 at *
      generalize T f k = t2 at *
      have go_no : tt = false → pickTo (tabOf us T f) nA (k + 1) = acc := fun h => by rw [HPS.out, h]; rfl
      have go_yes : tt = true → pickTo (tabOf us T f) nA (k + 1) = acc ++ [xn] := fun h => by rw [HPS.out, if_pos h]
      have HNO : Hid (tt = false → pickTo (tabOf us T f) nA (k + 1) = acc) := go_no
      have HYES : Hid (tt = true → pickTo (tabOf us T f) nA (k + 1) = acc ++ [xn]) := go_yes
      clear go_no go_yes HPS
      cases us
      · have htt : tt = t2 := HTB.out
        subst htt
        clear HTB
        cases tt
        · go_wp2
          exact ⟨⟨k + 1, m, by omega, by go_num, by omega, by rw [HNO.out (by first | rfl | trivial)]; exact HL.out, by rw [HNO.out (by first | rfl | trivial)]; exact hown, HBB.out⟩, by simp [intOf]; omega⟩
        · go_wp2_with (at_builtin; refine wpList_append_lies _ rfl _ _ _ rfl w3.heap.size 9 is _ 1 16 Try.underlying59 his hs0 hs1 hs2 rfl (by omega) (.slice av m kv) m (acc.flatMap strC) rfl (hown.alloc _) ⟨wr.heap.size, 0, none⟩ 1 1 [.string xn] rfl rfl (World.news_of_block (cs := #[.string xn]) (t := 9) (fr := (0, 0)) (CellsAt.new wr 9 #[.string xn])) (by simp [Value.oneCell']) (by omega) (by unfold maxLen; omega) (by omega) (by have := HSZ.out; simp; omega) (wr.heap.size + 1) (by simp) ?_; intro g gc w8 hown8 hgrow hat hltg)
          have BA := HBB.out.alloc HBB.out.size (.cells #[.string xn] 9)
          have hy := HYES.out (by first | rfl | trivial)
          exact ⟨⟨k + 1, m + 1, by omega, by go_num, by omega, by rw [hy, List.length_append, ← HL.out]; rfl, by rw [hy, List.flatMap_append]; exact hown8, BA.grown hgrow BA.size (fun i hi => own_block hown i hi)⟩, by simp [intOf]; omega⟩
      · have htt : tt = t1 := HTB.out
        subst htt
        clear HTB
        cases tt
        · go_wp2
          exact ⟨⟨k + 1, m, by omega, by go_num, by omega, by rw [HNO.out (by first | rfl | trivial)]; exact HL.out, by rw [HNO.out (by first | rfl | trivial)]; exact hown, HBB.out⟩, by simp [intOf]; omega⟩
        · go_wp2_with (at_builtin; refine wpList_append_lies _ rfl _ _ _ rfl w3.heap.size 9 is _ 1 16 Try.underlying59 his hs0 hs1 hs2 rfl (by omega) (.slice av m kv) m (acc.flatMap strC) rfl (hown.alloc _) ⟨wr.heap.size, 0, none⟩ 1 1 [.string xn] rfl rfl (World.news_of_block (cs := #[.string xn]) (t := 9) (fr := (0, 0)) (CellsAt.new wr 9 #[.string xn])) (by simp [Value.oneCell']) (by omega) (by unfold maxLen; omega) (by omega) (by have := HSZ.out; simp; omega) (wr.heap.size + 1) (by simp) ?_; intro g gc w8 hown8 hgrow hat hltg)
          have BA := HBB.out.alloc HBB.out.size (.cells #[.string xn] 9)
          have hy := HYES.out (by first | rfl | trivial)
          exact ⟨⟨k + 1, m + 1, by omega, by go_num, by omega, by rw [hy, List.length_append, ← HL.out]; rfl, by rw [hy, List.flatMap_append]; exact hown8, BA.grown hgrow BA.size (fun i hi => own_block hown i hi)⟩, by simp [intOf]; omega⟩
    · obtain rfl : k = n := by omega
      have hlt' : decide ((k : Int) < (k : Int)) = false := decide_eq_false (by omega)
      by_cases hm0 : m = 0
      · subst hm0
        have hnil : pickTo (tabOf us T f) nA k = [] := List.length_eq_zero_iff.1 HL.out.symm
        have HCM : Hid (CM []) := HT.out [] (by rw [hnil]) .nil
        clear hown HL hnil
        go_wp2_with (go_at_call 67; refine (sortTexts_none _ _ _).mono ?_; rintro e w' ⟨rfl, rfl⟩)
        go_ret
        exact ⟨⟨_, [], rfl, ⟨_, kv, rfl, by simp, .inl rfl⟩, HCM.out⟩, BW⟩
      · obtain ⟨g, rfl⟩ : ∃ g, av = some ⟨g, 0, none⟩ := by
          rcases hown.2 with ⟨_, h⟩ | ⟨g, cap', cur, e, _⟩
          · exact absurd h hm0
          · injection e with e1 _ _
            exact ⟨g, e1⟩
        obtain ⟨ht, hg⟩ := txt_own hown
        have hST := sortTexts_any (pickTo (tabOf us T f) nA k) g kv wr ht HFT2.out (by have := pickTo_len (tabOf us T f) nA k; omega)
        rw [← HL.out] at hST
        have HST : Hid (Calls Try.prog 67 #[.slice (some ⟨g, 0, none⟩) m kv] wr fun e w' => e = .returned (.tuple #[]) ∧ ∃ ss', ss'.Perm (pickTo (tabOf us T f) nA k) ∧ ss'.Pairwise NotBehind ∧ TxtAt w' g ss' ∧ wr.grownBy w' (some g)) := hST
        have HGG : Hid (w3.heap.size ≤ g) := hg
        clear hST ht hown hg
        go_wp2_with fail
        refine HST.out.mono ?_
        rintro e w5 ⟨rfl, ss', p1, p2, p3, p4⟩
        have HF : Hid (ss'.Perm (pickTo (tabOf us T f) nA k) ∧ ss'.Pairwise NotBehind ∧ TxtAt w5 g ss' ∧ wr.grownBy w5 (some g)) := ⟨p1, p2, p3, p4⟩
        clear p1 p2 p3 p4 HST
        go_wp2
        go_ret
        obtain ⟨p1, p2, p3, p4⟩ := HF.out
        refine ⟨⟨_, ss', rfl, txt_row p3 (by rw [p1.length_eq]; exact HL.out) (by rw [p1.length_eq, ← HL.out]; omega), HT.out ss' p1 p2⟩, BW.grown p4 BW.size (fun i hi => ?_)⟩
        injection hi with hi
        have h1 := HGG.out
        have h2 := B3.size
        omega

end Go.Proofs.Ytaklbnabgcglhab
