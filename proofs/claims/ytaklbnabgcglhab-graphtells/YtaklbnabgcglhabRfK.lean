/- The contract of the document's OrderOf. -/
import Derived.Test.YtaklbnabgcglhabRfJ
import Derived.Deep.LoopGhost
namespace Go.Proofs.Ytaklbnabgcglhab
open Go.RowKit Go.PlainAid

set_option maxRecDepth 100000

theorem made_false (n : Nat) : (madeCells (Value.bool false).cells (n * 1)).toList = List.replicate n (.bool false) := by
  rw [Nat.mul_one]
  exact toList_madeCells_one _ _
theorem inB_snoc {c : List ByteArray} {j bi : Nat} {nA : Nat → ByteArray} {n : Nat} (hinj : ∀ i k, i < n → k < n → nA i = nA k → i = k) (hb : bi < n) (hc : c[j]? = some (nA bi)) : ∀ q, q < n → inB (c.take (j + 1)) (nA q) = if q = bi then true else inB (c.take j) (nA q) := by
  intro q hq
  have htk : c.take (j + 1) = c.take j ++ [nA bi] := by rw [List.take_add_one, hc]; rfl
  rw [htk, Bool.eq_iff_iff, inB_iff, List.mem_append, List.mem_singleton]
  by_cases e : q = bi
  · subst e
    rw [if_pos rfl]
    exact ⟨fun _ => rfl, fun _ => .inr rfl⟩
  · rw [if_neg e, inB_iff]
    constructor
    · rintro (h | h)
      · exact h
      · exact absurd (hinj q bi hq hb h) e
    · exact fun h => .inl h

set_option maxHeartbeats 8000000 in
theorem orderOf_any (l : List PV) (v : Value) (w : World) (hrow : IsPlcs w.heap.size w v l) (hfit : ∀ x ∈ l, x.mod.fits) (h0 : chkGraph (l.map PV.plc) = 0) (c : List ByteArray) (hc : orderFrom (risen (l.map PV.plc)) (risen (l.map PV.plc)).length [] = some c) :
    Calls Try.prog 34 #[v] w fun e w' => (∃ r, e = .returned r ∧ RowOf 1 strCell w'.heap.size w' r c) ∧ Below w.heap.size w w' := by
  have hmm : (l.map PV.plc).map (·.mod) = l.map (·.mod) := by rw [List.map_map]; rfl
  have hcl : c.length = l.length := by
    have := (order_stands .nil hc).2.1
    rw [(risen_perm (l.map PV.plc)).length_eq] at this
    simpa using this
  have h8 : l.length ≤ 8 := by simpa using (chkGraph_zero.1 h0).1
  have HR : Hid (Calls Try.prog 66 #[v] w fun e w' => (∃ r T, e = .returned r ∧ MatAt w' w.heap.size l.length r T ∧ ∀ a b, a < l.length → b < l.length → (T a b = true ↔ Via (Next nxNeed (l.map (·.mod))) a b)) ∧ Below w.heap.size w w') := reach_any l v w hrow h8
  have HPK : Hid (∀ T, (∀ a b, a < l.length → b < l.length → (T a b = true ↔ Via (Next nxNeed (l.map (·.mod))) a b)) → ∀ j, j < l.length → ∀ b, BestTo (fun i => okTo T (fun q => inB (c.take j) (nameAt (l.map (·.mod)) q)) i l.length) (nameAt (l.map (·.mod))) l.length b → ∃ bi : Nat, bi < l.length ∧ b = (bi : Int) ∧ c[j]? = some (nameAt (l.map (·.mod)) bi)) := fun T hT j hj b hb => by
    have := order_pick h0 hc (T := T) (by rw [hmm]; simpa using hT) (j := j) (by omega) (b := b) (by rw [hmm, List.length_map]; exact hb)
    rw [hmm] at this
    simpa using this
  have HNM : Hid (∀ (k : Nat) (x : PV), l[k]? = some x → nameAt (l.map (·.mod)) k = x.mod.name) := fun k x hx => nameAt_some (by rw [List.getElem?_map, hx]; rfl)
  have HINJ : Hid (∀ i k, i < l.length → k < l.length → nameAt (l.map (·.mod)) i = nameAt (l.map (·.mod)) k → i = k) := fun i k hi hk h => by
    have hd := chk_nodup h0
    rw [hmm] at hd
    exact nameAt_inj hd (by simpa using hi) (by simpa using hk) h
  have HFT : Hid (∀ (k : Nat) (x : PV), l[k]? = some x → x.mod.name.size ≤ 9223372036854775807) := fun k x hx => (hfit x (List.mem_of_getElem? hx)).1
  obtain ⟨⟨a, cap, rfl, hmax, hcells⟩, _⟩ := hrow
  have HCL : Hid (∀ (k : Nat), k < l.length → ∃ b off, a = some ⟨b, off, none⟩ ∧ b < w.heap.size ∧ ∀ (q : Nat) (x : PV), l[q]? = some x → w.cell? ⟨b, off + q * 8, none⟩ = some (.string x.mod.name)) := fun k hk => by
    rcases hcells with h | ⟨b, off, rfl, hbn, hcells⟩
    · subst h; simp at hk
    · exact ⟨b, off, rfl, hbn, fun q x hx => hcells q x hx 0 (by omega)⟩
  have HEX : Hid (∀ k, k < l.length → ∃ x : PV, l[k]? = some x) := fun k hk => ⟨_, List.getElem?_eq_getElem hk⟩
  clear hcells hfit h0 hc hmm
  generalize Via (Next nxNeed (l.map (·.mod))) = V at *
  generalize nameAt (l.map (·.mod)) = nA at *
  generalize hnn : l.length = n at *
  clear hnn
  obtain ⟨is, his, hs0, hs1, hs2⟩ := infoStr_parts
  obtain ⟨ib, hib, hb0, hb1, hb2⟩ := infoBool_parts
  go_enter Try.func34, Try.ntmps34
  go_wp2_with fail
  refine HR.out.mono ?_
  rintro e w2 ⟨⟨r, T, rfl, hM, hT⟩, B2⟩
  clear HR
  have HM : Hid (MatAt w2 w.heap.size n r T) := hM
  have HPT : Hid (∀ j, j < n → ∀ b, BestTo (fun i => okTo T (fun q => inB (c.take j) (nA q)) i n) nA n b → ∃ bi : Nat, bi < n ∧ b = (bi : Int) ∧ c[j]? = some (nA bi)) := HPK.out T hT
  obtain ⟨ar, cr, rfl⟩ : ∃ ar cr, r = .slice ar n cr := by
    obtain ⟨vs, _, h2, _⟩ := hM
    exact own_form h2
  clear hT hM HPK
  go_wp2_with (at_make; refine wpList_make_full _ rfl _ _ _ rfl w2.heap.size 4 ib _ 1 Try.underlying100 hib hb0 hb1 .i64 .i64 _ _ n rfl rfl rfl rfl (by rw [hb2]; omega) (by unfold maxLen; omega) (Nat.le_refl _) ?_; intro w3 hown3 hgr3)
  rw [made_false] at hown3
  obtain ⟨hD3, _⟩ := BoolsAt.of_own hown3
  have HD3 : Hid (BoolsAt w3 w2.heap.size n (fun _ => false)) := hD3
  have B3 : Below w2.heap.size w2 w3 := (Below.refl _ _).grown hgr3 (Nat.le_refl _) (fun k hk => by cases hk)
  have HB3 : Hid (Below w2.heap.size w2 w3) := B3
  have HS3 : Hid (w2.heap.size + 1 ≤ w3.heap.size) := hD3.lt
  clear hown3 hD3 hgr3 B3
  go_wp2_with fail
  go_loopg [5] n (fun gk o wr => ∃ (j : Nat), Hid (gk = n - j) ∧ j ≤ n ∧ wr.ownsRow (w2.heap.size + 1) 9 1 o j ((c.take j).flatMap strC) ∧ Hid (BoolsAt wr w2.heap.size n (fun q => inB (c.take j) (nA q))) ∧ Below w2.heap.size w2 wr)
  case atStart => exact ⟨0, (by simp : n = n - 0), Nat.zero_le _, ⟨rfl, .inl ⟨rfl, rfl⟩⟩, HD3.out, HB3.out⟩
  case round =>
    obtain ⟨j, HGK, hj, hown, HDN, B⟩ := hrel
    obtain ⟨wo, hwo⟩ : ∃ wo, wo = wr := ⟨_, rfl⟩
    subst hwo
    clear HD3 HB3
    obtain ⟨ao, ko, rfl⟩ := own_form hown
    have HOW : Hid (wo.ownsRow (w2.heap.size + 1) 9 1 (.slice ao j ko) j ((c.take j).flatMap strC)) := hown
    have HB0 : Hid (Below w2.heap.size w2 wo) := B
    have HBW : Hid (Below w.heap.size w wo) := B2.trans (B.mono B2.size)
    by_cases hlt : j < n
    · have HPJ : Hid (∀ b, BestTo (fun i => okTo T (fun q => inB (c.take j) (nA q)) i n) nA n b → ∃ bi : Nat, bi < n ∧ b = (bi : Int) ∧ c[j]? = some (nA bi)) := HPT.out j hlt
      obtain ⟨DJ, hDJ⟩ : ∃ DJ : Nat → Bool, DJ = fun q => inB (c.take j) (nA q) := ⟨_, rfl⟩
      have HDJ : Hid (DJ = fun q => inB (c.take j) (nA q)) := hDJ
      rw [← hDJ] at HPJ HDN
      obtain ⟨b, off, rfl, hbn, hcx⟩ := HCL.out j hlt
      have HCX : Hid (∀ (q : Nat) (x : PV), l[q]? = some x → w.cell? ⟨b, off + q * 8, none⟩ = some (.string x.mod.name)) := hcx
      have hgd : w2.heap.size < wo.heap.size := HDN.out.lt
      clear hDJ hown B hcx HCL
      go_wp2_with fail
      go_loopw [6, 7] (fun bq iq wi => ∃ (i : Nat) (bb : Int), i ≤ n ∧ iq = .int .i64 i ∧ bq = .int .i64 bb ∧ Hid (BestTo (fun i => okTo T DJ i n) nA i bb) ∧ Below wo.heap.size wo wi) (fun _ iq _ => n - (intOf iq).toNat)
      case atStart => exact ⟨0, -1, Nat.zero_le _, rfl, rfl, BestTo.start _ _, Below.refl _ _⟩
      case round =>
        obtain ⟨i, bb, hi, rfl, rfl, HBT, BI⟩ := hrel
        by_cases hlti : i < n
        · have hdi := ((HDN.out.below BI hgd).cell hlti).1
          have hgdw : w2.heap.size < wr.heap.size := Nat.lt_of_lt_of_le hgd BI.size
          have hlti' : (i : Int) < (n : Int) := by omega
          have HZ : Hid (okTo T DJ i 0 = !DJ i) := okTo_zero T DJ i
          obtain ⟨wi, hwi⟩ : ∃ wi, wi = wr := ⟨_, rfl⟩
          subst hwi
          have HBI : Hid (Below wo.heap.size wo wi) := BI
          clear BI
          go_wp2_with fail
          rw [← HZ.out]
          go_loopw [8, 9] (fun ok kq wk => ∃ (k : Nat), k ≤ n ∧ kq = .int .i64 k ∧ ok = .bool (okTo T DJ i k) ∧ Below wo.heap.size wo wk) (fun _ kq _ => n - (intOf kq).toNat)
          case atStart => exact ⟨0, Nat.zero_le _, rfl, rfl, HBI.out⟩
          case round =>
            obtain ⟨k, hk, rfl, rfl, BK⟩ := hrel
            clear HZ hdi
            by_cases hltk : k < n
            · obtain ⟨go, co, hv, hbg, hgl, gs, cs, hall⟩ := ((HM.out.below HB0.out).below BK).at (by omega)
              injection hv with e1 _ e3
              subst e1 e3
              obtain ⟨ri, _, li, ri4⟩ := hall i hlti
              have cik := (ri4 k hltk).1
              have cdk := ((HDN.out.below BK hgd).cell hltk).1
              have hgdw2 : w2.heap.size < wr.heap.size := Nat.lt_of_lt_of_le hgd BK.size
              have hltk' : (k : Int) < (n : Int) := by omega
              have HSU : Hid (okTo T DJ i (k + 1) = (okTo T DJ i k && (!T i k || DJ k))) := okTo_succ T DJ i k
              clear hall ri4
              generalize gs i = gi at *
              generalize cs i = ci at *
              generalize okTo T DJ i k = t0 at *
              generalize T i k = t1 at *
              generalize DJ k = t2 at *
              have HSV : Hid (∀ v, v = Value.bool (t0 && (!t1 || t2)) → v = Value.bool (okTo T DJ i (k + 1))) := fun v h => by rw [h, HSU.out]
              clear HSU
              cases t0
              · go_wp2
                exact ⟨⟨k + 1, by omega, by go_num, HSV.out _ rfl, BK⟩, by simp [intOf]; omega⟩
              · cases t1
                · go_wp2
                  exact ⟨⟨k + 1, by omega, by go_num, HSV.out _ rfl, BK⟩, by simp [intOf]; omega⟩
                · go_wp2
                  exact ⟨⟨k + 1, by omega, by go_num, HSV.out _ (by cases t2 <;> rfl), BK⟩, by simp [intOf]; omega⟩
            · obtain rfl : k = n := by omega
              obtain ⟨x, hx⟩ := HEX.out i hlti
              have BWK := HBW.out.trans (BK.mono HBW.out.size)
              have cxi := (BWK.cell (p := ⟨b, off + i * 8, none⟩) hbn).trans (HCX.out i x hx)
              have hbw : b < wr.heap.size := Nat.lt_of_lt_of_le hbn BWK.size
              have hni := HNM.out i x hx
              have hfi := HFT.out i x hx
              rw [← hni] at cxi hfi
              clear hx hni
              cases ht : okTo T DJ i k
              · have HB1 : Hid (BestTo (fun i => okTo T DJ i k) nA (i + 1) bb) := HBT.out.no ht
                clear ht HBT
                go_wp2_with fail
                go_quiet (fail)
                have BQ := below_drewN BK
                go_wp2
                exact ⟨⟨i + 1, bb, by omega, by go_num, rfl, HB1.out, BQ _⟩, by simp [intOf]; omega⟩
              · rcases HBT.out.lt with rfl | ⟨bi, hbi, rfl⟩
                · have HB1 : Hid (BestTo (fun i => okTo T DJ i k) nA (i + 1) (i : Int)) := HBT.out.first ht
                  clear ht HBT
                  go_wp2_with fail
                  go_quiet (fail)
                  have BQ := below_drewN BK
                  go_wp2
                  exact ⟨⟨i + 1, i, by omega, by go_num, rfl, HB1.out, BQ _⟩, by simp [intOf]; omega⟩
                · obtain ⟨y, hy⟩ := HEX.out bi (by omega)
                  have cyi := (BWK.cell (p := ⟨b, off + bi * 8, none⟩) hbn).trans (HCX.out bi y hy)
                  rw [← HNM.out bi y hy] at cyi
                  have HTL : Hid (∀ q, Calls Try.prog 68 #[.string (nA i), .string (nA bi)] (wr.drewN q) fun e w' => e = .returned (.bool (lessT (nA i) (nA bi))) ∧ ∃ m, w' = (wr.drewN q).drewN m) := fun q => textLess_any _ _ _ hfi
                  have hbl : (bi : Int) < (k : Int) := by omega
                  have hb0' : decide ((bi : Int) < 0) = false := decide_eq_false (by omega)
                  clear hy
                  cases hl : lessT (nA i) (nA bi)
                  · rw [hl] at HTL
                    have HB1 : Hid (BestTo (fun i => okTo T DJ i k) nA (i + 1) (bi : Int)) := HBT.out.keep (lessT_false hl)
                    clear hl ht HBT
                    go_wp2_with fail
                    go_quiet ((go_at_call 68; go_must (refine Calls.quiet_of (HTL.out _))))
                    have BQ := below_drewN BK
                    go_wp2
                    exact ⟨⟨i + 1, bi, by omega, by go_num, rfl, HB1.out, BQ _⟩, by simp [intOf]; omega⟩
                  · rw [hl] at HTL
                    have HB1 : Hid (BestTo (fun i => okTo T DJ i k) nA (i + 1) (i : Int)) := HBT.out.less ht (lessT_true hl)
                    clear hl ht HBT
                    go_wp2_with fail
                    go_quiet ((go_at_call 68; go_must (refine Calls.quiet_of (HTL.out _))))
                    have BQ := below_drewN BK
                    go_wp2
                    exact ⟨⟨i + 1, i, by omega, by go_num, rfl, HB1.out, BQ _⟩, by simp [intOf]; omega⟩
        · obtain rfl : i = n := by omega
          obtain ⟨bi, hbi, rfl, hcj⟩ := HPJ.out bb HBT.out
          have BW2 := HBW.out.trans (BI.mono HBW.out.size)
          obtain ⟨y, hy⟩ := HEX.out bi hbi
          have hw2 : w.heap.size ≤ w2.heap.size := B2.size
          have BS : Below w.heap.size w (wr.setCell ⟨w2.heap.size, bi, none⟩ (.bool true)) := BW2.setCell hw2 _
          have cy := (BS.cell (p := ⟨b, off + bi * 8, none⟩) hbn).trans (HCX.out bi y hy)
          rw [← HNM.out bi y hy] at cy
          have hdn := HDN.out.below BI hgd
          obtain ⟨cd, fd⟩ := hdn.cell hbi
          have hsz : (wr.setCell ⟨w2.heap.size, bi, none⟩ (.bool true)).heap.size = wr.heap.size := by simp [World.setCell]
          have hbw : b < wr.heap.size := Nat.lt_of_lt_of_le hbn BW2.size
          have hgdw : w2.heap.size < wr.heap.size := hdn.lt
          have hbl : (bi : Int) < (i : Int) := by omega
          have ow := own_below HOW.out BI
          have ownS := ow.kept (grown_set wr w2.heap.size bi (.bool true)) (.inr fun e => by have := own_block ow _ e; omega)
          have HSB : Hid (BoolsAt (wr.setCell ⟨w2.heap.size, bi, none⟩ (.bool true)) w2.heap.size i (fun q => inB (c.take (j + 1)) (nA q))) := hdn.set hbi true (fun q hq => by
            have hd := HDJ.out
            subst hd
            exact inB_snoc HINJ.out hbi hcj q hq)
          have HBS : Hid (Below w2.heap.size w2 (wr.setCell ⟨w2.heap.size, bi, none⟩ (.bool true))) := (HB0.out.trans (BI.mono (Nat.le_of_lt hgd))).setCell (Nat.le_refl _) _
          have HTK : Hid (c.take (j + 1) = c.take j ++ [nA bi]) := by
            show c.take (j + 1) = _
            rw [List.take_add_one, hcj]; rfl
          have HNEW : Hid (CellsAt ((wr.setCell ⟨w2.heap.size, bi, none⟩ (.bool true)).alloc (.cells #[.string (nA bi)] 9)) wr.heap.size 9 #[.string (nA bi)]) := by
            have := CellsAt.new (wr.setCell ⟨w2.heap.size, bi, none⟩ (.bool true)) 9 #[.string (nA bi)]
            rw [hsz] at this
            exact this
          clear hy hdn ow BW2 BI HBT hcj HPJ hsz
          go_wp2_with (at_builtin; refine wpList_append_lies _ rfl _ _ _ rfl (w2.heap.size + 1) 9 is _ 1 16 Try.underlying59 his hs0 hs1 hs2 rfl (by omega) (.slice ao j ko) j ((c.take j).flatMap strC) rfl (ownS.alloc _) ⟨wr.heap.size, 0, none⟩ 1 1 [.string (nA bi)] rfl rfl (World.news_of_block (cs := #[.string (nA bi)]) (t := 9) (fr := (0, 0)) HNEW.out) (by simp [Value.oneCell']) (by omega) (by unfold maxLen; omega) (by omega) (by simp [World.setCell]; omega) (wr.heap.size + 1) (by simp [World.setCell]) ?_; intro g gc w8 hown8 hgrow hat hltg)
          have BA := HBS.out.alloc HBS.out.size (.cells #[.string (nA bi)] 9)
          go_roundg (i - (j + 1))
          case measure =>
            have := HGK.out
            omega
          case rel =>
            refine ⟨j + 1, (rfl : i - (j + 1) = i - (j + 1)), by omega, by rw [HTK.out, List.flatMap_append]; exact hown8, ?_, BA.grown hgrow BA.size (fun q hq => by have := own_block ownS q hq; omega)⟩
            exact (HSB.out.kept (World.grownBy_alloc _ _ none) (by simp)).kept hgrow (fun e => by have := own_block ownS _ e.symm; omega)
    · obtain rfl : j = n := by omega
      have hlt' : decide ((j : Int) < (j : Int)) = false := decide_eq_false (by omega)
      have RW : RowOf 1 strCell wo.heap.size wo (.slice ao j ko) c := by
        have h1 := HOW.out
        rw [List.take_of_length_le (by omega), ← hcl] at h1
        rw [← hcl]
        exact own_rows (C := strC) (cells := strCell) (sz := 1) (fun _ => rfl) strC_at h1 (by omega)
      have HRW : Hid (RowOf 1 strCell wo.heap.size wo (.slice ao j ko) c) := RW
      clear RW hown HOW
      go_wp2
      go_ret
      exact ⟨⟨_, rfl, HRW.out⟩, HBW.out⟩

end Go.Proofs.Ytaklbnabgcglhab
