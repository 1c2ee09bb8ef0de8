/- The contract of the document's Reach. -/
import Derived.Test.YtaklbnabgcglhabRfC
namespace Go.Proofs.Ytaklbnabgcglhab
open Go.RowKit Go.PlainAid

set_option maxRecDepth 100000

set_option maxHeartbeats 8000000 in
theorem reach_any (l : List PV) (v : Value) (w : World) (hrow : IsPlcs w.heap.size w v l) (h8 : l.length ≤ 8) :
    Calls Try.prog 66 #[v] w fun e w' => (∃ r T, e = .returned r ∧ MatAt w' w.heap.size l.length r T ∧ ∀ a b, a < l.length → b < l.length → (T a b = true ↔ Via (Next nxNeed (l.map (·.mod))) a b)) ∧ Below w.heap.size w w' := by
  have HD : Hid (∀ (i k : Nat) W, i < l.length → k < l.length → Below w.heap.size w W → Calls Try.prog 97 #[v, .int .i64 i, .int .i64 k] W fun e w' => e = .returned (.bool (dirB l i k)) ∧ Below W.heap.size W w') := fun i k W hi hk hb => by
    rw [dirB_at (List.getElem?_eq_getElem hi) (List.getElem?_eq_getElem hk)]
    exact direct_any l v i k _ _ (List.getElem?_eq_getElem hi) (List.getElem?_eq_getElem hk) W ((hrow.below hb).more hb.size)
  have HST : Hid (∀ a b, a < l.length → b < l.length → (dirB l a b = true ↔ Next nxNeed (l.map (·.mod)) a b)) := fun a b ha hb => dirB_next ha hb
  have HEL : Hid (∀ i k, Next nxNeed (l.map (·.mod)) i k → i < l.length) := fun i k h => by simpa using h.lt.1
  generalize Next nxNeed (l.map (·.mod)) = E at *
  generalize dirB l = DD at *
  obtain ⟨⟨a, cap, rfl, hmax, _⟩, _⟩ := hrow
  generalize l.length = n at *
  obtain ⟨ib, hib, hb0, hb1, hb2⟩ := infoBool_parts
  obtain ⟨is, his, hs0, hs1, hs2⟩ := infoBools_parts
  go_enter Try.func66, Try.ntmps66
  go_wp2_with fail
  go_loopw [3, 4] (fun f q wr => ∃ (i : Nat) (vs : List Value), i ≤ n ∧ q = .int .i64 i ∧ Hid (vs.length = i) ∧ wr.ownsRow w.heap.size 100 1 f i vs ∧ PartAt wr wr.heap.size w.heap.size n DD vs ∧ Below w.heap.size w wr) (fun _ q _ => n - (intOf q).toNat)
  case atStart => exact ⟨0, [], Nat.zero_le _, rfl, (rfl : ([] : List Value).length = 0), ⟨rfl, .inl ⟨rfl, rfl⟩⟩, ⟨fun j v hj => by simp at hj, fun j k v v' hj => by simp at hj⟩, Below.refl _ _⟩
  case round =>
    obtain ⟨i, vs, hi, rfl, HL, hown, hpart, B⟩ := hrel
    obtain ⟨wo, hwo⟩ : ∃ wo, wo = wr := ⟨_, rfl⟩
    subst hwo
    obtain ⟨av, kv, rfl⟩ := own_form hown
    have HOW : Hid (wo.ownsRow w.heap.size 100 1 (.slice av i kv) i vs) := hown
    have HPA : Hid (PartAt wo wo.heap.size w.heap.size n DD vs) := hpart
    have HB0 : Hid (Below w.heap.size w wo) := B
    clear hown hpart B
    by_cases hlt : i < n
    · have HDI : Hid (∀ (k : Nat) W, k < n → Below w.heap.size w W → Calls Try.prog 97 #[.slice a n cap, .int .i64 i, .int .i64 k] W fun e w' => e = .returned (.bool (DD i k)) ∧ Below W.heap.size W w') := fun k W hk hb => HD.out i k W hlt hk hb
      go_wp2_with fail
      go_loopw [5, 6] (fun f q wi => ∃ (k : Nat), k ≤ n ∧ q = .int .i64 k ∧ wi.ownsRow wo.heap.size 4 1 f k (boolsTo (DD i) k) ∧ Below wo.heap.size wo wi) (fun _ q _ => n - (intOf q).toNat)
      case atStart => exact ⟨0, Nat.zero_le _, rfl, ⟨rfl, .inl ⟨rfl, rfl⟩⟩, Below.refl _ _⟩
      case round =>
        obtain ⟨k, hk, rfl, hrowk, BI⟩ := hrel
        have BW : Below w.heap.size w wr := HB0.out.trans (BI.mono HB0.out.size)
        have HSZ : Hid (wo.heap.size ≤ wr.heap.size) := BI.size
        by_cases hltk : k < n
        · obtain ⟨ar, kr, rfl⟩ := own_form hrowk
          have HBS : Hid (boolsTo (DD i) (k + 1) = boolsTo (DD i) k ++ [.bool (DD i k)]) := boolsTo_succ (DD i) k
          have HDK : Hid (Calls Try.prog 97 #[.slice a n cap, .int .i64 i, .int .i64 k] wr fun e w' => e = .returned (.bool (DD i k)) ∧ Below wr.heap.size wr w') := HDI.out k wr hltk BW
          generalize boolsTo (DD i) k = acc at *
          generalize DD i k = t at *
          go_wp2_with fail
          refine HDK.out.mono ?_
          rintro e w3 ⟨rfl, b3⟩
          have row3 := own_below hrowk b3
          have B3 : Below wo.heap.size wo w3 := BI.trans (b3.mono HSZ.out)
          have HB3 : Hid (Below wo.heap.size wo w3) := B3
          have HS3 : Hid (wo.heap.size ≤ w3.heap.size) := B3.size
          clear HDK b3 BI BW B3 hrowk
          go_wp2_with (at_builtin; refine wpList_append_lies _ rfl _ _ _ rfl wo.heap.size 4 ib _ 1 1 Try.underlying100 hib hb0 hb1 hb2 rfl (by omega) (.slice ar k kr) k acc rfl (row3.alloc _) ⟨w3.heap.size, 0, none⟩ 1 1 [.bool t] rfl rfl (World.news_of_block (cs := #[.bool t]) (t := 4) (fr := (0, 0)) (CellsAt.new w3 4 #[.bool t])) (by simp [Value.oneCell']) (by omega) (by unfold maxLen; omega) (by omega) (by have := HS3.out; simp; omega) (w3.heap.size + 1) (by simp) ?_; intro g gc w8 hown8 hgrow hat hltg)
          have BA := HB3.out.alloc HB3.out.size (.cells #[.bool t] 4)
          exact ⟨⟨k + 1, by omega, by go_num, by rw [HBS.out]; exact hown8, BA.grown hgrow BA.size (fun i hi => own_block row3 i hi)⟩, by simp [intOf]; omega⟩
        · obtain rfl : k = n := by omega
          rcases hrowk.2 with ⟨_, h0⟩ | ⟨gr, cr, cur, rfl, hgr, hcr, hcap, _, hsz, htk⟩
          · omega
          have hrw := hrowk
          have own3 : wr.ownsRow w.heap.size 100 1 (.slice av i kv) i vs := own_below HOW.out BI
          have part3 : PartAt wr wo.heap.size w.heap.size k DD vs := HPA.out.below BI (Nat.le_refl _)
          have HP3 : Hid (PartAt wr wo.heap.size w.heap.size k DD vs) := part3
          have HCR : Hid (CellsAt wr gr 4 cur ∧ wo.heap.size ≤ gr ∧ ∀ q, q < k → cur[q]? = some (.bool (DD i q))) := by
            refine ⟨hcr, hgr, fun q hq => ?_⟩
            have h1 := boolsTo_at (DD i) hq
            have h2 := hrw.cells (g := gr) rfl q _ h1
            rw [addr_add0] at h2
            exact ((CellsAt.cell (t := 4) (cs := cur) hcr q).symm.trans h2)
          have HBW : Hid (Below w.heap.size w wr) := BW
          have HS3 : Hid (w.heap.size ≤ wr.heap.size) := BW.size
          clear hcr hgr hcap hsz htk hrw hrowk part3 BI BW HDI HPA HOW
          go_wp2_with (at_builtin; refine wpList_append_lies _ rfl _ _ _ rfl w.heap.size 100 is _ 1 24 Try.underlying98 his hs0 hs1 hs2 rfl (by omega) (.slice av i kv) i vs rfl (own3.alloc _) ⟨wr.heap.size, 0, none⟩ 1 1 [.slice (some ⟨gr, 0, none⟩) k cr] rfl rfl (World.news_of_block (cs := #[.slice (some ⟨gr, 0, none⟩) k cr]) (t := 100) (fr := (0, 0)) (CellsAt.new wr 100 #[.slice (some ⟨gr, 0, none⟩) k cr])) (by simp [Value.oneCell']) (by omega) (by unfold maxLen; omega) (by omega) (by have := HS3.out; simp; omega) (wr.heap.size + 1) (by simp) ?_; intro g gc w8 hown8 hgrow hat hltg)
          obtain ⟨q1, q2, q3⟩ := HCR.out
          have ga := World.grownBy_alloc wr (.cells #[.slice (some ⟨gr, 0, none⟩) k cr] 100) none
          have BA := HBW.out.alloc HBW.out.size (.cells #[.slice (some ⟨gr, 0, none⟩) k cr] 100)
          have ba : Below wr.heap.size wr (wr.alloc (.cells #[.slice (some ⟨gr, 0, none⟩) k cr] 100)) := (Below.refl _ _).alloc (Nat.le_refl _) _
          have oa := own3.alloc (.cells #[.slice (some ⟨gr, 0, none⟩) k cr] 100)
          have p4 := (HP3.out.below ba HSZ.out).kept oa hgrow
          have c4 := (q1.kept ga (by simp)).kept hgrow (own_type_ne oa (q1.kept ga (by simp)) (by decide))
          have p5 := p4.snoc (c := cr) (Nat.le_trans HB0.out.size q2) q2 (Nat.lt_of_lt_of_le q1.lt (Nat.le_trans ga.size hgrow.size)) c4 (fun q hq => by rw [HL.out]; exact q3 q hq)
          have hln : Hid ((vs ++ [Value.slice (some ⟨gr, 0, none⟩) k cr]).length = i + 1) := by
            show (vs ++ [Value.slice (some ⟨gr, 0, none⟩) k cr]).length = i + 1
            rw [List.length_append, HL.out]; rfl
          exact ⟨⟨i + 1, vs ++ [.slice (some ⟨gr, 0, none⟩) k cr], by omega, by go_num, hln, hown8, p5, BA.grown hgrow BA.size (fun i hi => own_block own3 i hi)⟩, by simp [intOf]; omega⟩
    · obtain rfl : n = i := by omega
      have HM0 : Hid (MatAt wo w.heap.size n (.slice av n kv) DD) := ⟨vs, HL.out, HOW.out, HPA.out⟩
      have HF0 : Hid (Fill E n 0 0 0 DD) := Fill.start HST.out
      clear HOW HPA HL HD HST
      go_wp2_with fail
      go_loopw [7] (fun q wr => ∃ (m : Nat) (T : Nat → Nat → Bool), m ≤ n ∧ q = .int .i64 m ∧ Hid (MatAt wr w.heap.size n (.slice av n kv) T) ∧ Hid (Fill E n m 0 0 T) ∧ Below w.heap.size w wr) (fun q _ => n - (intOf q).toNat)
      case atStart => exact ⟨0, DD, Nat.zero_le _, rfl, HM0.out, HF0.out, HB0.out⟩
      case round =>
        obtain ⟨m, T, hm, rfl, HM, HF, B⟩ := hrel
        clear HM0 HF0 HB0
        by_cases hltm : m < n
        · go_wp2_with fail
          go_loopw [8] (fun q wr => ∃ (i : Nat) (T : Nat → Nat → Bool), i ≤ n ∧ q = .int .i64 i ∧ Hid (MatAt wr w.heap.size n (.slice av n kv) T) ∧ Hid (Fill E n m i 0 T) ∧ Below w.heap.size w wr) (fun q _ => n - (intOf q).toNat)
          case atStart => exact ⟨0, T, Nat.zero_le _, rfl, HM.out, HF.out, B⟩
          case round =>
            obtain ⟨i, T2, hi2, rfl, HM2, HF2, B2⟩ := hrel
            clear HM HF B
            by_cases hlti : i < n
            · go_wp2_with fail
              go_loopw [9] (fun q wr => ∃ (k : Nat) (T : Nat → Nat → Bool), k ≤ n ∧ q = .int .i64 k ∧ Hid (MatAt wr w.heap.size n (.slice av n kv) T) ∧ Hid (Fill E n m i k T) ∧ Below w.heap.size w wr) (fun q _ => n - (intOf q).toNat)
              case atStart => exact ⟨0, T2, Nat.zero_le _, rfl, HM2.out, HF2.out, B2⟩
              case round =>
                obtain ⟨k, T3, hk3, rfl, HM3, HF3, B3⟩ := hrel
                clear HM2 HF2 B2
                by_cases hltk : k < n
                · obtain ⟨go, co, hv, hbg, hgl, gs, cs, hall⟩ := HM3.out.at (by omega)
                  injection hv with e1 _ e3
                  subst e1 e3
                  obtain ⟨ri, bi, li, ri4⟩ := hall i hlti
                  obtain ⟨rm, bm, lm, rm4⟩ := hall m hltm
                  obtain ⟨cik, fik⟩ := ri4 k hltk
                  have cim := (ri4 m hltm).1
                  have cmk := (rm4 k hltk).1
                  have HSET : Hid (∀ b, MatAt (wr.setCell ⟨gs i, k, none⟩ (.bool b)) w.heap.size n (.slice (some ⟨go, 0, none⟩) n kv) (setT T3 i k b)) := fun b => HM3.out.set hlti hltk rfl ri b
                  have HFS : Hid (Fill E n m i (k + 1) (setT T3 i k (T3 i k || (T3 i m && T3 m k)))) := HF3.out.step hltm hlti hltk
                  have q1 : (m : Int) < (n : Int) := by omega
                  have q2 : (i : Int) < (n : Int) := by omega
                  have q3 : (k : Int) < (n : Int) := by omega
                  clear hall ri4 rm4 HM3 HF3
                  generalize gs i = gi at *
                  generalize gs m = gm at *
                  generalize cs i = ci at *
                  generalize cs m = cm at *
                  generalize setT T3 i k = ST at *
                  generalize T3 i k = t1 at *
                  generalize T3 i m = t2 at *
                  generalize T3 m k = t3 at *
                  have BS : ∀ b, Below w.heap.size w (wr.setCell ⟨gi, k, none⟩ (.bool b)) := fun b => B3.setCell bi (.bool b)
                  have HBS : Hid (∀ b, Below w.heap.size w (wr.setCell ⟨gi, k, none⟩ (.bool b))) := BS
                  clear BS
                  cases t1
                  · cases t2
                    · go_wp2_with fail
                      go_region
                      go_wp2
                      exact ⟨⟨k + 1, ST false, by omega, by go_num, ((HSET.out false).below (Below.refl _ _).drew : MatAt (wr.setCell ⟨gi, k, none⟩ (.bool false)).drew w.heap.size n (.slice (some ⟨go, 0, none⟩) n kv) (ST false)), HFS.out, (HBS.out false).drew⟩, by simp [intOf]; omega⟩
                    · cases t3
                      · go_wp2_with fail
                        go_region
                        go_wp2
                        exact ⟨⟨k + 1, ST false, by omega, by go_num, ((HSET.out false).below (Below.refl _ _).drew : MatAt (wr.setCell ⟨gi, k, none⟩ (.bool false)).drew w.heap.size n (.slice (some ⟨go, 0, none⟩) n kv) (ST false)), HFS.out, (HBS.out false).drew⟩, by simp [intOf]; omega⟩
                      · go_wp2_with fail
                        go_region
                        go_wp2
                        exact ⟨⟨k + 1, ST true, by omega, by go_num, ((HSET.out true).below (Below.refl _ _).drew : MatAt (wr.setCell ⟨gi, k, none⟩ (.bool true)).drew w.heap.size n (.slice (some ⟨go, 0, none⟩) n kv) (ST true)), HFS.out, (HBS.out true).drew⟩, by simp [intOf]; omega⟩
                  · go_wp2_with fail
                    go_region
                    go_wp2
                    exact ⟨⟨k + 1, ST true, by omega, by go_num, ((HSET.out true).below (Below.refl _ _).drew : MatAt (wr.setCell ⟨gi, k, none⟩ (.bool true)).drew w.heap.size n (.slice (some ⟨go, 0, none⟩) n kv) (ST true)), HFS.out, (HBS.out true).drew⟩, by simp [intOf]; omega⟩
                · obtain rfl : k = n := by omega
                  go_wp2
                  exact ⟨⟨i + 1, T3, by omega, by go_num, HM3.out, HF3.out.nextRow, B3⟩, by simp [intOf]; omega⟩
            · obtain rfl : i = n := by omega
              go_wp2
              exact ⟨⟨m + 1, T2, by omega, by go_num, HM2.out, HF2.out.nextNum, B2⟩, by simp [intOf]; omega⟩
        · obtain rfl : m = n := by omega
          go_wp2
          go_ret
          exact ⟨⟨_, T, rfl, HM.out, fun a b ha hb => HF.out.all HEL.out ha hb⟩, B⟩

end Go.Proofs.Ytaklbnabgcglhab
