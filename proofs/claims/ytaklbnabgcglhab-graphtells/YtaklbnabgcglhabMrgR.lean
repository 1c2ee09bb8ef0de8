/- Texts that are laid together. -/
import Derived.Test.YtaklbnabgcglhabMrgQ
import Derived.Test.YtaklbnabgcglhabMrgB
import Derived.Test.YtaklbnabgcglhabMrgF
import Derived.BigRegion
import Derived.Test.YtaklbnabgcglhabMrgP
import Derived.Test.YtaklbnabgcglhabMrgL
import Derived.Test.YtaklbnabgcglhabMrgJ

/- The contract of the document's Reach. -/
namespace Go.Proofs.Ytaklbnabgcglhab
open Go.RowKit Go.PlainAid

set_option maxRecDepth 100000

set_option maxHeartbeats 8000000 in
theorem reach_any (l : List PV) (v : Value) (w : World) (hrow : IsPlcs w.heap.size w v l) (h8 : l.length ≤ 8) :
    Calls Try.prog 66 #[v] w fun e w' => (∃ r T, e = .returned r ∧ MatAt w' w.heap.size l.length r T ∧ ∀ a b, a < l.length → b < l.length → (T a b = true ↔ Via (Next nxNeed (l.map (·.mod))) a b)) ∧ Below w.heap.size w w' := by
  have HD : Hid (∀ (i k : Nat) W, i < l.length → k < l.length → Below w.heap.size w W → Calls Try.prog 97 #[v, .int .i64 i, .int .i64 k] W fun e w' => e = .returned (.bool (dirB l i k)) ∧ Below W.heap.size W w') := fun i k W hi hk hb => by
    rw [dirB_at (List.getElem?_eq_getElem hi) (List.getElem?_eq_getElem hk)]
    exact direct_any l v i k _ _ (List.getElem?_eq_getElem hi) (List.getElem?_eq_getElem hk) W ((hrow.below hb).more hb.size)
  have HST : Hid (∀ a b, a < l.length → b < l.length → (dirB l a b = true ↔ Next nxNeed (l.map (·.mod)) a b)) := fun a b ha hb => dirB_next ha hb
  have HEL : Hid (∀ i k, Next nxNeed (l.map (·.mod)) i k → i < l.length) := fun i k h => by simpa using h.lt.1
  generalize Next nxNeed (l.map (·.mod)) = E at *
  generalize dirB l = DD at *
  obtain ⟨⟨a, cap, rfl, hmax, _⟩, _⟩ := hrow
  generalize l.length = n at *
  obtain ⟨ib, hib, hb0, hb1, hb2⟩ := infoBool_parts
  obtain ⟨is, his, hs0, hs1, hs2⟩ := infoBools_parts
  go_enter Try.func66, Try.ntmps66
  go_wp2_with fail
  go_loopw [3, 4] (fun f q wr => ∃ (i : Nat) (vs : List Value), i ≤ n ∧ q = .int .i64 i ∧ Hid (vs.length = i) ∧ wr.ownsRow w.heap.size 100 1 f i vs ∧ PartAt wr wr.heap.size w.heap.size n DD vs ∧ Below w.heap.size w wr) (fun _ q _ => n - (intOf q).toNat)
  case atStart => exact ⟨0, [], Nat.zero_le _, rfl, (rfl : ([] : List Value).length = 0), ⟨rfl, .inl ⟨rfl, rfl⟩⟩, ⟨fun j v hj => by simp at hj, fun j k v v' hj => by simp at hj⟩, Below.refl _ _⟩
  case round =>
    obtain ⟨i, vs, hi, rfl, HL, hown, hpart, B⟩ := hrel
    obtain ⟨wo, hwo⟩ : ∃ wo, wo = wr := ⟨_, rfl⟩
    subst hwo
    obtain ⟨av, kv, rfl⟩ := own_form hown
    have HOW : Hid (wo.ownsRow w.heap.size 100 1 (.slice av i kv) i vs) := hown
    have HPA : Hid (PartAt wo wo.heap.size w.heap.size n DD vs) := hpart
    have HB0 : Hid (Below w.heap.size w wo) := B
    clear hown hpart B
    by_cases hlt : i < n
    · have HDI : Hid (∀ (k : Nat) W, k < n → Below w.heap.size w W → Calls Try.prog 97 #[.slice a n cap, .int .i64 i, .int .i64 k] W fun e w' => e = .returned (.bool (DD i k)) ∧ Below W.heap.size W w') := fun k W hk hb => HD.out i k W hlt hk hb
      go_wp2_with fail
      go_loopw [5, 6] (fun f q wi => ∃ (k : Nat), k ≤ n ∧ q = .int .i64 k ∧ wi.ownsRow wo.heap.size 4 1 f k (boolsTo (DD i) k) ∧ Below wo.heap.size wo wi) (fun _ q _ => n - (intOf q).toNat)
      case atStart => exact ⟨0, Nat.zero_le _, rfl, ⟨rfl, .inl ⟨rfl, rfl⟩⟩, Below.refl _ _⟩
      case round =>
        obtain ⟨k, hk, rfl, hrowk, BI⟩ := hrel
        have BW : Below w.heap.size w wr := HB0.out.trans (BI.mono HB0.out.size)
        have HSZ : Hid (wo.heap.size ≤ wr.heap.size) := BI.size
        by_cases hltk : k < n
        · obtain ⟨ar, kr, rfl⟩ := own_form hrowk
          have HBS : Hid (boolsTo (DD i) (k + 1) = boolsTo (DD i) k ++ [.bool (DD i k)]) := boolsTo_succ (DD i) k
          have HDK : Hid (Calls Try.prog 97 #[.slice a n cap, .int .i64 i, .int .i64 k] wr fun e w' => e = .returned (.bool (DD i k)) ∧ Below wr.heap.size wr w') := HDI.out k wr hltk BW
          generalize boolsTo (DD i) k = acc at *
          generalize DD i k = t at *
          go_wp2_with fail
          refine HDK.out.mono ?_
          rintro e w3 ⟨rfl, b3⟩
          have row3 := own_below hrowk b3
          have B3 : Below wo.heap.size wo w3 := BI.trans (b3.mono HSZ.out)
          have HB3 : Hid (Below wo.heap.size wo w3) := B3
          have HS3 : Hid (wo.heap.size ≤ w3.heap.size) := B3.size
          clear HDK b3 BI BW B3 hrowk
          go_wp2_with (at_builtin; refine wpList_append_lies _ rfl _ _ _ rfl wo.heap.size 4 ib _ 1 1 Try.underlying100 hib hb0 hb1 hb2 rfl (by omega) (.slice ar k kr) k acc rfl (row3.alloc _) ⟨w3.heap.size, 0, none⟩ 1 1 [.bool t] rfl rfl (World.news_of_block (cs := #[.bool t]) (t := 4) (fr := (0, 0)) (CellsAt.new w3 4 #[.bool t])) (by simp [Value.oneCell']) (by omega) (by unfold maxLen; omega) (by omega) (by have := HS3.out; simp; omega) (w3.heap.size + 1) (by simp) ?_; intro g gc w8 hown8 hgrow hat hltg)
          have BA := HB3.out.alloc HB3.out.size (.cells #[.bool t] 4)
          exact ⟨⟨k + 1, by omega, by go_num, by rw [HBS.out]; exact hown8, BA.grown hgrow BA.size (fun i hi => own_block row3 i hi)⟩, by simp [intOf]; omega⟩
        · obtain rfl : k = n := by omega
          rcases hrowk.2 with ⟨_, h0⟩ | ⟨gr, cr, cur, rfl, hgr, hcr, hcap, _, hsz, htk⟩
          · omega
          have hrw := hrowk
          have own3 : wr.ownsRow w.heap.size 100 1 (.slice av i kv) i vs := own_below HOW.out BI
          have part3 : PartAt wr wo.heap.size w.heap.size k DD vs := HPA.out.below BI (Nat.le_refl _)
          have HP3 : Hid (PartAt wr wo.heap.size w.heap.size k DD vs) := part3
          have HCR : Hid (CellsAt wr gr 4 cur ∧ wo.heap.size ≤ gr ∧ ∀ q, q < k → cur[q]? = some (.bool (DD i q))) := by
            refine ⟨hcr, hgr, fun q hq => ?_⟩
            have h1 := boolsTo_at (DD i) hq
            have h2 := hrw.cells (g := gr) rfl q _ h1
            rw [addr_add0] at h2
            exact ((CellsAt.cell (t := 4) (cs := cur) hcr q).symm.trans h2)
          have HBW : Hid (Below w.heap.size w wr) := BW
          have HS3 : Hid (w.heap.size ≤ wr.heap.size) := BW.size
          clear hcr hgr hcap hsz htk hrw hrowk part3 BI BW HDI HPA HOW
          go_wp2_with (at_builtin; refine wpList_append_lies _ rfl _ _ _ rfl w.heap.size 100 is _ 1 24 Try.underlying98 his hs0 hs1 hs2 rfl (by omega) (.slice av i kv) i vs rfl (own3.alloc _) ⟨wr.heap.size, 0, none⟩ 1 1 [.slice (some ⟨gr, 0, none⟩) k cr] rfl rfl (World.news_of_block (cs := #[.slice (some ⟨gr, 0, none⟩) k cr]) (t := 100) (fr := (0, 0)) (CellsAt.new wr 100 #[.slice (some ⟨gr, 0, none⟩) k cr])) (by simp [Value.oneCell']) (by omega) (by unfold maxLen; omega) (by omega) (by have := HS3.out; simp; omega) (wr.heap.size + 1) (by simp) ?_; intro g gc w8 hown8 hgrow hat hltg)
          obtain ⟨q1, q2, q3⟩ := HCR.out
          have ga := World.grownBy_alloc wr (.cells #[.slice (some ⟨gr, 0, none⟩) k cr] 100) none
          have BA := HBW.out.alloc HBW.out.size (.cells #[.slice (some ⟨gr, 0, none⟩) k cr] 100)
          have ba : Below wr.heap.size wr (wr.alloc (.cells #[.slice (some ⟨gr, 0, none⟩) k cr] 100)) := (Below.refl _ _).alloc (Nat.le_refl _) _
          have oa := own3.alloc (.cells #[.slice (some ⟨gr, 0, none⟩) k cr] 100)
          have p4 := (HP3.out.below ba HSZ.out).kept oa hgrow
          have c4 := (q1.kept ga (by simp)).kept hgrow (own_type_ne oa (q1.kept ga (by simp)) (by decide))
          have p5 := p4.snoc (c := cr) (Nat.le_trans HB0.out.size q2) q2 (Nat.lt_of_lt_of_le q1.lt (Nat.le_trans ga.size hgrow.size)) c4 (fun q hq => by rw [HL.out]; exact q3 q hq)
          have hln : Hid ((vs ++ [Value.slice (some ⟨gr, 0, none⟩) k cr]).length = i + 1) := by
            show (vs ++ [Value.slice (some ⟨gr, 0, none⟩) k cr]).length = i + 1
            rw [List.length_append, HL.out]; rfl
          exact ⟨⟨i + 1, vs ++ [.slice (some ⟨gr, 0, none⟩) k cr], by omega, by go_num, hln, hown8, p5, BA.grown hgrow BA.size (fun i hi => own_block own3 i hi)⟩, by simp [intOf]; omega⟩
    · obtain rfl : n = i := by omega
      have HM0 : Hid (MatAt wo w.heap.size n (.slice av n kv) DD) := ⟨vs, HL.out, HOW.out, HPA.out⟩
      have HF0 : Hid (Fill E n 0 0 0 DD) := Fill.start HST.out
      clear HOW HPA HL HD HST
      go_wp2_with fail
      go_loopw [7] (fun q wr => ∃ (m : Nat) (T : Nat → Nat → Bool), m ≤ n ∧ q = .int .i64 m ∧ Hid (MatAt wr w.heap.size n (.slice av n kv) T) ∧ Hid (Fill E n m 0 0 T) ∧ Below w.heap.size w wr) (fun q _ => n - (intOf q).toNat)
      case atStart => exact ⟨0, DD, Nat.zero_le _, rfl, HM0.out, HF0.out, HB0.out⟩
      case round =>
        obtain ⟨m, T, hm, rfl, HM, HF, B⟩ := hrel
        clear HM0 HF0 HB0
        by_cases hltm : m < n
        · go_wp2_with fail
          go_loopw [8] (fun q wr => ∃ (i : Nat) (T : Nat → Nat → Bool), i ≤ n ∧ q = .int .i64 i ∧ Hid (MatAt wr w.heap.size n (.slice av n kv) T) ∧ Hid (Fill E n m i 0 T) ∧ Below w.heap.size w wr) (fun q _ => n - (intOf q).toNat)
          case atStart => exact ⟨0, T, Nat.zero_le _, rfl, HM.out, HF.out, B⟩
          case round =>
            obtain ⟨i, T2, hi2, rfl, HM2, HF2, B2⟩ := hrel
            clear HM HF B
            by_cases hlti : i < n
            · go_wp2_with fail
              go_loopw [9] (fun q wr => ∃ (k : Nat) (T : Nat → Nat → Bool), k ≤ n ∧ q = .int .i64 k ∧ Hid (MatAt wr w.heap.size n (.slice av n kv) T) ∧ Hid (Fill E n m i k T) ∧ Below w.heap.size w wr) (fun q _ => n - (intOf q).toNat)
              case atStart => exact ⟨0, T2, Nat.zero_le _, rfl, HM2.out, HF2.out, B2⟩
              case round =>
                obtain ⟨k, T3, hk3, rfl, HM3, HF3, B3⟩ := hrel
                clear HM2 HF2 B2
                by_cases hltk : k < n
                · obtain ⟨go, co, hv, hbg, hgl, gs, cs, hall⟩ := HM3.out.at (by omega)
                  injection hv with e1 _ e3
                  subst e1 e3
                  obtain ⟨ri, bi, li, ri4⟩ := hall i hlti
                  obtain ⟨rm, bm, lm, rm4⟩ := hall m hltm
                  obtain ⟨cik, fik⟩ := ri4 k hltk
                  have cim := (ri4 m hltm).1
                  have cmk := (rm4 k hltk).1
                  have HSET : Hid (∀ b, MatAt (wr.setCell ⟨gs i, k, none⟩ (.bool b)) w.heap.size n (.slice (some ⟨go, 0, none⟩) n kv) (setT T3 i k b)) := fun b => HM3.out.set hlti hltk rfl ri b
                  have HFS : Hid (Fill E n m i (k + 1) (setT T3 i k (T3 i k || (T3 i m && T3 m k)))) := HF3.out.step hltm hlti hltk
                  have q1 : (m : Int) < (n : Int) := by omega
                  have q2 : (i : Int) < (n : Int) := by omega
                  have q3 : (k : Int) < (n : Int) := by omega
                  clear hall ri4 rm4 HM3 HF3
                  generalize gs i = gi at *
                  generalize gs m = gm at *
                  generalize cs i = ci at *
                  generalize cs m = cm at *
                  generalize setT T3 i k = ST at *
                  generalize T3 i k = t1 at *
                  generalize T3 i m = t2 at *
                  generalize T3 m k = t3 at *
                  have BS : ∀ b, Below w.heap.size w (wr.setCell ⟨gi, k, none⟩ (.bool b)) := fun b => B3.setCell bi (.bool b)
                  have HBS : Hid (∀ b, Below w.heap.size w (wr.setCell ⟨gi, k, none⟩ (.bool b))) := BS
                  clear BS
                  cases t1
                  · cases t2
                    · go_wp2_with fail
                      go_region
                      go_wp2
                      exact ⟨⟨k + 1, ST false, by omega, by go_num, ((HSET.out false).below (Below.refl _ _).drew : MatAt (wr.setCell ⟨gi, k, none⟩ (.bool false)).drew w.heap.size n (.slice (some ⟨go, 0, none⟩) n kv) (ST false)), HFS.out, (HBS.out false).drew⟩, by simp [intOf]; omega⟩
                    · cases t3
                      · go_wp2_with fail
                        go_region
                        go_wp2
                        exact ⟨⟨k + 1, ST false, by omega, by go_num, ((HSET.out false).below (Below.refl _ _).drew : MatAt (wr.setCell ⟨gi, k, none⟩ (.bool false)).drew w.heap.size n (.slice (some ⟨go, 0, none⟩) n kv) (ST false)), HFS.out, (HBS.out false).drew⟩, by simp [intOf]; omega⟩
                      · go_wp2_with fail
                        go_region
                        go_wp2
                        exact ⟨⟨k + 1, ST true, by omega, by go_num, ((HSET.out true).below (Below.refl _ _).drew : MatAt (wr.setCell ⟨gi, k, none⟩ (.bool true)).drew w.heap.size n (.slice (some ⟨go, 0, none⟩) n kv) (ST true)), HFS.out, (HBS.out true).drew⟩, by simp [intOf]; omega⟩
                  · go_wp2_with fail
                    go_region
                    go_wp2
                    exact ⟨⟨k + 1, ST true, by omega, by go_num, ((HSET.out true).below (Below.refl _ _).drew : MatAt (wr.setCell ⟨gi, k, none⟩ (.bool true)).drew w.heap.size n (.slice (some ⟨go, 0, none⟩) n kv) (ST true)), HFS.out, (HBS.out true).drew⟩, by simp [intOf]; omega⟩
                · obtain rfl : k = n := by omega
                  go_wp2
                  exact ⟨⟨i + 1, T3, by omega, by go_num, HM3.out, HF3.out.nextRow, B3⟩, by simp [intOf]; omega⟩
            · obtain rfl : i = n := by omega
              go_wp2
              exact ⟨⟨m + 1, T2, by omega, by go_num, HM2.out, HF2.out.nextNum, B2⟩, by simp [intOf]; omega⟩
        · obtain rfl : m = n := by omega
          go_wp2
          go_ret
          exact ⟨⟨_, T, rfl, HM.out, fun a b ha hb => HF.out.all HEL.out ha hb⟩, B⟩

end Go.Proofs.Ytaklbnabgcglhab

/- The contract of the document's textLess. -/
namespace Go.Proofs.Ytaklbnabgcglhab
open Go.RowKit Go.PlainAid

set_option maxRecDepth 100000

def lessT (a b : ByteArray) : Bool := decide (a.data.toList < b.data.toList)
theorem bt_byte {s : ByteArray} {k : Nat} (h : k < s.size) : ∃ x : UInt8, s.data.toList[k]? = some x ∧ bt s k = (x.toNat : Int) := by
  refine ⟨s[k], ?_, by unfold bt; rw [dif_pos h]⟩
  have h1 : k < s.data.toList.length := by simpa using h
  rw [List.getElem?_eq_getElem h1]
  rfl

set_option maxHeartbeats 2000000 in
theorem textLess_any (a b : ByteArray) (w : World) (_ : a.size ≤ 9223372036854775807) :
    Calls Try.prog 68 #[.string a, .string b] w fun e w' => e = .returned (.bool (lessT a b)) ∧ ∃ q, w' = w.drewN q := by
  have HC0 : Hid (lessT a b = decide (a.data.toList.drop 0 < b.data.toList.drop 0)) := (rfl : _ = _)
  have hla : a.data.toList.length = a.size := by simp
  have hlb : b.data.toList.length = b.size := by simp
  have HLA : Hid (a.data.toList.length = a.size) := hla
  have HLB : Hid (b.data.toList.length = b.size) := hlb
  clear hla hlb
  have hba := get_bt a
  have hbb := get_bt b
  generalize lessT a b = R at *
  go_enter Try.func68, Try.ntmps68
  go_wp2_with fail
  go_loopw [5] (fun i wr => ∃ (k : Nat), k ≤ a.size ∧ k ≤ b.size ∧ i = .int .i64 k ∧ Hid (R = decide (a.data.toList.drop k < b.data.toList.drop k)) ∧ Hid (∃ q, wr = w.drewN q)) (fun i _ => a.size - (intOf i).toNat)
  case atStart => exact ⟨0, Nat.zero_le _, Nat.zero_le _, rfl, HC0.out, (⟨0, rfl⟩ : ∃ q, w = w.drewN q)⟩
  case round =>
    obtain ⟨k, hka, hkb, rfl, HC, HQ⟩ := hrel
    clear HC0
    by_cases hlt : k < a.size ∧ k < b.size
    · obtain ⟨h1, h2⟩ := hlt
      obtain ⟨x, hx, ex⟩ := bt_byte h1
      obtain ⟨y, hy, ey⟩ := bt_byte h2
      have h1' : (k : Int) < (a.size : Int) := by omega
      have h2' : (k : Int) < (b.size : Int) := by omega
      by_cases hxy : x = y
      · subst hxy
        have HR : Hid (R = decide (a.data.toList.drop (k + 1) < b.data.toList.drop (k + 1))) := by
          show R = _
          rw [HC.out]
          exact decide_eq_decide.2 (lt_drop_eq _ _ k x hx hy)
        have hq : bt a k = bt b k := by rw [ex, ey]
        clear HC hx hy ex ey
        go_wp2_with fail
        go_quiet (fail)
        go_wp2
        obtain ⟨q, hqq⟩ := HQ.out
        exact ⟨⟨k + 1, by omega, by omega, by go_num, HR.out, (⟨q + _, by rw [hqq, World.drewN_drewN]⟩ : ∃ q, _ = w.drewN q)⟩, by simp [intOf]; omega⟩
      · have HR : Hid (R = decide (bt a k < bt b k)) := by
          show R = _
          rw [HC.out, ex, ey]
          refine decide_eq_decide.2 ((lt_drop _ _ k x y hx hy hxy).trans ?_)
          rw [UInt8.lt_iff_toNat_lt]
          omega
        have hq : bt a k ≠ bt b k := by
          rw [ex, ey]
          intro h
          exact hxy (UInt8.toNat_inj.1 (by omega))
        have hq0 : (bt a k == bt b k) = false := by simpa using hq
        have hq1 : (bt a k != bt b k) = true := by simpa using hq
        clear HC hx hy ex ey hxy
        go_wp2_with fail
        go_quiet (fail)
        go_wp2_with fail
        go_quiet (fail)
        go_wp2
        go_ret
        obtain ⟨q, hqq⟩ := HQ.out
        exact ⟨by rw [HR.out]; rfl, ⟨q + _ + _, by rw [hqq, World.drewN_drewN, World.drewN_drewN, Nat.add_assoc]⟩⟩
    · have HR : Hid (R = decide (a.size < b.size)) := by
        show R = _
        rw [HC.out]
        refine decide_eq_decide.2 ((lt_drop_end _ _ k ?_ ?_ ?_).trans ?_)
        · rw [HLA.out, HLB.out]; omega
        · rw [HLA.out]; exact hka
        · rw [HLB.out]; exact hkb
        · rw [HLA.out, HLB.out]
      clear HC
      by_cases h1 : k < a.size
      · have h2 : decide ((k : Int) < (b.size : Int)) = false := decide_eq_false (by omega)
        go_wp2
        go_ret
        exact ⟨by rw [HR.out]; simp, HQ.out⟩
      · have h2 : decide ((k : Int) < (a.size : Int)) = false := decide_eq_false (by omega)
        go_wp2
        go_ret
        exact ⟨by rw [HR.out]; simp, HQ.out⟩

end Go.Proofs.Ytaklbnabgcglhab

/- The contract of the document's sortTexts. -/
namespace Go.Proofs.Ytaklbnabgcglhab
open Go.RowKit Go.PlainAid

set_option maxRecDepth 100000

/-- One does not stand behind another one. -/
def NotBehind (a b : ByteArray) : Prop := ¬ Ahead b a
theorem NotBehind.trans {a b c : ByteArray} (h : NotBehind a b) (g : NotBehind b c) : NotBehind a c := fun e => by
  rcases Ahead.total b c with h1 | h1 | h1
  · exact h (h1.trans e)
  · subst h1; exact h e
  · exact g h1
theorem Ahead.notBehind {a b : ByteArray} (h : Ahead a b) : NotBehind a b := fun e => h.asymm e
theorem lessT_false {a b : ByteArray} (h : lessT a b = false) : ¬ Ahead a b := of_decide_eq_false (p := a.data.toList < b.data.toList) h
theorem lessT_true {a b : ByteArray} (h : lessT a b = true) : Ahead a b := of_decide_eq_true (p := a.data.toList < b.data.toList) h
/-- A row in which one is being put where it belongs. -/
structure Puts (pre : List ByteArray) (x : ByteArray) (mid : List ByteArray) : Prop where
  up : (pre ++ mid).Pairwise NotBehind
  mid : ∀ y ∈ mid, Ahead x y
theorem Puts.step {pre : List ByteArray} {p x : ByteArray} {mid : List ByteArray} (h : Puts (pre ++ [p]) x mid) (hx : Ahead x p) : Puts pre x (p :: mid) :=
  ⟨by have := h.up; rw [List.append_assoc] at this; exact this, fun y hy => by
    rcases List.mem_cons.1 hy with rfl | hy
    · exact hx
    · exact h.mid y hy⟩
theorem Puts.stop {pre : List ByteArray} {p x : ByteArray} {mid : List ByteArray} (h : Puts (pre ++ [p]) x mid) (hx : ¬ Ahead x p) : (pre ++ [p] ++ x :: mid).Pairwise NotBehind := by
  have h1 := List.pairwise_append.1 h.up
  refine List.pairwise_append.2 ⟨h1.1, List.pairwise_cons.2 ⟨fun y hy => (h.mid y hy).notBehind, h1.2.1⟩, fun a ha b hb => ?_⟩
  rcases List.mem_cons.1 hb with rfl | hb
  · rcases List.mem_append.1 ha with ha | ha
    · have h2 := List.pairwise_append.1 h1.1
      exact (h2.2.2 a ha p (by simp)).trans hx
    · rw [List.mem_singleton.1 ha]; exact hx
  · exact h1.2.2 a ha b hb
theorem Puts.first {x : ByteArray} {mid : List ByteArray} (h : Puts [] x mid) : (x :: mid).Pairwise NotBehind := List.pairwise_cons.2 ⟨fun y hy => (h.mid y hy).notBehind, h.up⟩

def TxtAt (W : World) (g : Nat) (ss : List ByteArray) : Prop := ∃ cs, CellsAt W g 9 cs ∧ ∀ (j : Nat) (x : ByteArray), ss[j]? = some x → cs[j]? = some (.string x)
theorem TxtAt.cell {W : World} {g : Nat} {ss : List ByteArray} (h : TxtAt W g ss) {j : Nat} {x : ByteArray} (hj : ss[j]? = some x) : W.cell? ⟨g, j, none⟩ = some (.string x) ∧ W.frozen? ⟨g, j, none⟩ = false := by
  obtain ⟨cs, h1, h2⟩ := h
  exact ⟨(h1.cell j).trans (h2 j x hj), h1.frozen j⟩
theorem TxtAt.lt {W : World} {g : Nat} {ss : List ByteArray} (h : TxtAt W g ss) : g < W.heap.size := by
  obtain ⟨cs, h1, _⟩ := h
  exact h1.lt
theorem swap_at {α : Type} (pre : List α) (p x : α) (rest : List α) (j : Nat) : (pre ++ x :: p :: rest)[j]? = if j = pre.length then some x else if j = pre.length + 1 then some p else (pre ++ p :: x :: rest)[j]? := by
  by_cases h1 : j < pre.length
  · rw [if_neg (by omega), if_neg (by omega), List.getElem?_append_left h1, List.getElem?_append_left h1]
  · rw [List.getElem?_append_right (by omega)]
    by_cases h2 : j = pre.length
    · rw [if_pos h2, h2, Nat.sub_self]; rfl
    · rw [if_neg h2]
      by_cases h3 : j = pre.length + 1
      · rw [if_pos h3, h3, Nat.add_sub_cancel_left]; rfl
      · rw [if_neg h3, List.getElem?_append_right (by omega)]
        obtain ⟨q, hq⟩ : ∃ q, j - pre.length = q + 2 := ⟨j - pre.length - 2, by omega⟩
        rw [hq]
        rfl
theorem TxtAt.swap {W : World} {g : Nat} {pre : List ByteArray} {p x : ByteArray} {rest : List ByteArray} (h : TxtAt W g (pre ++ p :: x :: rest)) : TxtAt ((W.setCell ⟨g, pre.length + 1, none⟩ (.string p)).setCell ⟨g, pre.length, none⟩ (.string x)) g (pre ++ x :: p :: rest) := by
  obtain ⟨cs, h1, h2⟩ := h
  refine ⟨_, (h1.set (pre.length + 1) (.string p)).set pre.length (.string x), fun j y hj => ?_⟩
  have b0 : pre.length < cs.size := by
    have := h2 pre.length p (by simp)
    exact (Array.getElem?_eq_some_iff.1 this).1
  have b1 : pre.length + 1 < cs.size := by
    have := h2 (pre.length + 1) x (by rw [List.getElem?_append_right (by omega)]; simp)
    exact (Array.getElem?_eq_some_iff.1 this).1
  rw [swap_at] at hj
  rw [Array.getElem?_setIfInBounds]
  by_cases e0 : j = pre.length
  · rw [if_pos e0] at hj
    injection hj with hj
    rw [if_pos e0.symm, hj, if_pos (by simpa using b0)]
  · rw [if_neg e0] at hj
    rw [if_neg (fun e => e0 e.symm), Array.getElem?_setIfInBounds]
    by_cases e1 : j = pre.length + 1
    · rw [if_pos e1] at hj
      injection hj with hj
      rw [if_pos e1.symm, hj, if_pos b1]
    · rw [if_neg e1] at hj
      rw [if_neg (fun e => e1 e.symm)]
      exact h2 j y hj
theorem TxtAt.below {W W' : World} {g m : Nat} {ss : List ByteArray} (h : TxtAt W g ss) (hb : Below m W W') (hg : g < m) : TxtAt W' g ss := by
  obtain ⟨cs, h1, h2⟩ := h
  exact ⟨cs, h1.below hb hg, h2⟩

theorem TxtAt.other {W : World} {g k m : Nat} {ss : List ByteArray} (h : TxtAt W g ss) (v : Value) (hkm : k ≠ m) : (W.setCell ⟨g, k, none⟩ v).cell? ⟨g, m, none⟩ = W.cell? ⟨g, m, none⟩ ∧ (W.setCell ⟨g, k, none⟩ v).frozen? ⟨g, m, none⟩ = false := by
  obtain ⟨cs, h1, _⟩ := h
  have h3 := h1.set k v
  refine ⟨?_, h3.frozen m⟩
  rw [h3.cell, h1.cell, Array.getElem?_setIfInBounds, if_neg hkm]
theorem grown_drewN {W W' : World} {row : Option Nat} (h : W.grownBy W' row) (q : Nat) : W.grownBy (W'.drewN q) row := by
  have b := below_drewN (Below.refl W'.heap.size W') q
  exact ⟨b.os.trans h.os, b.tape.trans h.tape, b.output.trans h.output, Nat.le_trans h.size b.size, fun k hk hne => (b.block k (Nat.lt_of_lt_of_le hk h.size)).trans (h.block k hk hne)⟩

set_option maxHeartbeats 8000000 in
theorem sortTexts_any (ss : List ByteArray) (g cap : Nat) (w : World) (hT : TxtAt w g ss) (hfit : ∀ x ∈ ss, x.size ≤ 9223372036854775807) (h8 : ss.length ≤ 8) :
    Calls Try.prog 67 #[.slice (some ⟨g, 0, none⟩) ss.length cap] w fun e w' => e = .returned (.tuple #[]) ∧ ∃ ss', ss'.Perm ss ∧ ss'.Pairwise NotBehind ∧ TxtAt w' g ss' ∧ w.grownBy w' (some g) := by
  obtain ⟨n, hn⟩ : ∃ n, n = ss.length := ⟨_, rfl⟩
  have HN : Hid (n = ss.length) := hn
  have HT0 : Hid (TxtAt w g ss) := hT
  rw [← hn] at h8 ⊢
  clear hn hT
  go_enter Try.func67, Try.ntmps67
  go_wp2_with fail
  go_loopw [2] (fun q wr => ∃ (i : Nat) (cur : List ByteArray), 1 ≤ i ∧ q = .int .i64 i ∧ Hid (cur.Perm ss ∧ (cur.take i).Pairwise NotBehind ∧ TxtAt wr g cur) ∧ Hid (w.grownBy wr (some g))) (fun q _ => n + 1 - (intOf q).toNat)
  case atStart =>
    refine ⟨1, ss, Nat.le_refl _, rfl, ⟨.refl _, ?_, HT0.out⟩, ⟨rfl, rfl, rfl, Nat.le_refl _, fun _ _ _ => rfl⟩⟩
    cases ss with
    | nil => simp
    | cons x ss => simp
  case round =>
    obtain ⟨i, cur, hi1, rfl, HC, HG⟩ := hrel
    clear HT0
    by_cases hlt : i < n
    · have hs : Hid (∃ (pre : List ByteArray) (x : ByteArray) (mid rest : List ByteArray), pre.length = i ∧ mid.length = i - i ∧ (pre ++ x :: (mid ++ rest)).Perm ss ∧ Puts pre x mid ∧ TxtAt wr g (pre ++ x :: (mid ++ rest))) := by
        obtain ⟨p1, p2, p3⟩ := HC.out
        have hl : i < cur.length := by rw [p1.length_eq, ← HN.out]; exact hlt
        have e : cur = cur.take i ++ cur[i] :: ([] ++ cur.drop (i + 1)) := by
          rw [List.nil_append, ← List.drop_eq_getElem_cons hl, List.take_append_drop]
        refine ⟨cur.take i, cur[i], [], cur.drop (i + 1), by rw [List.length_take]; omega, by simp, by rw [← e]; exact p1, ⟨by simpa using p2, fun y hy => by simp at hy⟩, by rw [← e]; exact p3⟩
      go_wp2_with fail
      go_loopw [3] (fun q wr => ∃ (k : Nat), k ≤ i ∧ q = .int .i64 k ∧ Hid (∃ (pre : List ByteArray) (x : ByteArray) (mid rest : List ByteArray), pre.length = k ∧ mid.length = i - k ∧ (pre ++ x :: (mid ++ rest)).Perm ss ∧ Puts pre x mid ∧ TxtAt wr g (pre ++ x :: (mid ++ rest))) ∧ Hid (w.grownBy wr (some g))) (fun q _ => (intOf q).toNat)
      case atStart => exact ⟨i, Nat.le_refl _, rfl, hs.out, HG.out⟩
      case round =>
        obtain ⟨k, hk, rfl, HX, HG2⟩ := hrel
        clear hs HC HG
        obtain ⟨pre, x, mid, rest, hpl, hml, hperm, hputs, hT⟩ := HX.out
        clear HX
        by_cases hk0 : k = 0
        · subst hk0
          have hpre : pre = [] := List.length_eq_zero_iff.1 hpl
          subst hpre
          have HF : Hid ((([] : List ByteArray) ++ x :: (mid ++ rest)).Perm ss ∧ ((([] : List ByteArray) ++ x :: (mid ++ rest)).take (i + 1)).Pairwise NotBehind ∧ TxtAt wr g (([] : List ByteArray) ++ x :: (mid ++ rest))) := by
            refine ⟨hperm, ?_, hT⟩
            rw [List.nil_append, List.take_succ_cons, List.take_left' (by omega)]
            exact hputs.first
          clear hperm hputs hT hpl hml
          have hg0 : decide ((0 : Int) < ((0 : Nat) : Int)) = false := by decide
          go_wp2_with fail
          go_quiet (fail)
          go_wp2
          have bq := below_drewN (Below.refl wr.heap.size wr)
          refine ⟨⟨i + 1, _, by omega, by go_num, ⟨HF.out.1, HF.out.2.1, HF.out.2.2.below (bq _) HF.out.2.2.lt⟩, grown_drewN HG2.out _⟩, by simp [intOf]; omega⟩
        · obtain ⟨m, hm⟩ : ∃ m, k = m + 1 := ⟨k - 1, by omega⟩
          obtain ⟨pre', p, rfl⟩ : ∃ pre' p, pre = pre' ++ [p] := by
            have : pre ≠ [] := fun e => by rw [e] at hpl; simp at hpl; omega
            exact ⟨pre.dropLast, pre.getLast this, (List.dropLast_concat_getLast this).symm⟩
          have hpl' : pre'.length = m := by simp at hpl; omega
          have e1 : pre' ++ [p] ++ x :: (mid ++ rest) = pre' ++ p :: x :: (mid ++ rest) := by simp
          rw [e1] at hperm hT
          have HK : Hid (k = m + 1) := hm
          have q0 : IntKind.i64.wrap ((k : Int) - 1) = (m : Int) := by rw [i64_is]; unfold wrap64; omega
          have q1 : (k : Int) < (n : Int) := by omega
          have q2 : (m : Int) < (n : Int) := by omega
          have q3 : (0 : Int) < (k : Int) := by omega
          have q4 : decide (0 < k) = true := decide_eq_true (by omega)
          have q5 : decide ((0 : Int) < (k : Int)) = true := decide_eq_true (by omega)
          obtain ⟨ck, fk⟩ := hT.cell (j := k) (x := x) (by rw [hm, ← hpl', List.getElem?_append_right (by omega)]; simp)
          obtain ⟨cm, fm⟩ := hT.cell (j := m) (x := p) (by rw [← hpl']; simp)
          have hxs : x.size ≤ 9223372036854775807 := hfit x (hperm.mem_iff.1 (by simp))
          have HTL : Hid (∀ q, Calls Try.prog 68 #[.string x, .string p] (wr.drewN q) fun e w' => e = .returned (.bool (lessT x p)) ∧ ∃ m, w' = (wr.drewN q).drewN m) := fun q => textLess_any x p _ hxs
          have hgl := hT.lt
          have HP : Hid ((pre' ++ p :: x :: (mid ++ rest)).Perm ss ∧ Puts (pre' ++ [p]) x mid ∧ TxtAt wr g (pre' ++ p :: x :: (mid ++ rest)) ∧ pre'.length = m ∧ mid.length = i - k) := ⟨hperm, hputs, hT, hpl', hml⟩
          clear hperm hputs hT hpl hpl' hml e1 hm hxs
          have hlt2 := (decide_eq_true_iff (p := x.data.toList < p.data.toList))
          generalize ht : lessT x p = t at *
          have HTT : Hid (lessT x p = t) := ht
          clear ht hlt2
          cases t
          · go_wp2_with fail
            go_quiet ((go_at_call 68; go_must (refine Calls.quiet_of (HTL.out _))))
            go_wp2
            have bq := below_drewN (Below.refl wr.heap.size wr)
            obtain ⟨p1, p2, p3, p4, p5⟩ := HP.out
            refine ⟨⟨i + 1, _, by omega, by go_num, ⟨p1, ?_, p3.below (bq _) p3.lt⟩, grown_drewN HG2.out _⟩, by simp [intOf]; omega⟩
            have hns := p2.stop (lessT_false HTT.out)
            have e2 : pre' ++ p :: x :: (mid ++ rest) = (pre' ++ [p] ++ x :: mid) ++ rest := by simp
            have hkm := HK.out
            rw [e2, List.take_left' (by simp; omega)]
            exact hns
          · go_wp2_with fail
            go_quiet ((go_at_call 68; go_must (refine Calls.quiet_of (HTL.out _))))
            have bq := below_drewN (Below.refl wr.heap.size wr)
            have HB : Hid (∀ q, Below wr.heap.size wr (wr.drewN q)) := bq
            have HG3 : Hid (∀ q, w.grownBy (wr.drewN q) (some g)) := fun q => grown_drewN HG2.out q
            clear bq HTL HG2
            go_wp2_with fail
            generalize hwq : wr.drewN _ = wq
            have bq := HB.out
            obtain ⟨p1, p2, p3, p4, p5⟩ := HP.out
            have p6 : TxtAt wq g (pre' ++ p :: x :: (mid ++ rest)) := by rw [← hwq]; exact p3.below (HB.out _) p3.lt
            have g6 : w.grownBy wq (some g) := by rw [← hwq]; exact HG3.out _
            have ck' : wq.cell? ⟨g, k, none⟩ = some (.string x) := by rw [← hwq]; simpa using ck
            have fk' : wq.frozen? ⟨g, k, none⟩ = false := by rw [← hwq]; simpa using fk
            have cm' : wq.cell? ⟨g, m, none⟩ = some (.string p) := by rw [← hwq]; simpa using cm
            have fm' : wq.frozen? ⟨g, m, none⟩ = false := by rw [← hwq]; simpa using fm
            have hgl' : g < wq.heap.size := p6.lt
            obtain ⟨co, fo⟩ := p6.other (k := k) (m := m) (.string p) (by have := HK.out; omega)
            rw [cm'] at co
            have HPP : Hid ((pre' ++ p :: x :: (mid ++ rest)).Perm ss ∧ Puts (pre' ++ [p]) x mid ∧ TxtAt wq g (pre' ++ p :: x :: (mid ++ rest)) ∧ pre'.length = m ∧ mid.length = i - k ∧ w.grownBy wq (some g)) := ⟨p1, p2, p6, p4, p5, g6⟩
            clear hwq HB HG3 HP p1 p2 p3 p4 p5 p6 g6 bq ck fk cm fm hgl
            go_region
            go_wp2
            obtain ⟨p1, p2, p6, p4, p5, g6⟩ := HPP.out
            have hkm := HK.out
            have t6 := p6.swap
            rw [p4, ← hkm] at t6
            have gg := (g6.trans (grown_set wq g k (.string p))).trans (grown_set _ g m (.string x))
            have bd : Below ((wq.setCell ⟨g, k, none⟩ (.string p)).setCell ⟨g, m, none⟩ (.string x)).heap.size ((wq.setCell ⟨g, k, none⟩ (.string p)).setCell ⟨g, m, none⟩ (.string x)) ((wq.setCell ⟨g, k, none⟩ (.string p)).setCell ⟨g, m, none⟩ (.string x)).drew := (Below.refl _ _).drew
            exact ⟨⟨m, by omega, rfl, ⟨pre', x, p :: mid, rest, p4, by simp; omega, ((List.Perm.swap p x _).append_left pre').trans p1, p2.step (lessT_true HTT.out), t6.below bd t6.lt⟩, grown_drewN gg 1⟩, by simp [intOf]; omega⟩
    · have hlt' : decide ((i : Int) < (n : Int)) = false := decide_eq_false (by omega)
      go_wp2
      go_end0
      refine ⟨rfl, cur, HC.out.1, ?_, HC.out.2.2, HG.out⟩
      have := HC.out.2.1
      rw [List.take_of_length_le (by rw [HC.out.1.length_eq, ← HN.out]; omega)] at this
      exact this

end Go.Proofs.Ytaklbnabgcglhab

/- The contracts of the document's IsRound and NeedsOf. -/
namespace Go.Proofs.Ytaklbnabgcglhab
open Go.RowKit Go.PlainAid

set_option maxRecDepth 100000

set_option maxHeartbeats 2000000 in
theorem isRound_any (l : List PV) (v : Value) (w : World) (hrow : IsPlcs w.heap.size w v l) (h8 : l.length ≤ 8) (rb : Bool) (hrb : rb = true ↔ ∃ i, Via (Next nxNeed (l.map (·.mod))) i i) :
    Calls Try.prog 32 #[v] w fun e w' => e = .returned (.bool rb) ∧ Below w.heap.size w w' := by
  have HR : Hid (Calls Try.prog 66 #[v] w fun e w' => (∃ r T, e = .returned r ∧ MatAt w' w.heap.size l.length r T ∧ ∀ a b, a < l.length → b < l.length → (T a b = true ↔ Via (Next nxNeed (l.map (·.mod))) a b)) ∧ Below w.heap.size w w') := reach_any l v w hrow h8
  have HLT : Hid (∀ i, Via (Next nxNeed (l.map (·.mod))) i i → i < l.length) := fun i h => by simpa using h.lt_of.1
  obtain ⟨⟨a, cap, rfl, hmax, _⟩, _⟩ := hrow
  generalize Via (Next nxNeed (l.map (·.mod))) = V at *
  generalize l.length = n at *
  have HRB : Hid (rb = true ↔ ∃ i, V i i) := hrb
  clear hrb
  go_enter Try.func32, Try.ntmps32
  go_wp2_with fail
  refine HR.out.mono ?_
  rintro e w2 ⟨⟨r, T, rfl, hM, hT⟩, B2⟩
  clear HR
  have HT : Hid (∀ a b, a < n → b < n → (T a b = true ↔ V a b)) := hT
  have HM : Hid (MatAt w2 w.heap.size n r T) := hM
  obtain ⟨ar, cr, rfl⟩ : ∃ ar cr, r = .slice ar n cr := by
    obtain ⟨vs, _, h2, _⟩ := hM
    exact own_form h2
  clear hT hM
  go_wp2_with fail
  go_loopw [4] (fun q wr => ∃ (k : Nat), k ≤ n ∧ q = .int .i64 k ∧ Hid (∀ j, j < k → T j j = false) ∧ Below w2.heap.size w2 wr) (fun q _ => n - (intOf q).toNat)
  case atStart => exact ⟨0, Nat.zero_le _, rfl, fun j hj => by omega, Below.refl _ _⟩
  case round =>
    obtain ⟨k, hk, rfl, HJ, B⟩ := hrel
    by_cases hlt : k < n
    · obtain ⟨go, co, hv, hbg, hgl, gs, cs, hall⟩ := (HM.out.below B).at (by omega)
      injection hv with e1 _ e3
      subst e1 e3
      obtain ⟨rk, _, lk, rk4⟩ := hall k hlt
      have ckk := (rk4 k hlt).1
      have hlt' : (k : Int) < (n : Int) := by omega
      have HJ2 : Hid (T k k = false → ∀ j, j < k + 1 → T j j = false) := fun h j hj => by
        by_cases e : j = k
        · subst e; exact h
        · exact HJ.out j (by omega)
      have HV : Hid (T k k = true → ∃ i, V i i) := fun h => ⟨k, (HT.out k k hlt hlt).1 h⟩
      clear hall rk4 HJ
      generalize gs k = gk at *
      generalize cs k = ck at *
      generalize T k k = t at *
      cases t
      · go_wp2
        exact ⟨⟨k + 1, by omega, by go_num, HJ2.out (by first | rfl | trivial), B⟩, by simp [intOf]; omega⟩
      · go_wp2
        go_ret
        exact ⟨by rw [HRB.out.2 (HV.out (by first | rfl | trivial))]; rfl, B2.trans (B.mono B2.size)⟩
    · obtain rfl : k = n := by omega
      go_wp2
      go_ret
      have hf : rb = false := by
        cases hr : rb
        · rfl
        · obtain ⟨i, hi⟩ := HRB.out.1 hr
          have h1 := HLT.out i hi
          have h2 := HJ.out i h1
          rw [(HT.out i i h1 h1).2 hi] at h2
          cases h2
      exact ⟨by rw [hf]; rfl, B2.trans (B.mono B2.size)⟩

set_option maxHeartbeats 1000000 in
theorem sortTexts_none (p : Option Addr) (cap : Nat) (w : World) : Calls Try.prog 67 #[.slice p 0 cap] w fun e w' => e = .returned (.tuple #[]) ∧ w' = w := by
  go_enter Try.func67, Try.ntmps67
  go_wp2_with fail
  refine wp_loop_rounds 1 ?_
  rw [rounds_succ]
  go_wp2
  go_end0
  exact ⟨rfl, rfl⟩

def nxOf (b : Bool) : Mod → Mod → Bool := if b then nxUse else nxNeed
def tabOf (b : Bool) (T : Nat → Nat → Bool) (f k : Nat) : Bool := if b then T k f else T f k
theorem tab_via {Ms : List Mod} {T : Nat → Nat → Bool} {n : Nat} (h : ∀ a b, a < n → b < n → (T a b = true ↔ Via (Next nxNeed Ms) a b)) {f k : Nat} (hf : f < n) (hk : k < n) (b : Bool) : tabOf b T f k = true ↔ Via (Next (nxOf b) Ms) f k := by
  cases b
  · exact h f k hf hk
  · exact (h k f hk hf).trans via_turn.symm
def pickTo (P : Nat → Bool) (nA : Nat → ByteArray) (k : Nat) : List ByteArray := ((List.range k).filter P).map nA
theorem pickTo_succ (P : Nat → Bool) (nA : Nat → ByteArray) (k : Nat) : pickTo P nA (k + 1) = if P k = true then pickTo P nA k ++ [nA k] else pickTo P nA k := by
  unfold pickTo
  rw [List.range_succ, List.filter_append, List.map_append, List.filter_cons]
  split <;> simp_all
theorem pickTo_len (P : Nat → Bool) (nA : Nat → ByteArray) (k : Nat) : (pickTo P nA k).length ≤ k := by
  unfold pickTo
  rw [List.length_map]
  have := List.length_filter_le P (List.range k)
  simpa using this
theorem rows_sorted {ss rs : List ByteArray} (hp : rs.Perm ss) (hu : rs.Pairwise NotBehind) (hn : ss.Nodup) : Rising rs := by
  have h1 : rs.Nodup := hp.nodup_iff.2 hn
  refine (hu.and h1).imp fun {a b} h => ?_
  rcases Ahead.total a b with h2 | h2 | h2
  · exact h2
  · exact absurd h2 h.2
  · exact absurd h2 h.1
theorem pick_comes {nx : Mod → Mod → Bool} {Ms : List Mod} (hd : (Ms.map (·.name)).Nodup) {f : Nat} {P : Nat → Bool} (hP : ∀ k, k < Ms.length → (P k = true ↔ Via (Next nx Ms) f k)) {rs : List ByteArray} (hp : rs.Perm (pickTo P (nameAt Ms) Ms.length)) (hu : rs.Pairwise NotBehind) : Comes nx Ms f rs := by
  have hn : (pickTo P (nameAt Ms) Ms.length).Nodup := by
    unfold pickTo
    refine List.pairwise_map.2 ((List.Pairwise.filter P (List.nodup_range (n := Ms.length))).imp_of_mem fun {a b} ha hb hne e => hne (nameAt_inj hd ?_ ?_ e))
    · exact List.mem_range.1 (List.mem_filter.1 ha).1
    · exact List.mem_range.1 (List.mem_filter.1 hb).1
  refine ⟨rows_sorted hp hu hn, fun x => ?_⟩
  rw [hp.mem_iff]
  unfold pickTo
  rw [List.mem_map]
  constructor
  · rintro ⟨k, hk, rfl⟩
    obtain ⟨h1, h2⟩ := List.mem_filter.1 hk
    exact ⟨k, (hP k (List.mem_range.1 h1)).1 h2, rfl⟩
  · rintro ⟨k, hk, rfl⟩
    have hl := hk.lt_of.2
    exact ⟨k, List.mem_filter.2 ⟨List.mem_range.2 hl, (hP k hl).2 hk⟩, rfl⟩

end Go.Proofs.Ytaklbnabgcglhab
