/- Texts that are laid together. -/
import Derived.Test.YthmohjgdcjafkagMrgK
import Derived.Test.YthmohjgdcjafkagMrgJ

/- The contract of package flash's changed, of a turning that captures one variable. -/
namespace Go.Proofs.Ythmohjgdcjafkag
open Go.RowKit Go.PlainAid

set_option maxRecDepth 100000

set_option maxHeartbeats 8000000 in
theorem changed_own1 (t : Nat → UInt8 → UInt8) (F : List ByteArray) (v : Value) (l : List Deed) (vl : Value) (K : FuncId) (cp : Value) (hK : ∀ w x y, Sem.run Try.prog (callFunc K #[x, y, cp]) w = .ok (.enter K #[x, y, cp]) w) (w : World)
    (hT : ∀ (i : Nat) (b : UInt8) W, Below w.heap.size w W → Calls Try.prog K #[.int .i64 i, .int .u8 (b.toNat : Int), cp] W fun e W' => e = .returned (.int .u8 ((t i b).toNat : Int)) ∧ Below W.heap.size W W')
    (hF : IsFl w.heap.size w v F) (hl : RowOf 3 Deed.cell w.heap.size w vl l) :
    Calls Try.prog 33 #[.agg #[v], .func (.func K) #[] #[cp], vl] w fun e w' => (∃ r, e = .returned (.tuple #[.agg #[r], .int .i64 (chgRes t F l).2]) ∧ OwnFl w.heap.size w' r (chgRes t F l).1) ∧ Below w.heap.size w w' := by
  have HTT : Hid (∀ (i : Nat) (b : UInt8) W, Below w.heap.size w W → Calls Try.prog K #[.int .i64 i, .int .u8 (b.toNat : Int), cp] W fun e W' => e = .returned (.int .u8 ((t i b).toNat : Int)) ∧ Below W.heap.size W W') := hT
  have HCK : Hid (∀ W, Below w.heap.size w W → Calls Try.prog 21 #[.agg #[v]] W fun e w' => e = .returned (.int .i64 (chkFl F)) ∧ Below W.heap.size W w') := fun W hb => flCheck_any F v W ((hF.1.below hb).more hb.size)
  have HJ : Hid (∀ W, chkFl F = 0 → Below w.heap.size w W → Calls Try.prog 35 #[v, .string ⟨#[]⟩] W fun e w' => e = .returned (.string ⟨(joinM F).toArray⟩) ∧ Below W.heap.size W w') := fun W h0 hb => by
    have := joinM_bound h0
    exact joinStr_any F v W ((hF.1.below hb).more hb.size) (by omega) (by omega) hF.2
  have key : (chkFl F ≠ 0 ∧ chgRes t F l = ([], chkFl F)) ∨ (chkFl F = 0 ∧ (joinM F).length ≤ 4096 ∧ (joinM F).length / 128 * 128 = (joinM F).length ∧ chgRes t F l = if (doFrom t (joinM F) l).2 ≠ 0 then ([], (doFrom t (joinM F) l).2) else (blocksM (doFrom t (joinM F) l).1, 0)) := by
    by_cases h0 : chkFl F = 0
    · have := joinM_bound h0
      refine .inr ⟨h0, by omega, by omega, ?_⟩
      unfold chgRes
      rw [if_neg (by omega)]
    · exact .inl ⟨h0, if_pos h0⟩
  obtain ⟨⟨a, cap, rfl, _, _⟩, _⟩ := hF
  obtain ⟨la, lcap, rfl, _, hlrow⟩ := hl
  generalize chkFl F = cf at *
  generalize chgRes t F l = R at *
  generalize joinM F = c0 at *
  generalize F.length = nF at *
  clear hT
  have HB1 : Hid (Below w.heap.size w ((w.alloc (.cells #[.slice a nF cap] 26)).alloc (.cells #[.slice none 0 0] 26))) := ((Below.refl _ _).alloc (Nat.le_refl _) _).alloc (by simp) _
  have HR1 : Hid (CellsAt ((w.alloc (.cells #[.slice a nF cap] 26)).alloc (.cells #[.slice none 0 0] 26)) (w.heap.size + 1) 26 #[.slice none 0 0]) := by
    have := CellsAt.new (w.alloc (.cells #[.slice a nF cap] 26)) 26 #[.slice none 0 0]
    rw [World.size_alloc] at this
    exact this
  have HF1 : Hid (CellsAt ((w.alloc (.cells #[.slice a nF cap] 26)).alloc (.cells #[.slice none 0 0] 26)) w.heap.size 26 #[.slice a nF cap]) := (CellsAt.new w 26 #[.slice a nF cap]).kept (World.grownBy_alloc _ _ none) (by simp)
  go_enter Try.func33, Try.ntmps33
  go_wp2_with fail
  refine (HCK.out _ HB1.out).mono ?_
  generalize ((w.alloc (.cells #[.slice a nF cap] 26)).alloc (.cells #[.slice none 0 0] 26)) = w1 at HB1 HR1 HF1
  rintro e w2 ⟨rfl, b1⟩
  have HB2 : Hid (Below w.heap.size w w2) := HB1.out.trans (b1.mono HB1.out.size)
  have HR2 : Hid (CellsAt w2 (w.heap.size + 1) 26 #[.slice none 0 0]) := HR1.out.below b1 HR1.out.lt
  have HF2 : Hid (CellsAt w2 w.heap.size 26 #[.slice a nF cap]) := HF1.out.below b1 HF1.out.lt
  clear b1 HB1 HR1 HF1 HCK
  rcases key with ⟨h0, rfl⟩ | ⟨rfl, hc0, hc128, hR⟩
  · have h0' : (cf != 0) = true := by simpa using h0
    have r0 := HR2.out.cell 0
    have r1 := HR2.out.frozen 0
    simp at r0
    clear h0
    go_wp2
    have hF := HR2.out.set 0 (.slice none 0 0)
    simp only [List.setIfInBounds_toArray, List.set_cons_zero] at hF
    refine bodyPost_ret (results_cell_tmp_row rfl _ _ _ _ _ _ _ rfl hF Try.underlying26 rfl (by kernel_rfl)) rfl ?_
    exact ⟨⟨_, rfl, OwnFl.nil _ _⟩, HB2.out.setCell (by simp) _⟩
  · have HRR : Hid (R = if (doFrom t c0 l).2 ≠ 0 then ([], (doFrom t c0 l).2) else (blocksM (doFrom t c0 l).1, 0)) := hR
    have HD0 : Hid (doFrom t c0 l = doFrom t c0 (l.drop 0)) := rfl
    have f0 := HF2.out.cell 0
    simp at f0
    clear hR
    go_wp2_with fail
    refine (HJ.out _ (by first | rfl | trivial) HB2.out).mono ?_
    rintro e w3 ⟨rfl, b3⟩
    have HB3 : Hid (Below w.heap.size w w3) := HB2.out.trans (b3.mono HB2.out.size)
    have HR3 : Hid (CellsAt w3 (w.heap.size + 1) 26 #[.slice none 0 0]) := HR2.out.below b3 HR2.out.lt
    clear b3 HB2 HR2 HF2 f0 HJ
    obtain ⟨w4, kc, hcv, hC4, b4, hk1, hk2⟩ := convStr w3 c0 hc0
    have HC4 : Hid (CellsB w4 w3.heap.size c0) := hC4
    have HB4 : Hid (Below w.heap.size w w4) := HB3.out.trans (b4.mono HB3.out.size)
    have HR4 : Hid (CellsAt w4 (w.heap.size + 1) 26 #[.slice none 0 0]) := HR3.out.below b4 HR3.out.lt
    have hg : w.heap.size + 1 < w3.heap.size := HR3.out.lt
    clear hC4 b4 HB3 HR3
    go_wp2
    clear hcv
    generalize w3.heap.size = g at *
    generalize hn0 : c0.length = n0 at *
    have HCL : Hid (c0.length = n0) := hn0
    clear hn0
    go_loopw [25] (fun i wr => ∃ (k : Nat) (c : List UInt8), k ≤ l.length ∧ i = .int .i64 k ∧ Hid (c.length = n0) ∧ Hid (CellsB wr g c) ∧ Hid (doFrom t c0 l = doFrom t c (l.drop k)) ∧ Hid (Below g w4 wr)) (fun i _ => l.length - (intOf i).toNat)
    case atStart => exact ⟨0, c0, Nat.zero_le _, rfl, HCL, HC4, HD0, Below.refl _ _⟩
    case round =>
      obtain ⟨k, c, hk, rfl, HL, HC, HD, HG⟩ := hrel
      have HBw : Hid (Below w.heap.size w wr) := HB4.out.trans (HG.out.mono (by omega))
      clear HC4 HD0 HCL
      by_cases hlt : k < l.length
      · obtain ⟨d, hd⟩ : ∃ d, l[k]? = some d := ⟨_, List.getElem?_eq_getElem hlt⟩
        rcases hlrow with h | ⟨b, off, rfl, hbn, hcells⟩
        · subst h; simp at hlt
        have d0 := (HBw.out.cell (p := ⟨b, off + k * 3 + 0, none⟩) hbn).trans (hcells k _ hd 0 (by omega))
        have d1 := (HBw.out.cell (p := ⟨b, off + k * 3 + 1, none⟩) hbn).trans (hcells k _ hd 1 (by omega))
        have d2 := (HBw.out.cell (p := ⟨b, off + k * 3 + 2, none⟩) hbn).trans (hcells k _ hd 2 (by omega))
        dsimp only [Deed.cell] at d0 d1 d2
        rw [Nat.add_zero] at d0
        have hgr : g < wr.heap.size := HC.out.lt
        have hbr : b < wr.heap.size := Nat.lt_of_lt_of_le hbn HBw.out.size
        have HDN : Hid (doFrom t c0 l = if chkDeed n0 d ≠ 0 then ([], chkDeed n0 d) else doFrom t (turnM t d c) (l.drop (k + 1))) := by
          show doFrom t c0 l = _
          rw [HD.out, drop_at hd, doFrom_cons, HL.out]
        have HW : Hid (∀ W, Calls Try.prog 45 #[.slice (some ⟨g, 0, none⟩) n0 kc, .agg #[.int .i64 d.kind, .int .i64 d.pos, .int .i64 d.val]] W fun e w' => e = .returned (.int .i64 (chkDeed n0 d)) ∧ Below W.heap.size W w') := fun W => wrongD_any _ n0 kc d W hc0
        have HTU : Hid (∀ W, chkDeed n0 d = 0 → CellsB W g c → Below w.heap.size w W → Calls Try.prog 46 #[.slice (some ⟨g, 0, none⟩) n0 kc, .agg #[.int .i64 d.kind, .int .i64 d.pos, .int .i64 d.val], .func (.func K) #[] #[cp]] W fun e w' => e = .returned (.tuple #[]) ∧ CellsB w' g (turnM t d c) ∧ Below g W w') := fun W h0 hc hb => by
          have hln := HL.out
          have := turn_any1 t g kc c d K cp hK w.heap.size W (fun i b W' hb' => HTT.out i b W' (hb.trans hb')) (by omega) hc (by omega) (by omega) hk2 (by rw [hln]; exact h0)
          rw [hln] at this
          exact this
        have HLT : Hid ((turnM t d c).length = n0) := by show _ = _; rw [turnM_length, HL.out]
        have HBx : Hid (Below wr.heap.size wr (wr.alloc (.cells #[.int .i64 d.kind, .int .i64 d.pos, .int .i64 d.val] 40))) := (Below.refl _ _).alloc (Nat.le_refl _) _
        have HCx : Hid (CellsAt (wr.alloc (.cells #[.int .i64 d.kind, .int .i64 d.pos, .int .i64 d.val] 40)) wr.heap.size 40 #[.int .i64 d.kind, .int .i64 d.pos, .int .i64 d.val]) := CellsAt.new _ _ _
        clear hcells hd HD
        generalize chkDeed n0 d = cd at *
        generalize turnM t d c = c' at *
        obtain ⟨kd, ps, dv⟩ := d
        dsimp only at *
        go_wp2_with fail
        refine (HW.out _).mono ?_
        rintro e wa ⟨rfl, ba⟩
        have hCx := HCx.out.below ba HCx.out.lt
        have HCa : Hid (CellsB wa g c) := (HC.out.below HBx.out).below ba
        have HGa : Hid (Below g w4 wa) := (HG.out.trans (HBx.out.mono (Nat.le_of_lt hgr))).trans (ba.mono (by have := HBx.out.size; omega))
        have x0 := hCx.cell 0
        have x1 := hCx.cell 1
        have x2 := hCx.cell 2
        simp at x0 x1 x2
        have hxa : wr.heap.size < wa.heap.size := hCx.lt
        clear hCx HCx ba HW d0 d1 d2 HC HBx HG HBw
        by_cases hcd : cd = 0
        · subst hcd
          have HDM : Hid (doFrom t c0 l = doFrom t c' (l.drop (k + 1))) := HDN.out
          clear HDN
          go_wp2_with fail
          refine (HTU.out _ (by first | rfl | trivial) HCa.out (HB4.out.trans (HGa.out.mono (by omega)))).mono ?_
          rintro e wb ⟨rfl, hcb, bb⟩
          have HCb : Hid (CellsB wb g c') := hcb
          have HGb : Hid (Below g w4 wb) := HGa.out.trans bb
          clear hcb bb HTU HCa HGa x0 x1 x2
          go_wp2
          exact ⟨⟨k + 1, c', by omega, by go_num, HLT, HCb, HDM, HGb⟩, by simp [intOf]; omega⟩
        · have hcd' : (cd != 0) = true := by simpa using hcd
          have HZ : Hid (R = ([], cd)) := by
            show R = _
            rw [HRR.out, HDN.out]
            rw [if_pos (show cd ≠ 0 from hcd)]
            exact if_pos hcd
          have hRa := HR4.out.below HGa.out hg
          have r0 := hRa.cell 0
          have r1 := hRa.frozen 0
          simp at r0
          have HRa : Hid (CellsAt wa (w.heap.size + 1) 26 #[.slice none 0 0]) := hRa
          clear hcd HDN HRR hRa x0 x1 x2 HTU
          go_wp2
          have hF := HRa.out.set 0 (.slice none 0 0)
          simp only [List.setIfInBounds_toArray, List.set_cons_zero] at hF
          refine bodyPost_ret (results_cell_tmp_row rfl _ _ _ _ _ _ _ rfl hF Try.underlying26 rfl (by kernel_rfl)) rfl ?_
          have HZ' := HZ.out
          subst HZ'
          exact ⟨⟨_, rfl, OwnFl.nil _ _⟩, (HB4.out.trans (HGa.out.mono (by omega))).setCell (by simp) _⟩
      · obtain rfl : k = l.length := by omega
        have HZ : Hid (R = (blocksM c, 0)) := by
          show R = _
          rw [HRR.out, HD.out, List.drop_length, doFrom_nil]
          rfl
        have HFO : Hid (∀ W, CellsB W g c → Calls Try.prog 32 #[.slice (some ⟨g, 0, none⟩) n0 kc] W fun e w' => (∃ v, e = .returned (.agg #[v]) ∧ w'.ownsRow W.heap.size 9 1 v (blocksM c).length ((blocksM c).flatMap strC)) ∧ Below W.heap.size W w') := fun W h => by
          have hln := HL.out
          have := flashOf_any g kc c W h (by omega) (by omega) hk2
          rw [hln] at this
          exact this
        have HBL : Hid ((blocksM c).length ≤ 9223372036854775807) := by
          show (blocksM c).length ≤ _
          rw [blocksM_length]
          have := HL.out
          omega
        have HR5 : Hid (CellsAt wr (w.heap.size + 1) 26 #[.slice none 0 0]) := HR4.out.below HG.out hg
        clear HRR HD
        generalize blocksM c = BL at *
        go_wp2_with fail
        refine (HFO.out _ HC.out).mono ?_
        rintro e w6 ⟨⟨r, rfl, ho⟩, b6⟩
        have HO6 : Hid (w6.ownsRow wr.heap.size 9 1 r BL.length (BL.flatMap strC)) := ho
        have hR6 := HR5.out.below b6 HR5.out.lt
        have hgr : g < wr.heap.size := HC.out.lt
        have HR6 : Hid (CellsAt w6 (w.heap.size + 1) 26 #[.slice none 0 0]) := hR6
        have HB6 : Hid (Below w.heap.size w w6) := HBw.out.trans (b6.mono HBw.out.size)
        obtain ⟨ra, rc, rfl⟩ := own_form ho
        have r0 := hR6.cell 0
        have r1 := hR6.frozen 0
        simp at r0
        clear ho hR6 b6 HFO HR5
        go_wp2
        have hF := HR6.out.set 0 (.slice ra BL.length rc)
        simp only [List.setIfInBounds_toArray, List.set_cons_zero] at hF
        refine bodyPost_ret (results_cell_tmp_row rfl _ _ _ _ _ _ _ rfl hF Try.underlying26 rfl (by kernel_rfl)) rfl ?_
        have HZ' := HZ.out
        subst HZ'
        have ho := HO6.out.kept (grown_set w6 (w.heap.size + 1) 0 (.slice ra BL.length rc)) (.inr (fun e => by
          have h1 := own_block HO6.out _ e
          omega))
        exact ⟨⟨_, rfl, ⟨own_lower ho HBw.out.size, HBL.out⟩⟩, HB6.out.setCell (by simp) _⟩

theorem changed_any1 (t : Nat → UInt8 → UInt8) (F : List ByteArray) (v : Value) (l : List Deed) (vl : Value) (K : FuncId) (cp : Value) (hK : ∀ w x y, Sem.run Try.prog (callFunc K #[x, y, cp]) w = .ok (.enter K #[x, y, cp]) w) (w : World)
    (hT : ∀ (i : Nat) (b : UInt8) W, Below w.heap.size w W → Calls Try.prog K #[.int .i64 i, .int .u8 (b.toNat : Int), cp] W fun e W' => e = .returned (.int .u8 ((t i b).toNat : Int)) ∧ Below W.heap.size W W')
    (hF : IsFl w.heap.size w v F) (hl : RowOf 3 Deed.cell w.heap.size w vl l) :
    Calls Try.prog 33 #[.agg #[v], .func (.func K) #[] #[cp], vl] w fun e w' => (∃ r, e = .returned (.tuple #[.agg #[r], .int .i64 (chgRes t F l).2]) ∧ IsFl w'.heap.size w' r (chgRes t F l).1) ∧ Below w.heap.size w w' := by
  refine (changed_own1 t F v l vl K cp hK w hT hF hl).mono ?_
  rintro e w' ⟨⟨r, he, ho⟩, hb⟩
  exact ⟨⟨r, he, ho.is⟩, hb⟩

end Go.Proofs.Ythmohjgdcjafkag

/- The contracts of package flash's Do, tearing, Torn. -/
namespace Go.Proofs.Ythmohjgdcjafkag
open Go.RowKit Go.PlainAid

set_option maxRecDepth 100000

/-- A cell that holds a row is no string of a row. -/
theorem IsFl.stored {n₀ : Nat} {W : World} {v : Value} {F : List ByteArray} (h : IsFl n₀ W v F) {B : Nat} {t : TypeId} {x : Value} (hc : CellsAt W B t #[x]) (hx : ∀ s, x ≠ .string s) (u : Value) : IsFl n₀ (W.setCell ⟨B, 0, none⟩ u) v F := by
  obtain ⟨⟨a, cap, e, hl, h | ⟨b, off, e2, hlt, hcell⟩⟩, hcap⟩ := h
  · exact ⟨⟨a, cap, e, hl, .inl h⟩, hcap⟩
  · refine ⟨⟨a, cap, e, hl, ?_⟩, hcap⟩
    by_cases hF : F = []
    · exact .inl hF
    · refine .inr ⟨b, off, e2, hlt, fun j y hj i hi => ?_⟩
      have h1 := hcell j y hj i hi
      have hne : b ≠ B := by
        intro hb
        subst hb
        rw [hc.cell] at h1
        have : off + j * 1 + i = 0 ∨ 0 < off + j * 1 + i := by omega
        rcases this with h0 | h0
        · rw [h0] at h1
          simp [strCell] at h1
          exact hx _ h1
        · rw [Array.getElem?_eq_none (by simp; omega)] at h1
          cases h1
      exact (World.cell?_setCell_far W ⟨B, 0, none⟩ ⟨b, off + j * 1 + i, none⟩ u (fun e => hne e.symm)).trans h1

theorem do1_any (i : Nat) (b : UInt8) (w : World) : Calls Try.prog 34 #[.int .i64 i, .int .u8 (b.toNat : Int)] w fun e w' => e = .returned (.int .u8 ((allT i b).toNat : Int)) ∧ Below w.heap.size w w' := by
  go_enter Try.func34, Try.ntmps34
  go_wp2
  go_ret
  exact ⟨rfl, Below.refl _ _⟩

set_option maxHeartbeats 2000000 in
theorem flDo_own (F : List ByteArray) (v : Value) (l : List Deed) (vl : Value) (w : World) (hF : IsFl w.heap.size w v F) (hl : RowOf 3 Deed.cell w.heap.size w vl l) :
    Calls Try.prog 18 #[.agg #[v], vl] w fun e w' => (∃ r, e = .returned (.tuple #[.agg #[r], .int .i64 (chgRes allT F l).2]) ∧ OwnFl w.heap.size w' r (chgRes allT F l).1) ∧ Below w.heap.size w w' := by
  have HC : Hid (∀ W, Below w.heap.size w W → Calls Try.prog 33 #[.agg #[v], .func (.func 34) #[] #[], vl] W fun e w' => (∃ r, e = .returned (.tuple #[.agg #[r], .int .i64 (chgRes allT F l).2]) ∧ OwnFl W.heap.size w' r (chgRes allT F l).1) ∧ Below W.heap.size W w') := fun W hb =>
    changed_own0 allT F v l vl 34 (fun w x y => enters_of Try.func34 (by kernel_rfl) rfl _ w) W (fun i b W' _ => do1_any i b W') ((hF.below hb).more hb.size) ((hl.below hb).more hb.size)
  obtain ⟨⟨a, cap, rfl, _, _⟩, _⟩ := hF
  obtain ⟨la, lcap, rfl, _, _⟩ := hl
  generalize chgRes allT F l = R at *
  obtain ⟨RF, RE⟩ := R
  dsimp only at *
  generalize F.length = nF at *
  generalize l.length = nl at *
  have HB1 : Hid (Below w.heap.size w ((w.alloc (.cells #[.slice a nF cap] 26)).alloc (.cells #[.slice none 0 0] 26))) := ((Below.refl _ _).alloc (Nat.le_refl _) _).alloc (by simp) _
  have HR1 : Hid (CellsAt ((w.alloc (.cells #[.slice a nF cap] 26)).alloc (.cells #[.slice none 0 0] 26)) (w.heap.size + 1) 26 #[.slice none 0 0]) := by
    have := CellsAt.new (w.alloc (.cells #[.slice a nF cap] 26)) 26 #[.slice none 0 0]
    rw [World.size_alloc] at this
    exact this
  go_enter Try.func18, Try.ntmps18
  go_wp2_with fail
  refine (HC.out _ HB1.out).mono ?_
  rintro e w2 ⟨⟨r, rfl, hr⟩, b2⟩
  have HRR : Hid (OwnFl (w.heap.size + 2) w2 r RF) := hr.lower (by simp)
  have hR2 := HR1.out.below b2 HR1.out.lt
  have HR2 : Hid (CellsAt w2 (w.heap.size + 1) 26 #[.slice none 0 0]) := hR2
  have HB2 : Hid (Below w.heap.size w w2) := HB1.out.trans (b2.mono HB1.out.size)
  obtain ⟨ra, rc, rfl⟩ := own_form hr.1
  have r0 := hR2.cell 0
  have r1 := hR2.frozen 0
  simp at r0
  clear HC b2 hR2 HB1 HR1
  go_wp2
  have hF := HR2.out.set 0 (.slice ra RF.length rc)
  simp only [List.setIfInBounds_toArray, List.set_cons_zero] at hF
  refine bodyPost_ret (results_cell_tmp_row rfl _ _ _ _ _ _ _ rfl hF Try.underlying26 rfl (by kernel_rfl)) rfl ?_
  exact ⟨⟨_, rfl, (HRR.out.stored (by omega) _).lower (by omega)⟩, HB2.out.setCell (by simp) _⟩

theorem flDo_any (F : List ByteArray) (v : Value) (l : List Deed) (vl : Value) (w : World) (hF : IsFl w.heap.size w v F) (hl : RowOf 3 Deed.cell w.heap.size w vl l) :
    Calls Try.prog 18 #[.agg #[v], vl] w fun e w' => (∃ r, e = .returned (.tuple #[.agg #[r], .int .i64 (chgRes allT F l).2]) ∧ IsFl w'.heap.size w' r (chgRes allT F l).1) ∧ Below w.heap.size w w' := by
  refine (flDo_own F v l vl w hF hl).mono ?_
  rintro e w' ⟨⟨r, he, ho⟩, hb⟩
  exact ⟨⟨r, he, ho.is⟩, hb⟩

set_option maxHeartbeats 2000000 in
theorem torn1_any (B : Nat) (p : ByteArray) (i : Nat) (b : UInt8) (w : World) (hc : w.cell? ⟨B, 0, none⟩ = some (.string p)) :
    Calls Try.prog 50 #[.int .i64 i, .int .u8 (b.toNat : Int), .pointer (some ⟨B, 0, none⟩)] w fun e w' => e = .returned (.int .u8 ((tornT 2 p i b).toNat : Int)) ∧ Below w.heap.size w w' := by
  by_cases h : i < p.size
  · have HE : Hid (bits .and .u8 (b.toNat : Int) (p[i].toNat : Int) = ((tornT 2 p i b).toNat : Int)) := by
      show bits .and .u8 (b.toNat : Int) (p[i].toNat : Int) = _
      rw [bits_and_u8]
      unfold tornT
      rw [if_pos rfl]
      rw [if_pos h, List.getD_eq_getElem?_getD, List.getElem?_eq_getElem (by simpa using h)]
      rfl
    generalize tornT 2 p i b = r at *
    go_enter Try.func50, Try.ntmps50
    go_wp2
    go_ret
    refine ⟨?_, Below.refl _ _⟩
    rw [← HE.out]
    first | rfl | trace_state
  · have HE : Hid ((0 : Int) = ((tornT 2 p i b).toNat : Int)) := by
      show (0 : Int) = _
      unfold tornT
      rw [if_pos rfl]
      rw [if_neg h]
      rfl
    generalize tornT 2 p i b = r at *
    go_enter Try.func50, Try.ntmps50
    go_wp2
    go_ret
    refine ⟨?_, Below.refl _ _⟩
    rw [← HE.out]
    rfl

set_option maxHeartbeats 2000000 in
theorem torn2_any (B : Nat) (k : Int) (hk : k ≠ 2) (p : ByteArray) (i : Nat) (b : UInt8) (w : World) (hc : w.cell? ⟨B, 0, none⟩ = some (.int .u8 ((if p.size = 0 then (255 : UInt8) else p.data.toList.getD 0 0).toNat : Int))) :
    Calls Try.prog 51 #[.int .i64 i, .int .u8 (b.toNat : Int), .pointer (some ⟨B, 0, none⟩)] w fun e w' => e = .returned (.int .u8 ((tornT k p i b).toNat : Int)) ∧ Below w.heap.size w w' := by
  have HE : Hid (bits .andNot .u8 (b.toNat : Int) ((if p.size = 0 then (255 : UInt8) else p.data.toList.getD 0 0).toNat : Int) = ((tornT k p i b).toNat : Int)) := by
    show bits .andNot .u8 _ _ = _
    rw [bits_andNot_u8]
    unfold tornT
    rw [if_neg hk]
  generalize (if p.size = 0 then (255 : UInt8) else p.data.toList.getD 0 0) = st at *
  generalize tornT k p i b = r at *
  go_enter Try.func51, Try.ntmps51
  go_wp2
  go_ret
  refine ⟨?_, Below.refl _ _⟩
  rw [← HE.out]
  first | rfl | trace_state

set_option maxHeartbeats 2000000 in
theorem tearing_any (k : Int) (p : ByteArray) (w : World) (hp : p.size ≤ 9223372036854775807) :
    Calls Try.prog 36 #[.int .i64 k, .string p] w fun e w' => (∃ (K : FuncId) (B : Nat), e = .returned (.func (.func K) #[] #[.pointer (some ⟨B, 0, none⟩)]) ∧ (∀ w x y, Sem.run Try.prog (callFunc K #[x, y, .pointer (some ⟨B, 0, none⟩)]) w = .ok (.enter K #[x, y, .pointer (some ⟨B, 0, none⟩)]) w) ∧
      ∀ (i : Nat) (b : UInt8) W, Below w'.heap.size w' W → Calls Try.prog K #[.int .i64 i, .int .u8 (b.toNat : Int), .pointer (some ⟨B, 0, none⟩)] W fun e W' => e = .returned (.int .u8 ((tornT k p i b).toNat : Int)) ∧ Below W.heap.size W W') ∧ Below w.heap.size w w' := by
  by_cases hk : k = 2
  · subst hk
    go_enter Try.func36, Try.ntmps36
    go_wp2
    go_ret
    refine ⟨⟨50, w.heap.size, rfl, fun w x y => enters_of Try.func50 (by kernel_rfl) rfl _ w, fun i b W hb => ?_⟩, (Below.refl _ _).alloc (Nat.le_refl _) _⟩
    have hC : CellsAt (w.alloc (.cells #[.string p] 9)) w.heap.size 9 #[.string p] := CellsAt.new _ _ _
    have hC2 := hC.below hb hC.lt
    exact torn1_any w.heap.size p i b W (hC2.cell 0)
  · have hk' : (k == 2) = false := by simpa using hk
    by_cases h0 : p.size = 0
    · obtain rfl : p = ⟨#[]⟩ := ByteArray.ext (Array.eq_empty_of_size_eq_zero h0)
      have HK : Hid (k ≠ 2) := hk
      clear hk
      go_enter Try.func36, Try.ntmps36
      go_wp2
      go_ret
      have hC : CellsAt ((w.alloc (.cells #[.string ⟨#[]⟩] 9)).alloc (.cells #[.int .u8 255] 5)) (w.heap.size + 1) 5 #[.int .u8 255] := by
        have := CellsAt.new (w.alloc (.cells #[.string ⟨#[]⟩] 9)) 5 #[.int .u8 255]
        rw [World.size_alloc] at this
        exact this
      refine ⟨⟨51, w.heap.size + 1, rfl, fun w x y => enters_of Try.func51 (by kernel_rfl) rfl _ w, fun i b W hb => ?_⟩, ((Below.refl _ _).alloc (Nat.le_refl _) _).alloc (by simp) _⟩
      exact torn2_any (w.heap.size + 1) k HK.out _ i b W ((hC.below hb hC.lt).cell 0)
    · have h0' : p.toList.isEmpty = false := by
        rw [ByteArray.toList_eq]
        cases h : p.data.toList with
        | nil => exact absurd (by have := congrArg List.length h; simpa using this) h0
        | cons x l => rfl
      have hpos : 0 < p.size := by omega
      have HK : Hid (k ≠ 2) := hk
      have HP : Hid (¬ p.size = 0) := h0
      clear hk h0
      go_enter Try.func36, Try.ntmps36
      go_wp2
      go_ret
      have hC : CellsAt ((w.alloc (.cells #[.string p] 9)).alloc (.cells #[.int .u8 (p[0].toNat : Int)] 5)) (w.heap.size + 1) 5 #[.int .u8 (p[0].toNat : Int)] := by
        have := CellsAt.new (w.alloc (.cells #[.string p] 9)) 5 #[.int .u8 (p[0].toNat : Int)]
        rw [World.size_alloc] at this
        exact this
      refine ⟨⟨51, w.heap.size + 1, rfl, fun w x y => enters_of Try.func51 (by kernel_rfl) rfl _ w, fun i b W hb => ?_⟩, ((Below.refl _ _).alloc (Nat.le_refl _) _).alloc (by simp) _⟩
      refine torn2_any (w.heap.size + 1) k HK.out _ i b W (((hC.below hb hC.lt).cell 0).trans ?_)
      rw [if_neg HP.out, List.getD_eq_getElem?_getD, List.getElem?_eq_getElem (by simpa using hpos)]
      rfl

theorem tornT_ne (k : Int) (h : k ≠ 2) (p : ByteArray) : tornT k p = tornT 1 p := by
  unfold tornT
  rw [if_neg h, if_neg (show ¬ ((1 : Int) = 2) by decide)]

end Go.Proofs.Ythmohjgdcjafkag

/- The contract of package flash's Torn. -/
namespace Go.Proofs.Ythmohjgdcjafkag
open Go.RowKit Go.PlainAid Go.Lib

set_option maxRecDepth 100000

def deedC (d : Deed) : List Value := [.int .i64 d.kind, .int .i64 d.pos, .int .i64 d.val]
theorem deedC_at (d : Deed) (i : Nat) (hi : i < 3) : (deedC d)[i]? = some (Deed.cell d i) := by
  have : i = 0 ∨ i = 1 ∨ i = 2 := by omega
  rcases this with rfl | rfl | rfl <;> rfl

set_option maxHeartbeats 8000000 in
theorem flTorn_own (F : List ByteArray) (v : Value) (d : Deed) (p : ByteArray) (w : World) (hF : IsFl w.heap.size w v F) (hp : p.size ≤ 9223372036854775807) :
    Calls Try.prog 20 #[.agg #[v], d.value, .string p] w fun e w' => (∃ r, e = .returned (.tuple #[.agg #[r], .int .i64 (chgRes (tornT d.kind p) F [d]).2]) ∧ OwnFl w.heap.size w' r (chgRes (tornT d.kind p) F [d]).1) ∧ Below w.heap.size w w' := by
  have HT : Hid (∀ W, Calls Try.prog 36 #[.int .i64 d.kind, .string p] W fun e w' => (∃ (K : FuncId) (B : Nat), e = .returned (.func (.func K) #[] #[.pointer (some ⟨B, 0, none⟩)]) ∧ (∀ w x y, Sem.run Try.prog (callFunc K #[x, y, .pointer (some ⟨B, 0, none⟩)]) w = .ok (.enter K #[x, y, .pointer (some ⟨B, 0, none⟩)]) w) ∧
      ∀ (i : Nat) (b : UInt8) W, Below w'.heap.size w' W → Calls Try.prog K #[.int .i64 i, .int .u8 (b.toNat : Int), .pointer (some ⟨B, 0, none⟩)] W fun e W' => e = .returned (.int .u8 ((tornT d.kind p i b).toNat : Int)) ∧ Below W.heap.size W W') ∧ Below W.heap.size W w') := fun W => tearing_any d.kind p W hp
  have HC : Hid (∀ K B vl W (_ : ∀ w x y, Sem.run Try.prog (callFunc K #[x, y, .pointer (some ⟨B, 0, none⟩)]) w = .ok (.enter K #[x, y, .pointer (some ⟨B, 0, none⟩)]) w) (_ : ∀ (i : Nat) (b : UInt8) W', Below W.heap.size W W' → Calls Try.prog K #[.int .i64 i, .int .u8 (b.toNat : Int), .pointer (some ⟨B, 0, none⟩)] W' fun e W'' => e = .returned (.int .u8 ((tornT d.kind p i b).toNat : Int)) ∧ Below W'.heap.size W' W'') (_ : Below w.heap.size w W) (_ : RowOf 3 Deed.cell W.heap.size W vl [d]),
      Calls Try.prog 33 #[.agg #[v], .func (.func K) #[] #[.pointer (some ⟨B, 0, none⟩)], vl] W fun e w' => (∃ r, e = .returned (.tuple #[.agg #[r], .int .i64 (chgRes (tornT d.kind p) F [d]).2]) ∧ OwnFl W.heap.size w' r (chgRes (tornT d.kind p) F [d]).1) ∧ Below W.heap.size W w') := fun K B vl W hK hT hb hl =>
    changed_own1 (tornT d.kind p) F v [d] vl K (.pointer (some ⟨B, 0, none⟩)) hK W hT ((hF.below hb).more hb.size) hl
  have HRow : Hid (∀ W : World, RowOf 3 Deed.cell (W.alloc (.cells #[.int .i64 d.kind, .int .i64 d.pos, .int .i64 d.val] 40)).heap.size (W.alloc (.cells #[.int .i64 d.kind, .int .i64 d.pos, .int .i64 d.val] 40)) (.slice (some ⟨W.heap.size, 0, none⟩) 1 1) [d]) := fun W =>
    rowOf_cells (C := deedC) (cells := Deed.cell) (sz := 3) (fun _ => rfl) deedC_at (CellsAt.new W 40 #[.int .i64 d.kind, .int .i64 d.pos, .int .i64 d.val]) [d] (show 1 ≤ 255 by decide) 1 rfl
  obtain ⟨⟨a, cap, rfl, _, _⟩, _⟩ := hF
  generalize chgRes (tornT d.kind p) F [d] = R at *
  generalize tornT d.kind p = tt at *
  generalize F.length = nF at *
  obtain ⟨RF, RE⟩ := R
  obtain ⟨kd, ps, dv⟩ := d
  unfold Deed.value
  dsimp only at *
  have HBx : Hid (Below w.heap.size w (((w.alloc (.cells #[.slice a nF cap] 26)).alloc (.cells #[.int .i64 kd, .int .i64 ps, .int .i64 dv] 40)).alloc (.cells #[.slice none 0 0] 26))) := (((Below.refl _ _).alloc (Nat.le_refl _) _).alloc (by simp) _).alloc (by simp; omega) _
  have HFx : Hid (CellsAt (((w.alloc (.cells #[.slice a nF cap] 26)).alloc (.cells #[.int .i64 kd, .int .i64 ps, .int .i64 dv] 40)).alloc (.cells #[.slice none 0 0] 26)) w.heap.size 26 #[.slice a nF cap]) :=
    ((CellsAt.new w 26 #[.slice a nF cap]).kept (World.grownBy_alloc _ _ none) (by simp)).kept (World.grownBy_alloc _ _ none) (by simp)
  have HDx : Hid (CellsAt (((w.alloc (.cells #[.slice a nF cap] 26)).alloc (.cells #[.int .i64 kd, .int .i64 ps, .int .i64 dv] 40)).alloc (.cells #[.slice none 0 0] 26)) (w.heap.size + 1) 40 #[.int .i64 kd, .int .i64 ps, .int .i64 dv]) := by
    have := CellsAt.new (w.alloc (.cells #[.slice a nF cap] 26)) 40 #[.int .i64 kd, .int .i64 ps, .int .i64 dv]
    rw [World.size_alloc] at this
    exact this.kept (World.grownBy_alloc _ _ none) (by simp)
  have HRx : Hid (CellsAt (((w.alloc (.cells #[.slice a nF cap] 26)).alloc (.cells #[.int .i64 kd, .int .i64 ps, .int .i64 dv] 40)).alloc (.cells #[.slice none 0 0] 26)) (w.heap.size + 2) 26 #[.slice none 0 0]) := by
    have := CellsAt.new ((w.alloc (.cells #[.slice a nF cap] 26)).alloc (.cells #[.int .i64 kd, .int .i64 ps, .int .i64 dv] 40)) 26 #[.slice none 0 0]
    simp only [World.size_alloc] at this
    exact this
  go_enter Try.func20, Try.ntmps20
  go_wp2_with fail
  generalize (((w.alloc (.cells #[.slice a nF cap] 26)).alloc (.cells #[.int .i64 kd, .int .i64 ps, .int .i64 dv] 40)).alloc (.cells #[.slice none 0 0] 26)) = w1 at HBx HFx HDx HRx ⊢
  have HBd : Hid (Below w.heap.size w w1.drew) := HBx.out.drew
  have HFd : Hid (CellsAt w1.drew w.heap.size 26 #[.slice a nF cap]) := HFx.out
  have HDd : Hid (CellsAt w1.drew (w.heap.size + 1) 40 #[.int .i64 kd, .int .i64 ps, .int .i64 dv]) := HDx.out
  have HRd : Hid (CellsAt w1.drew (w.heap.size + 2) 26 #[.slice none 0 0]) := HRx.out
  clear HBx HFx HDx HRx
  refine wp_region_noPanic ?_
  refine wp_region_L (S := fun w' => CellsAt w' w.heap.size 26 #[.slice a nF cap] ∧ CellsAt w' (w.heap.size + 1) 40 #[.int .i64 kd, .int .i64 ps, .int .i64 dv]) (x := 11) (by kernel_rfl) ?_
  generalize w1.drew = w2 at *
  have hS0 : CellsAt w2 w.heap.size 26 #[.slice a nF cap] ∧ CellsAt w2 (w.heap.size + 1) 40 #[.int .i64 kd, .int .i64 ps, .int .i64 dv] := ⟨HFd.out, HDd.out⟩
  refine wpL_take 0 8 (.agg #[.slice a nF cap]) rfl (by kernel_rfl) (fun _ _ _ h => h) hS0 rfl rfl (fun w' hSw => by have q := hSw.1.cell 0; simp at q; clear hSw; go_simp) ?_
  simp only [List.setIfInBounds_toArray, List.set_cons_zero, List.set_cons_succ]
  refine wpL_take 1 9 (.pointer (some ⟨w.heap.size + 1, 0, none⟩)) rfl (by kernel_rfl) (fun _ _ _ h => h) hS0 rfl rfl (fun w' hSw => by have q := hSw.2.cell 0; simp at q; clear hSw; go_simp) ?_
  simp only [List.setIfInBounds_toArray, List.set_cons_zero, List.set_cons_succ]
  refine wpL_take 2 10 (.int .i64 kd) rfl (by kernel_rfl) (fun _ _ _ h => h) hS0 rfl rfl (fun w' hSw => by have q := hSw.2.cell 0; simp at q; clear hSw; go_simp) ?_
  simp only [List.setIfInBounds_toArray, List.set_cons_zero, List.set_cons_succ]
  refine wpL_take 3 11 (.string p) rfl (by kernel_rfl) (fun _ _ _ h => h) hS0 rfl rfl (fun w' hSw => by clear hSw; go_simp) ?_
  simp only [List.setIfInBounds_toArray, List.set_cons_zero, List.set_cons_succ]
  refine wpL_take 5 13 (.agg #[.int .i64 kd, .int .i64 ps, .int .i64 dv]) rfl (by kernel_rfl) (fun _ _ _ h => h) hS0 rfl rfl (fun w' hSw => by have q := hSw.2.cell 0; have q1 := hSw.2.cell 1; have q2 := hSw.2.cell 2; simp at q q1 q2; clear hSw; go_simp) ?_
  simp only [List.setIfInBounds_toArray, List.set_cons_zero, List.set_cons_succ]
  refine wpL_two (i := 4) (j := 6) rfl rfl (by kernel_rfl) (fun K hK => ?_) (fun K hK => ?_)
  · -- the function first
    go_simp
    refine (HT.out _).mono ?_
    rintro e w3 ⟨⟨KF, BF, rfl, hKF, hTF⟩, b3⟩
    have HKF : Hid (∀ w x y, Sem.run Try.prog (callFunc KF #[x, y, .pointer (some ⟨BF, 0, none⟩)]) w = .ok (.enter KF #[x, y, .pointer (some ⟨BF, 0, none⟩)]) w) := hKF
    have HTF : Hid (∀ (i : Nat) (b : UInt8) W, Below w3.heap.size w3 W → Calls Try.prog KF #[.int .i64 i, .int .u8 (b.toNat : Int), .pointer (some ⟨BF, 0, none⟩)] W fun e W' => e = .returned (.int .u8 ((tt i b).toNat : Int)) ∧ Below W.heap.size W W') := hTF
    clear hKF hTF
    have hS3 : CellsAt w3 w.heap.size 26 #[.slice a nF cap] ∧ CellsAt w3 (w.heap.size + 1) 40 #[.int .i64 kd, .int .i64 ps, .int .i64 dv] := ⟨hS0.1.below b3 hS0.1.lt, hS0.2.below b3 hS0.2.lt⟩
    have hR3 := HRd.out.below b3 HRd.out.lt
    have hB3 := HBd.out.trans (b3.mono HBd.out.size)
    go_simp
    refine hK.out _ _ hS3 (fun _ => ?_)
    clear hK K
    refine wpL_step (i := 6) rfl (by kernel_rfl) (fun K hK => ?_)
    go_simp
    have ga := World.grownBy_alloc w3 (.cells #[.int .i64 kd, .int .i64 ps, .int .i64 dv] 40) none
    have hSe : CellsAt (w3.alloc (.cells #[.int .i64 kd, .int .i64 ps, .int .i64 dv] 40)) w.heap.size 26 #[.slice a nF cap] ∧ CellsAt (w3.alloc (.cells #[.int .i64 kd, .int .i64 ps, .int .i64 dv] 40)) (w.heap.size + 1) 40 #[.int .i64 kd, .int .i64 ps, .int .i64 dv] := ⟨hS3.1.kept ga (by simp), hS3.2.kept ga (by simp)⟩
    have HRc : Hid (CellsAt (w3.alloc (.cells #[.int .i64 kd, .int .i64 ps, .int .i64 dv] 40)) (w.heap.size + 2) 26 #[.slice none 0 0]) := hR3.kept ga (by simp)
    have HBe : Hid (Below w.heap.size w (w3.alloc (.cells #[.int .i64 kd, .int .i64 ps, .int .i64 dv] 40))) := hB3.alloc hB3.size _
    have HRe : Hid (RowOf 3 Deed.cell (w3.alloc (.cells #[.int .i64 kd, .int .i64 ps, .int .i64 dv] 40)).heap.size (w3.alloc (.cells #[.int .i64 kd, .int .i64 ps, .int .i64 dv] 40)) (.slice (some ⟨w3.heap.size, 0, none⟩) 1 1) [⟨kd, ps, dv⟩]) := HRow.out w3
    have HTE : Hid (∀ (i : Nat) (b : UInt8) W', Below (w3.alloc (.cells #[.int .i64 kd, .int .i64 ps, .int .i64 dv] 40)).heap.size (w3.alloc (.cells #[.int .i64 kd, .int .i64 ps, .int .i64 dv] 40)) W' → Calls Try.prog KF #[.int .i64 i, .int .u8 (b.toNat : Int), .pointer (some ⟨BF, 0, none⟩)] W' fun e W'' => e = .returned (.int .u8 ((tt i b).toNat : Int)) ∧ Below W'.heap.size W' W'') := fun i b W' hb => HTF.out i b W' (((Below.refl _ _).alloc (Nat.le_refl _) _).trans (hb.mono (by simp)))
    refine hK.out _ _ hSe (fun _ => ?_)
    clear hK K ga hS3 hR3 hB3 hS0 HRow HT
    refine wpL_step (i := 7) rfl (by kernel_rfl) (fun K hK => ?_)
    go_simp
    refine (HC.out KF BF _ _ HKF.out HTE.out HBe.out HRe.out).mono ?_
    rintro e wq ⟨⟨r, rfl, hr⟩, bq⟩
    have HIq : Hid (OwnFl (w.heap.size + 3) wq r RF) := hr.lower HRc.out.lt
    have HBq : Hid (Below w.heap.size w wq) := HBe.out.trans (bq.mono HBe.out.size)
    have hRq := HRc.out.below bq HRc.out.lt
    have HRq : Hid (CellsAt wq (w.heap.size + 2) 26 #[.slice none 0 0]) := hRq
    have hSq : CellsAt wq w.heap.size 26 #[.slice a nF cap] ∧ CellsAt wq (w.heap.size + 1) 40 #[.int .i64 kd, .int .i64 ps, .int .i64 dv] := ⟨hSe.1.below bq hSe.1.lt, hSe.2.below bq hSe.2.lt⟩
    obtain ⟨ra, rc, rfl⟩ := own_form hr.1
    go_simp
    refine hK.out _ _ hSq (fun _ => ?_)
    clear hK K
    refine wpL_take 8 16 (.agg #[.slice ra RF.length rc]) rfl (by kernel_rfl) (fun _ _ _ h => h) hSq rfl rfl (fun w' hSw => by clear hSw; go_simp) ?_
    simp only [List.setIfInBounds_toArray, List.set_cons_zero, List.set_cons_succ]
    refine wpL_take 9 17 (.int .i64 RE) rfl (by kernel_rfl) (fun _ _ _ h => h) hSq rfl rfl (fun w' hSw => by clear hSw; go_simp) ?_
    simp only [List.setIfInBounds_toArray, List.set_cons_zero, List.set_cons_succ]
    refine wpL_step (i := 10) rfl (by kernel_rfl) (fun K hK => ?_)
    have r0 := hRq.cell 0
    have r1 := hRq.frozen 0
    simp at r0
    have HSQ : Hid (CellsAt wq w.heap.size 26 #[.slice a nF cap] ∧ CellsAt wq (w.heap.size + 1) 40 #[.int .i64 kd, .int .i64 ps, .int .i64 dv]) := hSq
    clear hRq hSq
    go_simp
    have gs := grown_set wq (w.heap.size + 2) 0 (.slice ra RF.length rc)
    refine hK.out _ _ ⟨HSQ.out.1.kept gs (by simp), HSQ.out.2.kept gs (by simp)⟩ (fun _ => ?_)
    clear hK K
    refine wpL_last (x := 11) rfl (by kernel_rfl) (by kernel_rfl) (fun K hK => ?_)
    go_simp
    refine hK.out _ _ ?_
    refine NoPanic.normal ?_
    clear hK K
    have hF := HRq.out.set 0 (.slice ra RF.length rc)
    simp only [List.setIfInBounds_toArray, List.set_cons_zero] at hF
    first | go_wp2 | skip
    refine bodyPost_ret (results_cell_tmp_row rfl _ _ _ _ _ _ _ rfl hF Try.underlying26 rfl (by kernel_rfl)) rfl ?_
    exact ⟨⟨_, rfl, (HIq.out.stored (by omega) _).lower (by omega)⟩, HBq.out.setCell (by simp; omega) _⟩
  · -- the row first
    go_simp
    have ga := World.grownBy_alloc w2 (.cells #[.int .i64 kd, .int .i64 ps, .int .i64 dv] 40) none
    have hS3 : CellsAt (w2.alloc (.cells #[.int .i64 kd, .int .i64 ps, .int .i64 dv] 40)) w.heap.size 26 #[.slice a nF cap] ∧ CellsAt (w2.alloc (.cells #[.int .i64 kd, .int .i64 ps, .int .i64 dv] 40)) (w.heap.size + 1) 40 #[.int .i64 kd, .int .i64 ps, .int .i64 dv] := ⟨hS0.1.kept ga (by simp), hS0.2.kept ga (by simp)⟩
    have hR3 : CellsAt (w2.alloc (.cells #[.int .i64 kd, .int .i64 ps, .int .i64 dv] 40)) (w.heap.size + 2) 26 #[.slice none 0 0] := HRd.out.kept ga (by simp)
    have hB3 : Below w.heap.size w (w2.alloc (.cells #[.int .i64 kd, .int .i64 ps, .int .i64 dv] 40)) := HBd.out.alloc HBd.out.size _
    have hrow := HRow.out w2
    refine hK.out _ _ hS3 (fun _ => ?_)
    clear hK K
    generalize hw3 : (w2.alloc (.cells #[.int .i64 kd, .int .i64 ps, .int .i64 dv] 40)) = w3 at hS3 hR3 hB3 hrow ⊢
    refine wpL_step (i := 4) rfl (by kernel_rfl) (fun K hK => ?_)
    go_simp
    refine (HT.out _).mono ?_
    rintro e w5 ⟨⟨KF, BF, rfl, hKF, hTF⟩, b5⟩
    have HKF : Hid (∀ w x y, Sem.run Try.prog (callFunc KF #[x, y, .pointer (some ⟨BF, 0, none⟩)]) w = .ok (.enter KF #[x, y, .pointer (some ⟨BF, 0, none⟩)]) w) := hKF
    have HTF : Hid (∀ (i : Nat) (b : UInt8) W, Below w5.heap.size w5 W → Calls Try.prog KF #[.int .i64 i, .int .u8 (b.toNat : Int), .pointer (some ⟨BF, 0, none⟩)] W fun e W' => e = .returned (.int .u8 ((tt i b).toNat : Int)) ∧ Below W.heap.size W W') := hTF
    clear hKF hTF
    have hSe : CellsAt w5 w.heap.size 26 #[.slice a nF cap] ∧ CellsAt w5 (w.heap.size + 1) 40 #[.int .i64 kd, .int .i64 ps, .int .i64 dv] := ⟨hS3.1.below b5 hS3.1.lt, hS3.2.below b5 hS3.2.lt⟩
    have HRc : Hid (CellsAt w5 (w.heap.size + 2) 26 #[.slice none 0 0]) := hR3.below b5 hR3.lt
    have HBe : Hid (Below w.heap.size w w5) := hB3.trans (b5.mono hB3.size)
    have HRe : Hid (RowOf 3 Deed.cell w5.heap.size w5 (.slice (some ⟨w2.heap.size, 0, none⟩) 1 1) [⟨kd, ps, dv⟩]) := (hrow.below b5).more b5.size
    have HTE : Hid (∀ (i : Nat) (b : UInt8) W', Below w5.heap.size w5 W' → Calls Try.prog KF #[.int .i64 i, .int .u8 (b.toNat : Int), .pointer (some ⟨BF, 0, none⟩)] W' fun e W'' => e = .returned (.int .u8 ((tt i b).toNat : Int)) ∧ Below W'.heap.size W' W'') := HTF.out
    go_simp
    refine hK.out _ _ hSe (fun _ => ?_)
    clear hK K ga hS3 hR3 hB3 hS0 HRow HT
    refine wpL_step (i := 7) rfl (by kernel_rfl) (fun K hK => ?_)
    go_simp
    refine (HC.out KF BF _ _ HKF.out HTE.out HBe.out HRe.out).mono ?_
    rintro e wq ⟨⟨r, rfl, hr⟩, bq⟩
    have HIq : Hid (OwnFl (w.heap.size + 3) wq r RF) := hr.lower HRc.out.lt
    have HBq : Hid (Below w.heap.size w wq) := HBe.out.trans (bq.mono HBe.out.size)
    have hRq := HRc.out.below bq HRc.out.lt
    have HRq : Hid (CellsAt wq (w.heap.size + 2) 26 #[.slice none 0 0]) := hRq
    have hSq : CellsAt wq w.heap.size 26 #[.slice a nF cap] ∧ CellsAt wq (w.heap.size + 1) 40 #[.int .i64 kd, .int .i64 ps, .int .i64 dv] := ⟨hSe.1.below bq hSe.1.lt, hSe.2.below bq hSe.2.lt⟩
    obtain ⟨ra, rc, rfl⟩ := own_form hr.1
    go_simp
    refine hK.out _ _ hSq (fun _ => ?_)
    clear hK K
    refine wpL_take 8 16 (.agg #[.slice ra RF.length rc]) rfl (by kernel_rfl) (fun _ _ _ h => h) hSq rfl rfl (fun w' hSw => by clear hSw; go_simp) ?_
    simp only [List.setIfInBounds_toArray, List.set_cons_zero, List.set_cons_succ]
    refine wpL_take 9 17 (.int .i64 RE) rfl (by kernel_rfl) (fun _ _ _ h => h) hSq rfl rfl (fun w' hSw => by clear hSw; go_simp) ?_
    simp only [List.setIfInBounds_toArray, List.set_cons_zero, List.set_cons_succ]
    refine wpL_step (i := 10) rfl (by kernel_rfl) (fun K hK => ?_)
    have r0 := hRq.cell 0
    have r1 := hRq.frozen 0
    simp at r0
    have HSQ : Hid (CellsAt wq w.heap.size 26 #[.slice a nF cap] ∧ CellsAt wq (w.heap.size + 1) 40 #[.int .i64 kd, .int .i64 ps, .int .i64 dv]) := hSq
    clear hRq hSq
    go_simp
    have gs := grown_set wq (w.heap.size + 2) 0 (.slice ra RF.length rc)
    refine hK.out _ _ ⟨HSQ.out.1.kept gs (by simp), HSQ.out.2.kept gs (by simp)⟩ (fun _ => ?_)
    clear hK K
    refine wpL_last (x := 11) rfl (by kernel_rfl) (by kernel_rfl) (fun K hK => ?_)
    go_simp
    refine hK.out _ _ ?_
    refine NoPanic.normal ?_
    clear hK K
    have hF := HRq.out.set 0 (.slice ra RF.length rc)
    simp only [List.setIfInBounds_toArray, List.set_cons_zero] at hF
    first | go_wp2 | skip
    refine bodyPost_ret (results_cell_tmp_row rfl _ _ _ _ _ _ _ rfl hF Try.underlying26 rfl (by kernel_rfl)) rfl ?_
    exact ⟨⟨_, rfl, (HIq.out.stored (by omega) _).lower (by omega)⟩, HBq.out.setCell (by simp; omega) _⟩

theorem flTorn_any (F : List ByteArray) (v : Value) (d : Deed) (p : ByteArray) (w : World) (hF : IsFl w.heap.size w v F) (hp : p.size ≤ 9223372036854775807) :
    Calls Try.prog 20 #[.agg #[v], d.value, .string p] w fun e w' => (∃ r, e = .returned (.tuple #[.agg #[r], .int .i64 (chgRes (tornT d.kind p) F [d]).2]) ∧ IsFl w'.heap.size w' r (chgRes (tornT d.kind p) F [d]).1) ∧ Below w.heap.size w w' := by
  refine (flTorn_own F v d p w hF hp).mono ?_
  rintro e w' ⟨⟨r, he, ho⟩, hb⟩
  exact ⟨⟨r, he, ho.is⟩, hb⟩

end Go.Proofs.Ythmohjgdcjafkag
