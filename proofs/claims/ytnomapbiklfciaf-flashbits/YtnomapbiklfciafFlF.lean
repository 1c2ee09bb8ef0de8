/- The contract of package flash's changed, of a turning that captures one variable. -/
import Derived.Test.YtnomapbiklfciafFlE
namespace Go.Proofs.Ytnomapbiklfciaf
open Go.RowKit Go.PlainAid

set_option maxRecDepth 100000

set_option maxHeartbeats 8000000 in
theorem changed_any1 (t : Nat → UInt8 → UInt8) (F : List ByteArray) (v : Value) (l : List Deed) (vl : Value) (K : FuncId) (cp : Value) (hK : ∀ w x y, Sem.run Try.prog (callFunc K #[x, y, cp]) w = .ok (.enter K #[x, y, cp]) w) (w : World)
    (hT : ∀ (i : Nat) (b : UInt8) W, Below w.heap.size w W → Calls Try.prog K #[.int .i64 i, .int .u8 (b.toNat : Int), cp] W fun e W' => e = .returned (.int .u8 ((t i b).toNat : Int)) ∧ Below W.heap.size W W')
    (hF : IsFl w.heap.size w v F) (hl : RowOf 3 Deed.cell w.heap.size w vl l) :
    Calls Try.prog 26 #[.agg #[v], .func (.func K) #[] #[cp], vl] w fun e w' => (∃ r, e = .returned (.tuple #[.agg #[r], .int .i64 (chgRes t F l).2]) ∧ IsFl w'.heap.size w' r (chgRes t F l).1) ∧ Below w.heap.size w w' := by
  have HTT : Hid (∀ (i : Nat) (b : UInt8) W, Below w.heap.size w W → Calls Try.prog K #[.int .i64 i, .int .u8 (b.toNat : Int), cp] W fun e W' => e = .returned (.int .u8 ((t i b).toNat : Int)) ∧ Below W.heap.size W W') := hT
  have HCK : Hid (∀ W, Below w.heap.size w W → Calls Try.prog 19 #[.agg #[v]] W fun e w' => e = .returned (.int .i64 (chkFl F)) ∧ Below W.heap.size W w') := fun W hb => flCheck_any F v W ((hF.1.below hb).more hb.size)
  have HJ : Hid (∀ W, chkFl F = 0 → Below w.heap.size w W → Calls Try.prog 28 #[v, .string ⟨#[]⟩] W fun e w' => e = .returned (.string ⟨(joinM F).toArray⟩) ∧ Below W.heap.size W w') := fun W h0 hb => by
    have := joinM_bound h0
    exact joinStr_any F v W ((hF.1.below hb).more hb.size) (by omega) (by omega) hF.2
  have key : (chkFl F ≠ 0 ∧ chgRes t F l = ([], chkFl F)) ∨ (chkFl F = 0 ∧ (joinM F).length ≤ 4096 ∧ (joinM F).length / 128 * 128 = (joinM F).length ∧ chgRes t F l = if (doFrom t (joinM F) l).2 ≠ 0 then ([], (doFrom t (joinM F) l).2) else (blocksM (doFrom t (joinM F) l).1, 0)) := by
    by_cases h0 : chkFl F = 0
    · have := joinM_bound h0
      refine .inr ⟨h0, by omega, by omega, ?_⟩
      unfold chgRes
      rw [if_neg (by omega)]
    · exact .inl ⟨h0, if_pos h0⟩
  obtain ⟨⟨a, cap, rfl, _, _⟩, _⟩ := hF
  obtain ⟨la, lcap, rfl, _, hlrow⟩ := hl
  generalize chkFl F = cf at *
  generalize chgRes t F l = R at *
  generalize joinM F = c0 at *
  generalize F.length = nF at *
  clear hT
  have HB1 : Hid (Below w.heap.size w ((w.alloc (.cells #[.slice a nF cap] 24)).alloc (.cells #[.slice none 0 0] 24))) := ((Below.refl _ _).alloc (Nat.le_refl _) _).alloc (by simp) _
  have HR1 : Hid (CellsAt ((w.alloc (.cells #[.slice a nF cap] 24)).alloc (.cells #[.slice none 0 0] 24)) (w.heap.size + 1) 24 #[.slice none 0 0]) := by
    have := CellsAt.new (w.alloc (.cells #[.slice a nF cap] 24)) 24 #[.slice none 0 0]
    rw [World.size_alloc] at this
    exact this
  have HF1 : Hid (CellsAt ((w.alloc (.cells #[.slice a nF cap] 24)).alloc (.cells #[.slice none 0 0] 24)) w.heap.size 24 #[.slice a nF cap]) := (CellsAt.new w 24 #[.slice a nF cap]).kept (World.grownBy_alloc _ _ none) (by simp)
  go_enter Try.func26, Try.ntmps26
  go_wp2_with fail
  refine (HCK.out _ HB1.out).mono ?_
  generalize ((w.alloc (.cells #[.slice a nF cap] 24)).alloc (.cells #[.slice none 0 0] 24)) = w1 at HB1 HR1 HF1
  rintro e w2 ⟨rfl, b1⟩
  have HB2 : Hid (Below w.heap.size w w2) := HB1.out.trans (b1.mono HB1.out.size)
  have HR2 : Hid (CellsAt w2 (w.heap.size + 1) 24 #[.slice none 0 0]) := HR1.out.below b1 HR1.out.lt
  have HF2 : Hid (CellsAt w2 w.heap.size 24 #[.slice a nF cap]) := HF1.out.below b1 HF1.out.lt
  clear b1 HB1 HR1 HF1 HCK
  rcases key with ⟨h0, rfl⟩ | ⟨rfl, hc0, hc128, hR⟩
  · have h0' : (cf != 0) = true := by simpa using h0
    have r0 := HR2.out.cell 0
    have r1 := HR2.out.frozen 0
    simp at r0
    clear h0
    go_wp2
    have hF := HR2.out.set 0 (.slice none 0 0)
    simp only [List.setIfInBounds_toArray, List.set_cons_zero] at hF
    refine bodyPost_ret (results_cell_tmp_row rfl _ _ _ _ _ _ _ rfl hF Try.underlying24 rfl (by kernel_rfl)) rfl ?_
    exact ⟨⟨_, rfl, IsFl.nil _ _⟩, HB2.out.setCell (by simp) _⟩
  · have HRR : Hid (R = if (doFrom t c0 l).2 ≠ 0 then ([], (doFrom t c0 l).2) else (blocksM (doFrom t c0 l).1, 0)) := hR
    have HD0 : Hid (doFrom t c0 l = doFrom t c0 (l.drop 0)) := rfl
    have f0 := HF2.out.cell 0
    simp at f0
    clear hR
    go_wp2_with fail
    refine (HJ.out _ (by first | rfl | trivial) HB2.out).mono ?_
    rintro e w3 ⟨rfl, b3⟩
    have HB3 : Hid (Below w.heap.size w w3) := HB2.out.trans (b3.mono HB2.out.size)
    have HR3 : Hid (CellsAt w3 (w.heap.size + 1) 24 #[.slice none 0 0]) := HR2.out.below b3 HR2.out.lt
    clear b3 HB2 HR2 HF2 f0 HJ
    obtain ⟨w4, kc, hcv, hC4, b4, hk1, hk2⟩ := convStr w3 c0 hc0
    have HC4 : Hid (CellsB w4 w3.heap.size c0) := hC4
    have HB4 : Hid (Below w.heap.size w w4) := HB3.out.trans (b4.mono HB3.out.size)
    have HR4 : Hid (CellsAt w4 (w.heap.size + 1) 24 #[.slice none 0 0]) := HR3.out.below b4 HR3.out.lt
    have hg : w.heap.size + 1 < w3.heap.size := HR3.out.lt
    clear hC4 b4 HB3 HR3
    go_wp2
    clear hcv
    generalize w3.heap.size = g at *
    generalize hn0 : c0.length = n0 at *
    have HCL : Hid (c0.length = n0) := hn0
    clear hn0
    go_loopw [25] (fun i wr => ∃ (k : Nat) (c : List UInt8), k ≤ l.length ∧ i = .int .i64 k ∧ Hid (c.length = n0) ∧ Hid (CellsB wr g c) ∧ Hid (doFrom t c0 l = doFrom t c (l.drop k)) ∧ Hid (Below g w4 wr)) (fun i _ => l.length - (intOf i).toNat)
    case atStart => exact ⟨0, c0, Nat.zero_le _, rfl, HCL, HC4, HD0, Below.refl _ _⟩
    case round =>
      obtain ⟨k, c, hk, rfl, HL, HC, HD, HG⟩ := hrel
      have HBw : Hid (Below w.heap.size w wr) := HB4.out.trans (HG.out.mono (by omega))
      clear HC4 HD0 HCL
      by_cases hlt : k < l.length
      · obtain ⟨d, hd⟩ : ∃ d, l[k]? = some d := ⟨_, List.getElem?_eq_getElem hlt⟩
        rcases hlrow with h | ⟨b, off, rfl, hbn, hcells⟩
        · subst h; simp at hlt
        have d0 := (HBw.out.cell (p := ⟨b, off + k * 3 + 0, none⟩) hbn).trans (hcells k _ hd 0 (by omega))
        have d1 := (HBw.out.cell (p := ⟨b, off + k * 3 + 1, none⟩) hbn).trans (hcells k _ hd 1 (by omega))
        have d2 := (HBw.out.cell (p := ⟨b, off + k * 3 + 2, none⟩) hbn).trans (hcells k _ hd 2 (by omega))
        dsimp only [Deed.cell] at d0 d1 d2
        rw [Nat.add_zero] at d0
        have hgr : g < wr.heap.size := HC.out.lt
        have hbr : b < wr.heap.size := Nat.lt_of_lt_of_le hbn HBw.out.size
        have HDN : Hid (doFrom t c0 l = if chkDeed n0 d ≠ 0 then ([], chkDeed n0 d) else doFrom t (turnM t d c) (l.drop (k + 1))) := by
          show doFrom t c0 l = _
          rw [HD.out, drop_at hd, doFrom_cons, HL.out]
        have HW : Hid (∀ W, Calls Try.prog 41 #[.slice (some ⟨g, 0, none⟩) n0 kc, .agg #[.int .i64 d.kind, .int .i64 d.pos, .int .i64 d.val]] W fun e w' => e = .returned (.int .i64 (chkDeed n0 d)) ∧ Below W.heap.size W w') := fun W => wrongD_any _ n0 kc d W hc0
        have HTU : Hid (∀ W, chkDeed n0 d = 0 → CellsB W g c → Below w.heap.size w W → Calls Try.prog 42 #[.slice (some ⟨g, 0, none⟩) n0 kc, .agg #[.int .i64 d.kind, .int .i64 d.pos, .int .i64 d.val], .func (.func K) #[] #[cp]] W fun e w' => e = .returned (.tuple #[]) ∧ CellsB w' g (turnM t d c) ∧ Below g W w') := fun W h0 hc hb => by
          have hln := HL.out
          have := turn_any1 t g kc c d K cp hK w.heap.size W (fun i b W' hb' => HTT.out i b W' (hb.trans hb')) (by omega) hc (by omega) (by omega) hk2 (by rw [hln]; exact h0)
          rw [hln] at this
          exact this
        have HLT : Hid ((turnM t d c).length = n0) := by show _ = _; rw [turnM_length, HL.out]
        have HBx : Hid (Below wr.heap.size wr (wr.alloc (.cells #[.int .i64 d.kind, .int .i64 d.pos, .int .i64 d.val] 32))) := (Below.refl _ _).alloc (Nat.le_refl _) _
        have HCx : Hid (CellsAt (wr.alloc (.cells #[.int .i64 d.kind, .int .i64 d.pos, .int .i64 d.val] 32)) wr.heap.size 32 #[.int .i64 d.kind, .int .i64 d.pos, .int .i64 d.val]) := CellsAt.new _ _ _
        clear hcells hd HD
        generalize chkDeed n0 d = cd at *
        generalize turnM t d c = c' at *
        obtain ⟨kd, ps, dv⟩ := d
        dsimp only at *
        go_wp2_with fail
        refine (HW.out _).mono ?_
        rintro e wa ⟨rfl, ba⟩
        have hCx := HCx.out.below ba HCx.out.lt
        have HCa : Hid (CellsB wa g c) := (HC.out.below HBx.out).below ba
        have HGa : Hid (Below g w4 wa) := (HG.out.trans (HBx.out.mono (Nat.le_of_lt hgr))).trans (ba.mono (by have := HBx.out.size; omega))
        have x0 := hCx.cell 0
        have x1 := hCx.cell 1
        have x2 := hCx.cell 2
        simp at x0 x1 x2
        have hxa : wr.heap.size < wa.heap.size := hCx.lt
        clear hCx HCx ba HW d0 d1 d2 HC HBx HG HBw
        by_cases hcd : cd = 0
        · subst hcd
          have HDM : Hid (doFrom t c0 l = doFrom t c' (l.drop (k + 1))) := HDN.out
          clear HDN
          go_wp2_with fail
          refine (HTU.out _ (by first | rfl | trivial) HCa.out (HB4.out.trans (HGa.out.mono (by omega)))).mono ?_
          rintro e wb ⟨rfl, hcb, bb⟩
          have HCb : Hid (CellsB wb g c') := hcb
          have HGb : Hid (Below g w4 wb) := HGa.out.trans bb
          clear hcb bb HTU HCa HGa x0 x1 x2
          go_wp2
          exact ⟨⟨k + 1, c', by omega, by go_num, HLT, HCb, HDM, HGb⟩, by simp [intOf]; omega⟩
        · have hcd' : (cd != 0) = true := by simpa using hcd
          have HZ : Hid (R = ([], cd)) := by
            show R = _
            rw [HRR.out, HDN.out]
            rw [if_pos (show cd ≠ 0 from hcd)]
            exact if_pos hcd
          have hRa := HR4.out.below HGa.out hg
          have r0 := hRa.cell 0
          have r1 := hRa.frozen 0
          simp at r0
          have HRa : Hid (CellsAt wa (w.heap.size + 1) 24 #[.slice none 0 0]) := hRa
          clear hcd HDN HRR hRa x0 x1 x2 HTU
          go_wp2
          have hF := HRa.out.set 0 (.slice none 0 0)
          simp only [List.setIfInBounds_toArray, List.set_cons_zero] at hF
          refine bodyPost_ret (results_cell_tmp_row rfl _ _ _ _ _ _ _ rfl hF Try.underlying24 rfl (by kernel_rfl)) rfl ?_
          have HZ' := HZ.out
          subst HZ'
          exact ⟨⟨_, rfl, IsFl.nil _ _⟩, (HB4.out.trans (HGa.out.mono (by omega))).setCell (by simp) _⟩
      · obtain rfl : k = l.length := by omega
        have HZ : Hid (R = (blocksM c, 0)) := by
          show R = _
          rw [HRR.out, HD.out, List.drop_length, doFrom_nil]
          rfl
        have HFO : Hid (∀ W, CellsB W g c → Calls Try.prog 31 #[.slice (some ⟨g, 0, none⟩) n0 kc] W fun e w' => (∃ v, e = .returned (.agg #[v]) ∧ w'.ownsRow W.heap.size 9 1 v (blocksM c).length ((blocksM c).flatMap strC)) ∧ Below W.heap.size W w') := fun W h => by
          have hln := HL.out
          have := flashOf_any g kc c W h (by omega) (by omega) hk2
          rw [hln] at this
          exact this
        have HBL : Hid ((blocksM c).length ≤ 9223372036854775807) := by
          show (blocksM c).length ≤ _
          rw [blocksM_length]
          have := HL.out
          omega
        have HR5 : Hid (CellsAt wr (w.heap.size + 1) 24 #[.slice none 0 0]) := HR4.out.below HG.out hg
        clear HRR HD
        generalize blocksM c = BL at *
        go_wp2_with fail
        refine (HFO.out _ HC.out).mono ?_
        rintro e w6 ⟨⟨r, rfl, ho⟩, b6⟩
        have HO6 : Hid (w6.ownsRow wr.heap.size 9 1 r BL.length (BL.flatMap strC)) := ho
        have hR6 := HR5.out.below b6 HR5.out.lt
        have hgr : g < wr.heap.size := HC.out.lt
        have HR6 : Hid (CellsAt w6 (w.heap.size + 1) 24 #[.slice none 0 0]) := hR6
        have HB6 : Hid (Below w.heap.size w w6) := HBw.out.trans (b6.mono HBw.out.size)
        obtain ⟨ra, rc, rfl⟩ := own_form ho
        have r0 := hR6.cell 0
        have r1 := hR6.frozen 0
        simp at r0
        clear ho hR6 b6 HFO HR5
        go_wp2
        have hF := HR6.out.set 0 (.slice ra BL.length rc)
        simp only [List.setIfInBounds_toArray, List.set_cons_zero] at hF
        refine bodyPost_ret (results_cell_tmp_row rfl _ _ _ _ _ _ _ rfl hF Try.underlying24 rfl (by kernel_rfl)) rfl ?_
        have HZ' := HZ.out
        subst HZ'
        have ho := HO6.out.kept (grown_set w6 (w.heap.size + 1) 0 (.slice ra BL.length rc)) (.inr (fun e => by
          have h1 := own_block HO6.out _ e
          omega))
        exact ⟨⟨_, rfl, IsFl.own ho HBL.out⟩, HB6.out.setCell (by simp) _⟩

end Go.Proofs.Ytnomapbiklfciaf
