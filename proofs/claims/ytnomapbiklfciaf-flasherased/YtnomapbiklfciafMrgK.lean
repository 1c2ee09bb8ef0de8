/- Texts that are laid together. -/
import Derived.Test.YtnomapbiklfciafMrgJ
import Derived.Test.YtnomapbiklfciafMrgB
import Derived.Lib.QuietBelow
import Derived.BigQuiet

/- The contracts of package flash's changed, Do, Torn. -/
namespace Go.Proofs.Ytnomapbiklfciaf
open Go.RowKit Go.PlainAid

set_option maxRecDepth 100000

def CapIn (v : Value) : Prop := ∀ a n c, v = .slice a n c → n ≤ c
/-- A flash's blocks in memory. -/
def IsFl (n₀ : Nat) (W : World) (v : Value) (F : List ByteArray) : Prop := RowOf 1 strCell n₀ W v F ∧ CapIn v
theorem IsFl.below {n₀ : Nat} {W W' : World} {v : Value} {F : List ByteArray} (h : IsFl n₀ W v F) (hb : Below n₀ W W') : IsFl n₀ W' v F := ⟨h.1.below hb, h.2⟩
theorem IsFl.more {n₀ n₁ : Nat} {W : World} {v : Value} {F : List ByteArray} (h : IsFl n₀ W v F) (hn : n₀ ≤ n₁) : IsFl n₁ W v F := ⟨h.1.more hn, h.2⟩
theorem IsFl.nil (n₀ : Nat) (W : World) : IsFl n₀ W (.slice none 0 0) [] := ⟨⟨Option.none, 0, rfl, by simp, .inl rfl⟩, fun a n c h => by injection h; omega⟩
theorem IsFl.own {W : World} {base : Nat} {v : Value} {F : List ByteArray} (h : W.ownsRow base 9 1 v F.length (F.flatMap strC)) (hl : F.length ≤ 9223372036854775807) : IsFl W.heap.size W v F := by
  refine ⟨own_rows (C := strC) (cells := strCell) (sz := 1) (fun _ => rfl) strC_at h hl, fun a n c e => ?_⟩
  rcases h.2 with ⟨rfl, _⟩ | ⟨g, cap, cur, rfl, _, _, hc, _⟩
  · injection e; omega
  · injection e; omega

theorem convStr (w : World) (c : List UInt8) (hc : c.length ≤ 4096) : ∃ w' cap, (convert 9 58 (.string ⟨c.toArray⟩)).run Try.prog w = .ok (.slice (some ⟨w.heap.size, 0, none⟩) c.length cap) w' ∧ CellsB w' w.heap.size c ∧ Below w.heap.size w w' ∧ c.length ≤ cap ∧ cap ≤ 9223372036854775807 := by
  have hs : (⟨c.toArray⟩ : ByteArray).size = c.length := by simp [ByteArray.size]
  have h := run_bytes_of_string (P := Try.prog) w 9 58 5 ⟨c.toArray⟩ Try.underlying9 Try.underlying58 Try.underlying5
  rw [hs] at h
  obtain ⟨cap, hcap⟩ : ∃ cap, grownCap w c.length 0 5 = cap := ⟨_, rfl⟩
  have h1 := grownCap_ge w c.length 0 5
  have h2 := grownCap_le_maxLen w c.length 0 5 (by unfold maxLen; omega)
  rw [hcap] at h h1 h2
  unfold maxLen at h2
  refine ⟨_, cap, h, ⟨?_, fun j x hx => ?_, fun j hj => ?_⟩, ((Below.refl _ _).drew).alloc (Nat.le_refl _) _, h1, by omega⟩
  · rw [World.size_alloc]; exact Nat.lt_succ_self _
  · have hj := (List.getElem?_eq_some_iff.1 hx).1
    have := World.cell?_alloc_mark w.drew (bytesRow ⟨c.toArray⟩ cap) 5 ((bytesRow ⟨c.toArray⟩ cap).size, (bytesRow ⟨c.toArray⟩ cap).size + 1) j
    refine this.trans ?_
    rw [bytesRow_at _ _ _ (by simpa using hj)]
    have : c[j]? = some c[j] := List.getElem?_eq_getElem hj
    rw [hx] at this
    injection this with this
    simp [this]
  · have := World.frozen?_alloc_mark w.drew (bytesRow ⟨c.toArray⟩ cap) 5 (bytesRow ⟨c.toArray⟩ cap).size ((bytesRow ⟨c.toArray⟩ cap).size + 1) j
    refine this.trans ?_
    have hz : c.length ≤ (bytesRow ⟨c.toArray⟩ cap).size := by unfold bytesRow; simp
    rw [decide_eq_false (by omega)]
    rfl

theorem joinM_bound {F : List ByteArray} (h : chkFl F = 0) : (joinM F).length = F.length * 128 ∧ F.length ≤ 32 ∧ 1 ≤ F.length := by
  rcases chkFl_cases F with ⟨e, _⟩ | ⟨e, _⟩ | ⟨_, h1, h2, h3⟩
  · rw [e] at h; cases h
  · rw [e] at h; cases h
  · exact ⟨joinM_length h3, h2, h1⟩
theorem blocksM_length (c : List UInt8) : (blocksM c).length = c.length / 128 := by unfold blocksM; simp
theorem doFrom_nil (t : Nat → UInt8 → UInt8) (c : List UInt8) : doFrom t c [] = (c, 0) := rfl
theorem doFrom_cons (t : Nat → UInt8 → UInt8) (c : List UInt8) (d : Deed) (r : List Deed) : doFrom t c (d :: r) = if chkDeed c.length d ≠ 0 then ([], chkDeed c.length d) else doFrom t (turnM t d c) r := rfl

set_option maxHeartbeats 8000000 in
theorem changed_any0 (t : Nat → UInt8 → UInt8) (F : List ByteArray) (v : Value) (l : List Deed) (vl : Value) (K : FuncId) (hK : ∀ w x y, Sem.run Try.prog (callFunc K #[x, y]) w = .ok (.enter K #[x, y]) w) (w : World)
    (hT : ∀ (i : Nat) (b : UInt8) W, Below w.heap.size w W → Calls Try.prog K #[.int .i64 i, .int .u8 (b.toNat : Int)] W fun e W' => e = .returned (.int .u8 ((t i b).toNat : Int)) ∧ Below W.heap.size W W')
    (hF : IsFl w.heap.size w v F) (hl : RowOf 3 Deed.cell w.heap.size w vl l) :
    Calls Try.prog 26 #[.agg #[v], .func (.func K) #[] #[], vl] w fun e w' => (∃ r, e = .returned (.tuple #[.agg #[r], .int .i64 (chgRes t F l).2]) ∧ IsFl w'.heap.size w' r (chgRes t F l).1) ∧ Below w.heap.size w w' := by
  have HTT : Hid (∀ (i : Nat) (b : UInt8) W, Below w.heap.size w W → Calls Try.prog K #[.int .i64 i, .int .u8 (b.toNat : Int)] W fun e W' => e = .returned (.int .u8 ((t i b).toNat : Int)) ∧ Below W.heap.size W W') := hT
  have HCK : Hid (∀ W, Below w.heap.size w W → Calls Try.prog 19 #[.agg #[v]] W fun e w' => e = .returned (.int .i64 (chkFl F)) ∧ Below W.heap.size W w') := fun W hb => flCheck_any F v W ((hF.1.below hb).more hb.size)
  have HJ : Hid (∀ W, chkFl F = 0 → Below w.heap.size w W → Calls Try.prog 28 #[v, .string ⟨#[]⟩] W fun e w' => e = .returned (.string ⟨(joinM F).toArray⟩) ∧ Below W.heap.size W w') := fun W h0 hb => by
    have := joinM_bound h0
    exact joinStr_any F v W ((hF.1.below hb).more hb.size) (by omega) (by omega) hF.2
  have key : (chkFl F ≠ 0 ∧ chgRes t F l = ([], chkFl F)) ∨ (chkFl F = 0 ∧ (joinM F).length ≤ 4096 ∧ (joinM F).length / 128 * 128 = (joinM F).length ∧ chgRes t F l = if (doFrom t (joinM F) l).2 ≠ 0 then ([], (doFrom t (joinM F) l).2) else (blocksM (doFrom t (joinM F) l).1, 0)) := by
    by_cases h0 : chkFl F = 0
    · have := joinM_bound h0
      refine .inr ⟨h0, by omega, by omega, ?_⟩
      unfold chgRes
      rw [if_neg (by omega)]
    · exact .inl ⟨h0, if_pos h0⟩
  obtain ⟨⟨a, cap, rfl, _, _⟩, _⟩ := hF
  obtain ⟨la, lcap, rfl, _, hlrow⟩ := hl
  generalize chkFl F = cf at *
  generalize chgRes t F l = R at *
  generalize joinM F = c0 at *
  generalize F.length = nF at *
  clear hT
  have HB1 : Hid (Below w.heap.size w ((w.alloc (.cells #[.slice a nF cap] 24)).alloc (.cells #[.slice none 0 0] 24))) := ((Below.refl _ _).alloc (Nat.le_refl _) _).alloc (by simp) _
  have HR1 : Hid (CellsAt ((w.alloc (.cells #[.slice a nF cap] 24)).alloc (.cells #[.slice none 0 0] 24)) (w.heap.size + 1) 24 #[.slice none 0 0]) := by
    have := CellsAt.new (w.alloc (.cells #[.slice a nF cap] 24)) 24 #[.slice none 0 0]
    rw [World.size_alloc] at this
    exact this
  have HF1 : Hid (CellsAt ((w.alloc (.cells #[.slice a nF cap] 24)).alloc (.cells #[.slice none 0 0] 24)) w.heap.size 24 #[.slice a nF cap]) := (CellsAt.new w 24 #[.slice a nF cap]).kept (World.grownBy_alloc _ _ none) (by simp)
  go_enter Try.func26, Try.ntmps26
  go_wp2_with fail
  refine (HCK.out _ HB1.out).mono ?_
  generalize ((w.alloc (.cells #[.slice a nF cap] 24)).alloc (.cells #[.slice none 0 0] 24)) = w1 at HB1 HR1 HF1
  rintro e w2 ⟨rfl, b1⟩
  have HB2 : Hid (Below w.heap.size w w2) := HB1.out.trans (b1.mono HB1.out.size)
  have HR2 : Hid (CellsAt w2 (w.heap.size + 1) 24 #[.slice none 0 0]) := HR1.out.below b1 HR1.out.lt
  have HF2 : Hid (CellsAt w2 w.heap.size 24 #[.slice a nF cap]) := HF1.out.below b1 HF1.out.lt
  clear b1 HB1 HR1 HF1 HCK
  rcases key with ⟨h0, rfl⟩ | ⟨rfl, hc0, hc128, hR⟩
  · have h0' : (cf != 0) = true := by simpa using h0
    have r0 := HR2.out.cell 0
    have r1 := HR2.out.frozen 0
    simp at r0
    clear h0
    go_wp2
    have hF := HR2.out.set 0 (.slice none 0 0)
    simp only [List.setIfInBounds_toArray, List.set_cons_zero] at hF
    refine bodyPost_ret (results_cell_tmp_row rfl _ _ _ _ _ _ _ rfl hF Try.underlying24 rfl (by kernel_rfl)) rfl ?_
    exact ⟨⟨_, rfl, IsFl.nil _ _⟩, HB2.out.setCell (by simp) _⟩
  · have HRR : Hid (R = if (doFrom t c0 l).2 ≠ 0 then ([], (doFrom t c0 l).2) else (blocksM (doFrom t c0 l).1, 0)) := hR
    have HD0 : Hid (doFrom t c0 l = doFrom t c0 (l.drop 0)) := rfl
    have f0 := HF2.out.cell 0
    simp at f0
    clear hR
    go_wp2_with fail
    refine (HJ.out _ (by first | rfl | trivial) HB2.out).mono ?_
    rintro e w3 ⟨rfl, b3⟩
    have HB3 : Hid (Below w.heap.size w w3) := HB2.out.trans (b3.mono HB2.out.size)
    have HR3 : Hid (CellsAt w3 (w.heap.size + 1) 24 #[.slice none 0 0]) := HR2.out.below b3 HR2.out.lt
    clear b3 HB2 HR2 HF2 f0 HJ
    obtain ⟨w4, kc, hcv, hC4, b4, hk1, hk2⟩ := convStr w3 c0 hc0
    have HC4 : Hid (CellsB w4 w3.heap.size c0) := hC4
    have HB4 : Hid (Below w.heap.size w w4) := HB3.out.trans (b4.mono HB3.out.size)
    have HR4 : Hid (CellsAt w4 (w.heap.size + 1) 24 #[.slice none 0 0]) := HR3.out.below b4 HR3.out.lt
    have hg : w.heap.size + 1 < w3.heap.size := HR3.out.lt
    clear hC4 b4 HB3 HR3
    go_wp2
    clear hcv
    generalize w3.heap.size = g at *
    generalize hn0 : c0.length = n0 at *
    have HCL : Hid (c0.length = n0) := hn0
    clear hn0
    go_loopw [25] (fun i wr => ∃ (k : Nat) (c : List UInt8), k ≤ l.length ∧ i = .int .i64 k ∧ Hid (c.length = n0) ∧ Hid (CellsB wr g c) ∧ Hid (doFrom t c0 l = doFrom t c (l.drop k)) ∧ Hid (Below g w4 wr)) (fun i _ => l.length - (intOf i).toNat)
    case atStart => exact ⟨0, c0, Nat.zero_le _, rfl, HCL, HC4, HD0, Below.refl _ _⟩
    case round =>
      obtain ⟨k, c, hk, rfl, HL, HC, HD, HG⟩ := hrel
      have HBw : Hid (Below w.heap.size w wr) := HB4.out.trans (HG.out.mono (by omega))
      clear HC4 HD0 HCL
      by_cases hlt : k < l.length
      · obtain ⟨d, hd⟩ : ∃ d, l[k]? = some d := ⟨_, List.getElem?_eq_getElem hlt⟩
        rcases hlrow with h | ⟨b, off, rfl, hbn, hcells⟩
        · subst h; simp at hlt
        have d0 := (HBw.out.cell (p := ⟨b, off + k * 3 + 0, none⟩) hbn).trans (hcells k _ hd 0 (by omega))
        have d1 := (HBw.out.cell (p := ⟨b, off + k * 3 + 1, none⟩) hbn).trans (hcells k _ hd 1 (by omega))
        have d2 := (HBw.out.cell (p := ⟨b, off + k * 3 + 2, none⟩) hbn).trans (hcells k _ hd 2 (by omega))
        dsimp only [Deed.cell] at d0 d1 d2
        rw [Nat.add_zero] at d0
        have hgr : g < wr.heap.size := HC.out.lt
        have hbr : b < wr.heap.size := Nat.lt_of_lt_of_le hbn HBw.out.size
        have HDN : Hid (doFrom t c0 l = if chkDeed n0 d ≠ 0 then ([], chkDeed n0 d) else doFrom t (turnM t d c) (l.drop (k + 1))) := by
          show doFrom t c0 l = _
          rw [HD.out, drop_at hd, doFrom_cons, HL.out]
        have HW : Hid (∀ W, Calls Try.prog 41 #[.slice (some ⟨g, 0, none⟩) n0 kc, .agg #[.int .i64 d.kind, .int .i64 d.pos, .int .i64 d.val]] W fun e w' => e = .returned (.int .i64 (chkDeed n0 d)) ∧ Below W.heap.size W w') := fun W => wrongD_any _ n0 kc d W hc0
        have HTU : Hid (∀ W, chkDeed n0 d = 0 → CellsB W g c → Below w.heap.size w W → Calls Try.prog 42 #[.slice (some ⟨g, 0, none⟩) n0 kc, .agg #[.int .i64 d.kind, .int .i64 d.pos, .int .i64 d.val], .func (.func K) #[] #[]] W fun e w' => e = .returned (.tuple #[]) ∧ CellsB w' g (turnM t d c) ∧ Below g W w') := fun W h0 hc hb => by
          have hln := HL.out
          have := turn_any0 t g kc c d K hK w.heap.size W (fun i b W' hb' => HTT.out i b W' (hb.trans hb')) (by omega) hc (by omega) (by omega) hk2 (by rw [hln]; exact h0)
          rw [hln] at this
          exact this
        have HLT : Hid ((turnM t d c).length = n0) := by show _ = _; rw [turnM_length, HL.out]
        have HBx : Hid (Below wr.heap.size wr (wr.alloc (.cells #[.int .i64 d.kind, .int .i64 d.pos, .int .i64 d.val] 32))) := (Below.refl _ _).alloc (Nat.le_refl _) _
        have HCx : Hid (CellsAt (wr.alloc (.cells #[.int .i64 d.kind, .int .i64 d.pos, .int .i64 d.val] 32)) wr.heap.size 32 #[.int .i64 d.kind, .int .i64 d.pos, .int .i64 d.val]) := CellsAt.new _ _ _
        clear hcells hd HD
        generalize chkDeed n0 d = cd at *
        generalize turnM t d c = c' at *
        obtain ⟨kd, ps, dv⟩ := d
        dsimp only at *
        go_wp2_with fail
        refine (HW.out _).mono ?_
        rintro e wa ⟨rfl, ba⟩
        have hCx := HCx.out.below ba HCx.out.lt
        have HCa : Hid (CellsB wa g c) := (HC.out.below HBx.out).below ba
        have HGa : Hid (Below g w4 wa) := (HG.out.trans (HBx.out.mono (Nat.le_of_lt hgr))).trans (ba.mono (by have := HBx.out.size; omega))
        have x0 := hCx.cell 0
        have x1 := hCx.cell 1
        have x2 := hCx.cell 2
        simp at x0 x1 x2
        have hxa : wr.heap.size < wa.heap.size := hCx.lt
        clear hCx HCx ba HW d0 d1 d2 HC HBx HG HBw
        by_cases hcd : cd = 0
        · subst hcd
          have HDM : Hid (doFrom t c0 l = doFrom t c' (l.drop (k + 1))) := HDN.out
          clear HDN
          go_wp2_with fail
          refine (HTU.out _ (by first | rfl | trivial) HCa.out (HB4.out.trans (HGa.out.mono (by omega)))).mono ?_
          rintro e wb ⟨rfl, hcb, bb⟩
          have HCb : Hid (CellsB wb g c') := hcb
          have HGb : Hid (Below g w4 wb) := HGa.out.trans bb
          clear hcb bb HTU HCa HGa x0 x1 x2
          go_wp2
          exact ⟨⟨k + 1, c', by omega, by go_num, HLT, HCb, HDM, HGb⟩, by simp [intOf]; omega⟩
        · have hcd' : (cd != 0) = true := by simpa using hcd
          have HZ : Hid (R = ([], cd)) := by
            show R = _
            rw [HRR.out, HDN.out]
            rw [if_pos (show cd ≠ 0 from hcd)]
            exact if_pos hcd
          have hRa := HR4.out.below HGa.out hg
          have r0 := hRa.cell 0
          have r1 := hRa.frozen 0
          simp at r0
          have HRa : Hid (CellsAt wa (w.heap.size + 1) 24 #[.slice none 0 0]) := hRa
          clear hcd HDN HRR hRa x0 x1 x2 HTU
          go_wp2
          have hF := HRa.out.set 0 (.slice none 0 0)
          simp only [List.setIfInBounds_toArray, List.set_cons_zero] at hF
          refine bodyPost_ret (results_cell_tmp_row rfl _ _ _ _ _ _ _ rfl hF Try.underlying24 rfl (by kernel_rfl)) rfl ?_
          have HZ' := HZ.out
          subst HZ'
          exact ⟨⟨_, rfl, IsFl.nil _ _⟩, (HB4.out.trans (HGa.out.mono (by omega))).setCell (by simp) _⟩
      · obtain rfl : k = l.length := by omega
        have HZ : Hid (R = (blocksM c, 0)) := by
          show R = _
          rw [HRR.out, HD.out, List.drop_length, doFrom_nil]
          rfl
        have HFO : Hid (∀ W, CellsB W g c → Calls Try.prog 31 #[.slice (some ⟨g, 0, none⟩) n0 kc] W fun e w' => (∃ v, e = .returned (.agg #[v]) ∧ w'.ownsRow W.heap.size 9 1 v (blocksM c).length ((blocksM c).flatMap strC)) ∧ Below W.heap.size W w') := fun W h => by
          have hln := HL.out
          have := flashOf_any g kc c W h (by omega) (by omega) hk2
          rw [hln] at this
          exact this
        have HBL : Hid ((blocksM c).length ≤ 9223372036854775807) := by
          show (blocksM c).length ≤ _
          rw [blocksM_length]
          have := HL.out
          omega
        have HR5 : Hid (CellsAt wr (w.heap.size + 1) 24 #[.slice none 0 0]) := HR4.out.below HG.out hg
        clear HRR HD
        generalize blocksM c = BL at *
        go_wp2_with fail
        refine (HFO.out _ HC.out).mono ?_
        rintro e w6 ⟨⟨r, rfl, ho⟩, b6⟩
        have HO6 : Hid (w6.ownsRow wr.heap.size 9 1 r BL.length (BL.flatMap strC)) := ho
        have hR6 := HR5.out.below b6 HR5.out.lt
        have hgr : g < wr.heap.size := HC.out.lt
        have HR6 : Hid (CellsAt w6 (w.heap.size + 1) 24 #[.slice none 0 0]) := hR6
        have HB6 : Hid (Below w.heap.size w w6) := HBw.out.trans (b6.mono HBw.out.size)
        obtain ⟨ra, rc, rfl⟩ := own_form ho
        have r0 := hR6.cell 0
        have r1 := hR6.frozen 0
        simp at r0
        clear ho hR6 b6 HFO HR5
        go_wp2
        have hF := HR6.out.set 0 (.slice ra BL.length rc)
        simp only [List.setIfInBounds_toArray, List.set_cons_zero] at hF
        refine bodyPost_ret (results_cell_tmp_row rfl _ _ _ _ _ _ _ rfl hF Try.underlying24 rfl (by kernel_rfl)) rfl ?_
        have HZ' := HZ.out
        subst HZ'
        have ho := HO6.out.kept (grown_set w6 (w.heap.size + 1) 0 (.slice ra BL.length rc)) (.inr (fun e => by
          have h1 := own_block HO6.out _ e
          omega))
        exact ⟨⟨_, rfl, IsFl.own ho HBL.out⟩, HB6.out.setCell (by simp) _⟩

end Go.Proofs.Ytnomapbiklfciaf

/- The contracts of the document's SameTexts, SameFlash, CheckFlash, AllOf, CheckDeed, CheckDeeds. -/
namespace Go.Proofs.Ytnomapbiklfciaf
open Go.RowKit Go.PlainAid

set_option maxRecDepth 100000

def sameB : List ByteArray → List ByteArray → Bool
  | [], [] => true
  | x :: xs, y :: ys => x.toList == y.toList && sameB xs ys
  | _, _ => false
theorem toList_inj {x y : ByteArray} (h : x.toList = y.toList) : x = y := by
  rw [ByteArray.toList_eq, ByteArray.toList_eq] at h
  exact ByteArray.ext (Array.toList_inj.1 h)
theorem sameB_iff : ∀ (xs ys : List ByteArray), sameB xs ys = true ↔ xs = ys
  | [], [] => by simp [sameB]
  | [], y :: ys => by simp [sameB]
  | x :: xs, [] => by simp [sameB]
  | x :: xs, y :: ys => by
    simp only [sameB, Bool.and_eq_true, beq_iff_eq, sameB_iff xs ys, List.cons.injEq]
    constructor
    · rintro ⟨h1, h2⟩; exact ⟨toList_inj h1, h2⟩
    · rintro ⟨rfl, h2⟩; exact ⟨rfl, h2⟩
theorem sameB_length : ∀ {xs ys : List ByteArray}, xs.length ≠ ys.length → sameB xs ys = false := fun {xs ys} h => by
  cases hb : sameB xs ys with
  | false => rfl
  | true => exact absurd (by rw [(sameB_iff xs ys).1 hb]) h
theorem sameB_self (xs : List ByteArray) : sameB xs xs = true := (sameB_iff xs xs).2 rfl

set_option maxHeartbeats 2000000 in
theorem sameTexts_any (xs ys : List ByteArray) (v v' : Value) (w : World) (h1 : RowOf 1 strCell w.heap.size w v xs) (h2 : RowOf 1 strCell w.heap.size w v' ys) :
    Calls Try.prog 25 #[v, v'] w fun e w' => e = .returned (.bool (sameB xs ys)) ∧ Below w.heap.size w w' := by
  obtain ⟨a, cap, rfl, hz, h1⟩ := h1
  obtain ⟨a', cap', rfl, hz', h2⟩ := h2
  by_cases hl : xs.length = ys.length
  · have HL : Hid (xs.length = ys.length) := hl
    have HS0 : Hid (sameB xs ys = sameB (xs.drop 0) (ys.drop 0)) := rfl
    have hne : ((xs.length : Int) != (xs.length : Int)) = false := by simp
    rw [← hl]
    clear hl hz'
    go_enter Try.func25, Try.ntmps25
    go_wp2
    go_loopw [5] (fun i wr => ∃ (k : Nat), k ≤ xs.length ∧ i = .int .i64 k ∧ Hid (sameB xs ys = sameB (xs.drop k) (ys.drop k)) ∧ Hid (∃ q, wr = w.drewN q)) (fun i _ => xs.length - (intOf i).toNat)
    case atStart => exact ⟨0, Nat.zero_le _, rfl, HS0, (⟨0, rfl⟩ : ∃ q, w = w.drewN q)⟩
    case round =>
      obtain ⟨k, hk, rfl, HS, HQ⟩ := hrel
      clear HS0
      by_cases hlt : k < xs.length
      · obtain ⟨p, hp⟩ : ∃ p, xs[k]? = some p := ⟨_, List.getElem?_eq_getElem hlt⟩
        obtain ⟨q, hq⟩ : ∃ q, ys[k]? = some q := ⟨_, List.getElem?_eq_getElem (by have := HL.out; omega)⟩
        rcases h1 with h | ⟨b, off, rfl, hbn, hc⟩
        · subst h; simp at hlt
        rcases h2 with h | ⟨b', off', rfl, hbn', hc'⟩
        · subst h; simp at hq
        have hcl : ∀ p, wr.cell? p = w.cell? p := fun p => by obtain ⟨q, hq⟩ := HQ.out; rw [hq]; simp
        have c0 := (hcl _).trans (hc k _ hp 0 (by omega))
        have d0 := (hcl _).trans (hc' k _ hq 0 (by omega))
        dsimp only [strCell] at c0 d0
        rw [Nat.add_zero, Nat.mul_one] at c0 d0
        have HN : Hid (sameB xs ys = (p.toList == q.toList && sameB (xs.drop (k + 1)) (ys.drop (k + 1)))) := by
          show sameB xs ys = _
          rw [HS.out, drop_at hp, drop_at hq]; rfl
        clear hcl hc hc' hp hq HS
        by_cases hpq : p = q
        · subst hpq
          have HN2 : Hid (sameB xs ys = sameB (xs.drop (k + 1)) (ys.drop (k + 1))) := by
            show sameB xs ys = _
            rw [HN.out, BEq.rfl, Bool.true_and]
          clear HN
          go_wp2
          go_quiet (fail)
          go_wp2
          obtain ⟨q, hq⟩ := HQ.out
          exact ⟨⟨k + 1, by omega, by go_num, HN2, (⟨q + _, by rw [hq, World.drewN_drewN]⟩ : ∃ q, _ = w.drewN q)⟩, by simp [intOf]; omega⟩
        · have hb : (p.toList == q.toList) = false := beq_eq_false_iff_ne.2 fun h => hpq (toList_inj h)
          have hb2 : (p.toList != q.toList) = true := by rw [bne, hb]; rfl
          have HN2 : Hid (sameB xs ys = false) := by
            show sameB xs ys = _
            rw [HN.out, hb]; rfl
          clear HN hpq
          go_wp2
          go_quiet (fail)
          go_wp2
          go_ret
          obtain ⟨q, hq⟩ := HQ.out
          exact ⟨by rw [HN2.out]; rfl, by rw [hq]; exact below_drewN (below_drewN (Below.refl _ _) q) _⟩
      · obtain rfl : k = xs.length := by omega
        have HZ : Hid (sameB xs ys = true) := by
          show sameB xs ys = true
          rw [HS.out, List.drop_length, HL.out, List.drop_length]; rfl
        go_wp2
        go_ret
        obtain ⟨q, hq⟩ := HQ.out
        exact ⟨by rw [HZ.out]; rfl, by rw [hq]; exact below_drewN (Below.refl _ _) q⟩
  · have HZ : Hid (sameB xs ys = false) := sameB_length hl
    have hne : ((xs.length : Int) != (ys.length : Int)) = true := by rw [bne_iff_ne]; omega
    clear h1 h2
    generalize xs.length = n at *
    generalize ys.length = m at *
    clear hl
    go_enter Try.func25, Try.ntmps25
    go_wp2
    go_ret
    exact ⟨by rw [HZ.out]; rfl, Below.refl _ _⟩

set_option maxHeartbeats 1000000 in
theorem sameFlash_any (F G : List ByteArray) (v v' : Value) (w : World) (h1 : RowOf 1 strCell w.heap.size w v F) (h2 : RowOf 1 strCell w.heap.size w v' G) :
    Calls Try.prog 9 #[.agg #[v], .agg #[v']] w fun e w' => e = .returned (.bool (sameB F G)) ∧ Below w.heap.size w w' := by
  have HS : Hid (∀ W, Below w.heap.size w W → Calls Try.prog 25 #[v, v'] W fun e w' => e = .returned (.bool (sameB F G)) ∧ Below W.heap.size W w') := fun W hb => sameTexts_any F G v v' W ((h1.below hb).more hb.size) ((h2.below hb).more hb.size)
  obtain ⟨a, c, rfl, _, _⟩ := h1
  obtain ⟨a', c', rfl, _, _⟩ := h2
  generalize sameB F G = r at *
  generalize F.length = n at *
  generalize G.length = m at *
  have HB : Hid (Below w.heap.size w ((w.alloc (.cells #[.slice a n c] 24)).alloc (.cells #[.slice a' m c'] 24))) := ((Below.refl _ _).alloc (Nat.le_refl _) _).alloc (by simp) _
  go_enter Try.func9, Try.ntmps9
  go_wp2_with fail
  refine (HS.out _ HB.out).mono ?_
  rintro e w2 ⟨rfl, b2⟩
  go_wp2
  go_ret
  exact ⟨rfl, HB.out.trans (b2.mono HB.out.size)⟩

set_option maxHeartbeats 1000000 in
theorem rCheckFlash_any (F : List ByteArray) (v : Value) (w : World) (hF : RowOf 1 strCell w.heap.size w v F) :
    Calls Try.prog 13 #[.agg #[v]] w fun e w' => e = .returned (.int .i64 (chkFl F)) ∧ Below w.heap.size w w' := by
  obtain ⟨a, cap, rfl, hmx, hrow⟩ := hF
  have key := chkFl_cases F
  generalize chkFl F = cf at *
  have HB : Hid (Below w.heap.size w (w.alloc (.cells #[.slice a F.length cap] 24))) := (Below.refl _ _).alloc (Nat.le_refl _) _
  have HC1 : Hid (CellsAt (w.alloc (.cells #[.slice a F.length cap] 24)) w.heap.size 24 #[.slice a F.length cap]) := CellsAt.new _ _ _
  go_enter Try.func13, Try.ntmps13
  go_wp2_with fail
  refine (between_any _ _ _ _).mono ?_
  rintro e w2 ⟨rfl, rfl⟩
  rcases key with ⟨rfl, h⟩ | key
  · have g : betw (F.length : Int) 1 32 = false := betw_false (by omega)
    rw [g]
    clear g
    go_wp2
    go_ret
    exact ⟨rfl, HB.out⟩
  · have hl : 1 ≤ F.length ∧ F.length ≤ 32 := by rcases key with ⟨_, h1, h2, _⟩ | ⟨_, h1, h2, _⟩ <;> exact ⟨h1, h2⟩
    have g : betw (F.length : Int) 1 32 = true := betw_true (by omega) (by omega)
    rw [g]
    clear g
    have HK : Hid (cf = if F.all (fun b => decide (b.size = 128)) then 0 else 1) := by
      show cf = _
      rcases key with ⟨rfl, _, _, b, hb, hne⟩ | ⟨rfl, _, _, hall⟩
      · rw [if_neg]
        intro h
        exact hne (by simpa using List.all_eq_true.1 h b hb)
      · rw [if_pos]
        exact List.all_eq_true.2 fun b hb => by simpa using hall b hb
    clear key
    go_wp2
    go_loopw [3] (fun i wr => ∃ (k : Nat), k ≤ F.length ∧ i = .int .i64 k ∧ Hid (cf = if (F.drop k).all (fun b => decide (b.size = 128)) then 0 else 1) ∧ Hid (CellsAt wr w.heap.size 24 #[.slice a F.length cap]) ∧ Below w.heap.size w wr) (fun i _ => F.length - (intOf i).toNat)
    case atStart => exact ⟨0, Nat.zero_le _, rfl, HK, HC1, HB.out⟩
    case round =>
      obtain ⟨k, hk, rfl, HC, HCA, B⟩ := hrel
      clear HK HB HC1
      have g0 := HCA.out.cell 0
      simp at g0
      by_cases hlt : k < F.length
      · obtain ⟨x, hx⟩ : ∃ x, F[k]? = some x := ⟨_, List.getElem?_eq_getElem hlt⟩
        rcases hrow with h | ⟨b, off, rfl, hbn, hcells⟩
        · subst h; simp at hlt
        have c0 := (B.cell (p := ⟨b, off + k * 1 + 0, none⟩) hbn).trans (hcells k _ hx 0 (by omega))
        dsimp only [strCell] at c0
        rw [Nat.add_zero, Nat.mul_one] at c0
        have HR : Hid (cf = if decide (x.size = 128) && (F.drop (k + 1)).all (fun b => decide (b.size = 128)) then 0 else 1) := by
          show cf = _
          rw [HC.out, drop_at hx, List.all_cons]
        clear HC hcells hx
        by_cases hs : x.size = 128
        · have HR2 : Hid (cf = if (F.drop (k + 1)).all (fun b => decide (b.size = 128)) then 0 else 1) := by
            show cf = _
            rw [HR.out, decide_eq_true hs, Bool.true_and]
          clear HR
          go_wp2
          exact ⟨⟨k + 1, by omega, by go_num, HR2, HCA, B⟩, by simp [intOf]; omega⟩
        · have HR2 : Hid (cf = 1) := by
            show cf = _
            rw [HR.out, decide_eq_false hs]; rfl
          clear HR
          go_wp2
          go_ret
          exact ⟨by rw [HR2.out]; rfl, B⟩
      · obtain rfl : k = F.length := by omega
        have HZ : Hid (cf = 0) := by
          show cf = _
          rw [HC.out, List.drop_length]; rfl
        go_wp2
        go_ret
        exact ⟨by rw [HZ.out]; rfl, B⟩

theorem joinM_take_le : ∀ (F : List ByteArray) (k : Nat), (∀ b ∈ F, b.size = 128) → (joinM (F.take k)).length ≤ F.length * 128 := fun F k h => by
  rw [joinM_length (fun b hb => h b (List.mem_of_mem_take hb)), List.length_take]
  have : min k F.length ≤ F.length := Nat.min_le_right _ _
  omega
theorem joinM_step {F : List ByteArray} {k : Nat} {x : ByteArray} (hx : F[k]? = some x) : (⟨(joinM (F.take k)).toArray⟩ : ByteArray) ++ x = ⟨(joinM (F.take (k + 1))).toArray⟩ := by
  apply ByteArray.ext
  rw [ByteArray.data_append, List.take_add_one, hx]
  simp [joinM]

set_option maxHeartbeats 1000000 in
theorem rAllOf_any (F : List ByteArray) (v : Value) (w : World) (hF : RowOf 1 strCell w.heap.size w v F) (h0 : chkFl F = 0) :
    Calls Try.prog 16 #[.agg #[v]] w fun e w' => e = .returned (.string ⟨(joinM F).toArray⟩) ∧ Below w.heap.size w w' := by
  obtain ⟨a, cap, rfl, hmx, hrow⟩ := hF
  have hall : ∀ b ∈ F, b.size = 128 := by
    rcases chkFl_cases F with ⟨e, _⟩ | ⟨e, _⟩ | ⟨_, _, _, h⟩
    · rw [e] at h0; cases h0
    · rw [e] at h0; cases h0
    · exact h
  have hl := (joinM_bound h0).2.1
  have HTK : Hid (∀ k, (joinM (F.take k)).length ≤ F.length * 128) := fun k => joinM_take_le F k hall
  clear h0 hall
  have HB : Hid (Below w.heap.size w (w.alloc (.cells #[.slice a F.length cap] 24))) := (Below.refl _ _).alloc (Nat.le_refl _) _
  have HC1 : Hid (CellsAt (w.alloc (.cells #[.slice a F.length cap] 24)) w.heap.size 24 #[.slice a F.length cap]) := CellsAt.new _ _ _
  go_enter Try.func16, Try.ntmps16
  go_wp2
  go_loopw [3, 4] (fun s i wr => ∃ (k : Nat) (t : ByteArray), k ≤ F.length ∧ i = .int .i64 k ∧ s = .string t ∧ Hid (t = ⟨(joinM (F.take k)).toArray⟩) ∧ Hid (CellsAt wr w.heap.size 24 #[.slice a F.length cap]) ∧ Below w.heap.size w wr) (fun _ i _ => F.length - (intOf i).toNat)
  case atStart => exact ⟨0, ⟨#[]⟩, Nat.zero_le _, rfl, rfl, (by show (⟨#[]⟩ : ByteArray) = _; rw [List.take_zero]; rfl), HC1, HB.out⟩
  case round =>
    obtain ⟨k, t, hk, rfl, rfl, HT, HCA, B⟩ := hrel
    clear HB HC1
    have g0 := HCA.out.cell 0
    simp at g0
    by_cases hlt : k < F.length
    · obtain ⟨x, hx⟩ : ∃ x, F[k]? = some x := ⟨_, List.getElem?_eq_getElem hlt⟩
      rcases hrow with h | ⟨b, off, rfl, hbn, hcells⟩
      · subst h; simp at hlt
      have c0 := (B.cell (p := ⟨b, off + k * 1 + 0, none⟩) hbn).trans (hcells k _ hx 0 (by omega))
      dsimp only [strCell] at c0
      rw [Nat.add_zero, Nat.mul_one] at c0
      have HN : Hid (t ++ x = ⟨(joinM (F.take (k + 1))).toArray⟩) := by
        show t ++ x = _
        rw [HT.out]; exact joinM_step hx
      have hsz : t.size + x.size ≤ 4096 := by
        have h1 := congrArg ByteArray.size HN.out
        have h2 := HTK.out (k + 1)
        rw [ByteArray.size_append] at h1
        have h3 : (⟨(joinM (F.take (k + 1))).toArray⟩ : ByteArray).size = (joinM (F.take (k + 1))).length := by simp [ByteArray.size]
        omega
      have hbig : ¬ (9223372036854775807 < t.size + x.size) := by omega
      clear hx hcells
      go_wp2
      exact ⟨⟨k + 1, t ++ x, by omega, by go_num, rfl, HN, HCA, B⟩, by simp [intOf]; omega⟩
    · obtain rfl : k = F.length := by omega
      have HZ : Hid (t = ⟨(joinM F).toArray⟩) := by
        show t = _
        rw [HT.out, List.take_length]
      go_wp2
      go_ret
      exact ⟨by rw [← HZ.out]; rfl, B⟩

end Go.Proofs.Ytnomapbiklfciaf

/- The contracts of the document's CheckDeed, CheckDeeds, power, mix, both. -/
namespace Go.Proofs.Ytnomapbiklfciaf
open Go.RowKit Go.PlainAid

set_option maxRecDepth 100000

set_option maxHeartbeats 2000000 in
theorem rCheckDeed_any (F : List ByteArray) (v : Value) (d : Deed) (w : World) (hF : RowOf 1 strCell w.heap.size w v F) (hl1 : 1 ≤ F.length) (hl2 : F.length ≤ 32) :
    Calls Try.prog 34 #[.agg #[v], d.value] w fun e w' => e = .returned (.int .i64 (chkDeed (F.length * 128) d)) ∧ Below w.heap.size w w' := by
  have key := chkDeed_cases (F.length * 128) d
  rw [Nat.mul_div_cancel _ (by decide : 0 < 128)] at key
  obtain ⟨a, cap, rfl, _, _⟩ := hF
  obtain ⟨kd, ps, vl⟩ := d
  unfold Deed.value
  dsimp only at *
  generalize chkDeed (F.length * 128) ⟨kd, ps, vl⟩ = cd at *
  have e2 : ((F.length * 128 : Nat) : Int) = 128 * (F.length : Int) := by omega
  rw [e2] at key
  clear e2
  generalize F.length = n at *
  have e1 : IntKind.i64.wrap (IntKind.i64.wrap (128 * (n : Int)) - 1) = 128 * (n : Int) - 1 := by rw [i64_is, i64_is]; unfold wrap64; omega
  have HB : Hid (Below w.heap.size w ((w.alloc (.cells #[.slice a n cap] 24)).alloc (.cells #[.int .i64 kd, .int .i64 ps, .int .i64 vl] 32))) := ((Below.refl _ _).alloc (Nat.le_refl _) _).alloc (by simp) _
  go_enter Try.func34, Try.ntmps34
  rcases key with ⟨rfl, h1, h2⟩ | ⟨rfl, key⟩ | ⟨rfl, key⟩
  · have h1' : (kd == 1) = false := by simpa using h1
    have h2' : (kd != 2) = true := by simpa using h2
    go_wp2_with fail
    go_ret
    exact ⟨rfl, HB.out⟩
  · rcases key with ⟨rfl, h⟩ | ⟨rfl, h1, h⟩ | ⟨rfl, h1, h2, h⟩ | ⟨rfl, h1, h2, h3, h⟩ | ⟨rfl, h1, h2, h3, h4⟩
    · have g : betw ps 0 (128 * (n : Int) - 1) = false := betw_false (by omega)
      go_wp2_with fail
      refine (between_any _ _ _ _).mono ?_
      rintro e w2 ⟨rfl, rfl⟩
      rw [g]
      clear g
      go_wp2
      go_ret
      exact ⟨rfl, HB.out⟩
    · have g : betw ps 0 (128 * (n : Int) - 1) = false := betw_false (by omega)
      go_wp2_with fail
      refine (between_any _ _ _ _).mono ?_
      rintro e w2 ⟨rfl, rfl⟩
      rw [g]
      clear g
      go_wp2
      go_ret
      exact ⟨rfl, HB.out⟩
    · have g : betw ps 0 (128 * (n : Int) - 1) = true := betw_true (by omega) (by omega)
      go_wp2_with fail
      refine (between_any _ _ _ _).mono ?_
      rintro e w2 ⟨rfl, rfl⟩
      rw [g]
      clear g
      have g2 : betw vl 0 255 = false := betw_false (by omega)
      go_wp2_with fail
      refine (between_any _ _ _ _).mono ?_
      rintro e w3 ⟨rfl, rfl⟩
      rw [g2]
      clear g2
      go_wp2
      go_ret
      exact ⟨rfl, HB.out⟩
    · have g : betw ps 0 (128 * (n : Int) - 1) = true := betw_true (by omega) (by omega)
      go_wp2_with fail
      refine (between_any _ _ _ _).mono ?_
      rintro e w2 ⟨rfl, rfl⟩
      rw [g]
      clear g
      have g2 : betw vl 0 255 = false := betw_false (by omega)
      go_wp2_with fail
      refine (between_any _ _ _ _).mono ?_
      rintro e w3 ⟨rfl, rfl⟩
      rw [g2]
      clear g2
      go_wp2
      go_ret
      exact ⟨rfl, HB.out⟩
    · have g : betw ps 0 (128 * (n : Int) - 1) = true := betw_true (by omega) (by omega)
      go_wp2_with fail
      refine (between_any _ _ _ _).mono ?_
      rintro e w2 ⟨rfl, rfl⟩
      rw [g]
      clear g
      have g2 : betw vl 0 255 = true := betw_true (by omega) (by omega)
      go_wp2_with fail
      refine (between_any _ _ _ _).mono ?_
      rintro e w3 ⟨rfl, rfl⟩
      rw [g2]
      clear g2
      go_wp2
      go_ret
      exact ⟨rfl, HB.out⟩
  · rcases key with ⟨rfl, h⟩ | ⟨rfl, h1, h⟩ | ⟨rfl, h1, h2, h⟩ | ⟨rfl, h1, h2, h3, h⟩ | ⟨rfl, h1, h2, rfl⟩
    · have g : betw ps 0 ((n : Int) - 1) = false := betw_false (by omega)
      go_wp2_with fail
      refine (between_any _ _ _ _).mono ?_
      rintro e w2 ⟨rfl, rfl⟩
      rw [g]
      clear g
      go_wp2
      go_ret
      exact ⟨rfl, HB.out⟩
    · have g : betw ps 0 ((n : Int) - 1) = false := betw_false (by omega)
      go_wp2_with fail
      refine (between_any _ _ _ _).mono ?_
      rintro e w2 ⟨rfl, rfl⟩
      rw [g]
      clear g
      go_wp2
      go_ret
      exact ⟨rfl, HB.out⟩
    · have g : betw ps 0 ((n : Int) - 1) = true := betw_true (by omega) (by omega)
      have hv : (vl != 0) = true := by rw [bne_iff_ne]; omega
      go_wp2_with fail
      refine (between_any _ _ _ _).mono ?_
      rintro e w2 ⟨rfl, rfl⟩
      rw [g]
      clear g
      go_wp2
      go_ret
      exact ⟨rfl, HB.out⟩
    · have g : betw ps 0 ((n : Int) - 1) = true := betw_true (by omega) (by omega)
      have hv : (vl != 0) = true := by rw [bne_iff_ne]; omega
      go_wp2_with fail
      refine (between_any _ _ _ _).mono ?_
      rintro e w2 ⟨rfl, rfl⟩
      rw [g]
      clear g
      go_wp2
      go_ret
      exact ⟨rfl, HB.out⟩
    · have g : betw ps 0 ((n : Int) - 1) = true := betw_true (by omega) (by omega)
      go_wp2_with fail
      refine (between_any _ _ _ _).mono ?_
      rintro e w2 ⟨rfl, rfl⟩
      rw [g]
      clear g
      go_wp2
      go_ret
      exact ⟨rfl, ((Below.refl _ _).alloc (Nat.le_refl _) _).alloc (by simp) _⟩

/-- What is wrong with deeds. -/
def chkDs (n : Nat) (e : Int) : List Deed → Int
  | [] => e
  | d :: r => if e = 0 then chkDs n (chkDeed n d) r else e
theorem chkDs_wrong (n : Nat) : ∀ (l : List Deed) (e : Int), e ≠ 0 → chkDs n e l = e
  | [], _, _ => rfl
  | _ :: _, e, h => by unfold chkDs; rw [if_neg h]
def chkDeeds (F : List ByteArray) (l : List Deed) : Int := chkDs (F.length * 128) (chkFl F) l

set_option maxHeartbeats 2000000 in
theorem rCheckDeeds_any (F : List ByteArray) (v : Value) (l : List Deed) (vl : Value) (w : World) (hF : RowOf 1 strCell w.heap.size w v F) (hl : RowOf 3 Deed.cell w.heap.size w vl l) :
    Calls Try.prog 14 #[.agg #[v], vl] w fun e w' => e = .returned (.int .i64 (chkDeeds F l)) ∧ Below w.heap.size w w' := by
  have HC : Hid (∀ W, Below w.heap.size w W → Calls Try.prog 13 #[.agg #[v]] W fun e w' => e = .returned (.int .i64 (chkFl F)) ∧ Below W.heap.size W w') := fun W hb => rCheckFlash_any F v W ((hF.below hb).more hb.size)
  have HD : Hid (∀ d W, chkFl F = 0 → Below w.heap.size w W → Calls Try.prog 34 #[.agg #[v], d.value] W fun e w' => e = .returned (.int .i64 (chkDeed (F.length * 128) d)) ∧ Below W.heap.size W w') := fun d W h0 hb => rCheckDeed_any F v d W ((hF.below hb).more hb.size) (joinM_bound h0).2.2 (joinM_bound h0).2.1
  have H0 : Hid (chkDeeds F l = chkDs (F.length * 128) (chkFl F) (l.drop 0)) := rfl
  obtain ⟨a, cap, rfl, _, _⟩ := hF
  obtain ⟨la, lcap, rfl, hlm, hlrow⟩ := hl
  generalize chkDeeds F l = R at *
  generalize hcf : chkFl F = cf at *
  generalize F.length * 128 = N at *
  generalize F.length = n at *
  have HB1 : Hid (Below w.heap.size w (w.alloc (.cells #[.slice a n cap] 24))) := (Below.refl _ _).alloc (Nat.le_refl _) _
  have HC1 : Hid (CellsAt (w.alloc (.cells #[.slice a n cap] 24)) w.heap.size 24 #[.slice a n cap]) := CellsAt.new _ _ _
  clear hcf
  go_enter Try.func14, Try.ntmps14
  go_wp2_with fail
  refine (HC.out _ HB1.out).mono ?_
  rintro e w2 ⟨rfl, b2⟩
  have HB2 : Hid (Below w.heap.size w w2) := HB1.out.trans (b2.mono HB1.out.size)
  have HC2 : Hid (CellsAt w2 w.heap.size 24 #[.slice a n cap]) := HC1.out.below b2 HC1.out.lt
  clear b2 HB1 HC1 HC
  go_wp2
  go_loopw [5, 6] (fun ev i wr => ∃ (k : Nat) (x : Int), k ≤ l.length ∧ i = .int .i64 k ∧ ev = .int .i64 x ∧ Hid (x = 0 → cf = 0) ∧ Hid (R = chkDs N x (l.drop k)) ∧ Hid (CellsAt wr w.heap.size 24 #[.slice a n cap]) ∧ Hid (Below w.heap.size w wr)) (fun _ i _ => l.length - (intOf i).toNat)
  case atStart => exact ⟨0, cf, Nat.zero_le _, rfl, rfl, id, H0, HC2, HB2⟩
  case round =>
    obtain ⟨k, x, hk, rfl, rfl, HX, HR, HCA, HB⟩ := hrel
    clear HB2 HC2 H0
    by_cases hlt : k < l.length
    · have hlt' : decide ((k : Int) < (l.length : Int)) = true := decide_eq_true (by omega)
      by_cases hx : x = 0
      · subst hx
        obtain ⟨d, hd⟩ : ∃ d, l[k]? = some d := ⟨_, List.getElem?_eq_getElem hlt⟩
        rcases hlrow with h | ⟨b, off, rfl, hbn, hcells⟩
        · subst h; simp at hlt
        have d0 := (HB.out.cell (p := ⟨b, off + k * 3 + 0, none⟩) hbn).trans (hcells k _ hd 0 (by omega))
        have d1 := (HB.out.cell (p := ⟨b, off + k * 3 + 1, none⟩) hbn).trans (hcells k _ hd 1 (by omega))
        have d2 := (HB.out.cell (p := ⟨b, off + k * 3 + 2, none⟩) hbn).trans (hcells k _ hd 2 (by omega))
        dsimp only [Deed.cell] at d0 d1 d2
        rw [Nat.add_zero] at d0
        have hbr : b < wr.heap.size := Nat.lt_of_lt_of_le hbn HB.out.size
        have HN : Hid (R = chkDs N (chkDeed N d) (l.drop (k + 1))) := by
          show R = _
          rw [HR.out, drop_at hd]; rfl
        have HDD : Hid (∀ W, Below w.heap.size w W → Calls Try.prog 34 #[.agg #[.slice a n cap], .agg #[.int .i64 d.kind, .int .i64 d.pos, .int .i64 d.val]] W fun e w' => e = .returned (.int .i64 (chkDeed N d)) ∧ Below W.heap.size W w') := fun W hb => HD.out d W (HX.out rfl) hb
        have HX2 : Hid (chkDeed N d = 0 → cf = 0) := fun _ => HX.out rfl
        have g0 := HCA.out.cell 0
        simp at g0
        have hfr : w.heap.size < wr.heap.size := HCA.out.lt
        clear HR hcells hd HX
        generalize chkDeed N d = cd at *
        obtain ⟨kd, ps, dv⟩ := d
        dsimp only at *
        go_wp2_with fail
        have r0 := cell_regrown d0
        have r1 := cell_regrown d1
        have r2 := cell_regrown d2
        have r3 := cell_regrown g0
        have HDQ : Hid (∀ d os, _) := fun d os => (fun W' (hb : Below wr.heap.size wr W') => HDD.out W' (HB.out.trans (hb.mono HB.out.size))) _ (below_regrown wr d os)
        clear d0 d1 d2 g0 HDD
        refine wp_region_quiet_below (by kernel_rfl) (by kernel_rfl) ?_
        repeat (quiet_step ((go_at_call 34; go_must (exact Calls.regrown_of (HDQ.out _ _)))))
        refine wpQuiet_nil ?_
        intro w7 hw7
        obtain ⟨⟨dq, osq⟩, hw7⟩ := hw7
        have b7 := below_regrown wr dq osq
        rw [← hw7] at b7
        have HB7 : Hid (Below w.heap.size w w7) := HB.out.trans (b7.mono HB.out.size)
        have HC7 : Hid (CellsAt w7 w.heap.size 24 #[.slice a n cap]) := HCA.out.below b7 HCA.out.lt
        clear hw7 b7 r0 r1 r2 r3 HDQ HB HCA
        go_wp2
        exact ⟨⟨k + 1, cd, by omega, by go_num, rfl, HX2, HN, HC7, HB7⟩, by simp [intOf]; omega⟩
      · have hx' : (x == 0) = false := by simpa using hx
        have HZ : Hid (R = x) := by
          show R = _
          rw [HR.out]; exact chkDs_wrong _ _ _ hx
        go_wp2
        go_ret
        exact ⟨by rw [HZ.out]; rfl, HB.out⟩
    · obtain rfl : k = l.length := by omega
      have HZ : Hid (R = x) := by
        show R = _
        rw [HR.out, List.drop_length]; rfl
      go_wp2
      go_ret
      exact ⟨by rw [HZ.out]; rfl, HB.out⟩

/-- 2 to the k. -/
theorem pow2_any (k : Nat) (hk : k ≤ 8) (w : World) :
    Calls Try.prog 51 #[.int .i64 k] w fun e w' => e = .returned (.int .i64 ((2 ^ k : Nat) : Int)) ∧ w' = w := by
  have hp : ∀ j, j ≤ 8 → 2 ^ j ≤ 256 := fun j hj => Nat.pow_le_pow_right (n := 2) (by decide) hj
  have HP : Hid (∀ j, j ≤ 8 → 2 ^ j ≤ 256) := hp
  clear hp
  obtain ⟨q, hq⟩ : ∃ q, 2 ^ k = q := ⟨_, rfl⟩
  rw [hq]
  have HK : Hid (2 ^ k = q) := hq
  clear hq
  go_enter Try.func51, Try.ntmps51
  go_wp2
  go_loop [3, 4] (fun x i => ∃ (j p : Nat), j ≤ k ∧ i = .int .i64 j ∧ x = .int .i64 p ∧ Hid (p = 2 ^ j)) (fun _ i => k - (intOf i).toNat)
  case atStart => exact ⟨0, 1, Nat.zero_le _, rfl, rfl, by show (1 : Nat) = 2 ^ 0; rfl⟩
  case round =>
    obtain ⟨j, p, hj, rfl, rfl, HQ⟩ := hrel
    by_cases hlt : j < k
    · have p2 : p ≤ 256 := by rw [HQ.out]; exact HP.out j (by omega)
      go_wp2
      go_round
      case rel => exact ⟨j + 1, 2 * p, by omega, by go_num, by rw [Int.natCast_mul]; rfl, by show 2 * p = 2 ^ (j + 1); rw [HQ.out, Nat.pow_succ]; omega⟩
      case measure => simp [intOf]; omega
    · obtain rfl : j = k := by omega
      go_wp2
      go_ret
      have HE : Hid (q = p) := by show q = p; rw [← HK.out, HQ.out]
      exact ⟨by rw [HE.out]; rfl, rfl⟩

/-- Of a where p has 1, of b elsewhere. -/
def mixB (a b p : UInt8) : UInt8 := (a &&& p) ||| (b &&& ~~~p)
theorem bit_nat (x i : Nat) : x / 2 ^ i % 2 = (x.testBit i).toNat := by
  rw [Nat.testBit_eq_decide_div_mod_eq]
  have : x / 2 ^ i % 2 = 0 ∨ x / 2 ^ i % 2 = 1 := by omega
  rcases this with h | h <;> simp [h]
theorem mix_bit (a b p : UInt8) (i : Nat) (hi : i < 8) : (mixB a b p).toNat / 2 ^ i % 2 = if p.toNat / 2 ^ i % 2 = 1 then a.toNat / 2 ^ i % 2 else b.toNat / 2 ^ i % 2 := by
  have hn : (~~~p).toNat.testBit i = !p.toNat.testBit i := by
    rw [UInt8.toNat_not, show UInt8.size - 1 - p.toNat = 2 ^ 8 - (p.toNat + 1) by simp [UInt8.size], Nat.testBit_two_pow_sub_succ p.toNat_lt]
    simp [hi]
  unfold mixB
  rw [UInt8.toNat_or, UInt8.toNat_and, UInt8.toNat_and]
  simp only [bit_nat]
  rw [Nat.testBit_or, Nat.testBit_and, Nat.testBit_and, hn]
  cases p.toNat.testBit i <;> simp

end Go.Proofs.Ytnomapbiklfciaf
