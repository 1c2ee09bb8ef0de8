/- The contracts of the document's SizeOf, CheckModules (whole), CheckRegions. -/
import Derived.Test.YtaklbnabgcglhacRegM
import Derived.Test.YtaklbnabgcglhacCells
import Derived.Lib.QuietBelow
namespace Go.Proofs.Ytaklbnabgcglhac
open Go.RowKit Go.PlainAid

set_option maxRecDepth 100000

set_option maxHeartbeats 1000000 in
theorem sizeOf_any (N T : ByteArray) (ma mi : Int) (pe pi pp : Option Addr) (le ke li ki lp kp : Nat) (w : World) (hT : T.size ≤ 256) :
    Calls Try.prog 20 #[.agg #[.string N, .int .i64 ma, .int .i64 mi, .string T, .slice pe le ke, .slice pi li ki, .slice pp lp kp]] w fun e w' => e = .returned (.int .i64 (((T.size + 63) / 64 : Nat) : Int)) ∧ Below w.heap.size w w' := by
  have HB : Hid (Below w.heap.size w (w.alloc (.cells #[.string N, .int .i64 ma, .int .i64 mi, .string T, .slice pe le ke, .slice pi li ki, .slice pp lp kp] 36))) := (Below.refl _ _).alloc (Nat.le_refl _) _
  by_cases h : T.size % 64 = 0
  · have e1 : Hid (((T.size : Int)) / 64 = (((T.size + 63) / 64 : Nat) : Int)) := by show ((T.size : Int)) / 64 = (((T.size + 63) / 64 : Nat) : Int); omega
    have h1 : decide ((0 : Int) < (T.size : Int) % 64) = false := decide_eq_false (by omega)
    go_enter Try.func20, Try.ntmps20
    go_wp2
    go_ret
    refine ⟨?_, HB.out⟩
    show Ending.returned (.int .i64 ((T.size : Int) / 64)) = _
    rw [e1.out]
  · have e1 : Hid (((T.size : Int)) / 64 + 1 = (((T.size + 63) / 64 : Nat) : Int)) := by show ((T.size : Int)) / 64 + 1 = (((T.size + 63) / 64 : Nat) : Int); omega
    have h1 : (0 : Int) < (T.size : Int) % 64 := by omega
    go_enter Try.func20, Try.ntmps20
    go_wp2
    go_ret
    refine ⟨?_, HB.out⟩
    show Ending.returned (.int .i64 ((T.size : Int) / 64 + 1)) = _
    rw [e1.out]

set_option maxHeartbeats 2000000 in
theorem checkModules_whole (l : List PV) (v : Value) (w : World) (hrow : IsPlcs w.heap.size w v l) (hfit : ∀ x ∈ l, x.mod.fits) :
    Calls Try.prog 44 #[v, .bool true, .bool true] w fun e w' => e = .returned (.int .i64 (if 8 < l.length then 2 else chkBy outErr (l.map PV.plc))) ∧ Below w.heap.size w w' := by
  have HC0 : Hid (∀ x ∈ l, ∀ W, Below w.heap.size w W → Calls Try.prog 18 #[x.modV] W fun e w' => e = .returned (.int .i64 (chkMod x.mod)) ∧ Below W.heap.size W w') := fun x hx W hb => checkModule_any x.mod x.modV W (((hrow.2 x hx).below hb).more hb.size |>.isMod) (hfit x hx)
  have hat := hrow.2
  obtain ⟨⟨a, cap, rfl, _, hrow⟩, _⟩ := hrow
  by_cases h8 : 8 < l.length
  · rw [if_pos h8]
    have h8' : (8 : Int) < l.length := by omega
    clear HC0 hat hrow
    go_enter Try.func44, Try.ntmps44
    go_wp2
    go_ret
    exact ⟨rfl, Below.refl _ _⟩
  · rw [if_neg h8]
    have h8' : decide ((8 : Int) < l.length) = false := decide_eq_false (by omega)
    have h8'' : decide (8 < l.length) = false := decide_eq_false (by omega)
    go_enter Try.func44, Try.ntmps44
    go_wp2_with fail
    go_loopw [7] (fun i wr => ∃ (k : Nat), k ≤ l.length ∧ i = .int .i64 k ∧ Hid (chkBy outErr (l.map PV.plc) = chkBy outErr ((l.drop k).map PV.plc)) ∧ Below w.heap.size w wr) (fun i _ => l.length - (intOf i).toNat)
    case atStart => exact ⟨0, Nat.zero_le _, rfl, by show chkBy outErr (l.map PV.plc) = chkBy outErr ((l.drop 0).map PV.plc); rfl, Below.refl _ _⟩
    case round =>
      obtain ⟨k, hk, rfl, HC, B⟩ := hrel
      by_cases hlt : k < l.length
      · obtain ⟨x, hx⟩ : ∃ x, l[k]? = some x := ⟨_, List.getElem?_eq_getElem hlt⟩
        rcases hrow with h | ⟨b, off, rfl, hbn, hcells⟩
        · subst h; simp at hlt
        have key : (chkMod x.mod ≠ 0 ∧ chkBy outErr (x.plc :: (l.drop (k + 1)).map PV.plc) = chkMod x.mod) ∨ (chkMod x.mod = 0 ∧ betw x.first 0 (16 - (szM x.mod : Int)) = false ∧ chkBy outErr (x.plc :: (l.drop (k + 1)).map PV.plc) = 3) ∨ (chkMod x.mod = 0 ∧ betw x.first 0 (16 - (szM x.mod : Int)) = true ∧ chkBy outErr (x.plc :: (l.drop (k + 1)).map PV.plc) = chkBy outErr ((l.drop (k + 1)).map PV.plc)) := by
          have ho : outErr x.plc = if x.first < 0 ∨ 16 - (szM x.mod : Int) < x.first then 3 else 0 := rfl
          rcases chkBy_step outErr x.plc ((l.drop (k + 1)).map PV.plc) with ⟨h1, h2⟩ | ⟨h1, h2, h3⟩ | ⟨h1, h2, h3⟩
          · exact .inl ⟨h1, h2⟩
          · rw [ho] at h2 h3
            split at h2
            · rename_i hc
              rw [if_pos hc] at h3
              exact .inr (.inl ⟨h1, betw_false hc, h3⟩)
            · exact absurd rfl h2
          · rw [ho] at h2
            split at h2
            · exact absurd h2 (by decide)
            · rename_i hc
              exact .inr (.inr ⟨h1, betw_true (by omega) (by omega), h3⟩)
        have hsb : chkMod x.mod = 0 → szM x.mod ≤ 4 := fun h => (szM_bd h).2.1
        have HR : Hid (chkBy outErr (l.map PV.plc) = chkBy outErr (x.plc :: (l.drop (k + 1)).map PV.plc)) := by
          show chkBy outErr (l.map PV.plc) = _
          rw [HC.out, drop_at hx]; rfl
        have HM : Hid (∀ W, Below w.heap.size w W → Calls Try.prog 18 #[x.modV] W fun e w' => e = .returned (.int .i64 (chkMod x.mod)) ∧ Below W.heap.size W w') := HC0.out x (List.mem_of_getElem? hx)
        have HS : Hid (chkMod x.mod = 0 → ∀ W, Calls Try.prog 20 #[x.modV] W fun e w' => e = .returned (.int .i64 (szM x.mod : Int)) ∧ Below W.heap.size W w') := by
          intro h0 W
          obtain ⟨⟨pe, ke, e4, _⟩, ⟨pi, ki, e5, _⟩, ⟨pp, kp, e6, _⟩⟩ := hat x (List.mem_of_getElem? hx)
          unfold PV.modV
          rw [e4, e5, e6]
          exact sizeOf_any _ _ _ _ _ _ _ _ _ _ _ _ _ _ (szM_bd h0).2.2.1
        obtain ⟨⟨pe, ke, e4, _⟩, ⟨pi, ki, e5, _⟩, ⟨pp, kp, e6, _⟩⟩ := hat x (List.mem_of_getElem? hx)
        generalize hsz : szM x.mod = sz at *
        generalize hcm : chkMod x.mod = cm at *
        obtain ⟨⟨N, ma, mi, T, es, is, ps⟩, ve, vi, vp, fi⟩ := x
        dsimp only at e4 e5 e6
        subst e4 e5 e6
        have c0 := (B.cell (p := ⟨b, off + k * 8 + 0, none⟩) hbn).trans (hcells k _ hx 0 (by omega))
        have c1 := (B.cell (p := ⟨b, off + k * 8 + 1, none⟩) hbn).trans (hcells k _ hx 1 (by omega))
        have c2 := (B.cell (p := ⟨b, off + k * 8 + 2, none⟩) hbn).trans (hcells k _ hx 2 (by omega))
        have c3 := (B.cell (p := ⟨b, off + k * 8 + 3, none⟩) hbn).trans (hcells k _ hx 3 (by omega))
        have c4 := (B.cell (p := ⟨b, off + k * 8 + 4, none⟩) hbn).trans (hcells k _ hx 4 (by omega))
        have c5 := (B.cell (p := ⟨b, off + k * 8 + 5, none⟩) hbn).trans (hcells k _ hx 5 (by omega))
        have c6 := (B.cell (p := ⟨b, off + k * 8 + 6, none⟩) hbn).trans (hcells k _ hx 6 (by omega))
        have q0 := hcells k _ hx 0 (by omega)
        have q1 := hcells k _ hx 1 (by omega)
        have q2 := hcells k _ hx 2 (by omega)
        have q3 := hcells k _ hx 3 (by omega)
        have q4 := hcells k _ hx 4 (by omega)
        have q5 := hcells k _ hx 5 (by omega)
        have q6 := hcells k _ hx 6 (by omega)
        have q7 := hcells k _ hx 7 (by omega)
        dsimp only [PV.cell, PV.modV] at c0 c1 c2 c3 c4 c5 c6 q0 q1 q2 q3 q4 q5 q6 q7 HM HS
        rw [Nat.add_zero] at c0 q0
        clear HC HC0 hcells hx hat hsz hcm
        dsimp only at key
        generalize chkBy outErr (PV.plc ⟨⟨N, ma, mi, T, es, is, ps⟩, .slice pe es.length ke, .slice pi is.length ki, .slice pp ps.length kp, fi⟩ :: (l.drop (k + 1)).map PV.plc) = R at key HR
        generalize es.length = le at *
        generalize is.length = li at *
        generalize ps.length = lp at *
        go_wp2_with fail
        refine (HM.out _ B).mono ?_
        rintro e w2 ⟨rfl, b2⟩
        have B2 := B.trans (b2.mono B.size)
        clear b2 c0 c1 c2 c3 c4 c5 c6 HM
        rcases key with ⟨h1, rfl⟩ | ⟨rfl, h2, rfl⟩ | ⟨rfl, h2, rfl⟩
        · have h1' : (R != 0) = true := by simpa using h1
          go_wp2
          go_ret
          exact ⟨by rw [HR.out]; rfl, B2⟩
        all_goals
          have c0 := (B2.cell (p := ⟨b, off + k * 8, none⟩) hbn).trans q0
          have c1 := (B2.cell (p := ⟨b, off + k * 8 + 1, none⟩) hbn).trans q1
          have c2 := (B2.cell (p := ⟨b, off + k * 8 + 2, none⟩) hbn).trans q2
          have c3 := (B2.cell (p := ⟨b, off + k * 8 + 3, none⟩) hbn).trans q3
          have c4 := (B2.cell (p := ⟨b, off + k * 8 + 4, none⟩) hbn).trans q4
          have c5 := (B2.cell (p := ⟨b, off + k * 8 + 5, none⟩) hbn).trans q5
          have c6 := (B2.cell (p := ⟨b, off + k * 8 + 6, none⟩) hbn).trans q6
          have hs4 : sz ≤ 4 := by first | exact hsb rfl | exact hsb trivial | exact hsb
          clear q0 q1 q2 q3 q4 q5 q6 hsb
          go_wp2_with fail
          refine (HS.out (by first | rfl | trivial) _).mono ?_
          rintro e w3 ⟨rfl, b3⟩
          have B3 := B2.trans (b3.mono B2.size)
          have X7 := (B3.cell (p := ⟨b, off + k * 8 + 7, none⟩) hbn).trans q7
          clear b3 c0 c1 c2 c3 c4 c5 c6 q7 HS
        · go_wp2_with (go_at_call 40; refine (between_any _ _ _ _).mono ?_; rintro e w' ⟨rfl, rfl⟩)
          go_ret
          exact ⟨by rw [HR.out]; rfl, B3⟩
        · go_wp2_with (go_at_call 40; refine (between_any _ _ _ _).mono ?_; rintro e w' ⟨rfl, rfl⟩)
          exact ⟨⟨k + 1, by omega, by go_num, HR.out, B3⟩, by simp [intOf]; omega⟩
      · obtain rfl : k = l.length := by omega
        have HZ : Hid (chkBy outErr (l.map PV.plc) = 0) := by
          show chkBy outErr (l.map PV.plc) = 0
          rw [HC.out, List.drop_length]; rfl
        go_wp2
        go_ret
        exact ⟨by rw [HZ.out]; rfl, B⟩

end Go.Proofs.Ytaklbnabgcglhac
