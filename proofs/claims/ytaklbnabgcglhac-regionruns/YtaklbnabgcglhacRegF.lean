/- The contracts of region.wrong and region.Free. -/
import Derived.Test.YtaklbnabgcglhacRegW
import Derived.Laws.EntriesVeiled
namespace Go.Proofs.Ytaklbnabgcglhac
open Go.RowKit Go.PlainAid

set_option maxRecDepth 100000

def bErr (b : Bool) : Int := if b = false then 4 else 0
theorem chkReg_cases (L : List Plc) : ((if 8 < L.length then 2 else chkBy outErr L) ≠ 0 ∧ chkReg L = (if 8 < L.length then 2 else chkBy outErr L)) ∨ ((if 8 < L.length then 2 else chkBy outErr L) = 0 ∧ (∀ p ∈ L, chkMod p.mod = 0 ∧ 0 ≤ p.first ∧ p.first + szM p.mod ≤ 16) ∧ chkReg L = bErr (behind 0 L)) := by
  unfold chkReg
  by_cases h8 : 8 < L.length
  · left
    simp [h8]
  · rw [if_neg h8, if_neg h8]
    by_cases h : chkBy outErr L = 0
    · right
      refine ⟨h, fun p hp => ?_, by rw [if_neg (by omega)]; rfl⟩
      obtain ⟨h1, h2⟩ := chkBy_zero.1 h p hp
      unfold outErr at h2
      split at h2
      · omega
      · exact ⟨h1, by omega, by omega⟩
    · left
      exact ⟨h, by rw [if_pos h]⟩

set_option maxHeartbeats 4000000 in
theorem regWrong_any (l : List PV) (v : Value) (w : World) (hrow : IsPlcs w.heap.size w v l) (hfit : ∀ x ∈ l, x.mod.fits) :
    Calls Try.prog 35 #[v] w fun e w' => e = .returned (.int .i64 (chkReg (l.map PV.plc))) ∧ Below w.heap.size w w' := by
  have HP : Hid (∀ (W : World) (t : TypeId), Below w.heap.size w W → Calls Try.prog 53 #[v, .slice (some ⟨W.heap.size, 0, none⟩) 1 1] (W.alloc (.cells #[.func (.func 68) #[] #[]] t)) fun e w' => e = .returned (.int .i64 (if 8 < l.length then 2 else chkBy outErr (l.map PV.plc))) ∧ Below (W.heap.size + 1) (W.alloc (.cells #[.func (.func 68) #[] #[]] t)) w') := by
    intro W t hb
    have hb1 : Below w.heap.size w (W.alloc (.cells #[.func (.func 68) #[] #[]] t)) := hb.alloc hb.size _
    have := placedWrong_one l v W.heap.size 68 outErr (W.alloc (.cells #[.func (.func 68) #[] #[]] t)) ((hrow.below hb1).more hb1.size) hfit (by simp) (by simp) (fun w x => enters_of Try.func68 (by kernel_rfl) rfl _ w) (fun x hx h0 W' hb' => outside_any x _ W' (((hrow.2 x hx).below hb1).more hb1.size |>.below hb') h0)
    refine this.mono ?_
    rintro e w' ⟨rfl, b⟩
    exact ⟨rfl, by simpa using b⟩
  have hat := hrow.2
  obtain ⟨⟨a, cap, rfl, hmax, hrow⟩, _⟩ := hrow
  have key := chkReg_cases (l.map PV.plc)
  rw [List.length_map] at key
  have hall : (∀ p ∈ l.map PV.plc, chkMod p.mod = 0 ∧ 0 ≤ p.first ∧ p.first + szM p.mod ≤ 16) → ∀ x ∈ l, x.mod.text.size ≤ 256 ∧ 0 ≤ x.first ∧ x.first + szM x.mod ≤ 16 := by
    intro h x hx
    obtain ⟨h1, h2, h3⟩ := h x.plc (List.mem_map_of_mem hx)
    exact ⟨(szM_bd h1).2.2.1, h2, h3⟩
  generalize chkReg (l.map PV.plc) = R at *
  generalize (if 8 < l.length then (2 : Int) else chkBy outErr (l.map PV.plc)) = cp at *
  go_enter Try.func35, Try.ntmps35
  go_wp2_with fail
  refine (HP.out w _ (Below.refl _ _)).mono ?_
  rintro e w2 ⟨rfl, b2⟩
  have B2 := ((Below.refl w.heap.size w).alloc (Nat.le_refl _) _).trans (b2.mono (by omega))
  clear HP b2
  rcases key with ⟨h0, rfl⟩ | ⟨rfl, h0, rfl⟩
  · have h0' : (R != 0) = true := by simpa using h0
    clear hall hrow hat
    go_wp2
    go_ret
    exact ⟨rfl, B2⟩
  · have hx0 := hall h0
    clear hall h0
    go_wp2_with fail
    go_loopw [4, 15] (fun d i wr => ∃ (k : Nat) (e : Int), k ≤ l.length ∧ i = .int .i64 k ∧ d = .int .i64 e ∧ Hid (behind 0 (l.map PV.plc) = behind e ((l.drop k).map PV.plc)) ∧ Below w.heap.size w wr) (fun _ i _ => l.length - (intOf i).toNat)
    case atStart => exact ⟨0, 0, Nat.zero_le _, rfl, rfl, by show behind 0 (l.map PV.plc) = behind 0 ((l.drop 0).map PV.plc); rfl, B2⟩
    case round =>
      obtain ⟨k, en, hk, rfl, rfl, HC, B⟩ := hrel
      by_cases hlt : k < l.length
      · obtain ⟨x, hx⟩ : ∃ x, l[k]? = some x := ⟨_, List.getElem?_eq_getElem hlt⟩
        rcases hrow with h | ⟨b, off, rfl, hbn, hcells⟩
        · subst h; simp at hlt
        have HR : Hid (behind 0 (l.map PV.plc) = (!decide (x.first < en) && behind (x.first + szM x.mod) ((l.drop (k + 1)).map PV.plc))) := by
          show behind 0 (l.map PV.plc) = _
          rw [HC.out, drop_at hx]; rfl
        have hxx := hx0 x (List.mem_of_getElem? hx)
        have HS : Hid (∀ W, Calls Try.prog 34 #[x.modV] W fun e w' => e = .returned (.int .i64 (szM x.mod : Int)) ∧ Below W.heap.size W w') := by
          intro W
          obtain ⟨⟨pe, ke, e4, _⟩, ⟨pi, ki, e5, _⟩, ⟨pp, kp, e6, _⟩⟩ := hat x (List.mem_of_getElem? hx)
          unfold PV.modV
          rw [e4, e5, e6]
          exact sectors_any _ _ _ _ _ _ _ _ _ _ _ _ _ _ hxx.1
        obtain ⟨⟨pe, ke, e4, _⟩, ⟨pi, ki, e5, _⟩, ⟨pp, kp, e6, _⟩⟩ := hat x (List.mem_of_getElem? hx)
        generalize hsz : szM x.mod = sz at *
        obtain ⟨⟨N, ma, mi, T, es, is, ps⟩, ve, vi, vp, fi⟩ := x
        dsimp only at e4 e5 e6
        subst e4 e5 e6
        have c0 := (B.cell (p := ⟨b, off + k * 8 + 0, none⟩) hbn).trans (hcells k _ hx 0 (by omega))
        have c1 := (B.cell (p := ⟨b, off + k * 8 + 1, none⟩) hbn).trans (hcells k _ hx 1 (by omega))
        have c2 := (B.cell (p := ⟨b, off + k * 8 + 2, none⟩) hbn).trans (hcells k _ hx 2 (by omega))
        have c3 := (B.cell (p := ⟨b, off + k * 8 + 3, none⟩) hbn).trans (hcells k _ hx 3 (by omega))
        have c4 := (B.cell (p := ⟨b, off + k * 8 + 4, none⟩) hbn).trans (hcells k _ hx 4 (by omega))
        have c5 := (B.cell (p := ⟨b, off + k * 8 + 5, none⟩) hbn).trans (hcells k _ hx 5 (by omega))
        have c6 := (B.cell (p := ⟨b, off + k * 8 + 6, none⟩) hbn).trans (hcells k _ hx 6 (by omega))
        have c7 := (B.cell (p := ⟨b, off + k * 8 + 7, none⟩) hbn).trans (hcells k _ hx 7 (by omega))
        dsimp only [PV.cell] at c0 c1 c2 c3 c4 c5 c6 c7
        dsimp only [PV.modV] at HS
        dsimp only at hxx HR
        rw [Nat.add_zero] at c0
        clear HC hcells hx hat hsz hx0
        obtain ⟨_, hf0, hf1⟩ := hxx
        generalize es.length = le at *
        generalize is.length = li at *
        generalize ps.length = lp at *
        have C2 : CellsAt (wr.alloc (.cells #[.string N, .int .i64 ma, .int .i64 mi, .string T, .slice pe le ke, .slice pi li ki, .slice pp lp kp, .int .i64 fi] 38)) wr.heap.size 38 #[.string N, .int .i64 ma, .int .i64 mi, .string T, .slice pe le ke, .slice pi li ki, .slice pp lp kp, .int .i64 fi] := CellsAt.new _ _ _
        have BB : Below w.heap.size w (wr.alloc (.cells #[.string N, .int .i64 ma, .int .i64 mi, .string T, .slice pe le ke, .slice pi li ki, .slice pp lp kp, .int .i64 fi] 38)) := B.alloc B.size _
        by_cases hb : fi < en
        · have HZ : Hid (behind 0 (l.map PV.plc) = false) := by
            show behind 0 (l.map PV.plc) = false
            rw [HR.out, decide_eq_true hb]; rfl
          clear HR HS C2
          go_wp2
          go_ret
          exact ⟨by rw [HZ.out]; rfl, BB⟩
        · have hb' : decide (fi < en) = false := decide_eq_false hb
          have HZ : Hid (behind 0 (l.map PV.plc) = behind (fi + sz) ((l.drop (k + 1)).map PV.plc)) := by
            show behind 0 (l.map PV.plc) = _
            rw [HR.out, hb']; rfl
          clear HR
          have t0 := cell_regrown (C2.cell 0)
          have t1 := cell_regrown (C2.cell 1)
          have t2 := cell_regrown (C2.cell 2)
          have t3 := cell_regrown (C2.cell 3)
          have t4 := cell_regrown (C2.cell 4)
          have t5 := cell_regrown (C2.cell 5)
          have t6 := cell_regrown (C2.cell 6)
          have t7 := cell_regrown (C2.cell 7)
          clear C2
          go_wp2_with fail
          generalize wr.alloc (.cells #[.string N, .int .i64 ma, .int .i64 mi, .string T, .slice pe le ke, .slice pi li ki, .slice pp lp kp, .int .i64 fi] 38) = W1 at t0 t1 t2 t3 t4 t5 t6 t7 BB ⊢
          have i1 : IntKind.i64.wrap (fi + (sz : Int)) = fi + (sz : Int) := by rw [i64_is]; unfold wrap64; omega
          refine wp_region_quiet_below (by kernel_rfl) (by kernel_rfl) ?_
          repeat (quiet_step ((go_at_call 34; go_must (exact Calls.regrown_of (HS.out _)))))
          refine wpQuiet_nil ?_
          intro _ hw'
          obtain ⟨⟨dq, osq⟩, hw''⟩ := hw'
          have B5 := BB.trans ((below_regrown W1 dq osq).mono BB.size)
          rw [← hw''] at B5
          clear hw'' t0 t1 t2 t3 t4 t5 t6 t7 HS
          go_wp2
          exact ⟨⟨k + 1, fi + sz, by omega, by go_num, by first | rfl | (rw [i1]), HZ.out, B5⟩, by simp [intOf]; omega⟩
      · obtain rfl : k = l.length := by omega
        have HZ : Hid (behind 0 (l.map PV.plc) = true) := by
          show behind 0 (l.map PV.plc) = true
          rw [HC.out, List.drop_length]; rfl
        go_wp2
        go_ret
        exact ⟨by rw [HZ.out]; rfl, B⟩

end Go.Proofs.Ytaklbnabgcglhac
