/- The contract of the document's CheckRegions. -/
import Derived.Test.YtaklbnabgcglhacRegR
import Derived.Test.YtaklbnabgcglhacRegF
namespace Go.Proofs.Ytaklbnabgcglhac
open Go.RowKit Go.PlainAid

set_option maxRecDepth 100000

set_option maxHeartbeats 4000000 in
theorem checkRegions_any (l : List PV) (v : Value) (w : World) (hrow : IsPlcs w.heap.size w v l) (hfit : ∀ x ∈ l, x.mod.fits) :
    Calls Try.prog 19 #[v] w fun e w' => e = .returned (.int .i64 (chkReg (l.map PV.plc))) ∧ Below w.heap.size w w' := by
  have HC : Hid (∀ W, Below w.heap.size w W → Calls Try.prog 44 #[v, .bool true, .bool true] W fun e w' => e = .returned (.int .i64 (if 8 < l.length then 2 else chkBy outErr (l.map PV.plc))) ∧ Below W.heap.size W w') := fun W hb => checkModules_whole l v W ((hrow.below hb).more hb.size) hfit
  have hat := hrow.2
  obtain ⟨⟨a, cap, rfl, hmax, hrow⟩, _⟩ := hrow
  have key := chkReg_cases (l.map PV.plc)
  rw [List.length_map] at key
  have hall : (∀ p ∈ l.map PV.plc, chkMod p.mod = 0 ∧ 0 ≤ p.first ∧ p.first + szM p.mod ≤ 16) → ∀ x ∈ l, x.mod.text.size ≤ 256 ∧ 0 ≤ x.first ∧ x.first + szM x.mod ≤ 16 := by
    intro h x hx
    obtain ⟨h1, h2, h3⟩ := h x.plc (List.mem_map_of_mem hx)
    exact ⟨(szM_bd h1).2.2.1, h2, h3⟩
  generalize chkReg (l.map PV.plc) = R at *
  generalize (if 8 < l.length then (2 : Int) else chkBy outErr (l.map PV.plc)) = cp at *
  go_enter Try.func19, Try.ntmps19
  go_wp2_with fail
  refine (HC.out w (Below.refl _ _)).mono ?_
  rintro e w2 ⟨rfl, B2⟩
  clear HC
  rcases key with ⟨h0, rfl⟩ | ⟨rfl, h0, rfl⟩
  · have h0' : (R != 0) = true := by simpa using h0
    clear hall hrow hat
    go_wp2
    go_ret
    exact ⟨rfl, B2⟩
  · have hx0 := hall h0
    clear hall h0
    go_wp2_with fail
    go_loopw [4] (fun i wr => ∃ (k m : Nat), i = .int .i64 k ∧ Hid (k = m + 1) ∧ ((l = [] ∧ m = 0) ∨ ∃ x, l[m]? = some x ∧ Hid (behind 0 (l.map PV.plc) = behind (x.first + szM x.mod) ((l.drop (m + 1)).map PV.plc))) ∧ Below w.heap.size w wr) (fun i _ => l.length + 1 - (intOf i).toNat)
    case atStart =>
      refine ⟨1, 0, rfl, (rfl : 1 = 0 + 1), ?_, B2⟩
      cases l with
      | nil => exact .inl ⟨rfl, rfl⟩
      | cons x l =>
        refine .inr ⟨x, rfl, ?_⟩
        show behind 0 ((x :: l).map PV.plc) = behind (x.first + szM x.mod) (((x :: l).drop (0 + 1)).map PV.plc)
        have h1 : behind 0 ((x :: l).map PV.plc) = (!decide (x.first < 0) && behind (x.first + szM x.mod) (l.map PV.plc)) := rfl
        have h2 := (hx0 x (by simp)).2.1
        rw [h1, decide_eq_false (by omega)]
        rfl
    case round =>
      obtain ⟨k, m, rfl, HK, hm, B⟩ := hrel
      rcases hm with ⟨rfl, rfl⟩ | ⟨x, hx, HC⟩
      · obtain rfl : k = 1 := HK.out
        go_wp2
        go_ret
        exact ⟨rfl, B⟩
      · have hml : m < l.length := (List.getElem?_eq_some_iff.1 hx).1
        by_cases hlt : k < l.length
        · obtain ⟨y, hy⟩ : ∃ y, l[k]? = some y := ⟨_, List.getElem?_eq_getElem hlt⟩
          rcases hrow with h | ⟨b, off, rfl, hbn, hcells⟩
          · subst h; simp at hlt
          have HR : Hid (behind 0 (l.map PV.plc) = (!decide (y.first < x.first + szM x.mod) && behind (y.first + szM y.mod) ((l.drop (k + 1)).map PV.plc))) := by
            show behind 0 (l.map PV.plc) = _
            rw [HC.out, ← HK.out, drop_at hy]; rfl
          have hxx := hx0 x (List.mem_of_getElem? hx)
          have HS : Hid (∀ W, Calls Try.prog 20 #[x.modV] W fun e w' => e = .returned (.int .i64 (szM x.mod : Int)) ∧ Below W.heap.size W w') := by
            intro W
            obtain ⟨⟨pe, ke, e4, _⟩, ⟨pi, ki, e5, _⟩, ⟨pp, kp, e6, _⟩⟩ := hat x (List.mem_of_getElem? hx)
            unfold PV.modV
            rw [e4, e5, e6]
            exact sizeOf_any _ _ _ _ _ _ _ _ _ _ _ _ _ _ hxx.1
          obtain ⟨⟨pe, ke, e4, _⟩, ⟨pi, ki, e5, _⟩, ⟨pp, kp, e6, _⟩⟩ := hat x (List.mem_of_getElem? hx)
          have d7 := (B.cell (p := ⟨b, off + k * 8 + 7, none⟩) hbn).trans (hcells k _ hy 7 (by omega))
          have HY : Hid (l[k]? = some y) := hy
          clear hy
          generalize hyf : y.first = yf at *
          generalize hsz : szM x.mod = sz at *
          obtain ⟨⟨N, ma, mi, T, es, is, ps⟩, ve, vi, vp, fi⟩ := x
          dsimp only at e4 e5 e6
          subst e4 e5 e6
          have c0 := (B.cell (p := ⟨b, off + m * 8 + 0, none⟩) hbn).trans (hcells m _ hx 0 (by omega))
          have c1 := (B.cell (p := ⟨b, off + m * 8 + 1, none⟩) hbn).trans (hcells m _ hx 1 (by omega))
          have c2 := (B.cell (p := ⟨b, off + m * 8 + 2, none⟩) hbn).trans (hcells m _ hx 2 (by omega))
          have c3 := (B.cell (p := ⟨b, off + m * 8 + 3, none⟩) hbn).trans (hcells m _ hx 3 (by omega))
          have c4 := (B.cell (p := ⟨b, off + m * 8 + 4, none⟩) hbn).trans (hcells m _ hx 4 (by omega))
          have c5 := (B.cell (p := ⟨b, off + m * 8 + 5, none⟩) hbn).trans (hcells m _ hx 5 (by omega))
          have c6 := (B.cell (p := ⟨b, off + m * 8 + 6, none⟩) hbn).trans (hcells m _ hx 6 (by omega))
          have c7 := (B.cell (p := ⟨b, off + m * 8 + 7, none⟩) hbn).trans (hcells m _ hx 7 (by omega))
          dsimp only [PV.cell] at c0 c1 c2 c3 c4 c5 c6 c7 d7
          dsimp only [PV.modV] at HS
          dsimp only at hxx HR
          rw [Nat.add_zero] at c0
          rw [hyf] at d7
          clear HC hcells hx hat hsz hx0
          obtain ⟨_, hf0, hf1⟩ := hxx
          generalize es.length = le at *
          generalize is.length = li at *
          generalize ps.length = lp at *
          have t0 := cell_regrown c0
          have t1 := cell_regrown c1
          have t2 := cell_regrown c2
          have t3 := cell_regrown c3
          have t4 := cell_regrown c4
          have t5 := cell_regrown c5
          have t6 := cell_regrown c6
          have t7 := cell_regrown c7
          have s7 := cell_regrown d7
          clear c0 c1 c2 c3 c4 c5 c6 c7 d7
          have hbd : l.length ≤ 9223372036854775807 := hmax
          have i0 : IntKind.i64.wrap ((k : Int) - 1) = (m : Int) := by have := HK.out; rw [i64_is]; unfold wrap64; omega
          have i1 : IntKind.i64.wrap (fi + (sz : Int)) = fi + (sz : Int) := by rw [i64_is]; unfold wrap64; omega
          by_cases hb : yf < fi + sz
          · have HZ : Hid (behind 0 (l.map PV.plc) = false) := by
              show behind 0 (l.map PV.plc) = false
              rw [HR.out, decide_eq_true hb]; rfl
            clear HR
            go_wp2_with fail
            refine wp_region_quiet_below (by kernel_rfl) (by kernel_rfl) ?_
            repeat (quiet_step ((go_at_call 20; go_must (exact Calls.regrown_of (HS.out _)))))
            refine wpQuiet_nil ?_
            intro _ hw'
            obtain ⟨⟨dq, osq⟩, hw''⟩ := hw'
            have B5 := B.trans ((below_regrown wr dq osq).mono B.size)
            rw [← hw''] at B5
            clear hw'' t0 t1 t2 t3 t4 t5 t6 t7 s7 HS
            go_wp2
            go_ret
            exact ⟨by rw [HZ.out]; rfl, B5⟩
          · have hb' : decide (yf < fi + sz) = false := decide_eq_false hb
            have HZ : Hid (behind 0 (l.map PV.plc) = behind (y.first + szM y.mod) ((l.drop (k + 1)).map PV.plc)) := by
              show behind 0 (l.map PV.plc) = _
              rw [HR.out, hb', hyf]; rfl
            clear HR
            go_wp2_with fail
            refine wp_region_quiet_below (by kernel_rfl) (by kernel_rfl) ?_
            repeat (quiet_step ((go_at_call 20; go_must (exact Calls.regrown_of (HS.out _)))))
            refine wpQuiet_nil ?_
            intro _ hw'
            obtain ⟨⟨dq, osq⟩, hw''⟩ := hw'
            have B5 := B.trans ((below_regrown wr dq osq).mono B.size)
            rw [← hw''] at B5
            clear hw'' t0 t1 t2 t3 t4 t5 t6 t7 s7 HS
            go_wp2
            exact ⟨⟨k + 1, k, by go_num, (rfl : k + 1 = k + 1), .inr ⟨y, HY.out, HZ.out⟩, B5⟩, by simp [intOf]; omega⟩
        · have hlt' : decide ((k : Int) < l.length) = false := decide_eq_false (by omega)
          have HZ : Hid (behind 0 (l.map PV.plc) = true) := by
            show behind 0 (l.map PV.plc) = true
            rw [HC.out, List.drop_eq_nil_of_le (by have := HK.out; omega)]; rfl
          go_wp2
          go_ret
          exact ⟨by rw [HZ.out]; rfl, B⟩

end Go.Proofs.Ytaklbnabgcglhac
