/- The contracts of region.Free and region.First. -/
import Derived.Test.YtaklbnabgcglhacRegF
import Derived.Test.YtaklbnabgcglhacIdxR
namespace Go.Proofs.Ytaklbnabgcglhac
open Go.RowKit Go.PlainAid

set_option maxRecDepth 100000

theorem own_ne {W : World} {base : Nat} {e : TypeId} {size : Nat} {v : Value} {n : Nat} {xs : List Value} (h : W.ownsRow base e size v n xs) : some W.heap.size ≠ v.ownBlock := by
  rcases h.2 with ⟨rfl, _⟩ | ⟨g, cap, cur, rfl, hg, hc, _⟩
  · simp [Value.ownBlock]
  · have := (Array.getElem?_eq_some_iff.1 hc).1
    simp [Value.ownBlock]
    omega
def freeRes (L : List Plc) : List (Int × Int) := if chkReg L = 0 then runsFrom 0 L else []
theorem freeRes_cases (L : List Plc) : (chkReg L ≠ 0 ∧ freeRes L = []) ∨ (chkReg L = 0 ∧ L.length ≤ 8 ∧ (∀ p ∈ L, p.mod.text.size ≤ 256 ∧ 0 ≤ p.first ∧ p.first + szM p.mod ≤ 16) ∧ freeRes L = runsFrom 0 L) := by
  unfold freeRes
  by_cases h : chkReg L = 0
  · right
    obtain ⟨h1, h2, h3⟩ := chkReg_zero.1 h
    refine ⟨h, h1, fun p hp => ?_, by rw [if_pos h]⟩
    have := okPl_first h3 p hp
    exact ⟨(szM_bd (h2 p hp)).2.2.1, by omega, by omega⟩
  · left
    exact ⟨h, by rw [if_neg h]⟩

set_option maxHeartbeats 4000000 in
theorem free_any (l : List PV) (v : Value) (w : World) (hrow : IsPlcs w.heap.size w v l) (hfit : ∀ x ∈ l, x.mod.fits) :
    Calls Try.prog 16 #[v] w fun e w' => (∃ r, e = .returned (.tuple #[r, .int .i64 (chkReg (l.map PV.plc))]) ∧ RowOf 2 runCell w'.heap.size w' r (freeRes (l.map PV.plc))) ∧ Below w.heap.size w w' := by
  have HW : Hid (∀ W, Below w.heap.size w W → Calls Try.prog 35 #[v] W fun e w' => e = .returned (.int .i64 (chkReg (l.map PV.plc))) ∧ Below W.heap.size W w') := fun W hb => regWrong_any l v W ((hrow.below hb).more hb.size) hfit
  have hat := hrow.2
  obtain ⟨⟨a, cap, rfl, hmax, hrow⟩, _⟩ := hrow
  have key := freeRes_cases (l.map PV.plc)
  rw [List.length_map] at key
  have hall : (∀ p ∈ l.map PV.plc, p.mod.text.size ≤ 256 ∧ 0 ≤ p.first ∧ p.first + szM p.mod ≤ 16) → ∀ x ∈ l, x.mod.text.size ≤ 256 ∧ 0 ≤ x.first ∧ x.first + szM x.mod ≤ 16 := fun h x hx => h x.plc (List.mem_map_of_mem hx)
  generalize chkReg (l.map PV.plc) = R at *
  generalize freeRes (l.map PV.plc) = FR at *
  go_enter Try.func16, Try.ntmps16
  go_wp2_with fail
  refine (HW.out w (Below.refl _ _)).mono ?_
  rintro e w5 ⟨rfl, B5⟩
  clear HW
  rcases key with ⟨h0, rfl⟩ | ⟨rfl, h8, h0, rfl⟩
  · have h0' : (R != 0) = true := by simpa using h0
    clear hall hrow hat h0
    go_wp2
    go_ret2
    exact ⟨⟨_, rfl, ⟨none, 0, rfl, by simp, .inl rfl⟩⟩, B5⟩
  · have hx0 := hall h0
    clear hall h0
    go_wp2_with fail
    go_loopw [5, 6, 16] (fun f d i wr => ∃ (k : Nat) (e : Int) (acc : List (Int × Int)), k ≤ l.length ∧ i = .int .i64 k ∧ d = .int .i64 e ∧ 0 ≤ e ∧ e ≤ 16 ∧ acc.length ≤ k ∧ wr.ownsRow w5.heap.size 55 2 f acc.length (acc.flatMap runC) ∧ Hid (runsFrom 0 (l.map PV.plc) = acc ++ runsFrom e ((l.drop k).map PV.plc)) ∧ Below w5.heap.size w5 wr) (fun _ _ i _ => l.length - (intOf i).toNat)
    case atStart => exact ⟨0, 0, [], Nat.zero_le _, rfl, rfl, by omega, by omega, Nat.zero_le _, ⟨rfl, .inl ⟨rfl, rfl⟩⟩, by show runsFrom 0 (l.map PV.plc) = [] ++ runsFrom 0 ((l.drop 0).map PV.plc); rfl, Below.refl _ _⟩
    case round =>
      obtain ⟨k, en, acc, hk, rfl, rfl, he0, he1, hal, hown, HC, B⟩ := hrel
      have B' : Below w.heap.size w wr := B5.trans (B.mono B5.size)
      obtain ⟨av, kv, rfl⟩ := own_form hown
      by_cases hlt : k < l.length
      · obtain ⟨x, hx⟩ : ∃ x, l[k]? = some x := ⟨_, List.getElem?_eq_getElem hlt⟩
        rcases hrow with h | ⟨b, off, rfl, hbn, hcells⟩
        · subst h; simp at hlt
        have HR : Hid (runsFrom 0 (l.map PV.plc) = (acc ++ gapOf en x.first) ++ runsFrom (x.first + szM x.mod) ((l.drop (k + 1)).map PV.plc)) := by
          show runsFrom 0 (l.map PV.plc) = _
          rw [HC.out, drop_at hx, List.append_assoc]; rfl
        have hxx := hx0 x (List.mem_of_getElem? hx)
        have HS : Hid (∀ W, Calls Try.prog 34 #[x.modV] W fun e w' => e = .returned (.int .i64 (szM x.mod : Int)) ∧ Below W.heap.size W w') := by
          intro W
          obtain ⟨⟨pe, ke, e4, _⟩, ⟨pi, ki, e5, _⟩, ⟨pp, kp, e6, _⟩⟩ := hat x (List.mem_of_getElem? hx)
          unfold PV.modV
          rw [e4, e5, e6]
          exact sectors_any _ _ _ _ _ _ _ _ _ _ _ _ _ _ hxx.1
        obtain ⟨⟨pe, ke, e4, _⟩, ⟨pi, ki, e5, _⟩, ⟨pp, kp, e6, _⟩⟩ := hat x (List.mem_of_getElem? hx)
        generalize hsz : szM x.mod = sz at *
        obtain ⟨⟨N, ma, mi, T, es, is, ps⟩, ve, vi, vp, fi⟩ := x
        dsimp only at e4 e5 e6
        subst e4 e5 e6
        have c0 := (B'.cell (p := ⟨b, off + k * 8 + 0, none⟩) hbn).trans (hcells k _ hx 0 (by omega))
        have c1 := (B'.cell (p := ⟨b, off + k * 8 + 1, none⟩) hbn).trans (hcells k _ hx 1 (by omega))
        have c2 := (B'.cell (p := ⟨b, off + k * 8 + 2, none⟩) hbn).trans (hcells k _ hx 2 (by omega))
        have c3 := (B'.cell (p := ⟨b, off + k * 8 + 3, none⟩) hbn).trans (hcells k _ hx 3 (by omega))
        have c4 := (B'.cell (p := ⟨b, off + k * 8 + 4, none⟩) hbn).trans (hcells k _ hx 4 (by omega))
        have c5 := (B'.cell (p := ⟨b, off + k * 8 + 5, none⟩) hbn).trans (hcells k _ hx 5 (by omega))
        have c6 := (B'.cell (p := ⟨b, off + k * 8 + 6, none⟩) hbn).trans (hcells k _ hx 6 (by omega))
        have c7 := (B'.cell (p := ⟨b, off + k * 8 + 7, none⟩) hbn).trans (hcells k _ hx 7 (by omega))
        dsimp only [PV.cell] at c0 c1 c2 c3 c4 c5 c6 c7
        dsimp only [PV.modV] at HS
        dsimp only at hxx HR
        rw [Nat.add_zero] at c0
        clear HC hcells hx hat hsz hx0
        obtain ⟨_, hf0, hf1⟩ := hxx
        generalize es.length = le at *
        generalize is.length = li at *
        generalize ps.length = lp at *
        have C2 : Hid (CellsAt (wr.alloc (.cells #[.string N, .int .i64 ma, .int .i64 mi, .string T, .slice pe le ke, .slice pi li ki, .slice pp lp kp, .int .i64 fi] 38)) wr.heap.size 38 #[.string N, .int .i64 ma, .int .i64 mi, .string T, .slice pe le ke, .slice pi li ki, .slice pp lp kp, .int .i64 fi]) := CellsAt.new _ _ _
        have BB : Hid (Below w5.heap.size w5 (wr.alloc (.cells #[.string N, .int .i64 ma, .int .i64 mi, .string T, .slice pe le ke, .slice pi li ki, .slice pp lp kp, .int .i64 fi] 38))) := B.alloc B.size _
        have HO : Hid ((wr.alloc (.cells #[.string N, .int .i64 ma, .int .i64 mi, .string T, .slice pe le ke, .slice pi li ki, .slice pp lp kp, .int .i64 fi] 38)).ownsRow w5.heap.size 55 2 (.slice av acc.length kv) acc.length (acc.flatMap runC)) := hown.alloc _
        have HNE : Hid (some wr.heap.size ≠ (Value.slice av acc.length kv).ownBlock) := own_ne hown
        have HL : Hid (acc.length ≤ 16) := show acc.length ≤ 16 by omega
        have HLK : Hid (acc.length ≤ k) := hal
        clear hown
        go_wp2_with fail
        refine (gap_any acc en fi _ w5.heap.size _ HO.out BB.out.size HL.out ⟨he0, he1⟩ ⟨hf0, by omega⟩).mono ?_
        rintro e w7 ⟨⟨r, rfl, O7⟩, hg⟩
        have C7 := C2.out.kept hg HNE.out
        have B7 : Below w5.heap.size w5 w7 := BB.out.grown hg BB.out.size (fun j hj => own_block HO.out j hj)
        clear C2 BB HO HNE hg c0 c1 c2 c3 c4 c5 c6 c7
        obtain ⟨ar, kr, rfl⟩ := own_form O7
        have HL' : Hid ((acc ++ gapOf en fi).length ≤ k + 1) := by
          show (acc ++ gapOf en fi).length ≤ k + 1
          have := HLK.out
          unfold gapOf
          split <;> simp <;> omega
        generalize acc ++ gapOf en fi = acc' at *
        have t0 := cell_regrown (C7.cell 0)
        have t1 := cell_regrown (C7.cell 1)
        have t2 := cell_regrown (C7.cell 2)
        have t3 := cell_regrown (C7.cell 3)
        have t4 := cell_regrown (C7.cell 4)
        have t5 := cell_regrown (C7.cell 5)
        have t6 := cell_regrown (C7.cell 6)
        have t7 := cell_regrown (C7.cell 7)
        clear C7
        go_wp2_with fail
        have i1 : IntKind.i64.wrap (fi + (sz : Int)) = fi + (sz : Int) := by rw [i64_is]; unfold wrap64; omega
        refine wp_region_quiet_below (by kernel_rfl) (by kernel_rfl) ?_
        repeat (quiet_step ((go_at_call 34; go_must (exact Calls.regrown_of (HS.out _)))))
        refine wpQuiet_nil ?_
        intro w8 hw'
        obtain ⟨⟨dq, osq⟩, hw''⟩ := hw'
        have b8 := below_regrown w7 dq osq
        rw [← hw''] at b8
        have O8 := own_below O7 b8
        have B8 := B7.trans (b8.mono B7.size)
        clear hw'' t0 t1 t2 t3 t4 t5 t6 t7 HS O7 b8
        go_wp2
        exact ⟨⟨k + 1, fi + sz, acc', by omega, by go_num, by first | rfl | (rw [i1]), by omega, by omega, HL'.out, O8, HR.out, B8⟩, by simp [intOf]; omega⟩
      · obtain rfl : k = l.length := by omega
        have HZ : Hid (runsFrom 0 (l.map PV.plc) = acc ++ gapOf en 16) := by
          show runsFrom 0 (l.map PV.plc) = _
          rw [HC.out, List.drop_length]; rfl
        have hb5 : w5.heap.size ≤ wr.heap.size := B.size
        have HO := hown
        have hl16 : acc.length ≤ 16 := by omega
        clear hx0
        go_wp2_with fail
        refine (gap_any acc en 16 _ w5.heap.size _ HO hb5 hl16 ⟨he0, he1⟩ ⟨by omega, by omega⟩).mono ?_
        rintro e w7 ⟨⟨r, rfl, O7⟩, hg⟩
        have B7 : Below w5.heap.size w5 w7 := B.grown hg B.size (fun j hj => own_block HO j hj)
        obtain ⟨ar, kr, rfl⟩ := own_form O7
        have HLN : Hid ((acc ++ gapOf en 16).length ≤ 9223372036854775807) := by
          show (acc ++ gapOf en 16).length ≤ 9223372036854775807
          unfold gapOf
          split <;> simp <;> omega
        generalize acc ++ gapOf en 16 = acc' at *
        clear HO hown
        go_wp2
        go_ret2
        exact ⟨⟨_, rfl, by rw [HZ.out]; exact own_rows (C := runC) (cells := runCell) (sz := 2) (fun _ => rfl) runC_at O7 HLN.out⟩, B5.trans (B7.mono B5.size)⟩

def firstRes (L : List Plc) (many : Int) : Int × Int := if chkReg L ≠ 0 then (0, chkReg L) else if many < 1 ∨ 16 < many then (0, 3) else match fitOf many (runsFrom 0 L) with | none => (0, 8) | some r => (r.1, 0)
theorem firstRes_cases (L : List Plc) (many : Int) : (chkReg L ≠ 0 ∧ firstRes L many = (0, chkReg L)) ∨ (chkReg L = 0 ∧ many < 1 ∧ firstRes L many = (0, 3)) ∨ (chkReg L = 0 ∧ 1 ≤ many ∧ 16 < many ∧ firstRes L many = (0, 3)) ∨ (chkReg L = 0 ∧ 1 ≤ many ∧ many ≤ 16 ∧ freeRes L = runsFrom 0 L ∧ firstRes L many = match fitOf many (freeRes L) with | none => (0, 8) | some r => (r.1, 0)) := by
  unfold firstRes
  by_cases h : chkReg L = 0
  · right
    have h3 : freeRes L = runsFrom 0 L := by unfold freeRes; rw [if_pos h]
    rw [if_neg (by omega)]
    by_cases h1 : many < 1
    · exact .inl ⟨h, h1, by rw [if_pos (.inl h1)]⟩
    · by_cases h2 : 16 < many
      · exact .inr (.inl ⟨h, by omega, h2, by rw [if_pos (.inr h2)]⟩)
      · refine .inr (.inr ⟨h, by omega, by omega, h3, ?_⟩)
        rw [if_neg (by omega), h3]
  · left
    exact ⟨h, by rw [if_pos h]⟩

set_option maxHeartbeats 1000000 in
theorem first1_any (x : Int × Int) (B : Nat) (many : Int) (w : World) (hB : B < w.heap.size) (hc : w.cell? ⟨B, 0, none⟩ = some (.int .i64 many)) :
    Calls Try.prog 38 #[.agg #[.int .i64 x.1, .int .i64 x.2], .pointer (some ⟨B, 0, none⟩)] w fun e w' => e = .returned (.bool (decide (many ≤ x.2))) ∧ Below w.heap.size w w' := by
  obtain ⟨a, b⟩ := x
  dsimp only
  have hc' : (w.alloc (.cells #[.int .i64 a, .int .i64 b] 55)).cell? ⟨B, 0, none⟩ = some (.int .i64 many) := (((Below.refl w.heap.size w).alloc (Nat.le_refl _) _).cell (p := ⟨B, 0, none⟩) hB).trans hc
  generalize hd : decide (many ≤ b) = d
  go_enter Try.func38, Try.ntmps38
  go_wp2
  go_ret
  refine ⟨?_, (Below.refl _ _).alloc (Nat.le_refl _) _⟩
  first | rfl | (rw [← hd]; rfl)

set_option maxHeartbeats 2000000 in
theorem first_any (l : List PV) (v : Value) (many : Int) (w : World) (hrow : IsPlcs w.heap.size w v l) (hfit : ∀ x ∈ l, x.mod.fits) :
    Calls Try.prog 17 #[v, .int .i64 many] w fun e w' => e = .returned (.tuple #[.int .i64 (firstRes (l.map PV.plc) many).1, .int .i64 (firstRes (l.map PV.plc) many).2]) ∧ Below w.heap.size w w' := by
  have HF : Hid (∀ W, Below w.heap.size w W → Calls Try.prog 16 #[v] W fun e w' => (∃ r, e = .returned (.tuple #[r, .int .i64 (chkReg (l.map PV.plc))]) ∧ RowOf 2 runCell w'.heap.size w' r (freeRes (l.map PV.plc))) ∧ Below W.heap.size W w') := fun W hb => free_any l v W ((hrow.below hb).more hb.size) hfit
  have key := firstRes_cases (l.map PV.plc) many
  obtain ⟨⟨a, cap, rfl, hmax, hrow⟩, _⟩ := hrow
  generalize runsFrom 0 (l.map PV.plc) = RF at *
  generalize firstRes (l.map PV.plc) many = R at *
  generalize chkReg (l.map PV.plc) = c at *
  generalize freeRes (l.map PV.plc) = FR at *
  clear hrow hfit
  generalize l.length = ll at *
  have HB : Hid (Below w.heap.size w (w.alloc (.cells #[.int .i64 many] 3))) := (Below.refl _ _).alloc (Nat.le_refl _) _
  have HCA : Hid (CellsAt (w.alloc (.cells #[.int .i64 many] 3)) w.heap.size 3 #[.int .i64 many]) := CellsAt.new _ _ _
  go_enter Try.func17, Try.ntmps17
  go_wp2_with fail
  refine (HF.out _ HB.out).mono ?_
  rintro e w2 ⟨⟨r, rfl, hR⟩, b2⟩
  have C2 := HCA.out.below b2 HCA.out.lt
  have B2 := HB.out.trans (b2.mono HB.out.size)
  have t0 := C2.cell 0
  simp at t0
  have tz := C2.lt
  clear HF HB HCA b2 C2
  have HRW := hR
  obtain ⟨ar, kr, rfl, hml, hR⟩ := hR
  rcases key with ⟨h0, rfl⟩ | ⟨rfl, h0, rfl⟩ | ⟨rfl, h0, h1, rfl⟩ | ⟨rfl, h0, h1, rfl, hm⟩
  · have h0' : (c != 0) = true := by simpa using h0
    clear h0 hR HRW
    go_wp2
    go_ret2
    exact ⟨rfl, B2⟩
  · clear hR HRW
    go_wp2
    go_ret2
    exact ⟨rfl, B2⟩
  · have h0' : decide (many < 1) = false := decide_eq_false (by omega)
    clear hR HRW
    go_wp2
    go_ret2
    exact ⟨rfl, B2⟩
  · have h0' : decide (many < 1) = false := decide_eq_false (by omega)
    have h1' : decide (16 < many) = false := decide_eq_false (by omega)
    have HI : Hid (Calls Try.prog 37 #[.slice ar FR.length kr, .func (.func 38) #[] #[.pointer (some ⟨w.heap.size, 0, none⟩)]] w2 fun e w' => e = .returned (.int .i64 (ixFrom (fun r => decide (many ≤ r.2)) 0 FR)) ∧ Below w2.heap.size w2 w') :=
      idxRun_any FR _ 38 _ (fun w x => enters_of Try.func38 (by kernel_rfl) rfl _ w) (fun r => decide (many ≤ r.2)) w2 HRW (fun x hx W hb => first1_any x w.heap.size many W (Nat.lt_of_lt_of_le tz hb.size) ((hb.cell (p := ⟨w.heap.size, 0, none⟩) tz).trans t0))
    have hfi := ix_find (fun r : Int × Int => decide (many ≤ r.2)) FR 0
    unfold fitOf at hm
    generalize ixFrom (fun r : Int × Int => decide (many ≤ r.2)) 0 FR = ix at *
    have HM : Hid (R = match FR.find? (fun r => decide (many ≤ r.2)) with | none => ((0 : Int), (8 : Int)) | some r => (r.1, 0)) := hm
    clear hm HRW
    rcases hfi with ⟨g1, rfl⟩ | ⟨j, x, g1, g2, rfl⟩
    · have HM' : R = (0, 8) := by rw [HM.out, g1]
      subst HM'
      clear HM g1
      go_wp2_with fail
      refine HI.out.mono ?_
      rintro e w3 ⟨rfl, b3⟩
      have B3 := B2.trans (b3.mono B2.size)
      clear HI b3
      go_wp2
      go_ret2
      exact ⟨rfl, B3⟩
    · have HM' : R = (x.1, 0) := by rw [HM.out, g1]
      subst HM'
      clear HM g1
      have hj : j < FR.length := (List.getElem?_eq_some_iff.1 g2).1
      rcases hR with h | ⟨b, off, rfl, hbn, hcells⟩
      · subst h; simp at hj
      have d0 := hcells j _ g2 0 (by omega)
      dsimp only [runCell] at d0
      rw [Nat.add_zero] at d0
      have hjn : decide (((0 + j : Nat) : Int) < 0) = false := decide_eq_false (by omega)
      rw [Nat.zero_add] at HI hjn
      clear hcells g2
      go_wp2_with fail
      refine HI.out.mono ?_
      rintro e w3 ⟨rfl, b3⟩
      have B3 := B2.trans (b3.mono B2.size)
      have d1 := (b3.cell (p := ⟨b, off + j * 2, none⟩) hbn).trans d0
      clear HI b3 d0 t0
      go_wp2
      go_ret2
      exact ⟨rfl, B3⟩

end Go.Proofs.Ytaklbnabgcglhac
