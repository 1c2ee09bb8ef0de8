/- Texts that are laid together. -/
import Derived.Test.YtlpnfbpgnfappaaGreatMrgP
import Derived.Test.YtlpnfbpgnfappaaGreatMrgL
import Derived.Lib.QuietBelow
import Derived.Test.YtlpnfbpgnfappaaGreatMrgO

/- The contract of the planner's room. -/
namespace Go.Proofs.YtlpnfbpgnfappaaGreat
open Go.RowKit Go.PlainAid Go.Lib Go.Sort

set_option maxRecDepth 100000

set_option maxHeartbeats 1000000 in
theorem idxRun2_any (l : List (Int × Int)) (v : Value) (K : FuncId) (c d : Value) (hK : ∀ w x, Sem.run Tryz.prog (callFunc K #[x, c, d]) w = .ok (.enter K #[x, c, d]) w) (p : Int × Int → Bool) (w : World) (hrow : RowOf 2 runCell w.heap.size w v l)
    (hp : ∀ x ∈ l, ∀ W, Below w.heap.size w W → Calls Tryz.prog K #[.agg #[.int .i64 x.1, .int .i64 x.2], c, d] W fun e W' => e = .returned (.bool (p x)) ∧ Below W.heap.size W W') :
    Calls Tryz.prog 93 #[v, .func (.func K) #[] #[c, d]] w fun e w' => e = .returned (.int .i64 (ixFrom p 0 l)) ∧ Below w.heap.size w w' := by
  obtain ⟨a, cap, rfl, _, hrow⟩ := hrow
  go_enter Tryz.func93, Tryz.ntmps93
  go_wp2
  go_loopw [8] (fun i wr => ∃ (k : Nat), k ≤ l.length ∧ i = .int .i64 k ∧ Hid (ixFrom p 0 l = ixFrom p k (l.drop k)) ∧ Below w.heap.size w wr) (fun i _ => l.length - (intOf i).toNat)
  case atStart => exact ⟨0, Nat.zero_le _, rfl, by show ixFrom p 0 l = ixFrom p 0 (l.drop 0); rfl, Below.refl _ _⟩
  case round =>
    obtain ⟨k, hk, rfl, HC, B⟩ := hrel
    by_cases hlt : k < l.length
    · obtain ⟨x, hx⟩ : ∃ x, l[k]? = some x := ⟨_, List.getElem?_eq_getElem hlt⟩
      rcases hrow with h | ⟨b, off, rfl, hbn, hcells⟩
      · subst h; simp at hlt
      have HP := hp x (List.mem_of_getElem? hx)
      obtain ⟨nm, ps⟩ := x
      have c0 := (B.cell (p := ⟨b, off + k * 2 + 0, none⟩) hbn).trans (hcells k _ hx 0 (by omega))
      have c1 := (B.cell (p := ⟨b, off + k * 2 + 1, none⟩) hbn).trans (hcells k _ hx 1 (by omega))
      dsimp only [runCell] at c0 c1
      rw [Nat.add_zero] at c0
      have HR : Hid (ixFrom p 0 l = if p ⟨nm, ps⟩ then (k : Int) else ixFrom p (k + 1) (l.drop (k + 1))) := by
        show ixFrom p 0 l = _
        rw [HC.out, drop_at hx]; rfl
      have HP' : Hid (∀ W, Below w.heap.size w W → Calls Tryz.prog K #[.agg #[.int .i64 nm, .int .i64 ps], c, d] W fun e W' => e = .returned (.bool (p ⟨nm, ps⟩)) ∧ Below W.heap.size W W') := HP
      clear HC hcells hx HP
      generalize p ⟨nm, ps⟩ = t at HR HP'
      go_wp2_with fail
      refine Calls.mono (HP'.out _ B) ?_
      rintro e w2 ⟨rfl, b2⟩
      have B2 := B.trans (b2.mono B.size)
      clear b2 HP' c0 c1
      cases t
      · go_wp2
        exact ⟨⟨k + 1, by omega, by go_num, HR.out, B2⟩, by simp [intOf]; omega⟩
      · go_wp2
        go_ret
        exact ⟨by rw [HR.out]; rfl, B2⟩
    · obtain rfl : k = l.length := by omega
      have HZ : Hid (ixFrom p 0 l = -1) := by
        show ixFrom p 0 l = -1
        rw [HC.out, List.drop_length]; rfl
      go_wp2
      go_ret
      exact ⟨by rw [HZ.out]; rfl, B⟩

set_option maxHeartbeats 1000000 in
theorem anyRun_any (l : List (Int × Int)) (v : Value) (K : FuncId) (c d : Value) (hK : ∀ w x, Sem.run Tryz.prog (callFunc K #[x, c, d]) w = .ok (.enter K #[x, c, d]) w) (p : Int × Int → Bool) (w : World) (hrow : RowOf 2 runCell w.heap.size w v l)
    (hp : ∀ x ∈ l, ∀ W, Below w.heap.size w W → Calls Tryz.prog K #[.agg #[.int .i64 x.1, .int .i64 x.2], c, d] W fun e W' => e = .returned (.bool (p x)) ∧ Below W.heap.size W W') :
    Calls Tryz.prog 101 #[v, .func (.func K) #[] #[c, d]] w fun e w' => e = .returned (.bool (l.any p)) ∧ Below w.heap.size w w' := by
  have HI : Hid (Calls Tryz.prog 93 #[v, .func (.func K) #[] #[c, d]] w fun e w' => e = .returned (.int .i64 (ixFrom p 0 l)) ∧ Below w.heap.size w w') := idxRun2_any l v K c d hK p w hrow hp
  obtain ⟨a, cap, rfl, _, _⟩ := hrow
  have key := ix_any p l 0
  generalize l.any p = r at *
  generalize ixFrom p 0 l = ix at *
  generalize l.length = ll at *
  clear hK hp
  go_enter Tryz.func101, Tryz.ntmps101
  go_wp2_with fail
  refine HI.out.mono ?_
  rintro e w2 ⟨rfl, b2⟩
  clear HI
  rcases key with ⟨rfl, h1⟩ | ⟨rfl, rfl⟩
  · go_wp2
    go_ret
    exact ⟨rfl, b2⟩
  · go_wp2
    go_ret
    exact ⟨rfl, b2⟩

set_option maxHeartbeats 1000000 in
theorem plRoom1_any (x : Int × Int) (B C : Nat) (wanted many : Int) (w : World) (hB : B < w.heap.size) (hC : C < w.heap.size) (hb : w.cell? ⟨B, 0, none⟩ = some (.int .i64 wanted)) (hc : w.cell? ⟨C, 0, none⟩ = some (.int .i64 many)) (h0 : 0 ≤ wanted ∧ wanted ≤ 100) (h1 : 0 ≤ many ∧ many ≤ 100) (h2 : 0 ≤ x.1 ∧ x.1 ≤ 100) (h3 : 0 ≤ x.2 ∧ x.2 ≤ 100) :
    Calls Tryz.prog 102 #[.agg #[.int .i64 x.1, .int .i64 x.2], .pointer (some ⟨B, 0, none⟩), .pointer (some ⟨C, 0, none⟩)] w fun e w' => e = .returned (.bool (decide (x.1 ≤ wanted) && decide (wanted + many ≤ x.1 + x.2))) ∧ Below w.heap.size w w' := by
  obtain ⟨a, b⟩ := x
  dsimp only at *
  have b1 := (Below.refl w.heap.size w).alloc (Nat.le_refl _) (.cells #[.int .i64 a, .int .i64 b] 48)
  have hb' := (b1.cell (p := ⟨B, 0, none⟩) hB).trans hb
  have hc' := (b1.cell (p := ⟨C, 0, none⟩) hC).trans hc
  have w1 : IntKind.i64.wrap (wanted + many) = wanted + many := by rw [IntKind.wrap_i64]; omega
  have w2 : IntKind.i64.wrap (a + b) = a + b := by rw [IntKind.wrap_i64]; omega
  have HB1 : Hid _ := b1
  clear b1
  by_cases g1 : a ≤ wanted
  · have g2 : decide (a ≤ wanted) = true := decide_eq_true g1
    rw [g2, Bool.true_and]
    generalize hd : decide (wanted + many ≤ a + b) = d
    go_enter Tryz.func102, Tryz.ntmps102
    go_wp2
    go_ret
    refine ⟨?_, HB1.out⟩
    first | rfl | (rw [← hd]; rfl) | trace_state
  · have g2 : decide (a ≤ wanted) = false := decide_eq_false g1
    rw [g2, Bool.false_and]
    go_enter Tryz.func102, Tryz.ntmps102
    go_wp2
    go_ret
    exact ⟨rfl, HB1.out⟩

/-- Room, or none. -/
def roomRes (o : Option Int) : Int × Int := match o with | none => (0, 8) | some f => (f, 0)
theorem runs_bd {L : List Plc} (h : chkReg L = 0) : ∀ r ∈ runsFrom 0 L, 0 ≤ r.1 ∧ r.1 ≤ 100 ∧ 0 ≤ r.2 ∧ r.2 ≤ 100 := by
  have key : ∀ {l : List (Int × Int)} {e : Int}, rises e l → ∀ r ∈ l, e ≤ r.1 ∧ 1 ≤ r.2 ∧ r.1 + r.2 ≤ 16 := by
    intro l
    induction l with
    | nil => intro e _ r hr; simp at hr
    | cons x l ih =>
      intro e h r hr
      obtain ⟨h1, h2, h3, h4⟩ := h
      rcases List.mem_cons.1 hr with rfl | hr
      · exact ⟨h1, h2, h3⟩
      · have := ih h4 r hr
        omega
  intro r hr
  have := key (runs_rise (chkReg_zero.1 h).2.2) r hr
  omega

set_option maxHeartbeats 4000000 in
theorem plRoom_any (base Bp : Nat) (K : Ker) (ve vl : Value) (l : List PV) (wanted many : Int) (w : World) (hp : PackAt base Bp w 77 K ve vl l) (hl : Lens l) (hfit : ∀ x ∈ l, x.mod.fits) (h0 : chkReg (l.map PV.plc) = 0) (hw : 0 ≤ wanted ∧ wanted ≤ 16) (hm : 1 ≤ many ∧ many ≤ 4) :
    Calls Tryz.prog 45 #[.pointer (some ⟨Bp, 0, none⟩), .int .i64 wanted, .int .i64 many] w fun e w' => e = .returned (.tuple #[.int .i64 (roomRes (roomOf (l.map PV.plc) wanted many)).1, .int .i64 (roomRes (roomOf (l.map PV.plc) wanted many)).2]) ∧ Below w.heap.size w w' := by
  have hrow := hp.rows hl
  have HFR : Hid (∀ W, Below w.heap.size w W → Calls Tryz.prog 19 #[vl] W fun e w' => (∃ r, e = .returned (.tuple #[r, .int .i64 0]) ∧ RowOf 2 runCell w'.heap.size w' r (runsFrom 0 (l.map PV.plc))) ∧ Below W.heap.size W w') := fun W hb => by
    have := free_any l vl W ((hrow.below hb).more hb.size) hfit
    rw [h0, show freeRes (l.map PV.plc) = runsFrom 0 (l.map PV.plc) from if_pos h0] at this
    exact this
  have HFS : Hid (∀ W, Below w.heap.size w W → Calls Tryz.prog 39 #[vl, .int .i64 many] W fun e w' => e = .returned (.tuple #[.int .i64 (firstRes (l.map PV.plc) many).1, .int .i64 (firstRes (l.map PV.plc) many).2]) ∧ Below W.heap.size W w') := fun W hb => first_any l vl many W ((hrow.below hb).more hb.size) hfit
  have hbd := runs_bd h0
  have HKEY : Hid (((runsFrom 0 (l.map PV.plc)).any (fun r => decide (r.1 ≤ wanted) && decide (wanted + many ≤ r.1 + r.2)) = true ∧ roomRes (roomOf (l.map PV.plc) wanted many) = (wanted, 0)) ∨ ((runsFrom 0 (l.map PV.plc)).any (fun r => decide (r.1 ≤ wanted) && decide (wanted + many ≤ r.1 + r.2)) = false ∧ roomRes (roomOf (l.map PV.plc) wanted many) = firstRes (l.map PV.plc) many)) := by
    show _ ∨ _
    unfold roomOf
    cases ha : (runsFrom 0 (l.map PV.plc)).any (fun r => decide (r.1 ≤ wanted) && decide (wanted + many ≤ r.1 + r.2)) with
    | true => exact .inl ⟨rfl, by rw [if_pos rfl]; rfl⟩
    | false =>
      refine .inr ⟨rfl, ?_⟩
      rw [if_neg (by decide)]
      unfold firstRes
      rw [if_neg (by omega), if_neg (by omega)]
      cases fitOf many (runsFrom 0 (l.map PV.plc)) <;> rfl
  obtain ⟨va, vc, rfl⟩ := own_form hp.2.2.1
  have hcell := hp.1
  generalize roomRes (roomOf (l.map PV.plc) wanted many) = RR at *
  generalize firstRes (l.map PV.plc) many = FRS at *
  generalize hRF : runsFrom 0 (l.map PV.plc) = RF at *
  obtain ⟨f1, f2⟩ := FRS
  obtain ⟨r1, r2⟩ := RR
  dsimp only at *
  have b1 : Below w.heap.size w (w.alloc (.cells #[.int .i64 wanted] 3)) := (Below.refl _ _).alloc (Nat.le_refl _) _
  have b2 : Below w.heap.size w ((w.alloc (.cells #[.int .i64 wanted] 3)).alloc (.cells #[.int .i64 many] 3)) := b1.alloc b1.size _
  have HB2 : Hid (Below w.heap.size w ((w.alloc (.cells #[.int .i64 wanted] 3)).alloc (.cells #[.int .i64 many] 3))) := b2
  have HW2 : Hid (CellsAt ((w.alloc (.cells #[.int .i64 wanted] 3)).alloc (.cells #[.int .i64 many] 3)) w.heap.size 3 #[.int .i64 wanted]) := (CellsAt.new w 3 #[.int .i64 wanted]).kept (World.grownBy_alloc _ _ none) (by simp)
  have HM2 : Hid (CellsAt ((w.alloc (.cells #[.int .i64 wanted] 3)).alloc (.cells #[.int .i64 many] 3)) (w.heap.size + 1) 3 #[.int .i64 many]) := by
    have := CellsAt.new (w.alloc (.cells #[.int .i64 wanted] 3)) 3 #[.int .i64 many]
    rw [World.size_alloc] at this
    exact this
  have HC2 : Hid (CellsAt ((w.alloc (.cells #[.int .i64 wanted] 3)).alloc (.cells #[.int .i64 many] 3)) Bp 77 #[.int .i64 K.major, .int .i64 K.minor, ve, .slice va l.length vc]) := hcell.below b2 hcell.lt
  have p3 := CellsAt.cell HC2.out 3
  have pl := CellsAt.lt HC2.out
  simp at p3
  clear b1 b2 hp hrow hcell hfit h0 hl
  generalize l.length = ll at *
  go_enter Tryz.func45, Tryz.ntmps45
  go_wp2_with fail
  refine (HFR.out _ HB2.out).mono ?_
  clear p3 pl
  generalize ((w.alloc (.cells #[.int .i64 wanted] 3)).alloc (.cells #[.int .i64 many] 3)) = w2 at *
  rintro e w3 ⟨⟨rv, rfl, hrun⟩, b3⟩
  have HB3 : Hid (Below w.heap.size w w3) := HB2.out.trans (b3.mono HB2.out.size)
  have HW3 : Hid (CellsAt w3 w.heap.size 3 #[.int .i64 wanted]) := HW2.out.below b3 HW2.out.lt
  have HM3 : Hid (CellsAt w3 (w.heap.size + 1) 3 #[.int .i64 many]) := HM2.out.below b3 HM2.out.lt
  have HC3 : Hid (CellsAt w3 Bp 77 #[.int .i64 K.major, .int .i64 K.minor, ve, .slice va ll vc]) := HC2.out.below b3 HC2.out.lt
  have HAN : Hid (Calls Tryz.prog 101 #[rv, .func (.func 102) #[] #[.pointer (some ⟨w.heap.size, 0, none⟩), .pointer (some ⟨w.heap.size + 1, 0, none⟩)]] w3 fun e w' => e = .returned (.bool (RF.any fun r => decide (r.1 ≤ wanted) && decide (wanted + many ≤ r.1 + r.2))) ∧ Below w3.heap.size w3 w') := by
    refine anyRun_any RF rv 102 _ _ (fun w x => enters_of Tryz.func102 (by kernel_rfl) rfl _ w) _ w3 hrun (fun x hx W hb => ?_)
    have hx' := hbd x hx
    exact plRoom1_any x w.heap.size (w.heap.size + 1) wanted many W (Nat.lt_of_lt_of_le HW3.out.lt hb.size) (Nat.lt_of_lt_of_le HM3.out.lt hb.size) ((hb.cell (p := ⟨w.heap.size, 0, none⟩) HW3.out.lt).trans (HW3.out.cell 0)) ((hb.cell (p := ⟨w.heap.size + 1, 0, none⟩) HM3.out.lt).trans (HM3.out.cell 0)) (by omega) (by omega) (by omega) (by omega)
  obtain ⟨ra, rc, rfl, _, _⟩ := hrun
  have hkey := HKEY.out
  generalize RF.any (fun r => decide (r.1 ≤ wanted) && decide (wanted + many ≤ r.1 + r.2)) = bb at *
  clear b3 HB2 HW2 HM2 HC2 HFR HKEY hbd hRF hw hm
  generalize RF.length = nr at *
  go_wp2_with fail
  refine HAN.out.mono ?_
  rintro e w4 ⟨rfl, b4⟩
  have HB4 : Hid (Below w.heap.size w w4) := HB3.out.trans (b4.mono HB3.out.size)
  have HW4 : Hid (CellsAt w4 w.heap.size 3 #[.int .i64 wanted]) := HW3.out.below b4 HW3.out.lt
  have HM4 : Hid (CellsAt w4 (w.heap.size + 1) 3 #[.int .i64 many]) := HM3.out.below b4 HM3.out.lt
  have HC4 : Hid (CellsAt w4 Bp 77 #[.int .i64 K.major, .int .i64 K.minor, ve, .slice va ll vc]) := HC3.out.below b4 HC3.out.lt
  clear b4 HB3 HW3 HM3 HC3 HAN
  rcases hkey with ⟨rfl, e1⟩ | ⟨rfl, e1⟩
  · injection e1 with e1 e2
    subst e1 e2
    have q := CellsAt.cell HW4.out 0
    have ql := CellsAt.lt HW4.out
    simp at q
    go_wp2
    go_ret2
    exact ⟨rfl, HB4.out⟩
  · injection e1 with e1 e2
    subst e1 e2
    have HS : Hid (∀ d os, Calls Tryz.prog 39 #[.slice va ll vc, .int .i64 many] (grow (redrawn w4 d) os) fun e w' => e = .returned (.tuple #[.int .i64 r1, .int .i64 r2]) ∧ Below (grow (redrawn w4 d) os).heap.size (grow (redrawn w4 d) os) w') := fun d os => by
      have hb := below_regrown w4 d os
      exact HFS.out _ (HB4.out.trans (hb.mono HB4.out.size))
    have q := CellsAt.cell HM4.out 0
    have ql := CellsAt.lt HM4.out
    have p3 := CellsAt.cell HC4.out 3
    have pl := CellsAt.lt HC4.out
    simp at q p3
    have t0 := cell_regrown q
    have t1 := cell_regrown p3
    clear q p3 HFS
    go_wp2_with fail
    refine wp_region_quiet_below (by kernel_rfl) (by kernel_rfl) ?_
    repeat (quiet_step ((go_at_call 39; go_must (exact Calls.regrown_of (HS.out _ _)))))
    refine wpQuiet_nil ?_
    intro _ hw'
    obtain ⟨⟨dq, osq⟩, hw''⟩ := hw'
    have B5 := HB4.out.trans ((below_regrown w4 dq osq).mono HB4.out.size)
    rw [← hw''] at B5
    clear hw'' t0 t1 HS
    go_wp2
    go_ret2
    exact ⟨rfl, B5⟩

end Go.Proofs.YtlpnfbpgnfappaaGreat

/- The contract of what package plan's Install hands to planned. -/
namespace Go.Proofs.YtlpnfbpgnfappaaGreat
open Go.RowKit Go.PlainAid Go.Lib

set_option maxRecDepth 100000

theorem inst_cases (l : List PV) (M : Mod) (h0 : chkReg (l.map PV.plc) = 0) :
    (chkMod M ≠ 0 ∧ instDo (l.map PV.plc) M = ([], chkMod M)) ∨
    (chkMod M = 0 ∧ (∃ j : Nat, ixFrom (fun x : PV => x.mod.name == M.name) 0 l = (j : Int)) ∧ instDo (l.map PV.plc) M = ([], 6)) ∨
    (chkMod M = 0 ∧ ixFrom (fun x : PV => x.mod.name == M.name) 0 l = -1 ∧ 8 ≤ l.length ∧ instDo (l.map PV.plc) M = ([], 2)) ∨
    (chkMod M = 0 ∧ ixFrom (fun x : PV => x.mod.name == M.name) 0 l = -1 ∧ l.length < 8 ∧ firstRes (l.map PV.plc) (szM M) = (0, 8) ∧ instDo (l.map PV.plc) M = ([], 8)) ∨
    (chkMod M = 0 ∧ ixFrom (fun x : PV => x.mod.name == M.name) 0 l = -1 ∧ l.length < 8 ∧ ∃ f, firstRes (l.map PV.plc) (szM M) = (f, 0) ∧ instDo (l.map PV.plc) M = (putAt (l.map PV.plc) ⟨M, f⟩, 0)) := by
  have hany : ((l.map PV.plc).any fun p => p.mod.name == M.name) = l.any fun x : PV => x.mod.name == M.name := by rw [List.any_map]; rfl
  unfold instDo
  rw [hany, List.length_map]
  by_cases hc : chkMod M = 0
  · rw [if_neg (by omega)]
    have hs := szM_bd hc
    rcases ix_spec (fun x : PV => x.mod.name == M.name) l 0 with ⟨h1, h2⟩ | ⟨j, x, h1, h2, h3, _⟩
    · have ha : (l.any fun x : PV => x.mod.name == M.name) = false := by
        rw [List.any_eq_false]
        intro x hx
        rw [h2 x hx]
        decide
      rw [ha, if_neg (by decide)]
      by_cases h8 : 8 ≤ l.length
      · exact .inr (.inr (.inl ⟨hc, h1, h8, by rw [if_pos h8]⟩))
      · rw [if_neg h8]
        unfold firstRes
        rw [if_neg (by omega), if_neg (by omega)]
        cases fitOf (szM M : Int) (runsFrom 0 (l.map PV.plc)) with
        | none => exact .inr (.inr (.inr (.inl ⟨hc, h1, by omega, rfl, rfl⟩)))
        | some r => exact .inr (.inr (.inr (.inr ⟨hc, h1, by omega, r.1, rfl, rfl⟩)))
    · have ha : (l.any fun x : PV => x.mod.name == M.name) = true := List.any_eq_true.2 ⟨x, List.mem_of_getElem? h2, h3⟩
      rw [ha, if_pos rfl]
      exact .inr (.inl ⟨hc, ⟨j, by rw [h1]; congr 1; omega⟩, rfl⟩)
  · exact .inl ⟨hc, by rw [if_pos hc]⟩

/-- What comes of what is to be done. -/
def Did (base Bp : Nat) (K : Ker) (ve : Value) (W w' : World) (D : List Plc × Int) : Prop :=
  Keeps base W w' ∧ (D.2 = 0 → ∃ vl' l', l'.map PV.plc = D.1 ∧ (∀ x ∈ l', x.mod.fits) ∧ Lens l' ∧ PackAt base Bp w' 77 K ve vl' l')

set_option maxHeartbeats 16000000 in
theorem plInst1_any (base Bp Bm : Nat) (K : Ker) (ve vl : Value) (l : List PV) (M : Mod) (vm : Value) (cm : Array Value) (w : World) (hp : PackAt base Bp w 77 K ve vl l) (hl : Lens l) (h8 : l.length ≤ 8) (hfit : ∀ x ∈ l, x.mod.fits) (h0 : chkReg (l.map PV.plc) = 0) (hb : base ≤ Bp) (hvm : vm = .agg cm) (hc : CellsAt w Bm 31 cm) (hm : IsMod w.heap.size w vm M) (hf : M.fits) :
    Calls Tryz.prog 37 #[.pointer (some ⟨Bp, 0, none⟩), .pointer (some ⟨Bm, 0, none⟩)] w fun e w' => e = .returned (.int .i64 (instDo (l.map PV.plc) M).2) ∧ Did base Bp K ve w w' (instDo (l.map PV.plc) M) := by
  have hrow := hp.rows hl
  have hbw : base ≤ w.heap.size := by have := hp.1.lt; omega
  have HSZ : Hid (∀ W, Below w.heap.size w W → Calls Tryz.prog 18 #[vm] W fun e w' => e = .returned (.tuple #[.int .i64 (if chkMod M = 0 then (szM M : Int) else 0), .int .i64 (chkMod M)]) ∧ Below W.heap.size W w') := fun W hb => size_any M vm W ((hm.below hb).more hb.size) hf
  have HFN : Hid (∀ W, Below w.heap.size w W → Calls Tryz.prog 38 #[.pointer (some ⟨Bp, 0, none⟩), .string M.name] W fun e w' => e = .returned (.int .i64 (ixFrom (fun x : PV => x.mod.name == M.name) 0 l)) ∧ Below W.heap.size W w') := fun W hb => plFind_any base Bp K ve vl l M.name W (hp.below hb) hl
  have HFS : Hid (∀ W, Below w.heap.size w W → Calls Tryz.prog 39 #[vl, .int .i64 (szM M : Int)] W fun e w' => e = .returned (.tuple #[.int .i64 (firstRes (l.map PV.plc) (szM M)).1, .int .i64 (firstRes (l.map PV.plc) (szM M)).2]) ∧ Below W.heap.size W w') := fun W hb => first_any l vl (szM M) W ((hrow.below hb).more hb.size) hfit
  have HPT : Hid (chkMod M = 0 → ∀ f W, Below w.heap.size w W → Calls Tryz.prog 40 #[.pointer (some ⟨Bp, 0, none⟩), vm, .int .i64 f] W fun e w' => e = .returned (.tuple #[]) ∧ (∃ vl' l', l'.map PV.plc = putAt (l.map PV.plc) ⟨M, f⟩ ∧ (∀ x ∈ l', x.mod.fits) ∧ Lens l' ∧ PackAt base Bp w' 77 K ve vl' l') ∧ Keeps base W w') := fun hz f W hb' => by
    have hx := chkMod_exps hz
    refine (plPut_any base Bp K ve vl l M vm f W (hp.below hb') hl ((hm.below hb').more hb'.size) (by omega) hb).mono ?_
    rintro e w' ⟨rfl, ⟨vl', l', h1, h2, h3, h4⟩, h5⟩
    refine ⟨rfl, ⟨vl', l', h1, fun x hx' => ?_, ⟨by rw [h2]; omega, fun x hx' => ?_⟩, h4⟩, h5⟩
    · rcases h3 x hx' with g | g
      · exact hfit x g
      · rw [g]; exact hf
    · rcases h3 x hx' with g | g
      · exact hl.2 x g
      · rw [g]; omega
  have key := inst_cases l M h0
  have hcell := hp.1
  obtain ⟨va, vc, rfl⟩ := own_form hp.2.2.1
  obtain ⟨vxe, vxi, vxp, hvv, hxE, hxI, hxP⟩ := hm
  obtain ⟨pe, ke, e4, -⟩ := hxE
  obtain ⟨pi, ki, e5, -⟩ := hxI
  obtain ⟨pp, kp, e6, -⟩ := hxP
  subst e4 e5 e6
  rw [hvv] at hvm
  injection hvm with hvm
  subst hvm
  rw [hvv] at HSZ HPT
  clear hvv
  have HC0 : Hid (CellsAt w Bp 77 #[.int .i64 K.major, .int .i64 K.minor, ve, .slice va l.length vc]) := hcell
  have HM0 : Hid (CellsAt w Bm 31 #[.string M.name, .int .i64 M.major, .int .i64 M.minor, .string M.text, .slice pe M.exps.length ke, .slice pi M.imps.length ki, .slice pp M.pats.length kp]) := hc
  have HBW : Hid (base ≤ w.heap.size) := hbw
  generalize instDo (l.map PV.plc) M = D at *
  generalize firstRes (l.map PV.plc) (szM M) = FRS at *
  generalize hPUT : putAt (l.map PV.plc) = PUT at *
  generalize ixFrom (fun x : PV => x.mod.name == M.name) 0 l = ix at *
  obtain ⟨N, xa, xi, T, es, is, ps⟩ := M
  dsimp only at *
  generalize hck : chkMod ⟨N, xa, xi, T, es, is, ps⟩ = ck at *
  generalize hsz : (szM ⟨N, xa, xi, T, es, is, ps⟩ : Int) = sz at *
  generalize es.length = le at *
  generalize is.length = li at *
  generalize ps.length = lp at *
  have m0 := CellsAt.cell HM0.out 0
  have m1 := CellsAt.cell HM0.out 1
  have m2 := CellsAt.cell HM0.out 2
  have m3 := CellsAt.cell HM0.out 3
  have m4 := CellsAt.cell HM0.out 4
  have m5 := CellsAt.cell HM0.out 5
  have m6 := CellsAt.cell HM0.out 6
  have ml := CellsAt.lt HM0.out
  simp at m0 m1 m2 m3 m4 m5 m6
  clear hp hl hfit h0 hrow hcell hc hf hbw hck hsz
  go_enter Tryz.func37, Tryz.ntmps37
  go_wp2_with fail
  refine (HSZ.out _ (Below.refl _ _)).mono ?_
  clear m0 m1 m2 m3 m4 m5 m6 ml
  rintro e w2 ⟨rfl, b2⟩
  have HB2 : Hid (Below w.heap.size w w2) := b2
  have HM2 : Hid (CellsAt w2 Bm 31 #[.string N, .int .i64 xa, .int .i64 xi, .string T, .slice pe le ke, .slice pi li ki, .slice pp lp kp]) := HM0.out.below b2 HM0.out.lt
  have HC2 : Hid (CellsAt w2 Bp 77 #[.int .i64 K.major, .int .i64 K.minor, ve, .slice va l.length vc]) := HC0.out.below b2 HC0.out.lt
  clear b2 HSZ HM0 HC0
  rcases key with ⟨hk, rfl⟩ | ⟨rfl, ⟨j, rfl⟩, rfl⟩ | ⟨rfl, rfl, hk, rfl⟩ | ⟨rfl, rfl, hk, rfl, rfl⟩ | ⟨rfl, rfl, hk, f, rfl, rfl⟩
  · have hk' : (ck != 0) = true := by simpa using hk
    have HK : Hid (ck ≠ 0) := hk
    clear hk HPT
    go_wp2
    go_ret
    exact ⟨rfl, Keeps.of HB2.out HBW.out, fun h => absurd h HK.out⟩
  all_goals
    simp only [if_true]
    have m0 := CellsAt.cell HM2.out 0
    have ml := CellsAt.lt HM2.out
    simp at m0
    go_wp2_with fail
    refine (HFN.out _ HB2.out).mono ?_
    clear m0 ml
    rintro e w3 ⟨rfl, b3⟩
    have HB3 : Hid (Below w.heap.size w w3) := HB2.out.trans (b3.mono HB2.out.size)
    have HM3 : Hid (CellsAt w3 Bm 31 #[.string N, .int .i64 xa, .int .i64 xi, .string T, .slice pe le ke, .slice pi li ki, .slice pp lp kp]) := HM2.out.below b3 HM2.out.lt
    have HC3 : Hid (CellsAt w3 Bp 77 #[.int .i64 K.major, .int .i64 K.minor, ve, .slice va l.length vc]) := HC2.out.below b3 HC2.out.lt
    clear b3 HFN HB2 HM2 HC2
  · have hj : (0 : Int) ≤ (j : Int) := by omega
    clear HPT
    go_wp2
    go_ret
    exact ⟨rfl, Keeps.of HB3.out HBW.out, fun h => absurd h (by decide)⟩
  all_goals
    have p3 := CellsAt.cell HC3.out 3
    have pl := CellsAt.lt HC3.out
    simp at p3
  · have hk' : (8 : Int) ≤ (l.length : Int) := by omega
    clear HPT
    go_wp2
    go_ret
    exact ⟨rfl, Keeps.of HB3.out HBW.out, fun h => absurd h (by decide)⟩
  all_goals
    have hk' : ¬ ((8 : Int) ≤ (l.length : Int)) := by omega
    go_wp2_with fail
    refine (HFS.out _ HB3.out).mono ?_
    clear p3 pl
    rintro e w4 ⟨rfl, b4⟩
    have HB4 : Hid (Below w.heap.size w w4) := HB3.out.trans (b4.mono HB3.out.size)
    have HM4 : Hid (CellsAt w4 Bm 31 #[.string N, .int .i64 xa, .int .i64 xi, .string T, .slice pe le ke, .slice pi li ki, .slice pp lp kp]) := HM3.out.below b4 HM3.out.lt
    have HC4 : Hid (CellsAt w4 Bp 77 #[.int .i64 K.major, .int .i64 K.minor, ve, .slice va l.length vc]) := HC3.out.below b4 HC3.out.lt
    clear b4 HFS HB3 HM3 HC3
  · clear HPT
    go_wp2
    go_ret
    exact ⟨rfl, Keeps.of HB4.out HBW.out, fun h => absurd h (by decide)⟩
  · have HPT2 : Hid _ := HPT.out (by first | rfl | trivial)
    clear HPT
    have m0 := CellsAt.cell HM4.out 0
    have m1 := CellsAt.cell HM4.out 1
    have m2 := CellsAt.cell HM4.out 2
    have m3 := CellsAt.cell HM4.out 3
    have m4 := CellsAt.cell HM4.out 4
    have m5 := CellsAt.cell HM4.out 5
    have m6 := CellsAt.cell HM4.out 6
    have ml := CellsAt.lt HM4.out
    simp at m0 m1 m2 m3 m4 m5 m6
    go_wp2_with fail
    refine (HPT2.out f _ HB4.out).mono ?_
    clear m0 m1 m2 m3 m4 m5 m6 ml
    rintro e w5 ⟨rfl, hdid, hk5⟩
    have HD5 : Hid _ := hdid
    have HK5 : Hid (Keeps base w4 w5) := hk5
    clear hdid hk5 HPT2
    go_wp2
    go_ret
    exact ⟨rfl, (Keeps.of HB4.out HBW.out).trans HK5.out, fun _ => HD5.out⟩

end Go.Proofs.YtlpnfbpgnfappaaGreat

/- The contracts of what package plan's Upgrade and Remove hand to planned. -/
namespace Go.Proofs.YtlpnfbpgnfappaaGreat
open Go.RowKit Go.PlainAid Go.Lib

set_option maxRecDepth 100000

theorem erase_mapP {α β : Type} (f : α → β) : ∀ (l : List α) (n : Nat), (l.eraseIdx n).map f = (l.map f).eraseIdx n
  | [], n => by simp
  | _ :: _, 0 => rfl
  | x :: l, n + 1 => by simp [erase_mapP f l n]
theorem nameIx_pv (l : List PV) (name : ByteArray) : nameIx (l.map PV.plc) name = ixFrom (fun x : PV => x.mod.name == name) 0 l := ix_map _ _ _ _
theorem up_cases (l : List PV) (M : Mod) (h0 : chkReg (l.map PV.plc) = 0) :
    (chkMod M ≠ 0 ∧ upDo (l.map PV.plc) M = ([], chkMod M)) ∨
    (chkMod M = 0 ∧ ixFrom (fun x : PV => x.mod.name == M.name) 0 l = -1 ∧ upDo (l.map PV.plc) M = ([], 5)) ∨
    (chkMod M = 0 ∧ ∃ (j : Nat) (x : PV), ixFrom (fun x : PV => x.mod.name == M.name) 0 l = (j : Int) ∧ l[j]? = some x ∧ 0 ≤ x.first ∧ x.first ≤ 16 ∧ chkReg ((l.eraseIdx j).map PV.plc) = 0 ∧
      ((roomRes (roomOf ((l.eraseIdx j).map PV.plc) x.first (szM M)) = (0, 8) ∧ upDo (l.map PV.plc) M = ([], 8)) ∨
       ∃ f, roomRes (roomOf ((l.eraseIdx j).map PV.plc) x.first (szM M)) = (f, 0) ∧ upDo (l.map PV.plc) M = (putAt ((l.eraseIdx j).map PV.plc) ⟨M, f⟩, 0))) := by
  by_cases hc : chkMod M = 0
  · rcases ix_spec (fun x : PV => x.mod.name == M.name) l 0 with ⟨h1, h2⟩ | ⟨j, x, h1, h2, h3, _⟩
    · exact .inr (.inl ⟨hc, h1, upDo_none hc (by rw [nameIx_pv]; exact h1)⟩)
    · rw [Nat.zero_add] at h1
      have hfx := okPl_first (chkReg_zero.1 h0).2.2 x.plc (List.mem_map_of_mem (List.mem_of_getElem? h2))
      have e1 : x.plc.first = x.first := rfl
      have her : (l.eraseIdx j).map PV.plc = (l.map PV.plc).eraseIdx j := erase_mapP _ _ _
      refine .inr (.inr ⟨hc, j, x, h1, h2, by omega, by omega, by rw [her]; exact chkReg_less j h0, ?_⟩)
      have hx2 : (l.map PV.plc)[j]? = some x.plc := by rw [List.getElem?_map, h2]; rfl
      rw [upDo_at hc (by rw [nameIx_pv]; exact h1) hx2, her, e1]
      cases roomOf ((l.map PV.plc).eraseIdx j) x.first (szM M) with
      | none => exact .inl ⟨rfl, rfl⟩
      | some f => exact .inr ⟨f, rfl, rfl⟩
  · exact .inl ⟨hc, upDo_bad hc⟩
theorem Lens.less {l : List PV} (h : Lens l) (j : Nat) : Lens (l.eraseIdx j) := ⟨Nat.le_trans (List.length_eraseIdx_le _ _) h.1, fun x hx => h.2 x (List.mem_of_mem_eraseIdx hx)⟩
theorem IsMod.below2 {n : Nat} {W W' : World} {v : Value} {M : Mod} (h : IsMod n W v M) (hb : Below n W W') : IsMod n W' v M := h.below hb

theorem PV.form {n : Nat} {W : World} {x : PV} (h : PlcAt n W x) : ∃ a1 a2 a3 n1 n2 n3 c1 c2 c3, x.val = .agg #[.string x.mod.name, .int .i64 x.mod.major, .int .i64 x.mod.minor, .string x.mod.text, .slice a1 n1 c1, .slice a2 n2 c2, .slice a3 n3 c3, .int .i64 x.first] := by
  obtain ⟨⟨a1, c1, e1, _⟩, ⟨a2, c2, e2, _⟩, ⟨a3, c3, e3, _⟩⟩ := h
  exact ⟨a1, a2, a3, _, _, _, c1, c2, c3, by unfold PV.val; rw [e1, e2, e3]⟩

set_option maxHeartbeats 16000000 in
theorem plUp1_any (base Bp Bm : Nat) (K : Ker) (ve vl : Value) (l : List PV) (M : Mod) (vm : Value) (cm : Array Value) (w : World) (hp : PackAt base Bp w 77 K ve vl l) (hl : Lens l) (hfit : ∀ x ∈ l, x.mod.fits) (h0 : chkReg (l.map PV.plc) = 0) (hb : base ≤ Bp) (hvm : vm = .agg cm) (hc : CellsAt w Bm 31 cm) (hmb : Bm < base) (hm : IsMod base w vm M) (hf : M.fits) :
    Calls Tryz.prog 44 #[.pointer (some ⟨Bp, 0, none⟩), .pointer (some ⟨Bm, 0, none⟩)] w fun e w' => e = .returned (.int .i64 (upDo (l.map PV.plc) M).2) ∧ Did base Bp K ve w w' (upDo (l.map PV.plc) M) := by
  have hrow := hp.rows hl
  have hbw : base ≤ w.heap.size := by have := hp.1.lt; omega
  have HSZ : Hid (∀ W, Below w.heap.size w W → Calls Tryz.prog 18 #[vm] W fun e w' => e = .returned (.tuple #[.int .i64 (if chkMod M = 0 then (szM M : Int) else 0), .int .i64 (chkMod M)]) ∧ Below W.heap.size W w') := fun W hb => size_any M vm W (((hm.more hbw).below hb).more hb.size) hf
  have HFN : Hid (∀ W, Below w.heap.size w W → Calls Tryz.prog 38 #[.pointer (some ⟨Bp, 0, none⟩), .string M.name] W fun e w' => e = .returned (.int .i64 (ixFrom (fun x : PV => x.mod.name == M.name) 0 l)) ∧ Below W.heap.size W w') := fun W hb => plFind_any base Bp K ve vl l M.name W (hp.below hb) hl
  have HTK : Hid (∀ (j : Nat) (x : PV), l[j]? = some x → ∀ W, Below w.heap.size w W → Calls Tryz.prog 43 #[.pointer (some ⟨Bp, 0, none⟩), .int .i64 (j : Int)] W fun e w' => e = .returned x.val ∧ (∃ vl', PackAt base Bp w' 77 K ve vl' (l.eraseIdx j)) ∧ Keeps base W w') := fun j x hx W hb' => plTake_any base Bp K ve vl l j x W (hp.below hb') hl hx hb
  have HRM : Hid (chkMod M = 0 → ∀ (j : Nat) (x : PV), l[j]? = some x → chkReg ((l.eraseIdx j).map PV.plc) = 0 → (0 ≤ x.first ∧ x.first ≤ 16) → ∀ vl' W, PackAt base Bp W 77 K ve vl' (l.eraseIdx j) → Calls Tryz.prog 45 #[.pointer (some ⟨Bp, 0, none⟩), .int .i64 x.first, .int .i64 (szM M : Int)] W fun e w' => e = .returned (.tuple #[.int .i64 (roomRes (roomOf ((l.eraseIdx j).map PV.plc) x.first (szM M))).1, .int .i64 (roomRes (roomOf ((l.eraseIdx j).map PV.plc) x.first (szM M))).2]) ∧ Below W.heap.size W w') := fun hz j x hx hcr hx0 vl' W hp' => by
    have hs := szM_bd hz
    exact plRoom_any base Bp K ve vl' (l.eraseIdx j) x.first (szM M) W hp' (hl.less j) (fun y hy => hfit y (List.mem_of_mem_eraseIdx hy)) hcr hx0 (by omega)
  have HPT : Hid (chkMod M = 0 → ∀ (j : Nat) (x : PV), l[j]? = some x → ∀ f vl' W, Keeps base w W → PackAt base Bp W 77 K ve vl' (l.eraseIdx j) → Calls Tryz.prog 40 #[.pointer (some ⟨Bp, 0, none⟩), vm, .int .i64 f] W fun e w' => e = .returned (.tuple #[]) ∧ (∃ vl2 l', l'.map PV.plc = putAt ((l.eraseIdx j).map PV.plc) ⟨M, f⟩ ∧ (∀ x ∈ l', x.mod.fits) ∧ Lens l' ∧ PackAt base Bp w' 77 K ve vl2 l') ∧ Keeps base W w') := fun hz j x hx f vl' W hk hp' => by
    have hx := chkMod_exps hz
    have hll : (l.eraseIdx j).length ≤ 249 := by
      rename_i hxx
      rw [List.length_eraseIdx_of_lt (List.getElem?_eq_some_iff.1 hxx).1]
      have := hl.1
      omega
    refine (plPut_any base Bp K ve vl' (l.eraseIdx j) M vm f W hp' (hl.less j) ((hm.below2 hk.1).more (Nat.le_trans hbw hk.1.size)) (by omega) hb).mono ?_
    rintro e w' ⟨rfl, ⟨vl2, l', h1, h2, h3, h4⟩, h5⟩
    refine ⟨rfl, ⟨vl2, l', h1, fun x hx' => ?_, ⟨by rw [h2]; omega, fun x hx' => ?_⟩, h4⟩, h5⟩
    · rcases h3 x hx' with g | g
      · exact hfit x (List.mem_of_mem_eraseIdx g)
      · rw [g]; exact hf
    · rcases h3 x hx' with g | g
      · exact hl.2 x (List.mem_of_mem_eraseIdx g)
      · rw [g]; omega
  have HXV : Hid (∀ x ∈ l, ∃ a1 a2 a3 n1 n2 n3 c1 c2 c3, x.val = .agg #[.string x.mod.name, .int .i64 x.mod.major, .int .i64 x.mod.minor, .string x.mod.text, .slice a1 n1 c1, .slice a2 n2 c2, .slice a3 n3 c3, .int .i64 x.first]) := fun x hx => PV.form (hrow.2 x hx)
  have key := up_cases l M h0
  obtain ⟨vxe, vxi, vxp, hvv, hxE, hxI, hxP⟩ := hm
  obtain ⟨pe, ke, e4, -⟩ := hxE
  obtain ⟨pi, ki, e5, -⟩ := hxI
  obtain ⟨pp, kp, e6, -⟩ := hxP
  subst e4 e5 e6
  rw [hvv] at hvm
  injection hvm with hvm
  subst hvm
  rw [hvv] at HSZ HPT
  clear hvv
  have HM0 : Hid (CellsAt w Bm 31 #[.string M.name, .int .i64 M.major, .int .i64 M.minor, .string M.text, .slice pe M.exps.length ke, .slice pi M.imps.length ki, .slice pp M.pats.length kp]) := hc
  have HBW : Hid (base ≤ w.heap.size) := hbw
  generalize upDo (l.map PV.plc) M = D at *
  obtain ⟨N, xa, xi, T, es, is, ps⟩ := M
  dsimp only at *
  generalize hck : chkMod ⟨N, xa, xi, T, es, is, ps⟩ = ck at *
  generalize hsz : (szM ⟨N, xa, xi, T, es, is, ps⟩ : Int) = sz at *
  generalize ixFrom (fun x : PV => x.mod.name == N) 0 l = ix at *
  generalize es.length = le at *
  generalize is.length = li at *
  generalize ps.length = lp at *
  have m0 := CellsAt.cell HM0.out 0
  have m1 := CellsAt.cell HM0.out 1
  have m2 := CellsAt.cell HM0.out 2
  have m3 := CellsAt.cell HM0.out 3
  have m4 := CellsAt.cell HM0.out 4
  have m5 := CellsAt.cell HM0.out 5
  have m6 := CellsAt.cell HM0.out 6
  have ml := CellsAt.lt HM0.out
  simp at m0 m1 m2 m3 m4 m5 m6
  have HKEY : Hid _ := key
  clear hp hl hfit h0 hrow hc hf hbw hck hsz key
  go_enter Tryz.func44, Tryz.ntmps44
  go_wp2_with fail
  refine (HSZ.out _ (Below.refl _ _)).mono ?_
  clear m0 m1 m2 m3 m4 m5 m6 ml
  rintro e w2 ⟨rfl, b2⟩
  have HB2 : Hid (Below w.heap.size w w2) := b2
  have HM2 : Hid (CellsAt w2 Bm 31 #[.string N, .int .i64 xa, .int .i64 xi, .string T, .slice pe le ke, .slice pi li ki, .slice pp lp kp]) := HM0.out.below b2 HM0.out.lt
  clear b2 HSZ
  rcases HKEY.out with ⟨hk, rfl⟩ | ⟨rfl, rfl, rfl⟩ | ⟨rfl, j, x, rfl, hx, hx0, hx16, hcr, hk⟩
  · have hk' : (ck != 0) = true := by simpa using hk
    have HK : Hid (ck ≠ 0) := hk
    clear hk
    go_wp2
    go_ret
    exact ⟨rfl, Keeps.of HB2.out HBW.out, fun h => absurd h HK.out⟩
  · simp only [if_true]
    have m0 := CellsAt.cell HM2.out 0
    have ml := CellsAt.lt HM2.out
    simp at m0
    go_wp2_with fail
    refine (HFN.out _ HB2.out).mono ?_
    clear m0 ml
    rintro e w3 ⟨rfl, b3⟩
    have HB3 : Hid (Below w.heap.size w w3) := HB2.out.trans (b3.mono HB2.out.size)
    clear b3 HFN HB2 HM2
    go_wp2
    go_ret
    exact ⟨rfl, Keeps.of HB3.out HBW.out, fun h => absurd h (by decide)⟩
  · simp only [if_true]
    have HKK : Hid _ := hk
    have HXX : Hid (l[j]? = some x) := hx
    have HX0 : Hid (0 ≤ x.first ∧ x.first ≤ 16) := ⟨hx0, hx16⟩
    have HCR : Hid (chkReg ((l.eraseIdx j).map PV.plc) = 0) := hcr
    clear hk hx hx0 hx16 hcr
    have m0 := CellsAt.cell HM2.out 0
    have ml := CellsAt.lt HM2.out
    simp at m0
    go_wp2_with fail
    refine (HFN.out _ HB2.out).mono ?_
    clear m0 ml
    rintro e w3 ⟨rfl, b3⟩
    have HB3 : Hid (Below w.heap.size w w3) := HB2.out.trans (b3.mono HB2.out.size)
    clear b3 HFN HB2 HM2
    have hj0 : ¬ ((j : Int) < 0) := by omega
    have HTK2 : Hid _ := HTK.out j x HXX.out w3 HB3.out
    have HRM2 : Hid _ := HRM.out (by first | rfl | trivial) j x HXX.out HCR.out HX0.out
    have HPT2 : Hid _ := HPT.out (by first | rfl | trivial) j x HXX.out
    obtain ⟨xe, xi2, xp, xle, xli, xlp, xke, xki, xkp, hxv⟩ := HXV.out x (List.mem_of_getElem? HXX.out)
    rw [hxv] at HTK2
    have hk := HKK.out
    clear HTK HRM HPT HXV HXX HX0 HCR HKK hxv
    generalize x.mod.name = xN at *
    generalize x.mod.major = xma at *
    generalize x.mod.minor = xmi at *
    generalize x.mod.text = xT at *
    generalize x.first = xf at *
    generalize roomRes (roomOf ((l.eraseIdx j).map PV.plc) xf sz) = RR at *
    have HKK : Hid _ := hk
    clear hk
    go_wp2_with fail
    refine Calls.mono HTK2.out ?_
    rintro e w4 ⟨rfl, ⟨vl4, hp4⟩, hk4⟩
    have hK4 : Keeps base w w4 := (Keeps.of HB3.out HBW.out).trans hk4
    have ba : Below w4.heap.size w4 (w4.alloc (.cells #[.string xN, .int .i64 xma, .int .i64 xmi, .string xT, .slice xe xle xke, .slice xi2 xli xki, .slice xp xlp xkp, .int .i64 xf] 57)) := (Below.refl _ _).alloc (Nat.le_refl _) _
    have HK5 : Hid (Keeps base w (w4.alloc (.cells #[.string xN, .int .i64 xma, .int .i64 xmi, .string xT, .slice xe xle xke, .slice xi2 xli xki, .slice xp xlp xkp, .int .i64 xf] 57))) := hK4.trans (Keeps.of ba (Nat.le_trans HBW.out hK4.1.size))
    have HP5 : Hid (PackAt base Bp (w4.alloc (.cells #[.string xN, .int .i64 xma, .int .i64 xmi, .string xT, .slice xe xle xke, .slice xi2 xli xki, .slice xp xlp xkp, .int .i64 xf] 57)) 77 K ve vl4 (l.eraseIdx j)) := hp4.below ba
    have HX5 : Hid (CellsAt (w4.alloc (.cells #[.string xN, .int .i64 xma, .int .i64 xmi, .string xT, .slice xe xle xke, .slice xi2 xli xki, .slice xp xlp xkp, .int .i64 xf] 57)) w4.heap.size 57 #[.string xN, .int .i64 xma, .int .i64 xmi, .string xT, .slice xe xle xke, .slice xi2 xli xki, .slice xp xlp xkp, .int .i64 xf]) := CellsAt.new _ _ _
    have HM5 : Hid (CellsAt (w4.alloc (.cells #[.string xN, .int .i64 xma, .int .i64 xmi, .string xT, .slice xe xle xke, .slice xi2 xli xki, .slice xp xlp xkp, .int .i64 xf] 57)) Bm 31 #[.string N, .int .i64 xa, .int .i64 xi, .string T, .slice pe le ke, .slice pi li ki, .slice pp lp kp]) := HM0.out.below HK5.out.1 hmb
    have hbw4 : base ≤ w4.heap.size := Nat.le_trans HBW.out hK4.1.size
    clear hK4 ba hp4 hk4 HTK2 HB3
    have hp4c := HP5.out.1
    obtain ⟨va4, vc4, rfl⟩ := own_form HP5.out.2.2.1
    go_upto_region 8 with fail
    generalize (w4.alloc (.cells #[.string xN, .int .i64 xma, .int .i64 xmi, .string xT, .slice xe xle xke, .slice xi2 xli xki, .slice xp xlp xkp, .int .i64 xf] 57)) = w5 at *
    generalize w4.heap.size = B5 at *
    have q := CellsAt.cell HX5.out 7
    have ql := CellsAt.lt HX5.out
    simp at q
    go_wp2_with fail
    refine Calls.mono (HRM2.out _ w5 HP5.out) ?_
    clear q ql HX5 hp4c
    rintro e w6 ⟨rfl, b6⟩
    have HP6 : Hid (PackAt base Bp w6 77 K ve _ (l.eraseIdx j)) := HP5.out.below b6
    have HK6 : Hid (Keeps base w w6) := HK5.out.trans (Keeps.of b6 (Nat.le_trans HBW.out HK5.out.1.size))
    have HM6 : Hid (CellsAt w6 Bm 31 #[.string N, .int .i64 xa, .int .i64 xi, .string T, .slice pe le ke, .slice pi li ki, .slice pp lp kp]) := HM5.out.below b6 HM5.out.lt
    clear b6 HP5 HK5 HM5 HRM2
    rcases HKK.out with ⟨rfl, rfl⟩ | ⟨f, rfl, rfl⟩
    · clear HPT2 HP6 HM6
      go_wp2
      go_ret
      exact ⟨rfl, HK6.out, fun h => absurd h (by decide)⟩
    · have HPT3 : Hid _ := HPT2.out f _ w6 HK6.out HP6.out
      clear HPT2 HP6
      have m0 := CellsAt.cell HM6.out 0
      have m1 := CellsAt.cell HM6.out 1
      have m2 := CellsAt.cell HM6.out 2
      have m3 := CellsAt.cell HM6.out 3
      have m4 := CellsAt.cell HM6.out 4
      have m5 := CellsAt.cell HM6.out 5
      have m6 := CellsAt.cell HM6.out 6
      have ml := CellsAt.lt HM6.out
      simp at m0 m1 m2 m3 m4 m5 m6
      go_wp2_with fail
      refine Calls.mono HPT3.out ?_
      clear m0 m1 m2 m3 m4 m5 m6 ml
      rintro e w7 ⟨rfl, hdid, hk7⟩
      have HD7 : Hid _ := hdid
      have HK7 : Hid (Keeps base w6 w7) := hk7
      clear hdid hk7 HPT3 HM6
      go_wp2
      go_ret
      exact ⟨rfl, HK6.out.trans HK7.out, fun _ => HD7.out⟩

end Go.Proofs.YtlpnfbpgnfappaaGreat

/- The contract of what package plan's Remove hands to planned. -/
namespace Go.Proofs.YtlpnfbpgnfappaaGreat
open Go.RowKit Go.PlainAid Go.Lib

set_option maxRecDepth 100000

theorem users_some {Ms : List Mod} {name : ByteArray} {f : Nat} {ss : List ByteArray} (h : Comes nxUse Ms f ss) (hf : f < Ms.length) (hn : nameAt Ms f = name) : ss ≠ [] ↔ ∃ m ∈ Ms, asksM m name = true := by
  obtain ⟨_, h⟩ := h
  have hfm : Ms[f]? = some Ms[f] := List.getElem?_eq_getElem hf
  have hnm : Ms[f].name = name := by rw [← hn, nameAt_some hfm]
  constructor
  · intro hne
    cases ss with
    | nil => exact absurd rfl hne
    | cons x r =>
      obtain ⟨k, hv, _⟩ := (h x).1 (by simp)
      obtain ⟨q, a, b, h1, h2, h3⟩ : ∃ q, Next nxUse Ms f q := hv (fun _ => ∃ q, Next nxUse Ms f q) (fun q e => ⟨q, e⟩) (fun _ _ hj _ => hj)
      rw [hfm] at h1
      obtain rfl := Option.some.inj h1
      refine ⟨b, List.mem_of_getElem? h2, ?_⟩
      rw [← hnm]
      exact h3
  · rintro ⟨m, hm, ha⟩ rfl
    obtain ⟨k, hk⟩ := List.mem_iff_getElem?.1 hm
    have := (h (nameAt Ms k)).2 ⟨k, Via.one ⟨Ms[f], m, hfm, hk, by show asksM m Ms[f].name = true; rw [hnm]; exact ha⟩, rfl⟩
    simp at this
theorem rg_graph {K : Ker} {L : List Plc} (h : chkRg K L = 0) : chkGraph L = 0 := by
  obtain ⟨h1, h2, _⟩ := chkRg_zero h
  rcases lnOrd_err (chkLink_zero h1).2.1 with ⟨_, h3⟩ | ⟨_, h3, _⟩
  · omega
  · exact h3
theorem rem_cases (l : List PV) (name : ByteArray) (hg : chkGraph (l.map PV.plc) = 0) :
    (comeErr (l.map PV.plc) name = 5 ∧ remDo (l.map PV.plc) name = ([], 5)) ∨
    (comeErr (l.map PV.plc) name = 0 ∧ (∀ ss, ComeRes nxUse (l.map PV.plc) name ss → ss ≠ []) ∧ remDo (l.map PV.plc) name = ([], 4)) ∨
    (comeErr (l.map PV.plc) name = 0 ∧ (∀ ss, ComeRes nxUse (l.map PV.plc) name ss → ss = []) ∧ ∃ (j : Nat) (x : PV), ixFrom (fun x : PV => x.mod.name == name) 0 l = (j : Int) ∧ l[j]? = some x ∧ remDo (l.map PV.plc) name = ((l.eraseIdx j).map PV.plc, 0)) := by
  have hix := nameIx_pv l name
  rcases come_cases nxUse l name with ⟨h, _⟩ | ⟨_, h1, h2, _⟩ | ⟨_, f, h1, h2, h3, _⟩
  · exact absurd hg h
  · exact .inl ⟨h2, remDo_none (by rw [hix]; exact h1)⟩
  · have hkey : ∀ ss, ComeRes nxUse (l.map PV.plc) name ss → (ss ≠ [] ↔ ∃ m ∈ (l.map PV.plc).map (·.mod), asksM m name = true) := by
      rintro ss (⟨h4, _⟩ | ⟨_, f', h4, h5, h6⟩)
      · exact absurd h3 h4
      · exact users_some h6 (by rw [List.length_map]; exact h4) h5
    have hany : ((l.map PV.plc).any fun p => asksM p.mod name) = true ↔ ∃ m ∈ (l.map PV.plc).map (·.mod), asksM m name = true := by
      rw [List.any_eq_true]
      constructor
      · rintro ⟨p, hp, ha⟩
        exact ⟨p.mod, List.mem_map_of_mem hp, ha⟩
      · rintro ⟨m, hm, ha⟩
        obtain ⟨p, hp, rfl⟩ := List.mem_map.1 hm
        exact ⟨p, hp, ha⟩
    have hr : remDo (l.map PV.plc) name = remAt (l.map PV.plc) name f := remDo_at (by rw [hix]; exact h2)
    unfold remAt at hr
    by_cases ha : ((l.map PV.plc).any fun p => asksM p.mod name) = true
    · rw [if_pos ha] at hr
      exact .inr (.inl ⟨h3, fun ss hs => (hkey ss hs).2 (hany.1 ha), hr⟩)
    · rw [if_neg ha] at hr
      refine .inr (.inr ⟨h3, fun ss hs => ?_, f, l[f], h2, List.getElem?_eq_getElem h1, by rw [hr, erase_mapP]⟩)
      apply Classical.byContradiction
      intro hne
      exact ha (hany.2 ((hkey ss hs).1 hne))

set_option maxHeartbeats 16000000 in
theorem plRem1_any (base Bp Bn : Nat) (K : Ker) (ve vl : Value) (l : List PV) (name : ByteArray) (w : World) (hp : PackAt base Bp w 77 K ve vl l) (hl : Lens l) (hfit : ∀ x ∈ l, x.mod.fits) (hg : chkGraph (l.map PV.plc) = 0) (hb : base ≤ Bp) (hc : CellsAt w Bn 9 #[.string name]) :
    Calls Tryz.prog 41 #[.pointer (some ⟨Bp, 0, none⟩), .pointer (some ⟨Bn, 0, none⟩)] w fun e w' => e = .returned (.int .i64 (remDo (l.map PV.plc) name).2) ∧ Did base Bp K ve w w' (remDo (l.map PV.plc) name) := by
  have hrow := hp.rows hl
  have hbw : base ≤ w.heap.size := by have := hp.1.lt; omega
  have HUS : Hid (∀ W, Below w.heap.size w W → Calls Tryz.prog 42 #[vl, .string name] W fun e w' => (∃ r ss, e = .returned (.tuple #[r, .int .i64 (comeErr (l.map PV.plc) name)]) ∧ RowOf 1 strCell w'.heap.size w' r ss ∧ ComeRes nxUse (l.map PV.plc) name ss) ∧ Below W.heap.size W w') := fun W hb => users_any l vl name W ((hrow.below hb).more hb.size) hfit
  have HFN : Hid (∀ W, Below w.heap.size w W → Calls Tryz.prog 38 #[.pointer (some ⟨Bp, 0, none⟩), .string name] W fun e w' => e = .returned (.int .i64 (ixFrom (fun x : PV => x.mod.name == name) 0 l)) ∧ Below W.heap.size W w') := fun W hb => plFind_any base Bp K ve vl l name W (hp.below hb) hl
  have HTK : Hid (∀ (j : Nat) (x : PV), l[j]? = some x → ∀ W, Below w.heap.size w W → Calls Tryz.prog 43 #[.pointer (some ⟨Bp, 0, none⟩), .int .i64 (j : Int)] W fun e w' => e = .returned x.val ∧ (∃ vl', PackAt base Bp w' 77 K ve vl' (l.eraseIdx j)) ∧ Keeps base W w') := fun j x hx W hb' => plTake_any base Bp K ve vl l j x W (hp.below hb') hl hx hb
  have HFE : Hid (∀ j, ∀ x ∈ l.eraseIdx j, x.mod.fits) := fun j x hx => hfit x (List.mem_of_mem_eraseIdx hx)
  have HLE : Hid (∀ j, Lens (l.eraseIdx j)) := fun j => hl.less j
  have key := rem_cases l name hg
  have hcell := hp.1
  obtain ⟨va, vc, rfl⟩ := own_form hp.2.2.1
  have HC0 : Hid (CellsAt w.drew Bp 77 #[.int .i64 K.major, .int .i64 K.minor, ve, .slice va l.length vc]) := (hcell : CellsAt w _ _ _)
  have HN0 : Hid (CellsAt w.drew Bn 9 #[.string name]) := (hc : CellsAt w _ _ _)
  have HBW : Hid (base ≤ w.heap.size) := hbw
  have HB0 : Hid (Below w.heap.size w w.drew) := (Below.refl _ _).drew
  generalize remDo (l.map PV.plc) name = D at *
  generalize comeErr (l.map PV.plc) name = ce at *
  generalize hCR : ComeRes nxUse (l.map PV.plc) name = CR at *
  generalize ixFrom (fun x : PV => x.mod.name == name) 0 l = ix at *
  have HKEY : Hid _ := key
  clear hp hl hfit hg hrow hcell hc hbw hCR key
  go_enter Tryz.func41, Tryz.ntmps41
  go_upto_region 1 with fail
  refine wp_region_noPanic ?_
  refine wp_region_L (S := fun w' => CellsAt w' Bp 77 #[.int .i64 K.major, .int .i64 K.minor, ve, .slice va l.length vc] ∧ CellsAt w' Bn 9 #[.string name]) (x := 11) (by kernel_rfl) ?_
  generalize w.drew = w0 at *
  have hS0 : CellsAt w0 Bp 77 #[.int .i64 K.major, .int .i64 K.minor, ve, .slice va l.length vc] ∧ CellsAt w0 Bn 9 #[.string name] := ⟨HC0.out, HN0.out⟩
  refine wpL_take 0 7 (.pointer (some ⟨Bp, 0, none⟩)) rfl (by kernel_rfl) (fun _ _ _ h => h) hS0 rfl rfl (fun w' hSw => by clear hSw; go_simp) ?_
  simp only [List.setIfInBounds_toArray, List.set_cons_zero, List.set_cons_succ]
  refine wpL_take 1 8 (.pointer (some ⟨Bp, 0, none⟩)) rfl (by kernel_rfl) (fun _ _ _ h => h) hS0 rfl rfl (fun w' hSw => by clear hSw; go_simp) ?_
  simp only [List.setIfInBounds_toArray, List.set_cons_zero, List.set_cons_succ]
  refine wpL_take 2 9 (.pointer (some ⟨Bp, 0, none⟩)) rfl (by kernel_rfl) (fun _ _ _ h => h) hS0 rfl rfl (fun w' hSw => by clear hSw; go_simp) ?_
  simp only [List.setIfInBounds_toArray, List.set_cons_zero, List.set_cons_succ]
  refine wpL_take 3 10 (.pointer (some ⟨Bp, 3, none⟩)) rfl (by kernel_rfl) (fun _ _ _ h => h) hS0 rfl rfl (fun w' hSw => by clear hSw; go_simp) ?_
  simp only [List.setIfInBounds_toArray, List.set_cons_zero, List.set_cons_succ]
  refine wpL_take 4 11 (.slice va l.length vc) rfl (by kernel_rfl) (fun _ _ _ h => h) hS0 rfl rfl (fun w' hSw => by have q := CellsAt.cell hSw.1 3; simp at q; clear hSw; go_simp) ?_
  simp only [List.setIfInBounds_toArray, List.set_cons_zero, List.set_cons_succ]
  refine wpL_take 5 12 (.string name) rfl (by kernel_rfl) (fun _ _ _ h => h) hS0 rfl rfl (fun w' hSw => by have q := CellsAt.cell hSw.2 0; simp at q; clear hSw; go_simp) ?_
  simp only [List.setIfInBounds_toArray, List.set_cons_zero, List.set_cons_succ]
  clear hS0
  refine wpL_step (i := 6) rfl (by kernel_rfl) (fun Kq hK => ?_)
  go_simp
  refine (HUS.out _ HB0.out).mono ?_
  rintro e w1 ⟨⟨r, ss, rfl, hr, hss⟩, b1⟩
  obtain ⟨ra, rc, rfl, -, -⟩ := hr
  have HB1 : Hid (Below w.heap.size w w1) := HB0.out.trans (b1.mono HB0.out.size)
  have HC1 : Hid (CellsAt w1 Bp 77 #[.int .i64 K.major, .int .i64 K.minor, ve, .slice va l.length vc]) := HC0.out.below b1 HC0.out.lt
  have HN1 : Hid (CellsAt w1 Bn 9 #[.string name]) := HN0.out.below b1 HN0.out.lt
  have HSS : Hid (CR ss) := hss
  clear b1 hss HUS HB0 HC0 HN0
  go_simp
  refine hK.out _ _ ⟨HC1.out, HN1.out⟩ (fun _ => ?_)
  clear hK Kq
  have hS1 : CellsAt w1 Bp 77 #[.int .i64 K.major, .int .i64 K.minor, ve, .slice va l.length vc] ∧ CellsAt w1 Bn 9 #[.string name] := ⟨HC1.out, HN1.out⟩
  refine wpL_take 7 6 (.tuple #[.slice ra ss.length rc, .int .i64 ce]) rfl (by kernel_rfl) (fun _ _ _ h => h) hS1 rfl rfl (fun w' hSw => by clear hSw; go_simp) ?_
  simp only [List.setIfInBounds_toArray, List.set_cons_zero, List.set_cons_succ]
  refine wpL_take 8 14 (.slice ra ss.length rc) rfl (by kernel_rfl) (fun _ _ _ h => h) hS1 rfl rfl (fun w' hSw => by clear hSw; go_simp) ?_
  simp only [List.setIfInBounds_toArray, List.set_cons_zero, List.set_cons_succ]
  refine wpL_take 9 15 (.int .i64 ce) rfl (by kernel_rfl) (fun _ _ _ h => h) hS1 rfl rfl (fun w' hSw => by clear hSw; go_simp) ?_
  simp only [List.setIfInBounds_toArray, List.set_cons_zero, List.set_cons_succ]
  refine wpL_take 10 4 (.slice ra ss.length rc) rfl (by kernel_rfl) (fun _ _ _ h => h) hS1 rfl rfl (fun w' hSw => by clear hSw; go_simp) ?_
  simp only [List.setIfInBounds_toArray, List.set_cons_zero, List.set_cons_succ]
  clear hS1
  refine wpL_last (x := 11) rfl (by kernel_rfl) (by kernel_rfl) (fun Kq hK => ?_)
  go_simp
  refine hK.out _ _ ?_
  refine NoPanic.normal ?_
  clear hK Kq
  rcases HKEY.out with ⟨rfl, rfl⟩ | ⟨rfl, hne, rfl⟩ | ⟨rfl, hnl, j, x, rfl, hx, rfl⟩
  · clear HKEY HTK HFN
    go_wp2
    go_ret
    exact ⟨rfl, Keeps.of HB1.out HBW.out, fun h => absurd h (by decide)⟩
  · have h1 : (0 : Int) < (ss.length : Int) := by
      have := List.length_pos_iff.2 (hne ss HSS.out)
      omega
    clear HKEY HTK HFN hne
    go_wp2
    go_ret
    exact ⟨rfl, Keeps.of HB1.out HBW.out, fun h => absurd h (by decide)⟩
  · obtain rfl : ss = [] := hnl ss HSS.out
    have HTK2 : Hid (∀ W, Below w.heap.size w W → Calls Tryz.prog 43 #[.pointer (some ⟨Bp, 0, none⟩), .int .i64 (j : Int)] W fun e w' => e = .returned x.val ∧ (∃ vl', PackAt base Bp w' 77 K ve vl' (l.eraseIdx j)) ∧ Keeps base W w') := HTK.out j x hx
    clear HKEY HTK hnl HSS hx
    rw [List.length_nil]
    have q := CellsAt.cell HN1.out 0
    have ql := CellsAt.lt HN1.out
    simp at q
    go_wp2_with fail
    refine (HFN.out _ HB1.out).mono ?_
    clear q ql
    rintro e w2 ⟨rfl, b2⟩
    have HB2 : Hid (Below w.heap.size w w2) := HB1.out.trans (b2.mono HB1.out.size)
    clear b2 HB1 HC1 HN1 HFN
    go_wp2_with fail
    refine (HTK2.out _ HB2.out).mono ?_
    rintro e w3 ⟨rfl, hp3, hk3⟩
    have HP3 : Hid (∃ vl', PackAt base Bp w3 77 K ve vl' (l.eraseIdx j)) := hp3
    have HK3 : Hid (Keeps base w w3) := (Keeps.of HB2.out HBW.out).trans hk3
    clear hp3 hk3 HTK2 HB2
    go_wp2
    go_ret
    refine ⟨rfl, HK3.out, fun _ => ?_⟩
    obtain ⟨vl', h3⟩ := HP3.out
    exact ⟨vl', l.eraseIdx j, rfl, HFE.out j, HLE.out j, h3⟩

end Go.Proofs.YtlpnfbpgnfappaaGreat

/- The contracts of package compact's Step and Pack. -/
namespace Go.Proofs.YtlpnfbpgnfappaaGreat
open Go.RowKit Go.PlainAid Go.Lib

set_option maxRecDepth 100000

/-- What Step and Pack answer. -/
def stepAns (K : Ker) (L : List Plc) : (Ker × List Plc) × Bool × Int := if chkRg K L = 0 then ((K, (stepRes L).1), (stepRes L).2, 0) else ((emptyK, []), false, chkRg K L)
def packAns (K : Ker) (L : List Plc) : (Ker × List Plc) × Nat × Int := if chkRg K L = 0 then ((K, packFrom 0 L), offFrom 0 L, 0) else ((emptyK, []), 0, chkRg K L)
theorem zeroReg_owns (n : Nat) (W : World) : OwnsReg n W (.agg #[.int .i64 0, .int .i64 0, .slice none 0 0, .slice none 0 0]) emptyK [] := ⟨_, _, rfl, World.ownsRow_nil _ _ _ _, World.ownsRow_nil _ _ _ _, fun x hx => by simp at hx⟩
theorem OwnsReg.beCell {base B : Nat} {W W' : World} {v : Value} {K : Ker} {l : List PV} {t : TypeId} {cs : Array Value} (h : OwnsReg base W v K l) (hc : CellsAt W B t cs) (h1 : 129 ≠ t) (h2 : 106 ≠ t) (h3 : 113 ≠ t) (h4 : 57 ≠ t) (hg : W.grownBy W' (some B)) : OwnsReg base W' v K l := by
  obtain ⟨ve, vl, e, o1, o2, o3⟩ := h
  exact ⟨ve, vl, e, o1.kept hg (.inr (own_ne_cells o1 hc h1)), o2.kept hg (.inr (own_ne_cells o2 hc h4)), fun x hx => (o3 x hx).beCell hc h1 h2 h3 hg⟩
theorem OwnsReg.below {base : Nat} {W W' : World} {v : Value} {K : Ker} {l : List PV} (h : OwnsReg base W v K l) (hb : Below W.heap.size W W') : OwnsReg base W' v K l := by
  obtain ⟨ve, vl, e, o1, o2, o3⟩ := h
  exact ⟨ve, vl, e, own_below o1 hb, own_below o2 hb, fun x hx => (o3 x hx).below hb⟩
theorem OwnsReg.lower {base b : Nat} {W : World} {v : Value} {K : Ker} {l : List PV} (h : OwnsReg base W v K l) (hb : b ≤ base) : OwnsReg b W v K l := by
  obtain ⟨ve, vl, e, o1, o2, o3⟩ := h
  exact ⟨ve, vl, e, own_down o1 hb, own_down o2 hb, fun x hx => (o3 x hx).lower hb⟩


set_option maxHeartbeats 16000000 in
theorem compStep_any (K : Ker) (l : List PV) (v : Value) (w : World) (hreg : IsReg w.heap.size w v K l) (hf : K.fits) (hfit : ∀ x ∈ l, x.mod.fits) :
    Calls Tryz.prog 28 #[v] w fun e w' => (∃ (v' : Value) (l' : List PV), e = .returned (.tuple #[v', .bool (stepAns K (l.map PV.plc)).2.1, .int .i64 (stepAns K (l.map PV.plc)).2.2]) ∧ l'.map PV.plc = (stepAns K (l.map PV.plc)).1.2 ∧ (∀ x ∈ l', x.mod.fits) ∧ OwnsReg w.heap.size w' v' (stepAns K (l.map PV.plc)).1.1 l') ∧ Below w.heap.size w w' := by
  have HR0 : Hid (IsReg w.heap.size w v K l) := hreg
  obtain ⟨ve, vl, rfl, hE, hL⟩ := hreg
  obtain ⟨qe, je, rfl, -, -⟩ := hE
  obtain ⟨⟨a, cap, rfl, -, -⟩, -⟩ := hL
  generalize hlk : K.exps.length = lk at *
  have hB1 : Below w.heap.size w (((w.alloc (.cells #[.int .i64 K.major, .int .i64 K.minor, .slice qe lk je, .slice a l.length cap] 27)).alloc (.cells #[.int .i64 0, .int .i64 0, .slice none 0 0, .slice none 0 0] 27)).alloc (.cells #[.bool false] 4)) := (((Below.refl _ _).alloc (Nat.le_refl _) _).alloc (by simp) _).alloc (by simp; omega) _
  have hC1 : CellsAt (((w.alloc (.cells #[.int .i64 K.major, .int .i64 K.minor, .slice qe lk je, .slice a l.length cap] 27)).alloc (.cells #[.int .i64 0, .int .i64 0, .slice none 0 0, .slice none 0 0] 27)).alloc (.cells #[.bool false] 4)) w.heap.size 27 #[.int .i64 K.major, .int .i64 K.minor, .slice qe lk je, .slice a l.length cap] := ((CellsAt.new w 27 #[.int .i64 K.major, .int .i64 K.minor, .slice qe lk je, .slice a l.length cap]).kept (World.grownBy_alloc _ _ none) (by simp)).kept (World.grownBy_alloc _ _ none) (by simp)
  have hZ1 : CellsAt (((w.alloc (.cells #[.int .i64 K.major, .int .i64 K.minor, .slice qe lk je, .slice a l.length cap] 27)).alloc (.cells #[.int .i64 0, .int .i64 0, .slice none 0 0, .slice none 0 0] 27)).alloc (.cells #[.bool false] 4)) (w.heap.size + 1) 27 #[.int .i64 0, .int .i64 0, .slice none 0 0, .slice none 0 0] := by
    have := (CellsAt.new (w.alloc (.cells #[.int .i64 K.major, .int .i64 K.minor, .slice qe lk je, .slice a l.length cap] 27)) 27 #[.int .i64 0, .int .i64 0, .slice none 0 0, .slice none 0 0]).kept (World.grownBy_alloc _ (.cells #[.bool false] 4) none) (by simp)
    rw [World.size_alloc] at this
    exact this
  have hD1 : CellsAt (((w.alloc (.cells #[.int .i64 K.major, .int .i64 K.minor, .slice qe lk je, .slice a l.length cap] 27)).alloc (.cells #[.int .i64 0, .int .i64 0, .slice none 0 0, .slice none 0 0] 27)).alloc (.cells #[.bool false] 4)) (w.heap.size + 2) 4 #[.bool false] := by
    have := CellsAt.new ((w.alloc (.cells #[.int .i64 K.major, .int .i64 K.minor, .slice qe lk je, .slice a l.length cap] 27)).alloc (.cells #[.int .i64 0, .int .i64 0, .slice none 0 0, .slice none 0 0] 27)) 4 #[.bool false]
    rw [World.size_alloc, World.size_alloc] at this
    exact this
  have hs1 : ((((w.alloc (.cells #[.int .i64 K.major, .int .i64 K.minor, .slice qe lk je, .slice a l.length cap] 27)).alloc (.cells #[.int .i64 0, .int .i64 0, .slice none 0 0, .slice none 0 0] 27)).alloc (.cells #[.bool false] 4))).heap.size = w.heap.size + 3 := by simp
  have HPK : Hid (Calls Tryz.prog 61 #[.agg #[.int .i64 K.major, .int .i64 K.minor, .slice qe lk je, .slice a l.length cap], .func (.func 78) #[] #[.pointer (some ⟨w.heap.size + 2, 0, none⟩)]] (((w.alloc (.cells #[.int .i64 K.major, .int .i64 K.minor, .slice qe lk je, .slice a l.length cap] 27)).alloc (.cells #[.int .i64 0, .int .i64 0, .slice none 0 0, .slice none 0 0] 27)).alloc (.cells #[.bool false] 4)) fun e w' =>
      (chkRg K (l.map PV.plc) ≠ 0 ∧ e = .returned (.tuple #[.agg #[.int .i64 0, .int .i64 0, .slice none 0 0, .slice none 0 0], .int .i64 (chkRg K (l.map PV.plc))]) ∧ Below (w.heap.size + 3) (((w.alloc (.cells #[.int .i64 K.major, .int .i64 K.minor, .slice qe lk je, .slice a l.length cap] 27)).alloc (.cells #[.int .i64 0, .int .i64 0, .slice none 0 0, .slice none 0 0] 27)).alloc (.cells #[.bool false] 4)) w') ∨
      (chkRg K (l.map PV.plc) = 0 ∧ ∃ (v' : Value) (l' : List PV), e = .returned (.tuple #[v', .int .i64 0]) ∧ l'.map PV.plc = (stepRes (l.map PV.plc)).1 ∧ l'.map (·.mod) = l.map (·.mod) ∧ OwnsReg (w.heap.size + 3) w' v' K l' ∧ CellsAt w' (w.heap.size + 2) 4 #[.bool (stepRes (l.map PV.plc)).2] ∧ Below (w.heap.size + 2) (((w.alloc (.cells #[.int .i64 K.major, .int .i64 K.minor, .slice qe lk je, .slice a l.length cap] 27)).alloc (.cells #[.int .i64 0, .int .i64 0, .slice none 0 0, .slice none 0 0] 27)).alloc (.cells #[.bool false] 4)) w')) := by
    have h := packed_any K l (.agg #[.int .i64 K.major, .int .i64 K.minor, .slice qe lk je, .slice a l.length cap]) (((w.alloc (.cells #[.int .i64 K.major, .int .i64 K.minor, .slice qe lk je, .slice a l.length cap] 27)).alloc (.cells #[.int .i64 0, .int .i64 0, .slice none 0 0, .slice none 0 0] 27)).alloc (.cells #[.bool false] 4)) ((HR0.out.below hB1).more hB1.size) hf hfit 78 (.pointer (some ⟨w.heap.size + 2, 0, none⟩)) (fun W x => enters_of Tryz.func78 (by kernel_rfl) rfl _ W) (w.heap.size + 2) (by rw [hs1]; omega) (fun L' => L' = (stepRes (l.map PV.plc)).1) (fun W => CellsAt W (w.heap.size + 2) 4 #[.bool (stepRes (l.map PV.plc)).2]) (fun W W' B h1 h2 h3 => h3.kept h2 (by rw [hs1] at h1; intro e; have := Option.some.inj e; omega)) (fun h0 W Bp ve vl l0 hb hbp hp hpl hf0 => by
      rw [hs1] at hbp hp
      have h0' : chkRg K (l0.map PV.plc) = 0 := by rw [hpl]; exact h0
      have hb0 := CellsAt.below hD1 hb (by rw [hs1]; omega)
      refine (cpStepF_any K l0 ve vl (w.heap.size + 3) Bp (w.heap.size + 2) (w.heap.size + 2) false W hp hf0 (rg_lens h0').2.2.2 hb0 (by omega) hbp (Nat.le_refl _)).mono ?_
      rintro e w' ⟨he, ⟨l', h1, h2, h3, h4⟩, h5, h6⟩
      rw [hpl] at h1 h5
      exact ⟨he, ⟨l', h1, h2, by rw [hs1]; exact h3, fun B c q1 q2 q3 => h4 B c q1 (by rw [hs1] at q2; exact q2) q3⟩, h5, h6⟩)
    rw [hs1] at h
    exact h
  obtain ⟨AA, hAA⟩ : ∃ AA, AA = stepAns K (l.map PV.plc) := ⟨_, rfl⟩
  rw [← hAA]
  have HANS : Hid (AA = if chkRg K (l.map PV.plc) = 0 then ((K, (stepRes (l.map PV.plc)).1), (stepRes (l.map PV.plc)).2, 0) else ((emptyK, []), false, chkRg K (l.map PV.plc))) := hAA
  clear hAA
  obtain ⟨⟨AK, AL⟩, ab, ae⟩ := AA
  dsimp only
  have HB1 : Hid _ := hB1
  have HC1 : Hid _ := hC1
  have HZ1 : Hid _ := hZ1
  have HD1 : Hid _ := hD1
  have HFT : Hid (∀ x ∈ l, x.mod.fits) := hfit
  clear hB1 hC1 hZ1 hD1 HR0 hf hfit
  go_enter Tryz.func28, Tryz.ntmps28
  go_wp2_with fail
  refine HPK.out.mono ?_
  generalize (((w.alloc (.cells #[.int .i64 K.major, .int .i64 K.minor, .slice qe lk je, .slice a l.length cap] 27)).alloc (.cells #[.int .i64 0, .int .i64 0, .slice none 0 0, .slice none 0 0] 27)).alloc (.cells #[.bool false] 4)) = w1 at *
  have c0 := hs1
  clear c0
  rintro e w2 hpost
  have hb2 : Below (w.heap.size + 2) w1 w2 := by
    rcases hpost with ⟨_, _, h⟩ | ⟨_, _, _, _, _, _, _, _, h⟩
    · exact h.mono (by omega)
    · exact h
  have key : ∃ (v' : Value) (l' : List PV), e = .returned (.tuple #[v', .int .i64 ae]) ∧ l'.map PV.plc = AL ∧ (∀ x ∈ l', x.mod.fits) ∧ OwnsReg (w.heap.size + 3) w2 v' AK l' ∧ CellsAt w2 (w.heap.size + 2) 4 #[.bool ab] := by
    have hans := HANS.out
    rcases hpost with ⟨h0, he, hb⟩ | ⟨h0, v', l', he, h1, h2, h3, h4, _⟩
    · rw [if_neg h0] at hans
      injection hans with q1 q2
      injection q1 with q3 q4
      injection q2 with q5 q6
      subst q3 q4 q5 q6
      exact ⟨_, [], he, rfl, fun x hx => by simp at hx, zeroReg_owns _ _, CellsAt.below HD1.out hb (by omega)⟩
    · rw [if_pos h0] at hans
      injection hans with q1 q2
      injection q1 with q3 q4
      injection q2 with q5 q6
      subst q3 q4 q5 q6
      exact ⟨v', l', he, h1, fits_mods h2 HFT.out, h3, h4⟩
  clear hpost HPK HANS HFT
  obtain ⟨v', l', rfl, hpl, hft, how, hdc⟩ := key
  obtain ⟨ve', vl', rfl, o1, o2, o3⟩ := id how
  obtain ⟨ea, ec, rfl⟩ := own_form o1
  obtain ⟨pa, pc, rfl⟩ := own_form o2
  clear o1 o2 o3
  generalize hak : AK.exps.length = ak at *
  have HB2 : Hid (Below w.heap.size w (w2.alloc (.cells #[.int .i64 AK.major, .int .i64 AK.minor, .slice ea ak ec, .slice pa l'.length pc] 27)).drew) := by
    have := HB1.out.trans (hb2.mono (by omega))
    exact (this.alloc this.size _).drew
  have HZ2 : Hid (CellsAt (w2.alloc (.cells #[.int .i64 AK.major, .int .i64 AK.minor, .slice ea ak ec, .slice pa l'.length pc] 27)).drew (w.heap.size + 1) 27 #[.int .i64 0, .int .i64 0, .slice none 0 0, .slice none 0 0]) := (((CellsAt.below HZ1.out hb2 (by omega)).kept (World.grownBy_alloc _ _ none) (by simp)) : CellsAt (w2.alloc _) _ _ _)
  have HD2 : Hid (CellsAt (w2.alloc (.cells #[.int .i64 AK.major, .int .i64 AK.minor, .slice ea ak ec, .slice pa l'.length pc] 27)).drew (w.heap.size + 2) 4 #[.bool ab]) := ((hdc.kept (World.grownBy_alloc _ _ none) (by simp)) : CellsAt (w2.alloc _) _ _ _)
  have HX2 : Hid (CellsAt (w2.alloc (.cells #[.int .i64 AK.major, .int .i64 AK.minor, .slice ea ak ec, .slice pa l'.length pc] 27)).drew w2.heap.size 27 #[.int .i64 AK.major, .int .i64 AK.minor, .slice ea ak ec, .slice pa l'.length pc]) := (CellsAt.new w2 27 _ : CellsAt (w2.alloc _) _ _ _)
  have HO2 : Hid (OwnsReg (w.heap.size + 3) (w2.alloc (.cells #[.int .i64 AK.major, .int .i64 AK.minor, .slice ea ak ec, .slice pa l'.length pc] 27)).drew (.agg #[.int .i64 AK.major, .int .i64 AK.minor, .slice ea ak ec, .slice pa l'.length pc]) AK l') := how.below (((Below.refl _ _).alloc (Nat.le_refl _) _).drew)
  have LX : w.heap.size + 2 < w2.heap.size := hdc.lt
  have HPL : Hid (l'.map PV.plc = AL) := hpl
  have HFT : Hid (∀ x ∈ l', x.mod.fits) := hft
  clear hb2 how hdc hpl hft HB1 HC1 HZ1 HD1
  go_upto_region 3 with fail
  refine wp_region_noPanic ?_
  refine wp_region_L (S := fun w' => CellsAt w' w2.heap.size 27 #[.int .i64 AK.major, .int .i64 AK.minor, .slice ea ak ec, .slice pa l'.length pc] ∧ CellsAt w' (w.heap.size + 2) 4 #[.bool ab]) (x := 5) (by kernel_rfl) ?_
  generalize (w2.alloc (.cells #[.int .i64 AK.major, .int .i64 AK.minor, .slice ea ak ec, .slice pa l'.length pc] 27)).drew = w3 at *
  generalize w2.heap.size = B6 at *
  have hS0 : CellsAt w3 B6 27 #[.int .i64 AK.major, .int .i64 AK.minor, .slice ea ak ec, .slice pa l'.length pc] ∧ CellsAt w3 (w.heap.size + 2) 4 #[.bool ab] := ⟨HX2.out, HD2.out⟩
  refine wpL_take 0 14 (.agg #[.int .i64 AK.major, .int .i64 AK.minor, .slice ea ak ec, .slice pa l'.length pc]) rfl (by kernel_rfl) (fun _ _ _ h => h) hS0 rfl rfl (fun w' hSw => by have q0 := CellsAt.cell hSw.1 0; have q1 := CellsAt.cell hSw.1 1; have q2 := CellsAt.cell hSw.1 2; have q3 := CellsAt.cell hSw.1 3; simp at q0 q1 q2 q3; clear hSw; go_simp) ?_
  simp only [List.setIfInBounds_toArray, List.set_cons_zero, List.set_cons_succ]
  refine wpL_take 1 15 (.bool ab) rfl (by kernel_rfl) (fun _ _ _ h => h) hS0 rfl rfl (fun w' hSw => by have q0 := CellsAt.cell hSw.2 0; simp at q0; clear hSw; go_simp) ?_
  simp only [List.setIfInBounds_toArray, List.set_cons_zero, List.set_cons_succ]
  refine wpL_take 2 16 (.int .i64 ae) rfl (by kernel_rfl) (fun _ _ _ h => h) hS0 rfl rfl (fun w' hSw => by clear hSw; go_simp) ?_
  simp only [List.setIfInBounds_toArray, List.set_cons_zero, List.set_cons_succ]
  clear hS0
  have z0 := CellsAt.cell HZ2.out 0
  have z1 := CellsAt.cell HZ2.out 1
  have z2 := CellsAt.cell HZ2.out 2
  have z3 := CellsAt.cell HZ2.out 3
  have f0 := CellsAt.frozen HZ2.out 0
  have f1 := CellsAt.frozen HZ2.out 1
  have f2 := CellsAt.frozen HZ2.out 2
  have f3 := CellsAt.frozen HZ2.out 3
  have lz := CellsAt.lt HZ2.out
  simp at z0 z1 z2 z3
  refine wpL_step (i := 3) rfl (by kernel_rfl) (fun Kq hK => ?_)
  go_simp
  have hZ9 := sets4 HZ2.out (.int .i64 AK.major) (.int .i64 AK.minor) (.slice ea ak ec) (.slice pa l'.length pc)
  have hG9 := sets4_grown w3 (w.heap.size + 1) (.int .i64 AK.major) (.int .i64 AK.minor) (.slice ea ak ec) (.slice pa l'.length pc)
  have hX9 := HX2.out.kept hG9 (by intro e; have := Option.some.inj e; omega)
  have hD9 := HD2.out.kept hG9 (by intro e; have := Option.some.inj e; omega)
  refine hK.out _ _ ⟨hX9, hD9⟩ (fun _ => ?_)
  clear hK
  have HZ9 : Hid _ := hZ9
  have HG9 : Hid _ := hG9
  clear hX9 z0 z1 z2 z3 f0 f1 f2 f3 lz
  refine wpL_take 4 3 (.bool ab) rfl (by kernel_rfl) (fun _ _ _ h => h) (show _ ∧ _ from ⟨HX2.out.kept HG9.out (by intro e; have := Option.some.inj e; omega), HD2.out.kept HG9.out (by intro e; have := Option.some.inj e; omega)⟩) rfl rfl (fun w' hSw => by clear hSw; go_simp) ?_
  simp only [List.setIfInBounds_toArray, List.set_cons_zero, List.set_cons_succ]
  clear hZ9 hG9 hD9
  refine wpL_last (x := 5) rfl (by kernel_rfl) (by kernel_rfl) (fun Kq hK => ?_)
  go_simp
  refine hK.out _ _ ?_
  refine NoPanic.normal ?_
  clear hK
  first | go_wp2 | skip
  refine bodyPost_ret (results_ctt_row rfl _ _ _ _ _ _ _ rfl HZ9.out Tryz.underlying27 rfl (by kernel_rfl)) rfl ?_
  exact ⟨⟨_, l', rfl, HPL.out, HFT.out, (HO2.out.beCell HZ2.out (by decide) (by decide) (by decide) (by decide) HG9.out).lower (b := w.heap.size) (by omega)⟩, HB2.out.grown HG9.out HB2.out.size (fun q hq => by obtain rfl := Option.some.inj hq; omega)⟩


set_option maxHeartbeats 16000000 in
theorem compPack_any (K : Ker) (l : List PV) (v : Value) (w : World) (hreg : IsReg w.heap.size w v K l) (hf : K.fits) (hfit : ∀ x ∈ l, x.mod.fits) :
    Calls Tryz.prog 17 #[v] w fun e w' => (∃ (v' : Value) (l' : List PV), e = .returned (.tuple #[v', .int .i64 ((packAns K (l.map PV.plc)).2.1 : Int), .int .i64 (packAns K (l.map PV.plc)).2.2]) ∧ l'.map PV.plc = (packAns K (l.map PV.plc)).1.2 ∧ (∀ x ∈ l', x.mod.fits) ∧ OwnsReg w.heap.size w' v' (packAns K (l.map PV.plc)).1.1 l') ∧ Below w.heap.size w w' := by
  have HR0 : Hid (IsReg w.heap.size w v K l) := hreg
  obtain ⟨ve, vl, rfl, hE, hL⟩ := hreg
  obtain ⟨qe, je, rfl, -, -⟩ := hE
  obtain ⟨⟨a, cap, rfl, -, -⟩, -⟩ := hL
  generalize hlk : K.exps.length = lk at *
  have hB1 : Below w.heap.size w (((w.alloc (.cells #[.int .i64 K.major, .int .i64 K.minor, .slice qe lk je, .slice a l.length cap] 27)).alloc (.cells #[.int .i64 0, .int .i64 0, .slice none 0 0, .slice none 0 0] 27)).alloc (.cells #[.int .i64 0] 3)) := (((Below.refl _ _).alloc (Nat.le_refl _) _).alloc (by simp) _).alloc (by simp; omega) _
  have hC1 : CellsAt (((w.alloc (.cells #[.int .i64 K.major, .int .i64 K.minor, .slice qe lk je, .slice a l.length cap] 27)).alloc (.cells #[.int .i64 0, .int .i64 0, .slice none 0 0, .slice none 0 0] 27)).alloc (.cells #[.int .i64 0] 3)) w.heap.size 27 #[.int .i64 K.major, .int .i64 K.minor, .slice qe lk je, .slice a l.length cap] := ((CellsAt.new w 27 #[.int .i64 K.major, .int .i64 K.minor, .slice qe lk je, .slice a l.length cap]).kept (World.grownBy_alloc _ _ none) (by simp)).kept (World.grownBy_alloc _ _ none) (by simp)
  have hZ1 : CellsAt (((w.alloc (.cells #[.int .i64 K.major, .int .i64 K.minor, .slice qe lk je, .slice a l.length cap] 27)).alloc (.cells #[.int .i64 0, .int .i64 0, .slice none 0 0, .slice none 0 0] 27)).alloc (.cells #[.int .i64 0] 3)) (w.heap.size + 1) 27 #[.int .i64 0, .int .i64 0, .slice none 0 0, .slice none 0 0] := by
    have := (CellsAt.new (w.alloc (.cells #[.int .i64 K.major, .int .i64 K.minor, .slice qe lk je, .slice a l.length cap] 27)) 27 #[.int .i64 0, .int .i64 0, .slice none 0 0, .slice none 0 0]).kept (World.grownBy_alloc _ (.cells #[.int .i64 0] 3) none) (by simp)
    rw [World.size_alloc] at this
    exact this
  have hD1 : CellsAt (((w.alloc (.cells #[.int .i64 K.major, .int .i64 K.minor, .slice qe lk je, .slice a l.length cap] 27)).alloc (.cells #[.int .i64 0, .int .i64 0, .slice none 0 0, .slice none 0 0] 27)).alloc (.cells #[.int .i64 0] 3)) (w.heap.size + 2) 3 #[.int .i64 0] := by
    have := CellsAt.new ((w.alloc (.cells #[.int .i64 K.major, .int .i64 K.minor, .slice qe lk je, .slice a l.length cap] 27)).alloc (.cells #[.int .i64 0, .int .i64 0, .slice none 0 0, .slice none 0 0] 27)) 3 #[.int .i64 0]
    rw [World.size_alloc, World.size_alloc] at this
    exact this
  have hs1 : ((((w.alloc (.cells #[.int .i64 K.major, .int .i64 K.minor, .slice qe lk je, .slice a l.length cap] 27)).alloc (.cells #[.int .i64 0, .int .i64 0, .slice none 0 0, .slice none 0 0] 27)).alloc (.cells #[.int .i64 0] 3))).heap.size = w.heap.size + 3 := by simp
  have HPK : Hid (Calls Tryz.prog 61 #[.agg #[.int .i64 K.major, .int .i64 K.minor, .slice qe lk je, .slice a l.length cap], .func (.func 62) #[] #[.pointer (some ⟨w.heap.size + 2, 0, none⟩)]] (((w.alloc (.cells #[.int .i64 K.major, .int .i64 K.minor, .slice qe lk je, .slice a l.length cap] 27)).alloc (.cells #[.int .i64 0, .int .i64 0, .slice none 0 0, .slice none 0 0] 27)).alloc (.cells #[.int .i64 0] 3)) fun e w' =>
      (chkRg K (l.map PV.plc) ≠ 0 ∧ e = .returned (.tuple #[.agg #[.int .i64 0, .int .i64 0, .slice none 0 0, .slice none 0 0], .int .i64 (chkRg K (l.map PV.plc))]) ∧ Below (w.heap.size + 3) (((w.alloc (.cells #[.int .i64 K.major, .int .i64 K.minor, .slice qe lk je, .slice a l.length cap] 27)).alloc (.cells #[.int .i64 0, .int .i64 0, .slice none 0 0, .slice none 0 0] 27)).alloc (.cells #[.int .i64 0] 3)) w') ∨
      (chkRg K (l.map PV.plc) = 0 ∧ ∃ (v' : Value) (l' : List PV), e = .returned (.tuple #[v', .int .i64 0]) ∧ l'.map PV.plc = packFrom 0 (l.map PV.plc) ∧ l'.map (·.mod) = l.map (·.mod) ∧ OwnsReg (w.heap.size + 3) w' v' K l' ∧ CellsAt w' (w.heap.size + 2) 3 #[.int .i64 (offFrom 0 (l.map PV.plc) : Int)] ∧ Below (w.heap.size + 2) (((w.alloc (.cells #[.int .i64 K.major, .int .i64 K.minor, .slice qe lk je, .slice a l.length cap] 27)).alloc (.cells #[.int .i64 0, .int .i64 0, .slice none 0 0, .slice none 0 0] 27)).alloc (.cells #[.int .i64 0] 3)) w')) := by
    have h := packed_any K l (.agg #[.int .i64 K.major, .int .i64 K.minor, .slice qe lk je, .slice a l.length cap]) (((w.alloc (.cells #[.int .i64 K.major, .int .i64 K.minor, .slice qe lk je, .slice a l.length cap] 27)).alloc (.cells #[.int .i64 0, .int .i64 0, .slice none 0 0, .slice none 0 0] 27)).alloc (.cells #[.int .i64 0] 3)) ((HR0.out.below hB1).more hB1.size) hf hfit 62 (.pointer (some ⟨w.heap.size + 2, 0, none⟩)) (fun W x => enters_of Tryz.func62 (by kernel_rfl) rfl _ W) (w.heap.size + 2) (by rw [hs1]; omega) (fun L' => L' = packFrom 0 (l.map PV.plc)) (fun W => CellsAt W (w.heap.size + 2) 3 #[.int .i64 (offFrom 0 (l.map PV.plc) : Int)]) (fun W W' B h1 h2 h3 => h3.kept h2 (by rw [hs1] at h1; intro e; have := Option.some.inj e; omega)) (fun h0 W Bp ve vl l0 hb hbp hp hpl hf0 => by
      rw [hs1] at hbp hp
      have h0' : chkRg K (l0.map PV.plc) = 0 := by rw [hpl]; exact h0
      have hb0 := CellsAt.below hD1 hb (by rw [hs1]; omega)
      refine (cpPackF_any K l0 ve vl (w.heap.size + 3) Bp (w.heap.size + 2) (w.heap.size + 2) W hp hf0 h0' hb0 (by omega) hbp (Nat.le_refl _)).mono ?_
      rintro e w' ⟨he, ⟨l', h1, h2, h3, h4⟩, h5, h6⟩
      rw [hpl] at h1 h5
      exact ⟨he, ⟨l', h1, h2, by rw [hs1]; exact h3, fun B c q1 q2 q3 => h4 B c q1 (by rw [hs1] at q2; exact q2) q3⟩, h5, h6⟩)
    rw [hs1] at h
    exact h
  obtain ⟨AA, hAA⟩ : ∃ AA, AA = packAns K (l.map PV.plc) := ⟨_, rfl⟩
  rw [← hAA]
  have HANS : Hid (AA = if chkRg K (l.map PV.plc) = 0 then ((K, packFrom 0 (l.map PV.plc)), offFrom 0 (l.map PV.plc), 0) else ((emptyK, []), 0, chkRg K (l.map PV.plc))) := hAA
  clear hAA
  obtain ⟨⟨AK, AL⟩, ab, ae⟩ := AA
  dsimp only
  have HB1 : Hid _ := hB1
  have HC1 : Hid _ := hC1
  have HZ1 : Hid _ := hZ1
  have HD1 : Hid _ := hD1
  have HFT : Hid (∀ x ∈ l, x.mod.fits) := hfit
  clear hB1 hC1 hZ1 hD1 HR0 hf hfit
  go_enter Tryz.func17, Tryz.ntmps17
  go_wp2_with fail
  refine HPK.out.mono ?_
  generalize (((w.alloc (.cells #[.int .i64 K.major, .int .i64 K.minor, .slice qe lk je, .slice a l.length cap] 27)).alloc (.cells #[.int .i64 0, .int .i64 0, .slice none 0 0, .slice none 0 0] 27)).alloc (.cells #[.int .i64 0] 3)) = w1 at *
  have c0 := hs1
  clear c0
  rintro e w2 hpost
  have hb2 : Below (w.heap.size + 2) w1 w2 := by
    rcases hpost with ⟨_, _, h⟩ | ⟨_, _, _, _, _, _, _, _, h⟩
    · exact h.mono (by omega)
    · exact h
  have key : ∃ (v' : Value) (l' : List PV), e = .returned (.tuple #[v', .int .i64 ae]) ∧ l'.map PV.plc = AL ∧ (∀ x ∈ l', x.mod.fits) ∧ OwnsReg (w.heap.size + 3) w2 v' AK l' ∧ CellsAt w2 (w.heap.size + 2) 3 #[.int .i64 (ab : Int)] := by
    have hans := HANS.out
    rcases hpost with ⟨h0, he, hb⟩ | ⟨h0, v', l', he, h1, h2, h3, h4, _⟩
    · rw [if_neg h0] at hans
      injection hans with q1 q2
      injection q1 with q3 q4
      injection q2 with q5 q6
      subst q3 q4 q5 q6
      exact ⟨_, [], he, rfl, fun x hx => by simp at hx, zeroReg_owns _ _, CellsAt.below HD1.out hb (by omega)⟩
    · rw [if_pos h0] at hans
      injection hans with q1 q2
      injection q1 with q3 q4
      injection q2 with q5 q6
      subst q3 q4 q5 q6
      exact ⟨v', l', he, h1, fits_mods h2 HFT.out, h3, h4⟩
  clear hpost HPK HANS HFT
  obtain ⟨v', l', rfl, hpl, hft, how, hdc⟩ := key
  obtain ⟨ve', vl', rfl, o1, o2, o3⟩ := id how
  obtain ⟨ea, ec, rfl⟩ := own_form o1
  obtain ⟨pa, pc, rfl⟩ := own_form o2
  clear o1 o2 o3
  generalize hak : AK.exps.length = ak at *
  have HB2 : Hid (Below w.heap.size w (w2.alloc (.cells #[.int .i64 AK.major, .int .i64 AK.minor, .slice ea ak ec, .slice pa l'.length pc] 27)).drew) := by
    have := HB1.out.trans (hb2.mono (by omega))
    exact (this.alloc this.size _).drew
  have HZ2 : Hid (CellsAt (w2.alloc (.cells #[.int .i64 AK.major, .int .i64 AK.minor, .slice ea ak ec, .slice pa l'.length pc] 27)).drew (w.heap.size + 1) 27 #[.int .i64 0, .int .i64 0, .slice none 0 0, .slice none 0 0]) := (((CellsAt.below HZ1.out hb2 (by omega)).kept (World.grownBy_alloc _ _ none) (by simp)) : CellsAt (w2.alloc _) _ _ _)
  have HD2 : Hid (CellsAt (w2.alloc (.cells #[.int .i64 AK.major, .int .i64 AK.minor, .slice ea ak ec, .slice pa l'.length pc] 27)).drew (w.heap.size + 2) 3 #[.int .i64 (ab : Int)]) := ((hdc.kept (World.grownBy_alloc _ _ none) (by simp)) : CellsAt (w2.alloc _) _ _ _)
  have HX2 : Hid (CellsAt (w2.alloc (.cells #[.int .i64 AK.major, .int .i64 AK.minor, .slice ea ak ec, .slice pa l'.length pc] 27)).drew w2.heap.size 27 #[.int .i64 AK.major, .int .i64 AK.minor, .slice ea ak ec, .slice pa l'.length pc]) := (CellsAt.new w2 27 _ : CellsAt (w2.alloc _) _ _ _)
  have HO2 : Hid (OwnsReg (w.heap.size + 3) (w2.alloc (.cells #[.int .i64 AK.major, .int .i64 AK.minor, .slice ea ak ec, .slice pa l'.length pc] 27)).drew (.agg #[.int .i64 AK.major, .int .i64 AK.minor, .slice ea ak ec, .slice pa l'.length pc]) AK l') := how.below (((Below.refl _ _).alloc (Nat.le_refl _) _).drew)
  have LX : w.heap.size + 2 < w2.heap.size := hdc.lt
  have HPL : Hid (l'.map PV.plc = AL) := hpl
  have HFT : Hid (∀ x ∈ l', x.mod.fits) := hft
  clear hb2 how hdc hpl hft HB1 HC1 HZ1 HD1
  go_upto_region 3 with fail
  refine wp_region_noPanic ?_
  refine wp_region_L (S := fun w' => CellsAt w' w2.heap.size 27 #[.int .i64 AK.major, .int .i64 AK.minor, .slice ea ak ec, .slice pa l'.length pc] ∧ CellsAt w' (w.heap.size + 2) 3 #[.int .i64 (ab : Int)]) (x := 5) (by kernel_rfl) ?_
  generalize (w2.alloc (.cells #[.int .i64 AK.major, .int .i64 AK.minor, .slice ea ak ec, .slice pa l'.length pc] 27)).drew = w3 at *
  generalize w2.heap.size = B6 at *
  have hS0 : CellsAt w3 B6 27 #[.int .i64 AK.major, .int .i64 AK.minor, .slice ea ak ec, .slice pa l'.length pc] ∧ CellsAt w3 (w.heap.size + 2) 3 #[.int .i64 (ab : Int)] := ⟨HX2.out, HD2.out⟩
  refine wpL_take 0 14 (.agg #[.int .i64 AK.major, .int .i64 AK.minor, .slice ea ak ec, .slice pa l'.length pc]) rfl (by kernel_rfl) (fun _ _ _ h => h) hS0 rfl rfl (fun w' hSw => by have q0 := CellsAt.cell hSw.1 0; have q1 := CellsAt.cell hSw.1 1; have q2 := CellsAt.cell hSw.1 2; have q3 := CellsAt.cell hSw.1 3; simp at q0 q1 q2 q3; clear hSw; go_simp) ?_
  simp only [List.setIfInBounds_toArray, List.set_cons_zero, List.set_cons_succ]
  refine wpL_take 1 15 (.int .i64 (ab : Int)) rfl (by kernel_rfl) (fun _ _ _ h => h) hS0 rfl rfl (fun w' hSw => by have q0 := CellsAt.cell hSw.2 0; simp at q0; clear hSw; go_simp) ?_
  simp only [List.setIfInBounds_toArray, List.set_cons_zero, List.set_cons_succ]
  refine wpL_take 2 16 (.int .i64 ae) rfl (by kernel_rfl) (fun _ _ _ h => h) hS0 rfl rfl (fun w' hSw => by clear hSw; go_simp) ?_
  simp only [List.setIfInBounds_toArray, List.set_cons_zero, List.set_cons_succ]
  clear hS0
  have z0 := CellsAt.cell HZ2.out 0
  have z1 := CellsAt.cell HZ2.out 1
  have z2 := CellsAt.cell HZ2.out 2
  have z3 := CellsAt.cell HZ2.out 3
  have f0 := CellsAt.frozen HZ2.out 0
  have f1 := CellsAt.frozen HZ2.out 1
  have f2 := CellsAt.frozen HZ2.out 2
  have f3 := CellsAt.frozen HZ2.out 3
  have lz := CellsAt.lt HZ2.out
  simp at z0 z1 z2 z3
  refine wpL_step (i := 3) rfl (by kernel_rfl) (fun Kq hK => ?_)
  go_simp
  have hZ9 := sets4 HZ2.out (.int .i64 AK.major) (.int .i64 AK.minor) (.slice ea ak ec) (.slice pa l'.length pc)
  have hG9 := sets4_grown w3 (w.heap.size + 1) (.int .i64 AK.major) (.int .i64 AK.minor) (.slice ea ak ec) (.slice pa l'.length pc)
  have hX9 := HX2.out.kept hG9 (by intro e; have := Option.some.inj e; omega)
  have hD9 := HD2.out.kept hG9 (by intro e; have := Option.some.inj e; omega)
  refine hK.out _ _ ⟨hX9, hD9⟩ (fun _ => ?_)
  clear hK
  have HZ9 : Hid _ := hZ9
  have HG9 : Hid _ := hG9
  clear hX9 z0 z1 z2 z3 f0 f1 f2 f3 lz
  refine wpL_take 4 3 (.int .i64 (ab : Int)) rfl (by kernel_rfl) (fun _ _ _ h => h) (show _ ∧ _ from ⟨HX2.out.kept HG9.out (by intro e; have := Option.some.inj e; omega), HD2.out.kept HG9.out (by intro e; have := Option.some.inj e; omega)⟩) rfl rfl (fun w' hSw => by clear hSw; go_simp) ?_
  simp only [List.setIfInBounds_toArray, List.set_cons_zero, List.set_cons_succ]
  clear hZ9 hG9 hD9
  refine wpL_last (x := 5) rfl (by kernel_rfl) (by kernel_rfl) (fun Kq hK => ?_)
  go_simp
  refine hK.out _ _ ?_
  refine NoPanic.normal ?_
  clear hK
  first | go_wp2 | skip
  refine bodyPost_ret (results_ctt_row rfl _ _ _ _ _ _ _ rfl HZ9.out Tryz.underlying27 rfl (by kernel_rfl)) rfl ?_
  exact ⟨⟨_, l', rfl, HPL.out, HFT.out, (HO2.out.beCell HZ2.out (by decide) (by decide) (by decide) (by decide) HG9.out).lower (b := w.heap.size) (by omega)⟩, HB2.out.grown HG9.out HB2.out.size (fun q hq => by obtain rfl := Option.some.inj hq; omega)⟩

end Go.Proofs.YtlpnfbpgnfappaaGreat

/- The contract of package plan's planned, whatever it is handed. -/
namespace Go.Proofs.YtlpnfbpgnfappaaGreat
open Go.RowKit Go.PlainAid Go.Lib

set_option maxRecDepth 100000

/-- What planned answers. -/
def planRes (K : Ker) (L : List Plc) (D : List Plc × Int) : (Ker × List Plc) × Int :=
  if chkRg K L ≠ 0 then ((emptyK, []), chkRg K L) else if D.2 ≠ 0 then ((emptyK, []), D.2) else if chkRg K D.1 ≠ 0 then ((emptyK, []), chkRg K D.1) else ((K, D.1), 0)
theorem plan_cases (K : Ker) (L : List Plc) (D : List Plc × Int) :
    (chkRg K L ≠ 0 ∧ planRes K L D = ((emptyK, []), chkRg K L)) ∨ (chkRg K L = 0 ∧ D.2 ≠ 0 ∧ planRes K L D = ((emptyK, []), D.2)) ∨
    (chkRg K L = 0 ∧ D.2 = 0 ∧ chkRg K D.1 ≠ 0 ∧ planRes K L D = ((emptyK, []), chkRg K D.1)) ∨ (chkRg K L = 0 ∧ D.2 = 0 ∧ chkRg K D.1 = 0 ∧ planRes K L D = ((K, D.1), 0)) := by
  unfold planRes
  by_cases h1 : chkRg K L = 0
  · by_cases h2 : D.2 = 0
    · by_cases h3 : chkRg K D.1 = 0
      · exact .inr (.inr (.inr ⟨h1, h2, h3, by rw [if_neg (by omega), if_neg (by omega), if_neg (by omega)]⟩))
      · exact .inr (.inr (.inl ⟨h1, h2, h3, by rw [if_neg (by omega), if_neg (by omega), if_pos h3]⟩))
    · exact .inr (.inl ⟨h1, h2, by rw [if_neg (by omega), if_pos h2]⟩)
  · exact .inl ⟨h1, by rw [if_pos h1]⟩
theorem pack_reg {base Bp : Nat} {W : World} {t : TypeId} {K : Ker} {ve vl : Value} {l : List PV} (hp : PackAt base Bp W t K ve vl l) (hl : Lens l) (hk : K.exps.length ≤ 255) : IsReg W.heap.size W (.agg #[.int .i64 K.major, .int .i64 K.minor, ve, vl]) K l :=
  ⟨ve, vl, rfl, own_rows (C := expC) (cells := Exp.cell) (sz := 2) (fun _ => rfl) expC_at hp.2.1 (by omega), hp.rows hl⟩

set_option maxHeartbeats 16000000 in
theorem planned_any (K : Ker) (l : List PV) (v : Value) (w : World) (hreg : IsReg w.heap.size w v K l) (hf : K.fits) (hfit : ∀ x ∈ l, x.mod.fits) (Kf : FuncId) (cap : Value) (hK : ∀ W x, Sem.run Tryz.prog (callFunc Kf #[x, cap]) W = .ok (.enter Kf #[x, cap]) W) (D : List Plc × Int)
    (hdo : chkRg K (l.map PV.plc) = 0 → ∀ (W : World) (Bp : Nat) (ve vl : Value) (l0 : List PV), Below w.heap.size w W → w.heap.size ≤ Bp → PackAt w.heap.size Bp W 77 K ve vl l0 → l0.map PV.plc = l.map PV.plc → (∀ x ∈ l0, x.mod.fits) → Lens l0 → l0.length ≤ 8 →
      Calls Tryz.prog Kf #[.pointer (some ⟨Bp, 0, none⟩), cap] W fun e w' => e = .returned (.int .i64 D.2) ∧ Did w.heap.size Bp K ve W w' D) :
    Calls Tryz.prog 36 #[v, .func (.func Kf) #[] #[cap]] w fun e w' => (∃ (v' : Value) (l' : List PV), e = .returned (.tuple #[v', .int .i64 (planRes K (l.map PV.plc) D).2]) ∧ l'.map PV.plc = (planRes K (l.map PV.plc) D).1.2 ∧ (∀ x ∈ l', x.mod.fits) ∧ OwnsReg w.heap.size w' v' (planRes K (l.map PV.plc) D).1.1 l') ∧ Below w.heap.size w w' := by
  have HCK : Hid (∀ W, Below w.heap.size w W → Calls Tryz.prog 68 #[v] W fun e w' => e = .returned (.int .i64 (chkRg K (l.map PV.plc))) ∧ Below W.heap.size W w') := fun W hb => regCheck_any K l v W ((hreg.below hb).more hb.size) hf hfit
  have HCP : Hid (chkRg K (l.map PV.plc) = 0 → ∀ W, Below w.heap.size w W → Calls Tryz.prog 91 #[v] W fun e w' => (∃ v' l', e = .returned v' ∧ l'.map PV.plc = l.map PV.plc ∧ OwnsReg W.heap.size w' v' K l') ∧ Below W.heap.size W w') := fun h W hb => by
    obtain ⟨h1, h2, h3, _⟩ := rg_lens h
    exact copyReg_any K l v W ((hreg.below hb).more hb.size) h1 h2 h3
  have HC2 : Hid (chkRg K (l.map PV.plc) = 0 → ∀ (Bp : Nat) (ve vl' : Value) (l' : List PV) (W : World), PackAt w.heap.size Bp W 77 K ve vl' l' → Lens l' → (∀ x ∈ l', x.mod.fits) → l'.map PV.plc = D.1 → Calls Tryz.prog 68 #[.agg #[.int .i64 K.major, .int .i64 K.minor, ve, vl']] W fun e w' => e = .returned (.int .i64 (chkRg K D.1)) ∧ Below W.heap.size W w') := fun h Bp ve vl' l' W hp hl hft hpl => by
    obtain ⟨h1, _⟩ := rg_lens h
    have := regCheck_any K l' _ W (pack_reg hp hl h1) hf hft
    rw [hpl] at this
    exact this
  have HLN : Hid (chkRg K (l.map PV.plc) = 0 → ∀ l0 : List PV, l0.map PV.plc = l.map PV.plc → Lens l0 ∧ l0.length ≤ 8) := fun h l0 hpl => by
    have h0 : chkRg K (l0.map PV.plc) = 0 := by rw [hpl]; exact h
    have h1 := (rg_lens h0).2.2
    have h2 := reg_lens h1.2
    exact ⟨⟨by omega, h1.1⟩, h2.1⟩
  have HDO : Hid (chkRg K (l.map PV.plc) = 0 → ∀ (W : World) (Bp : Nat) (ve vl : Value) (l0 : List PV), Below w.heap.size w W → w.heap.size ≤ Bp → PackAt w.heap.size Bp W 77 K ve vl l0 → l0.map PV.plc = l.map PV.plc → (∀ x ∈ l0, x.mod.fits) → Lens l0 → l0.length ≤ 8 →
      Calls Tryz.prog Kf #[.pointer (some ⟨Bp, 0, none⟩), cap] W fun e w' => e = .returned (.int .i64 D.2) ∧ Did w.heap.size Bp K ve W w' D) := hdo
  have key := plan_cases K (l.map PV.plc) D
  obtain ⟨ve, vl, rfl, hE, hL⟩ := hreg
  obtain ⟨qe, je, rfl, -, -⟩ := hE
  obtain ⟨⟨a, cap', rfl, -, -⟩, -⟩ := hL
  obtain ⟨PR, hPR⟩ : ∃ PR, PR = planRes K (l.map PV.plc) D := ⟨_, rfl⟩
  rw [← hPR] at key ⊢
  obtain ⟨⟨PK, PL⟩, pe⟩ := PR
  dsimp only
  generalize hcr : chkRg K (l.map PV.plc) = cr at *
  generalize hc2 : chkRg K D.1 = c2 at *
  generalize K.exps.length = lk at *
  have HFT0 : Hid (∀ x ∈ l, x.mod.fits) := hfit
  have HB1 : Hid (Below w.heap.size w ((w.alloc (.cells #[.int .i64 K.major, .int .i64 K.minor, .slice qe lk je, .slice a l.length cap'] 27)).alloc (.cells #[.int .i64 0, .int .i64 0, .slice none 0 0, .slice none 0 0] 27))) := ((Below.refl _ _).alloc (Nat.le_refl _) _).alloc (by simp) _
  have HC1 : Hid (CellsAt ((w.alloc (.cells #[.int .i64 K.major, .int .i64 K.minor, .slice qe lk je, .slice a l.length cap'] 27)).alloc (.cells #[.int .i64 0, .int .i64 0, .slice none 0 0, .slice none 0 0] 27)) w.heap.size 27 #[.int .i64 K.major, .int .i64 K.minor, .slice qe lk je, .slice a l.length cap']) := (CellsAt.new _ _ _).kept (World.grownBy_alloc _ _ none) (by simp)
  have HZ1 : Hid (CellsAt ((w.alloc (.cells #[.int .i64 K.major, .int .i64 K.minor, .slice qe lk je, .slice a l.length cap'] 27)).alloc (.cells #[.int .i64 0, .int .i64 0, .slice none 0 0, .slice none 0 0] 27)) (w.heap.size + 1) 27 #[.int .i64 0, .int .i64 0, .slice none 0 0, .slice none 0 0]) := by
    have := CellsAt.new (w.alloc (.cells #[.int .i64 K.major, .int .i64 K.minor, .slice qe lk je, .slice a l.length cap'] 27)) 27 #[.int .i64 0, .int .i64 0, .slice none 0 0, .slice none 0 0]
    rw [World.size_alloc] at this
    exact this
  clear hdo hcr hc2 hfit hf hPR
  have HKEY : Hid _ := key
  clear key
  go_enter Tryz.func36, Tryz.ntmps36
  go_wp2_with fail
  refine (HCK.out _ HB1.out).mono ?_
  generalize ((w.alloc (.cells #[.int .i64 K.major, .int .i64 K.minor, .slice qe lk je, .slice a l.length cap'] 27)).alloc (.cells #[.int .i64 0, .int .i64 0, .slice none 0 0, .slice none 0 0] 27)) = w1 at *
  rintro e w2 ⟨rfl, b2⟩
  have HB2 : Hid (Below w.heap.size w w2) := HB1.out.trans (b2.mono HB1.out.size)
  have HCC2 : Hid (CellsAt w2 w.heap.size 27 #[.int .i64 K.major, .int .i64 K.minor, .slice qe lk je, .slice a l.length cap']) := HC1.out.below b2 HC1.out.lt
  have HZ2 : Hid (CellsAt w2 (w.heap.size + 1) 27 #[.int .i64 0, .int .i64 0, .slice none 0 0, .slice none 0 0]) := HZ1.out.below b2 HZ1.out.lt
  clear b2 HB1 HC1 HZ1 HCK
  by_cases hcr0 : cr ≠ 0
  · have h' : (cr != 0) = true := by simpa using hcr0
    obtain ⟨e1, e2, e3⟩ : PK = emptyK ∧ PL = [] ∧ pe = cr := by
      rcases HKEY.out with ⟨_, h⟩ | ⟨h, _⟩ | ⟨h, _⟩ | ⟨h, _⟩
      · injection h with h1 h2
        injection h1 with h1 h3
        exact ⟨h1, h3, h2⟩
      · exact absurd h hcr0
      · exact absurd h hcr0
      · exact absurd h hcr0
    subst e1 e2 e3
    have z0 := CellsAt.cell HZ2.out 0
    have z1 := CellsAt.cell HZ2.out 1
    have z2 := CellsAt.cell HZ2.out 2
    have z3 := CellsAt.cell HZ2.out 3
    have f0 := CellsAt.frozen HZ2.out 0
    have f1 := CellsAt.frozen HZ2.out 1
    have f2 := CellsAt.frozen HZ2.out 2
    have f3 := CellsAt.frozen HZ2.out 3
    have lz := CellsAt.lt HZ2.out
    simp at z0 z1 z2 z3
    clear hcr0 HCP HDO HCC2 HC2 HLN HKEY HFT0
    go_wp2
    have hZ9 := sets4 HZ2.out (.int .i64 0) (.int .i64 0) (.slice none 0 0) (.slice none 0 0)
    have hG9 := sets4_grown w2 (w.heap.size + 1) (.int .i64 0) (.int .i64 0) (.slice none 0 0) (.slice none 0 0)
    refine bodyPost_ret (results_cell_tmp_row rfl _ _ _ _ _ _ _ rfl hZ9 Tryz.underlying27 rfl (by kernel_rfl)) rfl ?_
    exact ⟨⟨_, [], rfl, rfl, fun x hx => by simp at hx, zeroReg_owns _ _⟩, HB2.out.grown hG9 HB2.out.size (fun q hq => by obtain rfl := Option.some.inj hq; exact Nat.le_succ _)⟩
  · obtain rfl : cr = 0 := Decidable.not_not.1 hcr0
    have HCP2 : Hid (∀ W, Below w.heap.size w W → Calls Tryz.prog 91 #[.agg #[.int .i64 K.major, .int .i64 K.minor, .slice qe lk je, .slice a l.length cap']] W fun e w' => (∃ v' l', e = .returned v' ∧ l'.map PV.plc = l.map PV.plc ∧ OwnsReg W.heap.size w' v' K l') ∧ Below W.heap.size W w') := HCP.out (by first | rfl | trivial)
    have HDD : Hid (∀ (W : World) (Bp : Nat) (ve vl : Value) (l0 : List PV), Below w.heap.size w W → w.heap.size ≤ Bp → PackAt w.heap.size Bp W 77 K ve vl l0 → l0.map PV.plc = l.map PV.plc → (∀ x ∈ l0, x.mod.fits) → Lens l0 → l0.length ≤ 8 →
      Calls Tryz.prog Kf #[.pointer (some ⟨Bp, 0, none⟩), cap] W fun e w' => e = .returned (.int .i64 D.2) ∧ Did w.heap.size Bp K ve W w' D) := HDO.out (by first | rfl | trivial)
    have HC3 : Hid (∀ (Bp : Nat) (ve vl' : Value) (l' : List PV) (W : World), PackAt w.heap.size Bp W 77 K ve vl' l' → Lens l' → (∀ x ∈ l', x.mod.fits) → l'.map PV.plc = D.1 → Calls Tryz.prog 68 #[.agg #[.int .i64 K.major, .int .i64 K.minor, ve, vl']] W fun e w' => e = .returned (.int .i64 c2) ∧ Below W.heap.size W w') := HC2.out (by first | rfl | trivial)
    have HLN2 : Hid (∀ l0 : List PV, l0.map PV.plc = l.map PV.plc → Lens l0 ∧ l0.length ≤ 8) := HLN.out (by first | rfl | trivial)
    have c0 := CellsAt.cell HCC2.out 0
    have c1 := CellsAt.cell HCC2.out 1
    have c2' := CellsAt.cell HCC2.out 2
    have c3 := CellsAt.cell HCC2.out 3
    have lc := CellsAt.lt HCC2.out
    simp at c0 c1 c2' c3
    clear HCP HDO HC2 HLN hcr0
    go_wp2_with fail
    refine (HCP2.out _ HB2.out).mono ?_
    rintro e w3 ⟨⟨v3, l0, rfl, hpl, ho⟩, b3⟩
    obtain ⟨ve3, vl3, rfl, oe3, ol3, op3⟩ := ho
    obtain ⟨ea, ec, rfl⟩ := own_form oe3
    obtain ⟨pa, pc, rfl⟩ := own_form ol3
    have LB : w.heap.size ≤ w2.heap.size := HB2.out.size
    have LZ : w.heap.size + 1 < w3.heap.size := Nat.lt_of_lt_of_le HZ2.out.lt b3.size
    have hB4 : Below w.heap.size w (w3.alloc (.cells #[.int .i64 K.major, .int .i64 K.minor, .slice ea K.exps.length ec, .slice pa l0.length pc] 77)) := by
      have := HB2.out.trans (b3.mono HB2.out.size)
      exact this.alloc this.size _
    have HB4 : Hid (Below w.heap.size w (w3.alloc (.cells #[.int .i64 K.major, .int .i64 K.minor, .slice ea K.exps.length ec, .slice pa l0.length pc] 77))) := hB4
    have HZ4 : Hid (CellsAt (w3.alloc (.cells #[.int .i64 K.major, .int .i64 K.minor, .slice ea K.exps.length ec, .slice pa l0.length pc] 77)) (w.heap.size + 1) 27 #[.int .i64 0, .int .i64 0, .slice none 0 0, .slice none 0 0]) := (HZ2.out.below b3 HZ2.out.lt).kept (World.grownBy_alloc _ _ none) (by simp)
    have HP4 : Hid (PackAt w.heap.size w3.heap.size (w3.alloc (.cells #[.int .i64 K.major, .int .i64 K.minor, .slice ea K.exps.length ec, .slice pa l0.length pc] 77)) 77 K (.slice ea K.exps.length ec) (.slice pa l0.length pc) l0) := ⟨CellsAt.new _ _ _, (own_down oe3 LB).alloc _, (own_down ol3 LB).alloc _, fun x hx => ((op3 x hx).lower LB).below ((Below.refl _ _).alloc (Nat.le_refl _) _)⟩
    have HPL : Hid (l0.map PV.plc = l.map PV.plc) := hpl
    have HFT : Hid (∀ x ∈ l0, x.mod.fits) := fits_mods (mods_plc hpl) HFT0.out
    clear b3 HB2 HZ2 HCC2 HCP2 HFT0 oe3 ol3 op3 hpl c0 c1 c2' c3 lc hB4
    generalize hkl : K.exps.length = ke at *
    have LW3 : w.heap.size ≤ w3.heap.size := by omega
    go_wp2_with fail
    generalize (w3.alloc (.cells #[.int .i64 K.major, .int .i64 K.minor, .slice ea ke ec, .slice pa l0.length pc] 77)) = w4 at *
    generalize w3.heap.size = Bp at *
    refine (HDD.out w4 Bp _ _ l0 HB4.out LW3 HP4.out HPL.out HFT.out (HLN2.out l0 HPL.out).1 (HLN2.out l0 HPL.out).2).mono ?_
    rintro e w5 ⟨rfl, hk5, hd5⟩
    have HZ5 : Hid (CellsAt w5 (w.heap.size + 1) 27 #[.int .i64 0, .int .i64 0, .slice none 0 0, .slice none 0 0]) := hk5.2 _ _ HZ4.out.lt HZ4.out
    have HB5 : Hid (Below w.heap.size w w5) := HB4.out.trans hk5.1
    have HD5 : Hid (D.2 = 0 → ∃ vl' l', l'.map PV.plc = D.1 ∧ (∀ x ∈ l', x.mod.fits) ∧ Lens l' ∧ PackAt w.heap.size Bp w5 77 K (.slice ea ke ec) vl' l') := hd5
    clear HDD HB4 HZ4 HP4 HFT HPL HLN2 hk5 hd5
    have hkey := HKEY.out
    rcases hkey with ⟨h, _⟩ | ⟨_, hd, hpr⟩ | ⟨_, hd, hc, hpr⟩ | ⟨_, hd, hc, hpr⟩
    · exact absurd rfl h
    · injection hpr with h1 h2
      injection h1 with h1 h3
      subst h1 h3
      rw [← h2] at hd ⊢
      have hd' : (pe != 0) = true := by simpa using hd
      have z0 := CellsAt.cell HZ5.out 0
      have z1 := CellsAt.cell HZ5.out 1
      have z2 := CellsAt.cell HZ5.out 2
      have z3 := CellsAt.cell HZ5.out 3
      have f0 := CellsAt.frozen HZ5.out 0
      have f1 := CellsAt.frozen HZ5.out 1
      have f2 := CellsAt.frozen HZ5.out 2
      have f3 := CellsAt.frozen HZ5.out 3
      have lz := CellsAt.lt HZ5.out
      simp at z0 z1 z2 z3
      clear hd HD5 HC3 HKEY h2 hkl
      go_wp2
      have hZ9 := sets4 HZ5.out (.int .i64 0) (.int .i64 0) (.slice none 0 0) (.slice none 0 0)
      have hG9 := sets4_grown w5 (w.heap.size + 1) (.int .i64 0) (.int .i64 0) (.slice none 0 0) (.slice none 0 0)
      refine bodyPost_ret (results_cell_tmp_row rfl _ _ _ _ _ _ _ rfl hZ9 Tryz.underlying27 rfl (by kernel_rfl)) rfl ?_
      exact ⟨⟨_, [], rfl, rfl, fun x hx => by simp at hx, zeroReg_owns _ _⟩, HB5.out.grown hG9 HB5.out.size (fun q hq => by obtain rfl := Option.some.inj hq; exact Nat.le_succ _)⟩
    all_goals
      obtain ⟨vl', l', hpl, hft, hln, hp5⟩ := HD5.out hd
      rw [hd]
      obtain ⟨na, nc, rfl⟩ := own_form hp5.2.2.1
      have HP5 : Hid (PackAt w.heap.size Bp w5 77 K (.slice ea ke ec) (.slice na l'.length nc) l') := hp5
      have HLN5 : Hid (Lens l') := hln
      have HFT5 : Hid (∀ x ∈ l', x.mod.fits) := hft
      have HPL5 : Hid (l'.map PV.plc = D.1) := hpl
      have p0 := CellsAt.cell hp5.1 0
      have p1 := CellsAt.cell hp5.1 1
      have p2 := CellsAt.cell hp5.1 2
      have p3 := CellsAt.cell hp5.1 3
      have lp := CellsAt.lt hp5.1
      simp at p0 p1 p2 p3
      clear HD5 HKEY hd hp5 hln hft hpl
      injection hpr with h1 h2
      injection h1 with h1 h3
      replace h1 := h1.symm
      replace h2 := h2.symm
      subst h1 h2
      have HPR : Hid (PL = _) := h3
      clear h3
      go_wp2_with fail
      refine (HC3.out Bp _ _ l' w5 HP5.out HLN5.out HFT5.out HPL5.out).mono ?_
      clear p0 p1 p2 p3 lp
      rintro e w6 ⟨rfl, b6⟩
      have HB6 : Hid (Below w.heap.size w w6) := HB5.out.trans (b6.mono HB5.out.size)
      have HZ6 : Hid (CellsAt w6 (w.heap.size + 1) 27 #[.int .i64 0, .int .i64 0, .slice none 0 0, .slice none 0 0]) := HZ5.out.below b6 HZ5.out.lt
      have HP6 : Hid (PackAt w.heap.size Bp w6 77 K (.slice ea ke ec) (.slice na l'.length nc) l') := HP5.out.below b6
      clear b6 HB5 HZ5 HP5 HC3
      have z0 := CellsAt.cell HZ6.out 0
      have z1 := CellsAt.cell HZ6.out 1
      have z2 := CellsAt.cell HZ6.out 2
      have z3 := CellsAt.cell HZ6.out 3
      have f0 := CellsAt.frozen HZ6.out 0
      have f1 := CellsAt.frozen HZ6.out 1
      have f2 := CellsAt.frozen HZ6.out 2
      have f3 := CellsAt.frozen HZ6.out 3
      have lz := CellsAt.lt HZ6.out
      simp at z0 z1 z2 z3
    · have hc' : (c2 != 0) = true := by simpa using hc
      obtain rfl := HPR.out
      clear hc HPR HP6 HLN5 HFT5 HPL5
      go_wp2
      have hZ9 := sets4 HZ6.out (.int .i64 0) (.int .i64 0) (.slice none 0 0) (.slice none 0 0)
      have hG9 := sets4_grown w6 (w.heap.size + 1) (.int .i64 0) (.int .i64 0) (.slice none 0 0) (.slice none 0 0)
      refine bodyPost_ret (results_cell_tmp_row rfl _ _ _ _ _ _ _ rfl hZ9 Tryz.underlying27 rfl (by kernel_rfl)) rfl ?_
      exact ⟨⟨_, [], rfl, rfl, fun x hx => by simp at hx, zeroReg_owns _ _⟩, HB6.out.grown hG9 HB6.out.size (fun q hq => by obtain rfl := Option.some.inj hq; exact Nat.le_succ _)⟩
    · subst hc
      have p0 := CellsAt.cell HP6.out.1 0
      have p1 := CellsAt.cell HP6.out.1 1
      have p2 := CellsAt.cell HP6.out.1 2
      have p3 := CellsAt.cell HP6.out.1 3
      have lp := CellsAt.lt HP6.out.1
      simp at p0 p1 p2 p3
      go_wp2
      have hZ9 := sets4 HZ6.out (.int .i64 K.major) (.int .i64 K.minor) (.slice ea ke ec) (.slice na l'.length nc)
      have hG9 := sets4_grown w6 (w.heap.size + 1) (.int .i64 K.major) (.int .i64 K.minor) (.slice ea ke ec) (.slice na l'.length nc)
      refine bodyPost_ret (results_cell_tmp_row rfl _ _ _ _ _ _ _ rfl hZ9 Tryz.underlying27 rfl (by kernel_rfl)) rfl ?_
      refine ⟨⟨_, l', rfl, HPL5.out.trans HPR.out.symm, HFT5.out, _, _, rfl, ?_, ?_, fun x hx => (HP6.out.2.2.2 x hx).beCell HZ6.out (by decide) (by decide) (by decide) hG9⟩, HB6.out.grown hG9 HB6.out.size (fun q hq => by obtain rfl := Option.some.inj hq; exact Nat.le_succ _)⟩
      · exact HP6.out.2.1.kept hG9 (.inr (own_ne_cells HP6.out.2.1 HZ6.out (by decide)))
      · exact HP6.out.2.2.1.kept hG9 (.inr (own_ne_cells HP6.out.2.2.1 HZ6.out (by decide)))

end Go.Proofs.YtlpnfbpgnfappaaGreat
