/- Texts that are laid together. -/
import Derived.Test.YtlpnfbpgnfappaaGreatMrgF
import Derived.Test.YtlpnfbpgnfappaaGreatMrgC
import Derived.Laws.EntriesVeiled
import Derived.Test.YtlpnfbpgnfappaaGreatProg
import Derived.Deep.RegionHeld3
import Derived.Deep.AppendLies

/- The contract of placed.Wrong: nothing more is asked of a module, or one thing more. -/
namespace Go.Proofs.YtlpnfbpgnfappaaGreat
open Go.RowKit Go.PlainAid

set_option maxRecDepth 100000

theorem plc_new (wr : World) (x : PV) (t : TypeId) : CellsAt (wr.alloc (.cells #[.string x.mod.name, .int .i64 x.mod.major, .int .i64 x.mod.minor, .string x.mod.text, x.ve, x.vi, x.vp, .int .i64 x.first] t)) wr.heap.size t #[.string x.mod.name, .int .i64 x.mod.major, .int .i64 x.mod.minor, .string x.mod.text, x.ve, x.vi, x.vp, .int .i64 x.first] := CellsAt.new _ _ _

set_option maxHeartbeats 2000000 in
theorem placedWrong_nil (l : List PV) (v : Value) (w : World) (hrow : IsPlcs w.heap.size w v l) (hfit : ∀ x ∈ l, x.mod.fits) :
    Calls Tryz.prog 121 #[v, .slice none 0 0] w fun e w' => e = .returned (.int .i64 (if 8 < l.length then 2 else chkBy (fun _ => 0) (l.map PV.plc))) ∧ Below w.heap.size w w' := by
  have HC0 : Hid (∀ x ∈ l, ∀ W, Below w.heap.size w W → Calls Tryz.prog 64 #[x.modV] W fun e w' => e = .returned (.int .i64 (chkMod x.mod)) ∧ Below W.heap.size W w') := fun x hx W hb => check_any x.mod x.modV W (((hrow.2 x hx).below hb).more hb.size |>.isMod) (hfit x hx)
  have hat := hrow.2
  obtain ⟨⟨a, cap, rfl, _, hrow⟩, _⟩ := hrow
  by_cases h8 : 8 < l.length
  · rw [if_pos h8]
    have h8' : (8 : Int) < l.length := by omega
    clear HC0 hat hrow
    go_enter Tryz.func121, Tryz.ntmps121
    go_wp2
    go_ret
    exact ⟨rfl, Below.refl _ _⟩
  · rw [if_neg h8]
    have h8' : decide ((8 : Int) < l.length) = false := decide_eq_false (by omega)
    have h8'' : decide (8 < l.length) = false := decide_eq_false (by omega)
    go_enter Tryz.func121, Tryz.ntmps121
    go_wp2_with fail
    go_loopw [16] (fun i wr => ∃ (k : Nat), k ≤ l.length ∧ i = .int .i64 k ∧ Hid (chkBy (fun _ => 0) (l.map PV.plc) = chkBy (fun _ => 0) ((l.drop k).map PV.plc)) ∧ Below w.heap.size w wr) (fun i _ => l.length - (intOf i).toNat)
    case atStart => exact ⟨0, Nat.zero_le _, rfl, by show chkBy _ (l.map PV.plc) = chkBy _ ((l.drop 0).map PV.plc); rfl, Below.refl _ _⟩
    case round =>
      obtain ⟨k, hk, rfl, HC, B⟩ := hrel
      by_cases hlt : k < l.length
      · obtain ⟨x, hx⟩ : ∃ x, l[k]? = some x := ⟨_, List.getElem?_eq_getElem hlt⟩
        rcases hrow with h | ⟨b, off, rfl, hbn, hcells⟩
        · subst h; simp at hlt
        have key := chkBy_step (fun _ => 0) x.plc ((l.drop (k + 1)).map PV.plc)
        have HR : Hid (chkBy (fun _ => 0) (l.map PV.plc) = chkBy (fun _ => 0) (x.plc :: (l.drop (k + 1)).map PV.plc)) := by
          show chkBy _ (l.map PV.plc) = _
          rw [HC.out, drop_at hx]; rfl
        have HM : Hid (∀ W, Below w.heap.size w W → Calls Tryz.prog 64 #[x.modV] W fun e w' => e = .returned (.int .i64 (chkMod x.mod)) ∧ Below W.heap.size W w') := HC0.out x (List.mem_of_getElem? hx)
        obtain ⟨⟨pe, ke, e4, _⟩, ⟨pi, ki, e5, _⟩, ⟨pp, kp, e6, _⟩⟩ := hat x (List.mem_of_getElem? hx)
        obtain ⟨⟨N, ma, mi, T, es, is, ps⟩, ve, vi, vp, fi⟩ := x
        dsimp only at e4 e5 e6
        subst e4 e5 e6
        have c0 := (B.cell (p := ⟨b, off + k * 8 + 0, none⟩) hbn).trans (hcells k _ hx 0 (by omega))
        have c1 := (B.cell (p := ⟨b, off + k * 8 + 1, none⟩) hbn).trans (hcells k _ hx 1 (by omega))
        have c2 := (B.cell (p := ⟨b, off + k * 8 + 2, none⟩) hbn).trans (hcells k _ hx 2 (by omega))
        have c3 := (B.cell (p := ⟨b, off + k * 8 + 3, none⟩) hbn).trans (hcells k _ hx 3 (by omega))
        have c4 := (B.cell (p := ⟨b, off + k * 8 + 4, none⟩) hbn).trans (hcells k _ hx 4 (by omega))
        have c5 := (B.cell (p := ⟨b, off + k * 8 + 5, none⟩) hbn).trans (hcells k _ hx 5 (by omega))
        have c6 := (B.cell (p := ⟨b, off + k * 8 + 6, none⟩) hbn).trans (hcells k _ hx 6 (by omega))
        have c7 := (B.cell (p := ⟨b, off + k * 8 + 7, none⟩) hbn).trans (hcells k _ hx 7 (by omega))
        dsimp only [PV.cell, PV.modV] at c0 c1 c2 c3 c4 c5 c6 c7 HM
        rw [Nat.add_zero] at c0
        clear HC HC0 hcells hx hat
        dsimp only [PV.plc] at key HR
        generalize chkMod ⟨N, ma, mi, T, es, is, ps⟩ = cm at key HM
        generalize chkBy (fun _ => 0) (⟨⟨N, ma, mi, T, es, is, ps⟩, fi⟩ :: (l.drop (k + 1)).map PV.plc) = R at key HR
        generalize es.length = le at *
        generalize is.length = li at *
        generalize ps.length = lp at *
        have HBB : Hid (Below w.heap.size w (wr.alloc (.cells #[.string N, .int .i64 ma, .int .i64 mi, .string T, .slice pe le ke, .slice pi li ki, .slice pp lp kp, .int .i64 fi] 57))) := B.alloc B.size _
        go_wp2_with fail
        refine (HM.out _ HBB.out).mono ?_
        rintro e w2 ⟨rfl, b2⟩
        have B2 := HBB.out.trans (b2.mono HBB.out.size)
        clear HBB b2 c0 c1 c2 c3 c4 c5 c6 c7
        rcases key with ⟨h1, rfl⟩ | ⟨rfl, h2, _⟩ | ⟨rfl, _, rfl⟩
        · have h1' : (R != 0) = true := by simpa using h1
          go_wp2
          go_ret
          exact ⟨by rw [HR.out]; rfl, B2⟩
        · exact absurd rfl h2
        · go_wp2_with fail
          go_loopw [28] (fun j wq => j = .int .i64 0 ∧ Below w.heap.size w wq) (fun _ _ => 0)
          case atStart => exact ⟨rfl, B2⟩
          case round =>
            obtain ⟨rfl, B3⟩ := hrel
            go_wp2
            exact ⟨⟨k + 1, by omega, by go_num, HR.out, B3⟩, by simp [intOf]; omega⟩
      · obtain rfl : k = l.length := by omega
        have HZ : Hid (chkBy (fun _ => 0) (l.map PV.plc) = 0) := by
          show chkBy _ (l.map PV.plc) = 0
          rw [HC.out, List.drop_length]; rfl
        go_wp2
        go_ret
        exact ⟨by rw [HZ.out]; rfl, B⟩

set_option maxHeartbeats 4000000 in
theorem placedWrong_one (l : List PV) (v : Value) (b1 : Nat) (K : FuncId) (q : Plc → Int) (w : World) (hrow : IsPlcs w.heap.size w v l) (hfit : ∀ x ∈ l, x.mod.fits)
    (hb1 : b1 < w.heap.size) (hcell : w.cell? ⟨b1, 0, none⟩ = some (.func (.func K) #[] #[]))
    (hK : ∀ w x, Sem.run Tryz.prog (callFunc K #[x]) w = .ok (.enter K #[x]) w)
    (hq : ∀ x ∈ l, chkMod x.mod = 0 → ∀ W, Below w.heap.size w W → Calls Tryz.prog K #[x.val] W fun e w' => e = .returned (.int .i64 (q x.plc)) ∧ Below W.heap.size W w') :
    Calls Tryz.prog 121 #[v, .slice (some ⟨b1, 0, none⟩) 1 1] w fun e w' => e = .returned (.int .i64 (if 8 < l.length then 2 else chkBy q (l.map PV.plc))) ∧ Below w.heap.size w w' := by
  have HC0 : Hid (∀ x ∈ l, ∀ W, Below w.heap.size w W → Calls Tryz.prog 64 #[x.modV] W fun e w' => e = .returned (.int .i64 (chkMod x.mod)) ∧ Below W.heap.size W w') := fun x hx W hb => check_any x.mod x.modV W (((hrow.2 x hx).below hb).more hb.size |>.isMod) (hfit x hx)
  have HQ0 : Hid (∀ x ∈ l, chkMod x.mod = 0 → ∀ W, Below w.heap.size w W → Calls Tryz.prog K #[x.val] W fun e w' => e = .returned (.int .i64 (q x.plc)) ∧ Below W.heap.size W w') := hq
  clear hq
  have hat := hrow.2
  obtain ⟨⟨a, cap, rfl, _, hrow⟩, _⟩ := hrow
  by_cases h8 : 8 < l.length
  · rw [if_pos h8]
    have h8' : (8 : Int) < l.length := by omega
    clear HC0 HQ0 hat hrow
    go_enter Tryz.func121, Tryz.ntmps121
    go_wp2
    go_ret
    exact ⟨rfl, Below.refl _ _⟩
  · rw [if_neg h8]
    have h8' : decide ((8 : Int) < l.length) = false := decide_eq_false (by omega)
    have h8'' : decide (8 < l.length) = false := decide_eq_false (by omega)
    go_enter Tryz.func121, Tryz.ntmps121
    go_wp2_with fail
    go_loopw [16] (fun i wr => ∃ (k : Nat), k ≤ l.length ∧ i = .int .i64 k ∧ Hid (chkBy q (l.map PV.plc) = chkBy q ((l.drop k).map PV.plc)) ∧ Below w.heap.size w wr) (fun i _ => l.length - (intOf i).toNat)
    case atStart => exact ⟨0, Nat.zero_le _, rfl, by show chkBy q (l.map PV.plc) = chkBy q ((l.drop 0).map PV.plc); rfl, Below.refl _ _⟩
    case round =>
      obtain ⟨k, hk, rfl, HC, B⟩ := hrel
      by_cases hlt : k < l.length
      · obtain ⟨x, hx⟩ : ∃ x, l[k]? = some x := ⟨_, List.getElem?_eq_getElem hlt⟩
        rcases hrow with h | ⟨b, off, rfl, hbn, hcells⟩
        · subst h; simp at hlt
        have key := chkBy_step q x.plc ((l.drop (k + 1)).map PV.plc)
        have HR : Hid (chkBy q (l.map PV.plc) = chkBy q (x.plc :: (l.drop (k + 1)).map PV.plc)) := by
          show chkBy q (l.map PV.plc) = _
          rw [HC.out, drop_at hx]; rfl
        have HM : Hid (∀ W, Below w.heap.size w W → Calls Tryz.prog 64 #[x.modV] W fun e w' => e = .returned (.int .i64 (chkMod x.mod)) ∧ Below W.heap.size W w') := HC0.out x (List.mem_of_getElem? hx)
        have HQ : Hid (chkMod x.mod = 0 → ∀ W, Below w.heap.size w W → Calls Tryz.prog K #[x.val] W fun e w' => e = .returned (.int .i64 (q x.plc)) ∧ Below W.heap.size W w') := HQ0.out x (List.mem_of_getElem? hx)
        obtain ⟨⟨pe, ke, e4, _⟩, ⟨pi, ki, e5, _⟩, ⟨pp, kp, e6, _⟩⟩ := hat x (List.mem_of_getElem? hx)
        obtain ⟨⟨N, ma, mi, T, es, is, ps⟩, ve, vi, vp, fi⟩ := x
        dsimp only at e4 e5 e6
        subst e4 e5 e6
        have c0 := (B.cell (p := ⟨b, off + k * 8 + 0, none⟩) hbn).trans (hcells k _ hx 0 (by omega))
        have c1 := (B.cell (p := ⟨b, off + k * 8 + 1, none⟩) hbn).trans (hcells k _ hx 1 (by omega))
        have c2 := (B.cell (p := ⟨b, off + k * 8 + 2, none⟩) hbn).trans (hcells k _ hx 2 (by omega))
        have c3 := (B.cell (p := ⟨b, off + k * 8 + 3, none⟩) hbn).trans (hcells k _ hx 3 (by omega))
        have c4 := (B.cell (p := ⟨b, off + k * 8 + 4, none⟩) hbn).trans (hcells k _ hx 4 (by omega))
        have c5 := (B.cell (p := ⟨b, off + k * 8 + 5, none⟩) hbn).trans (hcells k _ hx 5 (by omega))
        have c6 := (B.cell (p := ⟨b, off + k * 8 + 6, none⟩) hbn).trans (hcells k _ hx 6 (by omega))
        have c7 := (B.cell (p := ⟨b, off + k * 8 + 7, none⟩) hbn).trans (hcells k _ hx 7 (by omega))
        dsimp only [PV.cell, PV.modV] at c0 c1 c2 c3 c4 c5 c6 c7 HM
        dsimp only [PV.val] at HQ
        rw [Nat.add_zero] at c0
        clear HC HC0 HQ0 hcells hx hat
        dsimp only [PV.plc] at key HR HQ
        generalize chkMod ⟨N, ma, mi, T, es, is, ps⟩ = cm at key HM HQ
        generalize chkBy q (⟨⟨N, ma, mi, T, es, is, ps⟩, fi⟩ :: (l.drop (k + 1)).map PV.plc) = R at key HR
        generalize q ⟨⟨N, ma, mi, T, es, is, ps⟩, fi⟩ = qx at key HQ
        generalize es.length = le at *
        generalize is.length = li at *
        generalize ps.length = lp at *
        have HBB : Hid (Below w.heap.size w (wr.alloc (.cells #[.string N, .int .i64 ma, .int .i64 mi, .string T, .slice pe le ke, .slice pi li ki, .slice pp lp kp, .int .i64 fi] 57))) := B.alloc B.size _
        have HCA : Hid (CellsAt (wr.alloc (.cells #[.string N, .int .i64 ma, .int .i64 mi, .string T, .slice pe le ke, .slice pi li ki, .slice pp lp kp, .int .i64 fi] 57)) wr.heap.size 57 #[.string N, .int .i64 ma, .int .i64 mi, .string T, .slice pe le ke, .slice pi li ki, .slice pp lp kp, .int .i64 fi]) := CellsAt.new _ _ _
        go_wp2_with fail
        refine (HM.out _ HBB.out).mono ?_
        rintro e w2 ⟨rfl, b2⟩
        have B2 := HBB.out.trans (b2.mono HBB.out.size)
        have C2 := HCA.out.below b2 HCA.out.lt
        clear HBB HCA b2 c0 c1 c2 c3 c4 c5 c6 c7
        rcases key with ⟨h1, rfl⟩ | ⟨rfl, h2, rfl⟩ | ⟨rfl, rfl, rfl⟩
        · have h1' : (R != 0) = true := by simpa using h1
          clear C2
          go_wp2
          go_ret
          exact ⟨by rw [HR.out]; rfl, B2⟩
        · go_wp2_with fail
          go_loopw [28] (fun j wq => j = .int .i64 0 ∧ Below w2.heap.size w2 wq) (fun j _ => 1 - (intOf j).toNat)
          case atStart => exact ⟨rfl, Below.refl _ _⟩
          case round =>
            obtain ⟨rfl, B3⟩ := hrel
            have BB := B2.trans (B3.mono B2.size)
            have C3 := C2.below B3 C2.lt
            have t0 := C3.cell 0
            have t1 := C3.cell 1
            have t2 := C3.cell 2
            have t3 := C3.cell 3
            have t4 := C3.cell 4
            have t5 := C3.cell 5
            have t6 := C3.cell 6
            have t7 := C3.cell 7
            simp at t0 t1 t2 t3 t4 t5 t6 t7
            have tf := (BB.cell (p := ⟨b1, 0, none⟩) hb1).trans hcell
            clear C2 C3
            go_wp2_with fail
            refine Calls.mono (HQ.out (by first | rfl | trivial) _ BB) ?_
            rintro e w4 ⟨rfl, b4⟩
            have B4 := BB.trans (b4.mono BB.size)
            have B34 := B3.trans (b4.mono B3.size)
            clear HQ t0 t1 t2 t3 t4 t5 t6 t7 tf b4
            have h2' : (R != 0) = true := by simpa using h2
            go_wp2
            go_ret
            exact ⟨by rw [HR.out]; rfl, B4⟩
        · go_wp2_with fail
          go_loopw [28] (fun j wq => ((j = .int .i64 0 ∧ True) ∨ (j = .int .i64 1 ∧ True)) ∧ Below w2.heap.size w2 wq) (fun j _ => 1 - (intOf j).toNat)
          case atStart => exact ⟨.inl ⟨rfl, trivial⟩, Below.refl _ _⟩
          case round =>
            obtain ⟨hj, B3⟩ := hrel
            rcases hj with ⟨rfl, _⟩ | ⟨rfl, _⟩
            · have BB := B2.trans (B3.mono B2.size)
              have C3 := C2.below B3 C2.lt
              have t0 := C3.cell 0
              have t1 := C3.cell 1
              have t2 := C3.cell 2
              have t3 := C3.cell 3
              have t4 := C3.cell 4
              have t5 := C3.cell 5
              have t6 := C3.cell 6
              have t7 := C3.cell 7
              simp at t0 t1 t2 t3 t4 t5 t6 t7
              have tf := (BB.cell (p := ⟨b1, 0, none⟩) hb1).trans hcell
              clear C2 C3
              go_wp2_with fail
              refine Calls.mono (HQ.out (by first | rfl | trivial) _ BB) ?_
              rintro e w4 ⟨rfl, b4⟩
              have B4 := BB.trans (b4.mono BB.size)
              have B34 := B3.trans (b4.mono B3.size)
              clear HQ t0 t1 t2 t3 t4 t5 t6 t7 tf b4
              go_wp2
              exact ⟨⟨.inr ⟨rfl, trivial⟩, B34⟩, by simp [intOf]⟩
            · have BB := B2.trans (B3.mono B2.size)
              clear C2
              go_wp2
              exact ⟨⟨k + 1, by omega, by go_num, HR.out, BB⟩, by simp [intOf]; omega⟩
      · obtain rfl : k = l.length := by omega
        have HZ : Hid (chkBy q (l.map PV.plc) = 0) := by
          show chkBy q (l.map PV.plc) = 0
          rw [HC.out, List.drop_length]; rfl
        go_wp2
        go_ret
        exact ⟨by rw [HZ.out]; rfl, B⟩

end Go.Proofs.YtlpnfbpgnfappaaGreat

/- The contracts of resolve.Kernel and wrongPlaces. -/
namespace Go.Proofs.YtlpnfbpgnfappaaGreat
open Go.RowKit Go.PlainAid

set_option maxRecDepth 100000

set_option maxHeartbeats 1000000 in
theorem kernel_any (K : Ker) (v : Value) (w : World) (hK : IsKer w.heap.size w v K) (hf : K.fits) :
    Calls Tryz.prog 72 #[v] w fun e w' => e = .returned (.int .i64 (chkKer K)) ∧ Below w.heap.size w w' := by
  obtain ⟨ve, rfl, hE⟩ := hK
  have HE : Hid (∀ w', Below w.heap.size w w' → K.exps.length ≤ 8 → Calls Tryz.prog 118 #[ve, .int .i64 4096] w' fun e w'' => e = .returned (.int .i64 (chkExps 4096 [] K.exps)) ∧ Below w'.heap.size w' w'') :=
    fun w' hb hl => wrongExports_any K.exps ve _ w' ((hE.below hb).more hb.size) hf hl
  obtain ⟨pe, ke, rfl, _, hE⟩ := hE
  clear hE hf
  have key : (isVer K.major K.minor = false ∧ chkKer K = 3) ∨ (isVer K.major K.minor = true ∧ 8 < K.exps.length ∧ chkKer K = 2) ∨ (isVer K.major K.minor = true ∧ K.exps.length ≤ 8 ∧ chkKer K = chkExps 4096 [] K.exps) := by
    unfold chkKer
    cases h1 : isVer K.major K.minor
    · exact .inl ⟨rfl, rfl⟩
    · by_cases h2 : 8 < K.exps.length
      · exact .inr (.inl ⟨rfl, h2, by rw [if_neg (by decide), if_pos h2]⟩)
      · exact .inr (.inr ⟨rfl, by omega, by rw [if_neg (by decide), if_neg h2]⟩)
  generalize chkKer K = R at *
  generalize chkExps 4096 [] K.exps = ce at *
  obtain ⟨ma, mi, es⟩ := K
  dsimp only at *
  generalize es.length = le at *
  have HW1 : Hid (Below w.heap.size w (w.alloc (.cells #[.int .i64 ma, .int .i64 mi, .slice pe le ke] 24))) := (Below.refl _ _).alloc (Nat.le_refl _) _
  rcases key with ⟨h1, rfl⟩ | ⟨h1, h2, rfl⟩ | ⟨h1, h2, rfl⟩
  · go_enter Tryz.func72, Tryz.ntmps72
    go_wp2_with (go_at_call 116; refine (isVersion_any _ _ _).mono ?_; rintro e w' ⟨rfl, rfl⟩)
    go_ret
    exact ⟨rfl, HW1.out⟩
  · have h2' : (8 : Int) < le := by omega
    go_enter Tryz.func72, Tryz.ntmps72
    go_wp2_with (go_at_call 116; refine (isVersion_any _ _ _).mono ?_; rintro e w' ⟨rfl, rfl⟩)
    go_ret
    exact ⟨rfl, HW1.out⟩
  · have h2' : decide ((8 : Int) < le) = false := decide_eq_false (by omega)
    have h2'' : decide (8 < le) = false := decide_eq_false (by omega)
    go_enter Tryz.func72, Tryz.ntmps72
    go_wp2_with (go_at_call 116; refine (isVersion_any _ _ _).mono ?_; rintro e w' ⟨rfl, rfl⟩)
    refine (HE.out _ HW1.out h2).mono ?_
    rintro e w1 ⟨rfl, b1⟩
    go_wp2
    go_ret
    exact ⟨rfl, HW1.out.trans (b1.mono HW1.out.size)⟩

set_option maxHeartbeats 1000000 in
theorem far_any (x : PV) (n₀ : Nat) (w : World) (hat : PlcAt n₀ w x) :
    Calls Tryz.prog 138 #[x.val] w fun e w' => e = .returned (.int .i64 (farErr x.plc)) ∧ Below w.heap.size w w' := by
  have key : (x.first < 0 ∧ farErr x.plc = 3) ∨ (0 ≤ x.first ∧ 15 < x.first ∧ farErr x.plc = 3) ∨ (0 ≤ x.first ∧ x.first ≤ 15 ∧ farErr x.plc = 0) := by
    unfold farErr PV.plc
    dsimp only
    by_cases g1 : x.first < 0
    · exact .inl ⟨g1, by rw [betw_false (.inl g1), if_pos rfl]⟩
    by_cases g2 : 15 < x.first
    · exact .inr (.inl ⟨by omega, g2, by rw [betw_false (.inr g2), if_pos rfl]⟩)
    · exact .inr (.inr ⟨by omega, by omega, by rw [betw_true (by omega) (by omega), if_neg (by decide)]⟩)
  generalize farErr x.plc = oe at *
  unfold PV.val
  obtain ⟨⟨pe, ke, e4, _⟩, ⟨pi, ki, e5, _⟩, ⟨pp, kp, e6, _⟩⟩ := hat
  obtain ⟨⟨N, ma, mi, T, es, is, ps⟩, ve, vi, vp, fi⟩ := x
  dsimp only at *
  subst e4 e5 e6
  generalize es.length = le at *
  generalize is.length = li at *
  generalize ps.length = lp at *
  have B2 : Hid (Below w.heap.size w (w.alloc (.cells #[.string N, .int .i64 ma, .int .i64 mi, .string T, .slice pe le ke, .slice pi li ki, .slice pp lp kp, .int .i64 fi] 57))) := (Below.refl _ _).alloc (Nat.le_refl _) _
  rcases key with ⟨h1, rfl⟩ | ⟨h1, h2, rfl⟩ | ⟨h1, h2, rfl⟩
  · go_enter Tryz.func138, Tryz.ntmps138
    go_wp2
    go_ret
    exact ⟨rfl, B2.out⟩
  · have h1' : decide (fi < 0) = false := decide_eq_false (by omega)
    have h2' : (16 : Int) ≤ fi := by omega
    go_enter Tryz.func138, Tryz.ntmps138
    go_wp2
    go_ret
    exact ⟨rfl, B2.out⟩
  · have h1' : decide (fi < 0) = false := decide_eq_false (by omega)
    have h2' : decide ((16 : Int) ≤ fi) = false := decide_eq_false (by omega)
    go_enter Tryz.func138, Tryz.ntmps138
    go_wp2
    go_ret
    exact ⟨rfl, B2.out⟩

set_option maxHeartbeats 2000000 in
theorem wrongPlaces_any (K : Ker) (vk : Value) (l : List PV) (v : Value) (w : World) (hK : IsKer w.heap.size w vk K) (hf : K.fits) (hrow : IsPlcs w.heap.size w v l) (hfit : ∀ x ∈ l, x.mod.fits) :
    Calls Tryz.prog 86 #[vk, v] w fun e w' => e = .returned (.int .i64 (chkFind K (l.map PV.plc))) ∧ Below w.heap.size w w' := by
  have HK : Hid (∀ w', Below w.heap.size w w' → Calls Tryz.prog 72 #[vk] w' fun e w'' => e = .returned (.int .i64 (chkKer K)) ∧ Below w'.heap.size w' w'') := fun w' hb => kernel_any K vk w' ((hK.below hb).more hb.size) hf
  have HP : Hid (∀ (W : World) (t : TypeId), Below w.heap.size w W → Calls Tryz.prog 121 #[v, .slice (some ⟨W.heap.size, 0, none⟩) 1 1] (W.alloc (.cells #[.func (.func 138) #[] #[]] t)) fun e w' => e = .returned (.int .i64 (chkPlaced (l.map PV.plc))) ∧ Below (W.heap.size + 1) (W.alloc (.cells #[.func (.func 138) #[] #[]] t)) w') := by
    intro W t hb
    have hb1 : Below w.heap.size w (W.alloc (.cells #[.func (.func 138) #[] #[]] t)) := hb.alloc hb.size _
    have := placedWrong_one l v W.heap.size 138 farErr (W.alloc (.cells #[.func (.func 138) #[] #[]] t)) ((hrow.below hb1).more hb1.size) hfit (by simp) (by simp) (fun w x => enters_of Tryz.func138 (by kernel_rfl) rfl _ w) (fun x hx _ W' hb' => far_any x _ W' (((hrow.2 x hx).below hb1).more hb1.size |>.below hb'))
    refine this.mono ?_
    rintro e w' ⟨rfl, b⟩
    refine ⟨?_, by simpa using b⟩
    unfold chkPlaced
    rw [chkPls_by, List.length_map]
  obtain ⟨vke, ek, hE⟩ := hK
  obtain ⟨⟨a, cap, rfl, _, hrow⟩, _⟩ := hrow
  have key : (chkKer K ≠ 0 ∧ chkFind K (l.map PV.plc) = chkKer K) ∨ (chkKer K = 0 ∧ chkFind K (l.map PV.plc) = chkPlaced (l.map PV.plc)) := by
    unfold chkFind
    by_cases h : chkKer K = 0
    · exact .inr ⟨h, by rw [if_neg (by omega)]⟩
    · exact .inl ⟨h, by rw [if_pos h]⟩
  generalize chkFind K (l.map PV.plc) = R at *
  generalize chkPlaced (l.map PV.plc) = cp at *
  generalize chkKer K = ck at *
  subst ek
  clear hrow
  obtain ⟨pe, ke, rfl, _, _⟩ := hE
  have HW1 : Hid (Below w.heap.size w (w.alloc (.cells #[.int .i64 K.major, .int .i64 K.minor, .slice pe K.exps.length ke] 24))) := (Below.refl _ _).alloc (Nat.le_refl _) _
  go_enter Tryz.func86, Tryz.ntmps86
  go_wp2_with fail
  refine (HK.out _ HW1.out).mono ?_
  rintro e w1 ⟨rfl, b1⟩
  have B1 := HW1.out.trans (b1.mono HW1.out.size)
  clear HW1 b1 HK
  rcases key with ⟨h0, rfl⟩ | ⟨rfl, rfl⟩
  · have h0' : (R != 0) = true := by simpa using h0
    clear HP
    go_wp2
    go_ret
    exact ⟨rfl, B1⟩
  · go_wp2_with fail
    refine (HP.out w1 _ B1).mono ?_
    rintro e w2 ⟨rfl, b2⟩
    have B2 := (B1.alloc B1.size _).trans (b2.mono (by have := B1.size; omega))
    clear HP b2
    go_wp2
    go_ret
    exact ⟨rfl, B2⟩

end Go.Proofs.YtlpnfbpgnfappaaGreat

/- A region that draws its order, and whose last operation writes what was read before: loads may be taken first under a condition that need not hold behind the last. -/
namespace Go.Proofs.YtlpnfbpgnfappaaGreat


section
variable {P : Program} {ops : Array Oper} {Q : Exit → Act → World → Prop} {md : Region.Mode} {S : World → Prop}

/-- Whatever order is picked; S holds behind each operation but number x. -/
def wpL (P : Program) (md : Region.Mode) (ops : Array Oper) (Q : Exit → Act → World → Prop) (S : World → Prop) (x : Nat) : Nat → Array Bool → Act → World → Prop
  | 0, listed, a, w => Region.ready md ops listed = [] ∧ Q .normal a w
  | fuel + 1, listed, a, w =>
    (Region.ready md ops listed = [] → Q .normal a w) ∧
    ∀ i ∈ Region.ready md ops listed, wpOp P ops Q i (fun a' w' => (i ≠ x → S w') ∧ wpL P md ops Q S x fuel (listed.setIfInBounds i true) a' w') a w

theorem wpAny_of_L {x : Nat} : ∀ (fuel : Nat) (listed : Array Bool) (a : Act) (w : World), wpL P md ops Q S x fuel listed a w → wpAny P md ops Q fuel listed a w
  | 0, _, _, _, h => h
  | fuel + 1, _, _, _, h => ⟨h.1, fun i hi => wpOp_mono (fun a' w' h' => wpAny_of_L fuel _ a' w' h'.2) (h.2 i hi)⟩

/-- What has come up has come up behind all that it waits for. -/
def Closed (md : Region.Mode) (ops : Array Oper) (listed : Array Bool) : Prop := ∀ j o, listed.getD j false = true → ops[j]? = some o → ∀ e ∈ o.after, Region.binds md e = true → listed.getD e.on false = true

theorem Closed.set {listed : Array Bool} {j : Nat} (h : Closed md ops listed) (hj : j ∈ Region.ready md ops listed) : Closed md ops (listed.setIfInBounds j true) := by
  intro k o hk ho e he hb
  obtain ⟨_, oj, hoj, hall⟩ := mem_ready.1 hj
  by_cases hjk : j = k
  · subst hjk
    rw [hoj] at ho
    injection ho with ho
    subst ho
    exact getD_set_true (hall e he hb)
  · rw [getD_set_ne false hjk] at hk
    exact getD_set_true (h k o hk ho e he hb)

/-- Each operation ahead of x is waited for by a later one, up to x. -/
def Covers (md : Region.Mode) (ops : Array Oper) (x : Nat) : Prop := ∀ k, k < x → ∃ j o e, k < j ∧ j ≤ x ∧ ops[j]? = some o ∧ e ∈ o.after ∧ Region.binds md e = true ∧ e.on = k

theorem covers_all {x : Nat} {listed : Array Bool} (hc : Covers md ops x) (hl : Closed md ops listed) (hx : x ∈ Region.ready md ops listed) : ∀ k, k < x → listed.getD k false = true := by
  obtain ⟨_, ox, hox, hall⟩ := mem_ready.1 hx
  have key : ∀ m k, x - k ≤ m → k < x → listed.getD k false = true := by
    intro m
    induction m with
    | zero => intro k h1 h2; omega
    | succ m ih =>
      intro k h1 h2
      obtain ⟨j, o, e, h3, h4, h5, h6, h7, rfl⟩ := hc k h2
      by_cases hjx : j = x
      · subst hjx
        rw [hox] at h5
        injection h5 with h5
        subst h5
        exact hall e h6 h7
      · exact hl j o (ih j (by omega) (by omega)) h5 e h6 h7
  exact fun k hk => key (x - k) k (Nat.le_refl _) hk

theorem wpL_first {i x : Nat} {oi : Oper} {v : Value} (hi : ops[i]? = some oi) (hsel : ∀ (j : Nat) (o : Oper) cs b, ops[j]? = some o → o.op ≠ .select cs b)
    (hQ : ∀ c a w, Q (.panic c) (a.put oi.dst v) w → Q (.panic c) a w) (hc : Covers md ops x) (hix : i < x) :
    ∀ (fuel : Nat) (listed : Array Bool) (a : Act) (w : World),
      (∀ j oj, ops[j]? = some oj → j ≠ i → listed.getD j true = false → (∀ e ∈ oj.after, Region.binds md e = true → e.on ≠ i) → oi.apart ops oj = true) →
      Closed md ops listed → i ∈ Region.ready md ops listed → YieldsIf P ops S oi v a → S w →
      wpL P md ops Q S x fuel (listed.setIfInBounds i true) (a.put oi.dst v) w → wpL P md ops Q S x (fuel + 1) listed a w := by
  intro fuel
  induction fuel with
  | zero =>
    intro listed a w _ _ hr hy hS H
    refine ⟨fun h => (by rw [h] at hr; cases hr), fun j hj => ?_⟩
    by_cases hji : j = i
    · subst hji; exact hy.wpOp hi hS ⟨fun _ => hS, H⟩
    · have := ready_mono hj hji
      rw [H.1] at this
      cases this
  | succ fuel ih =>
    intro listed a w hfree hcl hr hy hS H
    refine ⟨fun h => (by rw [h] at hr; cases hr), fun j hj => ?_⟩
    by_cases hji : j = i
    · subst hji; exact hy.wpOp hi hS ⟨fun _ => hS, H⟩
    · have hi0 : listed.getD i true = false := (mem_ready.1 hr).1
      have hi1 : listed.getD i false = false := by
        rcases Nat.lt_or_ge i listed.size with h' | h'
        · simpa [h'] using hi0
        · simp [Array.getElem?_eq_none h'] at hi0
      have hjx : j ≠ x := fun e => by
        subst e
        have := covers_all hc hcl hj i hix
        rw [hi1] at this
        cases this
      have h1 := H.2 j (ready_mono hj hji)
      obtain ⟨hjun, oj, hoj, hall⟩ := mem_ready.1 hj
      have hnot : ∀ e ∈ oj.after, Region.binds md e = true → e.on ≠ i := fun e he hb heq => by
        have h2 := hall e he hb
        rw [heq, hi1] at h2
        cases h2
      have h2 := wpOp_putIf hoj (hfree j oj hoj hji hjun hnot) (fun cs b => hsel i oi cs b hi) (fun cs b => hsel j oj cs b hoj) hQ hy h1
      have hfree' : ∀ k ok, ops[k]? = some ok → k ≠ i → (listed.setIfInBounds j true).getD k true = false →
          (∀ e ∈ ok.after, Region.binds md e = true → e.on ≠ i) → oi.apart ops ok = true := fun k ok hk hki hun hno => by
        refine hfree k ok hk hki ?_ hno
        by_cases hjk : j = k
        · subst hjk; exact hjun
        · rw [getD_set_ne true hjk] at hun; exact hun
      refine wpOp_mono (fun a' w' h3 => ⟨h3.2.1, ih (listed.setIfInBounds j true) a' w' hfree' (hcl.set hj) (ready_mono hr (Ne.symm hji)) h3.1 (h3.2.1 hjx) ?_⟩) h2
      rw [Array.setIfInBounds_comm _ _ hji]
      exact h3.2.2

def closedB (md : Region.Mode) (ops : Array Oper) (listed : Array Bool) : Bool :=
  (List.range listed.size).all fun j => !listed.getD j false || ((ops[j]?).map (·.after.all fun e => !Region.binds md e || listed.getD e.on false)).getD true
theorem closedB_spec {listed : Array Bool} (h : closedB md ops listed = true) : Closed md ops listed := by
  intro j o hj ho e he hb
  have hlt : j < listed.size := by
    rcases Nat.lt_or_ge j listed.size with h' | h'
    · exact h'
    · simp [Array.getElem?_eq_none h'] at hj
  simp only [closedB, List.all_eq_true, List.mem_range] at h
  have h1 := h j hlt
  rw [hj, ho] at h1
  simp only [Bool.not_true, Bool.false_or, Option.map_some, Option.getD_some, Array.all_eq_true_iff_forall_mem] at h1
  have h2 := h1 e he
  rw [hb] at h2
  simpa using h2
def coversB (md : Region.Mode) (ops : Array Oper) (x : Nat) : Bool :=
  (List.range x).all fun k => (List.range (x + 1)).any fun j => decide (k < j) && ((ops[j]?).map (·.after.any fun e => Region.binds md e && e.on == k)).getD false
theorem coversB_spec {x : Nat} (h : coversB md ops x = true) : Covers md ops x := by
  intro k hk
  simp only [coversB, List.all_eq_true, List.mem_range] at h
  have h1 := h k hk
  simp only [List.any_eq_true, List.mem_range, Bool.and_eq_true, decide_eq_true_eq] at h1
  obtain ⟨j, hj, hkj, hh⟩ := h1
  cases ho : ops[j]? with
  | none => rw [ho] at hh; simp at hh
  | some o =>
    rw [ho] at hh
    simp only [Option.map_some, Option.getD_some] at hh
    obtain ⟨e, he, hb⟩ := Array.any_eq_true'.1 hh
    simp only [Bool.and_eq_true, beq_iff_eq] at hb
    exact ⟨j, o, e, hkj, by omega, ho, he, hb.1, hb.2⟩

/-- Number i is taken first. -/
theorem wpL_take (i : Nat) {x : Nat} (d : Nat) (v : Value) {oi : Oper} {fuel : Nat} {listed : Array Bool} {tm : Array Value} {df : List Deferred} {w : World} (hi : ops[i]? = some oi)
    (hb : (Region.noSelect ops && (Region.free md ops listed i && ((Region.ready md ops listed).contains i && (closedB md ops listed && (coversB md ops x && decide (i < x)))))) = true)
    (hQ : ∀ c a w, Q (.panic c) (a.put oi.dst v) w → Q (.panic c) a w) (hS : S w) (hd : oi.dst = some d) (hg : oi.guard = none) (hy : ∀ w, S w → (execOp (Act.eval ⟨tm, df⟩) oi).run P w = .ok (.value v) w)
    (h : wpL P md ops Q S x fuel (listed.setIfInBounds i true) ⟨tm.setIfInBounds d v, df⟩ w) : wpL P md ops Q S x (fuel + 1) listed ⟨tm, df⟩ w := by
  simp only [Bool.and_eq_true, decide_eq_true_eq] at hb
  obtain ⟨h1, h2, h3, h4, h5, h6⟩ := hb
  refine wpL_first hi (Region.noSelect_spec h1) hQ (coversB_spec h5) h6 fuel listed ⟨tm, df⟩ w (Region.free_spec hi h2) (closedB_spec h4) (by simpa using h3) (.inl ⟨by simp [Region.wanted, hg], hy⟩) hS ?_
  rw [hd]
  exact h

/-- Number i alone may come up. -/
theorem wpL_step {i x : Nat} {o : Oper} {fuel : Nat} {listed : Array Bool} {a : Act} {w : World} (ho : ops[i]? = some o) (hr : Region.ready md ops listed = [i])
    (h : ∀ K' : Act → World → Prop, Shut (∀ a w, S w → (S w → wpL P md ops Q S x fuel (listed.setIfInBounds i true) a w) → K' a w) → if Region.wanted o (yielded ops a.tmps) = true then Oper.wp P o a w K' Q else K' (a.put o.dst undef) w) :
    wpL P md ops Q S x (fuel + 1) listed a w := by
  refine ⟨fun h0 => (by rw [hr] at h0; cases h0), fun j hj => ?_⟩
  rw [hr] at hj
  obtain rfl : j = i := by simpa using hj
  exact wpOp_step ho (fun K' hK => h K' (fun a w hS hW => hK a w ⟨fun _ => hS, hW hS⟩))

/-- One of two comes up. -/
theorem wpL_two {i j x : Nat} {o p : Oper} {fuel : Nat} {listed : Array Bool} {a : Act} {w : World} (ho : ops[i]? = some o) (hp : ops[j]? = some p) (hr : Region.ready md ops listed = [i, j])
    (h : ∀ K' : Act → World → Prop, Shut (∀ a w, S w → (S w → wpL P md ops Q S x fuel (listed.setIfInBounds i true) a w) → K' a w) → if Region.wanted o (yielded ops a.tmps) = true then Oper.wp P o a w K' Q else K' (a.put o.dst undef) w)
    (h2 : ∀ K' : Act → World → Prop, Shut (∀ a w, S w → (S w → wpL P md ops Q S x fuel (listed.setIfInBounds j true) a w) → K' a w) → if Region.wanted p (yielded ops a.tmps) = true then Oper.wp P p a w K' Q else K' (a.put p.dst undef) w) :
    wpL P md ops Q S x (fuel + 1) listed a w := by
  refine ⟨fun h0 => (by rw [hr] at h0; cases h0), fun k hk => ?_⟩
  rw [hr] at hk
  rcases List.mem_cons.1 hk with rfl | hk
  · exact wpOp_step ho (fun K' hK => h K' (fun a w hS hW => hK a w ⟨fun _ => hS, hW hS⟩))
  · obtain rfl : k = j := by simpa using hk
    exact wpOp_step hp (fun K' hK => h2 K' (fun a w hS hW => hK a w ⟨fun _ => hS, hW hS⟩))

/-- The last one. -/
theorem wpL_last {x : Nat} {o : Oper} {fuel : Nat} {listed : Array Bool} {a : Act} {w : World} (ho : ops[x]? = some o) (hr : Region.ready md ops listed = [x]) (hr2 : Region.ready md ops (listed.setIfInBounds x true) = [])
    (h : ∀ K' : Act → World → Prop, Shut (∀ a w, Q .normal a w → K' a w) → if Region.wanted o (yielded ops a.tmps) = true then Oper.wp P o a w K' Q else K' (a.put o.dst undef) w) :
    wpL P md ops Q S x (fuel + 1) listed a w := by
  refine ⟨fun h0 => (by rw [hr] at h0; cases h0), fun j hj => ?_⟩
  rw [hr] at hj
  obtain rfl : j = x := by simpa using hj
  refine wpOp_step ho (fun K' hK => h K' (fun a w hq => hK a w ⟨fun h => absurd rfl h, ?_⟩))
  cases fuel with
  | zero => exact ⟨hr2, hq⟩
  | succ n => exact ⟨fun _ => hq, by rw [hr2]; simp⟩

/-- The beginning. -/
theorem wp_region_L {x : Nat} {id : Nat} {a : Act} {w : World} (hm : P.follows .mixedOrders = true)
    (h : wpL P .any ops Q S x ops.size (Array.replicate ops.size false) a w.drew) : (Code.region id ops true).wp P Q a w :=
  wp_region_any hm (wpAny_of_L _ _ _ _ h)

end

end Go.Proofs.YtlpnfbpgnfappaaGreat

/- The contracts of resolve.meant and its function. -/
namespace Go.Proofs.YtlpnfbpgnfappaaGreat
open Go.RowKit Go.PlainAid

set_option maxRecDepth 100000

set_option maxHeartbeats 1000000 in
theorem addr_any (fi : Int) (w : World) (g0 : 0 ≤ fi) (g1 : fi ≤ 15) : Calls Tryz.prog 172 #[.int .i64 fi] w fun e w' => e = .returned (.int .i64 (4096 + fi * 64)) ∧ w' = w := by
  go_enter Tryz.func172, Tryz.ntmps172
  go_wp2
  go_ret
  exact ⟨rfl, rfl⟩

set_option maxHeartbeats 1000000 in
theorem isNamed_any (B : Nat) (name : ByteArray) (x : PV) (w : World) (hlt : B < w.heap.size) (hB : w.cell? ⟨B, 0, none⟩ = some (.string name)) :
    Calls Tryz.prog 171 #[x.val, .pointer (some ⟨B, 0, none⟩)] w fun e w' => e = .returned (.bool (x.mod.name == name)) ∧ Below w.heap.size w w' := by
  rw [← toList_beq2]
  obtain ⟨⟨N, ma, mi, T, es, is, ps⟩, ve, vi, vp, fi⟩ := x
  dsimp only [PV.val]
  go_enter Tryz.func171, Tryz.ntmps171
  go_wp2
  go_ret
  exact ⟨rfl, (Below.refl _ _).alloc (Nat.le_refl _) _⟩

set_option maxHeartbeats 1000000 in
theorem isCalled_any (B : Nat) (name : ByteArray) (x : Exp) (w : World) (hlt : B < w.heap.size) (hB : w.cell? ⟨B, 1, none⟩ = some (.string name)) :
    Calls Tryz.prog 141 #[.agg #[.string x.name, .int .i64 x.pos], .pointer (some ⟨B, 0, none⟩)] w fun e w' => e = .returned (.bool (x.name == name)) ∧ Below w.heap.size w w' := by
  rw [← toList_beq2]
  obtain ⟨N, ps⟩ := x
  dsimp only
  go_enter Tryz.func141, Tryz.ntmps141
  go_wp2
  go_ret
  exact ⟨rfl, (Below.refl _ _).alloc (Nat.le_refl _) _⟩

def TgtV (n₀ : Nat) (W : World) (r : Value) : Option Tgt → Prop
  | none => r = .tuple #[.agg #[.int .i64 0, .int .i64 0, .int .i64 0, .slice none 0 0], .bool false]
  | some t => ∃ ve, r = .tuple #[.agg #[.int .i64 t.major, .int .i64 t.minor, .int .i64 t.beg, ve], .bool true] ∧ RowOf 2 Exp.cell n₀ W ve t.exps

theorem tgt_cases (K : Ker) (l : List PV) (name : ByteArray) : ((name == kernelName) = true ∧ tgtOf K (l.map PV.plc) name = some ⟨K.major, K.minor, 0, K.exps⟩) ∨
    ((name == kernelName) = false ∧ (l.find? (fun x => x.mod.name == name) = none ∧ tgtOf K (l.map PV.plc) name = none ∨ ∃ x, l.find? (fun x => x.mod.name == name) = some x ∧ tgtOf K (l.map PV.plc) name = some ⟨x.mod.major, x.mod.minor, 4096 + x.first * 64, x.mod.exps⟩)) := by
  unfold tgtOf
  cases h : name == kernelName
  · refine .inr ⟨rfl, ?_⟩
    rw [if_neg (by decide), List.find?_map]
    have e : ((fun p : Plc => p.mod.name == name) ∘ PV.plc) = fun x : PV => x.mod.name == name := rfl
    rw [e]
    cases hf : l.find? (fun x => x.mod.name == name) with
    | none => exact .inl ⟨rfl, rfl⟩
    | some x => exact .inr ⟨x, rfl, rfl⟩
  · exact .inl ⟨rfl, by rw [if_pos rfl]⟩

set_option maxHeartbeats 2000000 in
theorem meant_any (K : Ker) (vk : Value) (l : List PV) (v : Value) (name : ByteArray) (w : World) (hK : IsKer w.heap.size w vk K) (hrow : IsPlcs w.heap.size w v l) (hfst : ∀ x ∈ l, 0 ≤ x.first ∧ x.first ≤ 15) :
    Calls Tryz.prog 139 #[vk, v, .string name] w fun e w' => (∃ r, e = .returned r ∧ TgtV w.heap.size w r (tgtOf K (l.map PV.plc) name)) ∧ Below w.heap.size w w' := by
  obtain ⟨vke, rfl, hE⟩ := hK
  have hE0 := hE
  obtain ⟨pe, ke, rfl, _, _⟩ := hE
  have HF : Hid (∀ W B, Below w.heap.size w W → B < W.heap.size → W.cell? ⟨B, 0, none⟩ = some (.string name) → Calls Tryz.prog 170 #[v, .func (.func 171) #[] #[.pointer (some ⟨B, 0, none⟩)]] W fun e w' => e = .returned (optPlc (l.find? fun x => x.mod.name == name)) ∧ Below W.heap.size W w') := by
    intro W B hb hlt hB
    exact firstPlc_any l v 171 (.pointer (some ⟨B, 0, none⟩)) (fun w x => enters_of Tryz.func171 (by kernel_rfl) rfl _ w) _ W ((hrow.below hb).more hb.size) (fun x _ W' hb' => isNamed_any B name x W' (Nat.lt_of_lt_of_le hlt hb'.size) ((hb'.cell (p := ⟨B, 0, none⟩) hlt).trans hB))
  have hat := hrow.2
  obtain ⟨⟨a, cap, rfl, _, _⟩, _⟩ := hrow
  rcases tgt_cases K l name with ⟨h1, h2⟩ | ⟨h1, ⟨h2, h3⟩ | ⟨x, h2, h3⟩⟩
  · rw [h2]
    rw [← kern_form] at h1
    obtain ⟨ma, mi, es⟩ := K
    dsimp only at *
    clear HF hat
    go_enter Tryz.func139, Tryz.ntmps139
    go_wp2
    (try simp only [Exit.inBlock, Exit.then])
    have hF : CellsAt (((w.alloc (.cells #[.int .i64 ma, .int .i64 mi, .slice pe es.length ke] 24)).alloc (.cells #[.string name] 9)).alloc (.cells #[.int .i64 ma, .int .i64 mi, .int .i64 0, .slice pe es.length ke] 165)) (w.heap.size + 1 + 1) 165 #[.int .i64 ma, .int .i64 mi, .int .i64 0, .slice pe es.length ke] := by
      have := CellsAt.new ((w.alloc (.cells #[.int .i64 ma, .int .i64 mi, .slice pe es.length ke] 24)).alloc (.cells #[.string name] 9)) 165 #[.int .i64 ma, .int .i64 mi, .int .i64 0, .slice pe es.length ke]
      rw [World.size_alloc, World.size_alloc] at this
      exact this
    refine bodyPost_ret (results_cell_tmp_row rfl _ _ _ _ _ _ _ rfl hF Tryz.underlying165 rfl (by kernel_rfl)) rfl ?_
    exact ⟨⟨_, rfl, _, rfl, hE0⟩, (((Below.refl _ _).alloc (Nat.le_refl _) _).alloc (by simp) _).alloc (by simp; omega) _⟩
  · rw [h3]
    rw [h2] at HF
    rw [← kern_form] at h1
    obtain ⟨ma, mi, es⟩ := K
    dsimp only [optPlc] at *
    clear hat
    have HN : Hid ((((w.alloc (.cells #[.int .i64 ma, .int .i64 mi, .slice pe es.length ke] 24)).alloc (.cells #[.string name] 9)).alloc (.cells #[.int .i64 0, .int .i64 0, .int .i64 0, .slice none 0 0] 165)).cell? ⟨w.heap.size + 1, 0, none⟩ = some (.string name)) := by
      have := (CellsAt.new (w.alloc (.cells #[.int .i64 ma, .int .i64 mi, .slice pe es.length ke] 24)) 9 #[.string name]).kept (World.grownBy_alloc _ (.cells #[.int .i64 0, .int .i64 0, .int .i64 0, .slice none 0 0] 165) none) (by simp)
      rw [World.size_alloc] at this
      exact this.cell 0
    have HC3 : Hid (CellsAt (((w.alloc (.cells #[.int .i64 ma, .int .i64 mi, .slice pe es.length ke] 24)).alloc (.cells #[.string name] 9)).alloc (.cells #[.int .i64 0, .int .i64 0, .int .i64 0, .slice none 0 0] 165)) (w.heap.size + 1 + 1) 165 #[.int .i64 0, .int .i64 0, .int .i64 0, .slice none 0 0]) := by
      have := CellsAt.new ((w.alloc (.cells #[.int .i64 ma, .int .i64 mi, .slice pe es.length ke] 24)).alloc (.cells #[.string name] 9)) 165 #[.int .i64 0, .int .i64 0, .int .i64 0, .slice none 0 0]
      rw [World.size_alloc, World.size_alloc] at this
      exact this
    have HB3 : Hid (Below w.heap.size w (((w.alloc (.cells #[.int .i64 ma, .int .i64 mi, .slice pe es.length ke] 24)).alloc (.cells #[.string name] 9)).alloc (.cells #[.int .i64 0, .int .i64 0, .int .i64 0, .slice none 0 0] 165))) := (((Below.refl _ _).alloc (Nat.le_refl _) _).alloc (by simp) _).alloc (by simp; omega) _
    go_enter Tryz.func139, Tryz.ntmps139
    go_wp2_with fail
    refine (HF.out _ _ (((Below.refl _ _).alloc (Nat.le_refl _) _).alloc (by simp) _ |>.alloc (by simp; omega) _) (by simp) HN.out).mono ?_
    rintro e w4 ⟨rfl, b4⟩
    have C4 := HC3.out.below b4 (by simp)
    have B4 := HB3.out.trans (b4.mono HB3.out.size)
    have hz4 := C4.lt
    have t0 := C4.cell 0
    have t1 := C4.cell 1
    have t2 := C4.cell 2
    have t3 := C4.cell 3
    have f0 := C4.frozen 0
    have f1 := C4.frozen 1
    have f2 := C4.frozen 2
    have f3 := C4.frozen 3
    simp at t0 t1 t2 t3
    clear b4 HF HC3 HB3 HN
    go_wp2
    (try simp only [Exit.inBlock, Exit.then])
    have hF : CellsAt (((((w4.setCell ⟨w.heap.size + 1 + 1, 0, none⟩ (.int .i64 0)).setCell ⟨w.heap.size + 1 + 1, 1, none⟩ (.int .i64 0)).setCell ⟨w.heap.size + 1 + 1, 2, none⟩ (.int .i64 0)).setCell ⟨w.heap.size + 1 + 1, 3, none⟩ (.slice none 0 0)).alloc (.cells #[.string ⟨#[]⟩, .int .i64 0, .int .i64 0, .string ⟨#[]⟩, .slice none 0 0, .slice none 0 0, .slice none 0 0, .int .i64 0] 57)) (w.heap.size + 1 + 1) 165 #[.int .i64 0, .int .i64 0, .int .i64 0, .slice none 0 0] := CellsAt.kept ((((C4.set 0 (.int .i64 0)).set 1 (.int .i64 0)).set 2 (.int .i64 0)).set 3 (.slice none 0 0)) (World.grownBy_alloc _ _ none) (by simp)
    refine bodyPost_ret (results_cell_tmp_row rfl _ _ _ _ _ _ _ rfl hF Tryz.underlying165 rfl (by kernel_rfl)) rfl ?_
    exact ⟨⟨_, rfl, rfl⟩, ((((B4.setCell (by simp; omega) _).setCell (by simp; omega) _).setCell (by simp; omega) _).setCell (by simp; omega) _).alloc (by simp; omega) _⟩
  · rw [h3]
    rw [h2] at HF
    rw [← kern_form] at h1
    have hx := List.mem_of_find?_eq_some h2
    obtain ⟨g0, g1⟩ := hfst x hx
    have hE1 := (hat x hx).1
    obtain ⟨⟨qe, je, e4, _⟩, ⟨qi, ji, e5, _⟩, ⟨qp, jp, e6, _⟩⟩ := hat x hx
    obtain ⟨⟨N, xa, xi, T, xs, is, ps⟩, ve, vi, vp, fi⟩ := x
    obtain ⟨ma, mi, es⟩ := K
    dsimp only [optPlc, PV.val] at *
    subst e4 e5 e6
    clear hat h2 h3 hx
    generalize is.length = li at *
    generalize ps.length = lp at *
    have HN : Hid ((((w.alloc (.cells #[.int .i64 ma, .int .i64 mi, .slice pe es.length ke] 24)).alloc (.cells #[.string name] 9)).alloc (.cells #[.int .i64 0, .int .i64 0, .int .i64 0, .slice none 0 0] 165)).cell? ⟨w.heap.size + 1, 0, none⟩ = some (.string name)) := by
      have := (CellsAt.new (w.alloc (.cells #[.int .i64 ma, .int .i64 mi, .slice pe es.length ke] 24)) 9 #[.string name]).kept (World.grownBy_alloc _ (.cells #[.int .i64 0, .int .i64 0, .int .i64 0, .slice none 0 0] 165) none) (by simp)
      rw [World.size_alloc] at this
      exact this.cell 0
    have HC3 : Hid (CellsAt (((w.alloc (.cells #[.int .i64 ma, .int .i64 mi, .slice pe es.length ke] 24)).alloc (.cells #[.string name] 9)).alloc (.cells #[.int .i64 0, .int .i64 0, .int .i64 0, .slice none 0 0] 165)) (w.heap.size + 1 + 1) 165 #[.int .i64 0, .int .i64 0, .int .i64 0, .slice none 0 0]) := by
      have := CellsAt.new ((w.alloc (.cells #[.int .i64 ma, .int .i64 mi, .slice pe es.length ke] 24)).alloc (.cells #[.string name] 9)) 165 #[.int .i64 0, .int .i64 0, .int .i64 0, .slice none 0 0]
      rw [World.size_alloc, World.size_alloc] at this
      exact this
    have HB3 : Hid (Below w.heap.size w (((w.alloc (.cells #[.int .i64 ma, .int .i64 mi, .slice pe es.length ke] 24)).alloc (.cells #[.string name] 9)).alloc (.cells #[.int .i64 0, .int .i64 0, .int .i64 0, .slice none 0 0] 165))) := (((Below.refl _ _).alloc (Nat.le_refl _) _).alloc (by simp) _).alloc (by simp; omega) _
    go_enter Tryz.func139, Tryz.ntmps139
    go_wp2_with fail
    refine (HF.out _ _ (((Below.refl _ _).alloc (Nat.le_refl _) _).alloc (by simp) _ |>.alloc (by simp; omega) _) (by simp) HN.out).mono ?_
    rintro e w4 ⟨rfl, b4⟩
    have C4 := HC3.out.below b4 (by simp)
    have B4 := HB3.out.trans (b4.mono HB3.out.size)
    have hz4 := C4.lt
    have t0 := C4.cell 0
    have t1 := C4.cell 1
    have t2 := C4.cell 2
    have t3 := C4.cell 3
    have f0 := C4.frozen 0
    have f1 := C4.frozen 1
    have f2 := C4.frozen 2
    have f3 := C4.frozen 3
    simp at t0 t1 t2 t3
    clear b4 HF HC3 HB3 HN t0 t1 t2 t3 f0 f1 f2 f3
    go_wp2_with fail
    refine wp_region_noPanic ?_
    refine wp_region_L (S := fun w' => w'.cell? ⟨w4.heap.size, 1, none⟩ = some (.int .i64 xa) ∧ w'.cell? ⟨w4.heap.size, 2, none⟩ = some (.int .i64 xi) ∧ w'.cell? ⟨w4.heap.size, 7, none⟩ = some (.int .i64 fi) ∧ w'.cell? ⟨w4.heap.size, 4, none⟩ = some (.slice qe xs.length je)) (x := 14) (by kernel_rfl) ?_
    have C5' : CellsAt (w4.alloc (.cells #[.string N, .int .i64 xa, .int .i64 xi, .string T, .slice qe xs.length je, .slice qi li ji, .slice qp lp jp, .int .i64 fi] 57)) (w.heap.size + 1 + 1) 165 #[.int .i64 0, .int .i64 0, .int .i64 0, .slice none 0 0] := C4.kept (World.grownBy_alloc w4 (.cells #[.string N, .int .i64 xa, .int .i64 xi, .string T, .slice qe xs.length je, .slice qi li ji, .slice qp lp jp, .int .i64 fi] 57) none) (by simp)
    have C5 : CellsAt (w4.alloc (.cells #[.string N, .int .i64 xa, .int .i64 xi, .string T, .slice qe xs.length je, .slice qi li ji, .slice qp lp jp, .int .i64 fi] 57)).drew (w.heap.size + 1 + 1) 165 #[.int .i64 0, .int .i64 0, .int .i64 0, .slice none 0 0] := C5'
    clear C5'
    have P5 : CellsAt (w4.alloc (.cells #[.string N, .int .i64 xa, .int .i64 xi, .string T, .slice qe xs.length je, .slice qi li ji, .slice qp lp jp, .int .i64 fi] 57)).drew w4.heap.size 57 #[.string N, .int .i64 xa, .int .i64 xi, .string T, .slice qe xs.length je, .slice qi li ji, .slice qp lp jp, .int .i64 fi] := CellsAt.new w4 57 #[.string N, .int .i64 xa, .int .i64 xi, .string T, .slice qe xs.length je, .slice qi li ji, .slice qp lp jp, .int .i64 fi]
    have B5 : Below w.heap.size w (w4.alloc (.cells #[.string N, .int .i64 xa, .int .i64 xi, .string T, .slice qe xs.length je, .slice qi li ji, .slice qp lp jp, .int .i64 fi] 57)).drew := (B4.alloc B4.size _).drew
    have s5 : w4.heap.size < (w4.alloc (.cells #[.string N, .int .i64 xa, .int .i64 xi, .string T, .slice qe xs.length je, .slice qi li ji, .slice qp lp jp, .int .i64 fi] 57)).drew.heap.size := P5.lt
    generalize (w4.alloc (.cells #[.string N, .int .i64 xa, .int .i64 xi, .string T, .slice qe xs.length je, .slice qi li ji, .slice qp lp jp, .int .i64 fi] 57)).drew = w5 at C5 P5 B5 s5 ⊢
    have hS0 : w5.cell? ⟨w4.heap.size, 1, none⟩ = some (.int .i64 xa) ∧ w5.cell? ⟨w4.heap.size, 2, none⟩ = some (.int .i64 xi) ∧ w5.cell? ⟨w4.heap.size, 7, none⟩ = some (.int .i64 fi) ∧ w5.cell? ⟨w4.heap.size, 4, none⟩ = some (.slice qe xs.length je) := ⟨P5.cell 1, P5.cell 2, P5.cell 7, P5.cell 4⟩
    refine wpL_take 0 28 (.pointer (some ⟨w4.heap.size, 0, none⟩)) rfl (by kernel_rfl) (fun _ _ _ h => h) hS0 rfl rfl (fun w' hSw => by (try dsimp only at hSw); go_simp) ?_
    simp only [List.setIfInBounds_toArray, List.set_cons_zero, List.set_cons_succ]
    refine wpL_take 1 29 (.pointer (some ⟨w4.heap.size, 1, none⟩)) rfl (by kernel_rfl) (fun _ _ _ h => h) hS0 rfl rfl (fun w' hSw => by (try dsimp only at hSw); go_simp) ?_
    simp only [List.setIfInBounds_toArray, List.set_cons_zero, List.set_cons_succ]
    refine wpL_take 2 30 (.int .i64 xa) rfl (by kernel_rfl) (fun _ _ _ h => h) hS0 rfl rfl (fun w' hSw => by (try dsimp only at hSw); go_simp) ?_
    simp only [List.setIfInBounds_toArray, List.set_cons_zero, List.set_cons_succ]
    refine wpL_take 3 31 (.pointer (some ⟨w4.heap.size, 0, none⟩)) rfl (by kernel_rfl) (fun _ _ _ h => h) hS0 rfl rfl (fun w' hSw => by (try dsimp only at hSw); go_simp) ?_
    simp only [List.setIfInBounds_toArray, List.set_cons_zero, List.set_cons_succ]
    refine wpL_take 4 32 (.pointer (some ⟨w4.heap.size, 2, none⟩)) rfl (by kernel_rfl) (fun _ _ _ h => h) hS0 rfl rfl (fun w' hSw => by (try dsimp only at hSw); go_simp) ?_
    simp only [List.setIfInBounds_toArray, List.set_cons_zero, List.set_cons_succ]
    refine wpL_take 5 33 (.int .i64 xi) rfl (by kernel_rfl) (fun _ _ _ h => h) hS0 rfl rfl (fun w' hSw => by (try dsimp only at hSw); go_simp) ?_
    simp only [List.setIfInBounds_toArray, List.set_cons_zero, List.set_cons_succ]
    refine wpL_take 6 34 (.pointer (some ⟨w4.heap.size, 7, none⟩)) rfl (by kernel_rfl) (fun _ _ _ h => h) hS0 rfl rfl (fun w' hSw => by (try dsimp only at hSw); go_simp) ?_
    simp only [List.setIfInBounds_toArray, List.set_cons_zero, List.set_cons_succ]
    refine wpL_take 7 35 (.int .i64 fi) rfl (by kernel_rfl) (fun _ _ _ h => h) hS0 rfl rfl (fun w' hSw => by (try dsimp only at hSw); go_simp) ?_
    simp only [List.setIfInBounds_toArray, List.set_cons_zero, List.set_cons_succ]
    refine wpL_take 9 37 (.pointer (some ⟨w4.heap.size, 0, none⟩)) rfl (by kernel_rfl) (fun _ _ _ h => h) hS0 rfl rfl (fun w' hSw => by (try dsimp only at hSw); go_simp) ?_
    simp only [List.setIfInBounds_toArray, List.set_cons_zero, List.set_cons_succ]
    refine wpL_take 10 38 (.pointer (some ⟨w4.heap.size, 4, none⟩)) rfl (by kernel_rfl) (fun _ _ _ h => h) hS0 rfl rfl (fun w' hSw => by (try dsimp only at hSw); go_simp) ?_
    simp only [List.setIfInBounds_toArray, List.set_cons_zero, List.set_cons_succ]
    refine wpL_take 11 39 (.slice qe xs.length je) rfl (by kernel_rfl) (fun _ _ _ h => h) hS0 rfl rfl (fun w' hSw => by (try dsimp only at hSw); go_simp) ?_
    simp only [List.setIfInBounds_toArray, List.set_cons_zero, List.set_cons_succ]
    refine wpL_step (i := 8) rfl (by kernel_rfl) (fun K hK => ?_)
    go_simp
    refine (addr_any fi w5 g0 g1).mono ?_
    rintro e w6 ⟨rfl, rfl⟩
    go_simp
    refine hK.out _ _ hS0 (fun _ => ?_)
    clear hK K
    refine wpL_take 12 40 (.agg #[.int .i64 xa, .int .i64 xi, .int .i64 (4096 + fi * 64), .slice qe xs.length je]) rfl (by kernel_rfl) (fun _ _ _ h => h) hS0 rfl rfl (fun w' hSw => by (try dsimp only at hSw); go_simp) ?_
    simp only [List.setIfInBounds_toArray, List.set_cons_zero, List.set_cons_succ]
    have t0 := C5.cell 0
    have t1 := C5.cell 1
    have t2 := C5.cell 2
    have t3 := C5.cell 3
    have f0 := C5.frozen 0
    have f1 := C5.frozen 1
    have f2 := C5.frozen 2
    have f3 := C5.frozen 3
    simp at t0 t1 t2 t3
    refine wpL_step (i := 13) rfl (by kernel_rfl) (fun K hK => ?_)
    go_simp
    have hne : some w4.heap.size ≠ some (w.heap.size + 1 + 1) := fun e => by
      injection e with e
      omega
    have P6 := (((P5.kept (grown_set w6 (w.heap.size + 1 + 1) 0 (.int .i64 xa)) hne).kept (grown_set _ (w.heap.size + 1 + 1) 1 (.int .i64 xi)) hne).kept (grown_set _ (w.heap.size + 1 + 1) 2 (.int .i64 (4096 + fi * 64))) hne).kept (grown_set _ (w.heap.size + 1 + 1) 3 (.slice qe xs.length je)) hne
    have C6 := (((C5.set 0 (.int .i64 xa)).set 1 (.int .i64 xi)).set 2 (.int .i64 (4096 + fi * 64))).set 3 (.slice qe xs.length je)
    have B6 : Below w.heap.size w ((((w6.setCell ⟨w.heap.size + 1 + 1, 0, none⟩ (.int .i64 xa)).setCell ⟨w.heap.size + 1 + 1, 1, none⟩ (.int .i64 xi)).setCell ⟨w.heap.size + 1 + 1, 2, none⟩ (.int .i64 (4096 + fi * 64))).setCell ⟨w.heap.size + 1 + 1, 3, none⟩ (.slice qe xs.length je)) := (((B5.setCell (by simp; omega) _).setCell (by simp; omega) _).setCell (by simp; omega) _).setCell (by simp; omega) _
    refine hK.out _ _ ⟨P6.cell 1, P6.cell 2, P6.cell 7, P6.cell 4⟩ (fun _ => ?_)
    clear hK K hS0 t0 t1 t2 t3 f0 f1 f2 f3
    generalize (((w6.setCell ⟨w.heap.size + 1 + 1, 0, none⟩ (.int .i64 xa)).setCell ⟨w.heap.size + 1 + 1, 1, none⟩ (.int .i64 xi)).setCell ⟨w.heap.size + 1 + 1, 2, none⟩ (.int .i64 (4096 + fi * 64))).setCell ⟨w.heap.size + 1 + 1, 3, none⟩ (.slice qe xs.length je) = w7 at C6 B6 ⊢
    refine wpL_last (x := 14) rfl (by kernel_rfl) (by kernel_rfl) (fun K hK => ?_)
    go_simp
    refine hK.out _ _ ?_
    refine NoPanic.normal ?_
    clear hK K
    go_wp2
    (try simp only [Exit.inBlock, Exit.then])
    have hF : CellsAt w7 (w.heap.size + 1 + 1) 165 #[.int .i64 xa, .int .i64 xi, .int .i64 (4096 + fi * 64), .slice qe xs.length je] := C6
    refine bodyPost_ret (results_cell_tmp_row rfl _ _ _ _ _ _ _ rfl hF Tryz.underlying165 rfl (by kernel_rfl)) rfl ?_
    exact ⟨⟨_, rfl, _, rfl, hE1⟩, B6⟩

end Go.Proofs.YtlpnfbpgnfappaaGreat

/- The contract of resolve.address. -/
namespace Go.Proofs.YtlpnfbpgnfappaaGreat
open Go.RowKit Go.PlainAid

set_option maxRecDepth 100000

theorem addrOf_cases (K : Ker) (l : List Plc) (i : Imp) : (tgtOf K l i.mod = none ∧ addrOf K l i = (0, 5)) ∨ ∃ t, tgtOf K l i.mod = some t ∧ ((t.major ≠ i.major ∧ addrOf K l i = (0, 4)) ∨ (t.major = i.major ∧ t.minor < i.minor ∧ addrOf K l i = (0, 4)) ∨
    (t.major = i.major ∧ i.minor ≤ t.minor ∧ (expOf t.exps i.name = none ∧ addrOf K l i = (0, 5) ∨ ∃ x, expOf t.exps i.name = some x ∧ addrOf K l i = (t.beg + x.pos, 0)))) := by
  unfold addrOf
  cases ht : tgtOf K l i.mod with
  | none => exact .inl ⟨rfl, rfl⟩
  | some t =>
    refine .inr ⟨t, rfl, ?_⟩
    dsimp only
    by_cases h1 : t.major = i.major
    · by_cases h2 : t.minor < i.minor
      · exact .inr (.inl ⟨h1, h2, by rw [if_pos (.inr h2)]⟩)
      · refine .inr (.inr ⟨h1, by omega, ?_⟩)
        rw [if_neg (by omega)]
        cases hx : expOf t.exps i.name with
        | none => exact .inl ⟨rfl, rfl⟩
        | some x => exact .inr ⟨x, rfl, rfl⟩
    · exact .inl ⟨h1, by rw [if_pos (.inl h1)]⟩

set_option maxHeartbeats 4000000 in
theorem address_any (K : Ker) (vk : Value) (l : List PV) (v : Value) (i : Imp) (w : World) (hK : IsKer w.heap.size w vk K) (hrow : IsPlcs w.heap.size w v l) (h0 : chkFind K (l.map PV.plc) = 0) :
    Calls Tryz.prog 87 #[vk, v, .agg #[.string i.mod, .string i.name, .int .i64 i.major, .int .i64 i.minor]] w fun e w' => e = .returned (.tuple #[.int .i64 (addrOf K (l.map PV.plc) i).1, .int .i64 (addrOf K (l.map PV.plc) i).2]) ∧ Below w.heap.size w w' := by
  have hfst : ∀ x ∈ l, 0 ≤ x.first ∧ x.first ≤ 15 := fun x hx => by
    have := (chkFind_zero h0).2.2 x.plc (List.mem_map_of_mem hx)
    exact ⟨this.2.1, this.2.2⟩
  have HM : Hid (∀ W, Below w.heap.size w W → Calls Tryz.prog 139 #[vk, v, .string i.mod] W fun e w' => (∃ r, e = .returned r ∧ TgtV W.heap.size W r (tgtOf K (l.map PV.plc) i.mod)) ∧ Below W.heap.size W w') :=
    fun W hb => meant_any K vk l v i.mod W ((hK.below hb).more hb.size) ((hrow.below hb).more hb.size) hfst
  obtain ⟨vke, rfl, hE⟩ := hK
  obtain ⟨pe, ke, rfl, _, _⟩ := hE
  obtain ⟨⟨a, cap, rfl, _, _⟩, _⟩ := hrow
  have key := addrOf_cases K (l.map PV.plc) i
  have hbd := fun t (ht : tgtOf K (l.map PV.plc) i.mod = some t) => tgt_bd h0 ht
  generalize addrOf K (l.map PV.plc) i = R at *
  generalize tgtOf K (l.map PV.plc) i.mod = TT at *
  obtain ⟨ma, mi, es⟩ := K
  obtain ⟨im, inm, ia, ib⟩ := i
  dsimp only at *
  clear h0 hfst
  generalize es.length = le at *
  generalize l.length = ll at *
  have HW2 : Hid (Below w.heap.size w ((w.alloc (.cells #[.int .i64 ma, .int .i64 mi, .slice pe le ke] 24)).alloc (.cells #[.string im, .string inm, .int .i64 ia, .int .i64 ib] 106))) := ((Below.refl _ _).alloc (Nat.le_refl _) _).alloc (by simp) _
  have HC2 : Hid (CellsAt ((w.alloc (.cells #[.int .i64 ma, .int .i64 mi, .slice pe le ke] 24)).alloc (.cells #[.string im, .string inm, .int .i64 ia, .int .i64 ib] 106)) (w.heap.size + 1) 106 #[.string im, .string inm, .int .i64 ia, .int .i64 ib]) := by
    have := CellsAt.new (w.alloc (.cells #[.int .i64 ma, .int .i64 mi, .slice pe le ke] 24)) 106 #[.string im, .string inm, .int .i64 ia, .int .i64 ib]
    rw [World.size_alloc] at this
    exact this
  go_enter Tryz.func87, Tryz.ntmps87
  go_wp2_with fail
  refine (HM.out _ HW2.out).mono ?_
  rintro e w3 ⟨⟨r, rfl, hT⟩, b3⟩
  have C3 := HC2.out.below b3 (by simp)
  have B3 := HW2.out.trans (b3.mono HW2.out.size)
  have hz3 := C3.lt
  rcases key with ⟨rfl, rfl⟩ | ⟨t, rfl, key⟩
  · have hT' : r = .tuple #[.agg #[.int .i64 0, .int .i64 0, .int .i64 0, .slice none 0 0], .bool false] := hT
    subst hT'
    clear HM HW2 HC2 hT b3 hbd
    go_wp2
    go_ret2
    exact ⟨rfl, B3.alloc B3.size _⟩
  · obtain ⟨vt, hr, hR⟩ : ∃ ve, r = .tuple #[.agg #[.int .i64 t.major, .int .i64 t.minor, .int .i64 t.beg, ve], .bool true] ∧ RowOf 2 Exp.cell _ _ ve t.exps := hT
    subst hr
    obtain ⟨q1, q2, q3, q4⟩ := hbd t rfl
    have hR3 := (hR.below b3).more b3.size
    obtain ⟨pt, kt, rfl, _, _⟩ := hR
    clear HM HW2 HC2 b3 hbd
    obtain ⟨ta, ti, tb, ts⟩ := t
    dsimp only at *
    have hW4 : Below w3.heap.size w3 (w3.alloc (.cells #[.int .i64 ta, .int .i64 ti, .int .i64 tb, .slice pt ts.length kt] 165)) := (Below.refl _ _).alloc (Nat.le_refl _) _
    have hR4 := (hR3.below hW4).more hW4.size
    have C4 := C3.below hW4 C3.lt
    have T4 := CellsAt.new w3 165 #[.int .i64 ta, .int .i64 ti, .int .i64 tb, .slice pt ts.length kt]
    have B4 := B3.trans (hW4.mono B3.size)
    have HF : Hid (Calls Tryz.prog 140 #[.slice pt ts.length kt, .func (.func 141) #[] #[.pointer (some ⟨w.heap.size + 1, 0, none⟩)]] (w3.alloc (.cells #[.int .i64 ta, .int .i64 ti, .int .i64 tb, .slice pt ts.length kt] 165)) fun e w' => e = .returned (optExp (expOf ts inm)) ∧ Below (w3.alloc (.cells #[.int .i64 ta, .int .i64 ti, .int .i64 tb, .slice pt ts.length kt] 165)).heap.size (w3.alloc (.cells #[.int .i64 ta, .int .i64 ti, .int .i64 tb, .slice pt ts.length kt] 165)) w') :=
      firstExp_any ts _ 141 (.pointer (some ⟨w.heap.size + 1, 0, none⟩)) (fun w x => enters_of Tryz.func141 (by kernel_rfl) rfl _ w) _ _ hR4 (fun x _ W' hb' => isCalled_any (w.heap.size + 1) inm x W' (Nat.lt_of_lt_of_le C4.lt hb'.size) ((hb'.cell (p := ⟨w.heap.size + 1, 1, none⟩) C4.lt).trans (C4.cell 1)))
    have HC4 : Hid (CellsAt (w3.alloc (.cells #[.int .i64 ta, .int .i64 ti, .int .i64 tb, .slice pt ts.length kt] 165)) (w.heap.size + 1) 106 #[.string im, .string inm, .int .i64 ia, .int .i64 ib]) := C4
    have HT4 : Hid (CellsAt (w3.alloc (.cells #[.int .i64 ta, .int .i64 ti, .int .i64 tb, .slice pt ts.length kt] 165)) w3.heap.size 165 #[.int .i64 ta, .int .i64 ti, .int .i64 tb, .slice pt ts.length kt]) := T4
    have HB4 : Hid (Below w.heap.size w (w3.alloc (.cells #[.int .i64 ta, .int .i64 ti, .int .i64 tb, .slice pt ts.length kt] 165))) := B4
    have c2 := C3.cell 2
    have c3 := C3.cell 3
    simp at c2 c3
    clear C4 T4 B4 hR3 hR4 hW4
    generalize hn : ts.length = lt at *
    rcases key with ⟨h1, rfl⟩ | ⟨rfl, h2, rfl⟩ | ⟨rfl, h2, ⟨h3, rfl⟩ | ⟨x, h3, rfl⟩⟩
    · have h1' : (ta != ia) = true := by simpa using h1
      go_wp2
      go_ret2
      exact ⟨rfl, HB4.out⟩
    · go_wp2
      go_ret2
      exact ⟨rfl, HB4.out⟩
    · rw [h3] at HF
      dsimp only [optExp] at HF
      go_wp2_with fail
      refine HF.out.mono ?_
      rintro e w5 ⟨rfl, b5⟩
      have B5 := HB4.out.trans (b5.mono HB4.out.size)
      go_wp2
      go_ret2
      exact ⟨rfl, B5.alloc B5.size _⟩
    · rw [h3] at HF
      dsimp only [optExp] at HF
      obtain ⟨g1, g2, g3⟩ := q4 x (List.mem_of_find?_eq_some h3)
      clear q4 h3
      go_wp2_with fail
      refine HF.out.mono ?_
      rintro e w5 ⟨rfl, b5⟩
      have B5 := HB4.out.trans (b5.mono HB4.out.size)
      have T5 := HT4.out.below b5 (by simp)
      have t2 := T5.cell 2
      have hz5 := T5.lt
      simp at t2
      clear b5 HF HT4 HC4 HB4
      go_wp2
      go_ret2
      exact ⟨rfl, B5.alloc B5.size _⟩

end Go.Proofs.YtlpnfbpgnfappaaGreat

/- The contract of resolve.Find. -/
namespace Go.Proofs.YtlpnfbpgnfappaaGreat
open Go.RowKit Go.PlainAid

set_option maxRecDepth 100000

/-- What Find answers. -/
def findRes (k : Ker) (l : List Plc) (i : Imp) : Int × Int := if chkFind k l ≠ 0 then (0, chkFind k l) else if impOwn i ≠ 0 then (0, impOwn i) else addrOf k l i

theorem chkImps_one (i : Imp) : chkImps [] [i] = impOwn i := by
  have h : chkImps [] [i] = if impErr [] i = 0 then 0 else impErr [] i := rfl
  have h2 : impErr [] i = impOwn i := by
    rw [impErr_own]
    by_cases h1 : impOwn i = 1
    · rw [if_pos h1, h1]
    · rw [if_neg h1, if_neg (by simp)]
  rw [h, h2]
  by_cases h3 : impOwn i = 0
  · rw [if_pos h3, h3]
  · rw [if_neg h3]

theorem findRes_cases (k : Ker) (l : List Plc) (i : Imp) : (chkFind k l ≠ 0 ∧ findRes k l i = (0, chkFind k l)) ∨ (chkFind k l = 0 ∧ impOwn i ≠ 0 ∧ findRes k l i = (0, impOwn i)) ∨ (chkFind k l = 0 ∧ impOwn i = 0 ∧ findRes k l i = addrOf k l i) := by
  unfold findRes
  by_cases h1 : chkFind k l = 0
  · by_cases h2 : impOwn i = 0
    · exact .inr (.inr ⟨h1, h2, by rw [if_neg (by omega), if_neg (by omega)]⟩)
    · exact .inr (.inl ⟨h1, h2, by rw [if_neg (by omega), if_pos h2]⟩)
  · exact .inl ⟨h1, by rw [if_pos h1]⟩

set_option maxHeartbeats 4000000 in
theorem find_any (K : Ker) (vk : Value) (l : List PV) (v : Value) (i : Imp) (w : World) (hK : IsKer w.heap.size w vk K) (hf : K.fits) (hrow : IsPlcs w.heap.size w v l) (hfit : ∀ x ∈ l, x.mod.fits) (hi : i.fits) :
    Calls Tryz.prog 70 #[vk, v, .agg #[.string i.mod, .string i.name, .int .i64 i.major, .int .i64 i.minor]] w fun e w' => e = .returned (.tuple #[.int .i64 (findRes K (l.map PV.plc) i).1, .int .i64 (findRes K (l.map PV.plc) i).2]) ∧ Below w.heap.size w w' := by
  have HP : Hid (∀ W, Below w.heap.size w W → Calls Tryz.prog 86 #[vk, v] W fun e w' => e = .returned (.int .i64 (chkFind K (l.map PV.plc))) ∧ Below W.heap.size W w') :=
    fun W hb => wrongPlaces_any K vk l v W ((hK.below hb).more hb.size) hf ((hrow.below hb).more hb.size) hfit
  have HA : Hid (chkFind K (l.map PV.plc) = 0 → ∀ W, Below w.heap.size w W → Calls Tryz.prog 87 #[vk, v, .agg #[.string i.mod, .string i.name, .int .i64 i.major, .int .i64 i.minor]] W fun e w' => e = .returned (.tuple #[.int .i64 (addrOf K (l.map PV.plc) i).1, .int .i64 (addrOf K (l.map PV.plc) i).2]) ∧ Below W.heap.size W w') :=
    fun h0 W hb => address_any K vk l v i W ((hK.below hb).more hb.size) ((hrow.below hb).more hb.size) h0
  have HI : Hid (∀ W B, CellsAt W B 106 #[.string i.mod, .string i.name, .int .i64 i.major, .int .i64 i.minor] → Calls Tryz.prog 119 #[.slice (some ⟨B, 0, none⟩) 1 1] W fun e w' => e = .returned (.int .i64 (impOwn i)) ∧ Below W.heap.size W w') := by
    intro W B hc
    have hr : RowOf 4 Imp.cell W.heap.size W (.slice (some ⟨B, 0, none⟩) 1 1) [i] := rowOf_cells (C := impC) (cells := Imp.cell) (sz := 4) (fun _ => rfl) impC_at hc [i] (by simp) 1 (by simp [impC])
    have := wrongImports_any [i] _ W hr (fun e he => by
      have e' : e = i := by simpa using he
      subst e'
      exact hi) (by simp)
    rwa [chkImps_one] at this
  obtain ⟨vke, rfl, hE⟩ := hK
  obtain ⟨pe, ke, rfl, _, _⟩ := hE
  obtain ⟨⟨a, cap, rfl, _, _⟩, _⟩ := hrow
  have key := findRes_cases K (l.map PV.plc) i
  generalize findRes K (l.map PV.plc) i = R at *
  generalize addrOf K (l.map PV.plc) i = A at *
  generalize chkFind K (l.map PV.plc) = cf at *
  generalize impOwn i = io at *
  obtain ⟨ma, mi, es⟩ := K
  obtain ⟨im, inm, ia, ib⟩ := i
  dsimp only at *
  clear hf hfit hi
  generalize es.length = le at *
  generalize l.length = ll at *
  have HW2 : Hid (Below w.heap.size w ((w.alloc (.cells #[.int .i64 ma, .int .i64 mi, .slice pe le ke] 24)).alloc (.cells #[.string im, .string inm, .int .i64 ia, .int .i64 ib] 106))) := ((Below.refl _ _).alloc (Nat.le_refl _) _).alloc (by simp) _
  have HK2 : Hid (CellsAt ((w.alloc (.cells #[.int .i64 ma, .int .i64 mi, .slice pe le ke] 24)).alloc (.cells #[.string im, .string inm, .int .i64 ia, .int .i64 ib] 106)) w.heap.size 24 #[.int .i64 ma, .int .i64 mi, .slice pe le ke]) := (CellsAt.new w 24 #[.int .i64 ma, .int .i64 mi, .slice pe le ke]).kept (World.grownBy_alloc _ _ none) (by simp)
  have HC2 : Hid (CellsAt ((w.alloc (.cells #[.int .i64 ma, .int .i64 mi, .slice pe le ke] 24)).alloc (.cells #[.string im, .string inm, .int .i64 ia, .int .i64 ib] 106)) (w.heap.size + 1) 106 #[.string im, .string inm, .int .i64 ia, .int .i64 ib]) := by
    have := CellsAt.new (w.alloc (.cells #[.int .i64 ma, .int .i64 mi, .slice pe le ke] 24)) 106 #[.string im, .string inm, .int .i64 ia, .int .i64 ib]
    rw [World.size_alloc] at this
    exact this
  go_enter Tryz.func70, Tryz.ntmps70
  go_wp2_with fail
  refine (HP.out _ HW2.out).mono ?_
  rintro e w3 ⟨rfl, b3⟩
  have C3 := HC2.out.below b3 (by simp)
  have K3 := HK2.out.below b3 (by simp; omega)
  have B3 := HW2.out.trans (b3.mono HW2.out.size)
  clear HC2 HK2 HW2 HP b3
  rcases key with ⟨h1, rfl⟩ | ⟨rfl, h2, rfl⟩ | ⟨rfl, rfl, rfl⟩
  · have h1' : (cf != 0) = true := by simpa using h1
    clear h1
    go_wp2
    go_ret2
    exact ⟨rfl, B3⟩
  all_goals
    have c0 := C3.cell 0
    have c1 := C3.cell 1
    have c2 := C3.cell 2
    have c3 := C3.cell 3
    simp at c0 c1 c2 c3
    have C4 := CellsAt.new w3 106 #[.string im, .string inm, .int .i64 ia, .int .i64 ib]
    have K4 := K3.kept (World.grownBy_alloc w3 (.cells #[.string im, .string inm, .int .i64 ia, .int .i64 ib] 106) none) (by simp)
    have D4 := C3.kept (World.grownBy_alloc w3 (.cells #[.string im, .string inm, .int .i64 ia, .int .i64 ib] 106) none) (by simp)
    have B4 := B3.alloc B3.size (.cells #[.string im, .string inm, .int .i64 ia, .int .i64 ib] 106)
    have HC4 : Hid (CellsAt (w3.alloc (.cells #[.string im, .string inm, .int .i64 ia, .int .i64 ib] 106)) w3.heap.size 106 #[.string im, .string inm, .int .i64 ia, .int .i64 ib]) := C4
    have HD4 : Hid (CellsAt (w3.alloc (.cells #[.string im, .string inm, .int .i64 ia, .int .i64 ib] 106)) (w.heap.size + 1) 106 #[.string im, .string inm, .int .i64 ia, .int .i64 ib]) := D4
    have HK4 : Hid (CellsAt (w3.alloc (.cells #[.string im, .string inm, .int .i64 ia, .int .i64 ib] 106)) w.heap.size 24 #[.int .i64 ma, .int .i64 mi, .slice pe le ke]) := K4
    have HB4 : Hid (Below w.heap.size w (w3.alloc (.cells #[.string im, .string inm, .int .i64 ia, .int .i64 ib] 106))) := B4
    clear C4 K4 D4 B4
    go_wp2_with fail
    refine (HI.out _ _ HC4.out).mono ?_
    rintro e w5 ⟨rfl, b5⟩
    have D5 := HD4.out.below b5 HD4.out.lt
    have K5 := HK4.out.below b5 HK4.out.lt
    have B5 := HB4.out.trans (b5.mono HB4.out.size)
    clear b5 HC4 HD4 HK4 HB4 HI c0 c1 c2 c3
  · have h2' : (io != 0) = true := by simpa using h2
    clear h2
    go_wp2
    go_ret2
    exact ⟨rfl, B5⟩
  · have c0 := D5.cell 0
    have c1 := D5.cell 1
    have c2 := D5.cell 2
    have c3 := D5.cell 3
    have d0 := K5.cell 0
    have d1 := K5.cell 1
    have d2 := K5.cell 2
    simp at c0 c1 c2 c3 d0 d1 d2
    go_wp2_with fail
    refine (HA.out (by first | rfl | trivial) _ B5).mono ?_
    rintro e w6 ⟨rfl, b6⟩
    go_wp2
    go_ret2
    exact ⟨rfl, B5.trans (b6.mono B5.size)⟩

end Go.Proofs.YtlpnfbpgnfappaaGreat
