/- The contract of placed.Wrong: nothing more is asked of a module, or one thing more. -/
import Derived.Test.YtaklbnabgcglhabRegM
import Derived.Test.YtaklbnabgcglhabCells
namespace Go.Proofs.Ytaklbnabgcglhab
open Go.RowKit Go.PlainAid

set_option maxRecDepth 100000

theorem plc_new (wr : World) (x : PV) (t : TypeId) : CellsAt (wr.alloc (.cells #[.string x.mod.name, .int .i64 x.mod.major, .int .i64 x.mod.minor, .string x.mod.text, x.ve, x.vi, x.vp, .int .i64 x.first] t)) wr.heap.size t #[.string x.mod.name, .int .i64 x.mod.major, .int .i64 x.mod.minor, .string x.mod.text, x.ve, x.vi, x.vp, .int .i64 x.first] := CellsAt.new _ _ _

set_option maxHeartbeats 2000000 in
theorem placedWrong_nil (l : List PV) (v : Value) (w : World) (hrow : IsPlcs w.heap.size w v l) (hfit : ∀ x ∈ l, x.mod.fits) :
    Calls Try.prog 73 #[v, .slice none 0 0] w fun e w' => e = .returned (.int .i64 (if 8 < l.length then 2 else chkBy (fun _ => 0) (l.map PV.plc))) ∧ Below w.heap.size w w' := by
  have HC0 : Hid (∀ x ∈ l, ∀ W, Below w.heap.size w W → Calls Try.prog 46 #[x.modV] W fun e w' => e = .returned (.int .i64 (chkMod x.mod)) ∧ Below W.heap.size W w') := fun x hx W hb => check_any x.mod x.modV W (((hrow.2 x hx).below hb).more hb.size |>.isMod) (hfit x hx)
  have hat := hrow.2
  obtain ⟨⟨a, cap, rfl, _, hrow⟩, _⟩ := hrow
  by_cases h8 : 8 < l.length
  · rw [if_pos h8]
    have h8' : (8 : Int) < l.length := by omega
    clear HC0 hat hrow
    go_enter Try.func73, Try.ntmps73
    go_wp2
    go_ret
    exact ⟨rfl, Below.refl _ _⟩
  · rw [if_neg h8]
    have h8' : decide ((8 : Int) < l.length) = false := decide_eq_false (by omega)
    have h8'' : decide (8 < l.length) = false := decide_eq_false (by omega)
    go_enter Try.func73, Try.ntmps73
    go_wp2_with fail
    go_loopw [16] (fun i wr => ∃ (k : Nat), k ≤ l.length ∧ i = .int .i64 k ∧ Hid (chkBy (fun _ => 0) (l.map PV.plc) = chkBy (fun _ => 0) ((l.drop k).map PV.plc)) ∧ Below w.heap.size w wr) (fun i _ => l.length - (intOf i).toNat)
    case atStart => exact ⟨0, Nat.zero_le _, rfl, by show chkBy _ (l.map PV.plc) = chkBy _ ((l.drop 0).map PV.plc); rfl, Below.refl _ _⟩
    case round =>
      obtain ⟨k, hk, rfl, HC, B⟩ := hrel
      by_cases hlt : k < l.length
      · obtain ⟨x, hx⟩ : ∃ x, l[k]? = some x := ⟨_, List.getElem?_eq_getElem hlt⟩
        rcases hrow with h | ⟨b, off, rfl, hbn, hcells⟩
        · subst h; simp at hlt
        have key := chkBy_step (fun _ => 0) x.plc ((l.drop (k + 1)).map PV.plc)
        have HR : Hid (chkBy (fun _ => 0) (l.map PV.plc) = chkBy (fun _ => 0) (x.plc :: (l.drop (k + 1)).map PV.plc)) := by
          show chkBy _ (l.map PV.plc) = _
          rw [HC.out, drop_at hx]; rfl
        have HM : Hid (∀ W, Below w.heap.size w W → Calls Try.prog 46 #[x.modV] W fun e w' => e = .returned (.int .i64 (chkMod x.mod)) ∧ Below W.heap.size W w') := HC0.out x (List.mem_of_getElem? hx)
        obtain ⟨⟨pe, ke, e4, _⟩, ⟨pi, ki, e5, _⟩, ⟨pp, kp, e6, _⟩⟩ := hat x (List.mem_of_getElem? hx)
        obtain ⟨⟨N, ma, mi, T, es, is, ps⟩, ve, vi, vp, fi⟩ := x
        dsimp only at e4 e5 e6
        subst e4 e5 e6
        have c0 := (B.cell (p := ⟨b, off + k * 8 + 0, none⟩) hbn).trans (hcells k _ hx 0 (by omega))
        have c1 := (B.cell (p := ⟨b, off + k * 8 + 1, none⟩) hbn).trans (hcells k _ hx 1 (by omega))
        have c2 := (B.cell (p := ⟨b, off + k * 8 + 2, none⟩) hbn).trans (hcells k _ hx 2 (by omega))
        have c3 := (B.cell (p := ⟨b, off + k * 8 + 3, none⟩) hbn).trans (hcells k _ hx 3 (by omega))
        have c4 := (B.cell (p := ⟨b, off + k * 8 + 4, none⟩) hbn).trans (hcells k _ hx 4 (by omega))
        have c5 := (B.cell (p := ⟨b, off + k * 8 + 5, none⟩) hbn).trans (hcells k _ hx 5 (by omega))
        have c6 := (B.cell (p := ⟨b, off + k * 8 + 6, none⟩) hbn).trans (hcells k _ hx 6 (by omega))
        have c7 := (B.cell (p := ⟨b, off + k * 8 + 7, none⟩) hbn).trans (hcells k _ hx 7 (by omega))
        dsimp only [PV.cell, PV.modV] at c0 c1 c2 c3 c4 c5 c6 c7 HM
        rw [Nat.add_zero] at c0
        clear HC HC0 hcells hx hat
        dsimp only [PV.plc] at key HR
        generalize chkMod ⟨N, ma, mi, T, es, is, ps⟩ = cm at key HM
        generalize chkBy (fun _ => 0) (⟨⟨N, ma, mi, T, es, is, ps⟩, fi⟩ :: (l.drop (k + 1)).map PV.plc) = R at key HR
        generalize es.length = le at *
        generalize is.length = li at *
        generalize ps.length = lp at *
        have HBB : Hid (Below w.heap.size w (wr.alloc (.cells #[.string N, .int .i64 ma, .int .i64 mi, .string T, .slice pe le ke, .slice pi li ki, .slice pp lp kp, .int .i64 fi] 56))) := B.alloc B.size _
        go_wp2_with fail
        refine (HM.out _ HBB.out).mono ?_
        rintro e w2 ⟨rfl, b2⟩
        have B2 := HBB.out.trans (b2.mono HBB.out.size)
        clear HBB b2 c0 c1 c2 c3 c4 c5 c6 c7
        rcases key with ⟨h1, rfl⟩ | ⟨rfl, h2, _⟩ | ⟨rfl, _, rfl⟩
        · have h1' : (R != 0) = true := by simpa using h1
          go_wp2
          go_ret
          exact ⟨by rw [HR.out]; rfl, B2⟩
        · exact absurd rfl h2
        · go_wp2_with fail
          go_loopw [28] (fun j wq => j = .int .i64 0 ∧ Below w.heap.size w wq) (fun _ _ => 0)
          case atStart => exact ⟨rfl, B2⟩
          case round =>
            obtain ⟨rfl, B3⟩ := hrel
            go_wp2
            exact ⟨⟨k + 1, by omega, by go_num, HR.out, B3⟩, by simp [intOf]; omega⟩
      · obtain rfl : k = l.length := by omega
        have HZ : Hid (chkBy (fun _ => 0) (l.map PV.plc) = 0) := by
          show chkBy _ (l.map PV.plc) = 0
          rw [HC.out, List.drop_length]; rfl
        go_wp2
        go_ret
        exact ⟨by rw [HZ.out]; rfl, B⟩

set_option maxHeartbeats 4000000 in
theorem placedWrong_one (l : List PV) (v : Value) (b1 : Nat) (K : FuncId) (q : Plc → Int) (w : World) (hrow : IsPlcs w.heap.size w v l) (hfit : ∀ x ∈ l, x.mod.fits)
    (hb1 : b1 < w.heap.size) (hcell : w.cell? ⟨b1, 0, none⟩ = some (.func (.func K) #[] #[]))
    (hK : ∀ w x, Sem.run Try.prog (callFunc K #[x]) w = .ok (.enter K #[x]) w)
    (hq : ∀ x ∈ l, chkMod x.mod = 0 → ∀ W, Below w.heap.size w W → Calls Try.prog K #[x.val] W fun e w' => e = .returned (.int .i64 (q x.plc)) ∧ Below W.heap.size W w') :
    Calls Try.prog 73 #[v, .slice (some ⟨b1, 0, none⟩) 1 1] w fun e w' => e = .returned (.int .i64 (if 8 < l.length then 2 else chkBy q (l.map PV.plc))) ∧ Below w.heap.size w w' := by
  have HC0 : Hid (∀ x ∈ l, ∀ W, Below w.heap.size w W → Calls Try.prog 46 #[x.modV] W fun e w' => e = .returned (.int .i64 (chkMod x.mod)) ∧ Below W.heap.size W w') := fun x hx W hb => check_any x.mod x.modV W (((hrow.2 x hx).below hb).more hb.size |>.isMod) (hfit x hx)
  have HQ0 : Hid (∀ x ∈ l, chkMod x.mod = 0 → ∀ W, Below w.heap.size w W → Calls Try.prog K #[x.val] W fun e w' => e = .returned (.int .i64 (q x.plc)) ∧ Below W.heap.size W w') := hq
  clear hq
  have hat := hrow.2
  obtain ⟨⟨a, cap, rfl, _, hrow⟩, _⟩ := hrow
  by_cases h8 : 8 < l.length
  · rw [if_pos h8]
    have h8' : (8 : Int) < l.length := by omega
    clear HC0 HQ0 hat hrow
    go_enter Try.func73, Try.ntmps73
    go_wp2
    go_ret
    exact ⟨rfl, Below.refl _ _⟩
  · rw [if_neg h8]
    have h8' : decide ((8 : Int) < l.length) = false := decide_eq_false (by omega)
    have h8'' : decide (8 < l.length) = false := decide_eq_false (by omega)
    go_enter Try.func73, Try.ntmps73
    go_wp2_with fail
    go_loopw [16] (fun i wr => ∃ (k : Nat), k ≤ l.length ∧ i = .int .i64 k ∧ Hid (chkBy q (l.map PV.plc) = chkBy q ((l.drop k).map PV.plc)) ∧ Below w.heap.size w wr) (fun i _ => l.length - (intOf i).toNat)
    case atStart => exact ⟨0, Nat.zero_le _, rfl, by show chkBy q (l.map PV.plc) = chkBy q ((l.drop 0).map PV.plc); rfl, Below.refl _ _⟩
    case round =>
      obtain ⟨k, hk, rfl, HC, B⟩ := hrel
      by_cases hlt : k < l.length
      · obtain ⟨x, hx⟩ : ∃ x, l[k]? = some x := ⟨_, List.getElem?_eq_getElem hlt⟩
        rcases hrow with h | ⟨b, off, rfl, hbn, hcells⟩
        · subst h; simp at hlt
        have key := chkBy_step q x.plc ((l.drop (k + 1)).map PV.plc)
        have HR : Hid (chkBy q (l.map PV.plc) = chkBy q (x.plc :: (l.drop (k + 1)).map PV.plc)) := by
          show chkBy q (l.map PV.plc) = _
          rw [HC.out, drop_at hx]; rfl
        have HM : Hid (∀ W, Below w.heap.size w W → Calls Try.prog 46 #[x.modV] W fun e w' => e = .returned (.int .i64 (chkMod x.mod)) ∧ Below W.heap.size W w') := HC0.out x (List.mem_of_getElem? hx)
        have HQ : Hid (chkMod x.mod = 0 → ∀ W, Below w.heap.size w W → Calls Try.prog K #[x.val] W fun e w' => e = .returned (.int .i64 (q x.plc)) ∧ Below W.heap.size W w') := HQ0.out x (List.mem_of_getElem? hx)
        obtain ⟨⟨pe, ke, e4, _⟩, ⟨pi, ki, e5, _⟩, ⟨pp, kp, e6, _⟩⟩ := hat x (List.mem_of_getElem? hx)
        obtain ⟨⟨N, ma, mi, T, es, is, ps⟩, ve, vi, vp, fi⟩ := x
        dsimp only at e4 e5 e6
        subst e4 e5 e6
        have c0 := (B.cell (p := ⟨b, off + k * 8 + 0, none⟩) hbn).trans (hcells k _ hx 0 (by omega))
        have c1 := (B.cell (p := ⟨b, off + k * 8 + 1, none⟩) hbn).trans (hcells k _ hx 1 (by omega))
        have c2 := (B.cell (p := ⟨b, off + k * 8 + 2, none⟩) hbn).trans (hcells k _ hx 2 (by omega))
        have c3 := (B.cell (p := ⟨b, off + k * 8 + 3, none⟩) hbn).trans (hcells k _ hx 3 (by omega))
        have c4 := (B.cell (p := ⟨b, off + k * 8 + 4, none⟩) hbn).trans (hcells k _ hx 4 (by omega))
        have c5 := (B.cell (p := ⟨b, off + k * 8 + 5, none⟩) hbn).trans (hcells k _ hx 5 (by omega))
        have c6 := (B.cell (p := ⟨b, off + k * 8 + 6, none⟩) hbn).trans (hcells k _ hx 6 (by omega))
        have c7 := (B.cell (p := ⟨b, off + k * 8 + 7, none⟩) hbn).trans (hcells k _ hx 7 (by omega))
        dsimp only [PV.cell, PV.modV] at c0 c1 c2 c3 c4 c5 c6 c7 HM
        dsimp only [PV.val] at HQ
        rw [Nat.add_zero] at c0
        clear HC HC0 HQ0 hcells hx hat
        dsimp only [PV.plc] at key HR HQ
        generalize chkMod ⟨N, ma, mi, T, es, is, ps⟩ = cm at key HM HQ
        generalize chkBy q (⟨⟨N, ma, mi, T, es, is, ps⟩, fi⟩ :: (l.drop (k + 1)).map PV.plc) = R at key HR
        generalize q ⟨⟨N, ma, mi, T, es, is, ps⟩, fi⟩ = qx at key HQ
        generalize es.length = le at *
        generalize is.length = li at *
        generalize ps.length = lp at *
        have HBB : Hid (Below w.heap.size w (wr.alloc (.cells #[.string N, .int .i64 ma, .int .i64 mi, .string T, .slice pe le ke, .slice pi li ki, .slice pp lp kp, .int .i64 fi] 56))) := B.alloc B.size _
        have HCA : Hid (CellsAt (wr.alloc (.cells #[.string N, .int .i64 ma, .int .i64 mi, .string T, .slice pe le ke, .slice pi li ki, .slice pp lp kp, .int .i64 fi] 56)) wr.heap.size 56 #[.string N, .int .i64 ma, .int .i64 mi, .string T, .slice pe le ke, .slice pi li ki, .slice pp lp kp, .int .i64 fi]) := CellsAt.new _ _ _
        go_wp2_with fail
        refine (HM.out _ HBB.out).mono ?_
        rintro e w2 ⟨rfl, b2⟩
        have B2 := HBB.out.trans (b2.mono HBB.out.size)
        have C2 := HCA.out.below b2 HCA.out.lt
        clear HBB HCA b2 c0 c1 c2 c3 c4 c5 c6 c7
        rcases key with ⟨h1, rfl⟩ | ⟨rfl, h2, rfl⟩ | ⟨rfl, rfl, rfl⟩
        · have h1' : (R != 0) = true := by simpa using h1
          clear C2
          go_wp2
          go_ret
          exact ⟨by rw [HR.out]; rfl, B2⟩
        · go_wp2_with fail
          go_loopw [28] (fun j wq => j = .int .i64 0 ∧ Below w2.heap.size w2 wq) (fun j _ => 1 - (intOf j).toNat)
          case atStart => exact ⟨rfl, Below.refl _ _⟩
          case round =>
            obtain ⟨rfl, B3⟩ := hrel
            have BB := B2.trans (B3.mono B2.size)
            have C3 := C2.below B3 C2.lt
            have t0 := C3.cell 0
            have t1 := C3.cell 1
            have t2 := C3.cell 2
            have t3 := C3.cell 3
            have t4 := C3.cell 4
            have t5 := C3.cell 5
            have t6 := C3.cell 6
            have t7 := C3.cell 7
            simp at t0 t1 t2 t3 t4 t5 t6 t7
            have tf := (BB.cell (p := ⟨b1, 0, none⟩) hb1).trans hcell
            clear C2 C3
            go_wp2_with fail
            refine Calls.mono (HQ.out (by first | rfl | trivial) _ BB) ?_
            rintro e w4 ⟨rfl, b4⟩
            have B4 := BB.trans (b4.mono BB.size)
            have B34 := B3.trans (b4.mono B3.size)
            clear HQ t0 t1 t2 t3 t4 t5 t6 t7 tf b4
            have h2' : (R != 0) = true := by simpa using h2
            go_wp2
            go_ret
            exact ⟨by rw [HR.out]; rfl, B4⟩
        · go_wp2_with fail
          go_loopw [28] (fun j wq => ((j = .int .i64 0 ∧ True) ∨ (j = .int .i64 1 ∧ True)) ∧ Below w2.heap.size w2 wq) (fun j _ => 1 - (intOf j).toNat)
          case atStart => exact ⟨.inl ⟨rfl, trivial⟩, Below.refl _ _⟩
          case round =>
            obtain ⟨hj, B3⟩ := hrel
            rcases hj with ⟨rfl, _⟩ | ⟨rfl, _⟩
            · have BB := B2.trans (B3.mono B2.size)
              have C3 := C2.below B3 C2.lt
              have t0 := C3.cell 0
              have t1 := C3.cell 1
              have t2 := C3.cell 2
              have t3 := C3.cell 3
              have t4 := C3.cell 4
              have t5 := C3.cell 5
              have t6 := C3.cell 6
              have t7 := C3.cell 7
              simp at t0 t1 t2 t3 t4 t5 t6 t7
              have tf := (BB.cell (p := ⟨b1, 0, none⟩) hb1).trans hcell
              clear C2 C3
              go_wp2_with fail
              refine Calls.mono (HQ.out (by first | rfl | trivial) _ BB) ?_
              rintro e w4 ⟨rfl, b4⟩
              have B4 := BB.trans (b4.mono BB.size)
              have B34 := B3.trans (b4.mono B3.size)
              clear HQ t0 t1 t2 t3 t4 t5 t6 t7 tf b4
              go_wp2
              exact ⟨⟨.inr ⟨rfl, trivial⟩, B34⟩, by simp [intOf]⟩
            · have BB := B2.trans (B3.mono B2.size)
              clear C2
              go_wp2
              exact ⟨⟨k + 1, by omega, by go_num, HR.out, BB⟩, by simp [intOf]; omega⟩
      · obtain rfl : k = l.length := by omega
        have HZ : Hid (chkBy q (l.map PV.plc) = 0) := by
          show chkBy q (l.map PV.plc) = 0
          rw [HC.out, List.drop_length]; rfl
        go_wp2
        go_ret
        exact ⟨by rw [HZ.out]; rfl, B⟩

end Go.Proofs.Ytaklbnabgcglhab
