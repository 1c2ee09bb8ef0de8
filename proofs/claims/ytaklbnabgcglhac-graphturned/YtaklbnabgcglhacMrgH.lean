/- Texts that are laid together. -/
import Derived.Test.YtaklbnabgcglhacMrgC
import Derived.Laws.Rows
import Derived.Laws.ResultCell
import Derived.Test.YtaklbnabgcglhacMrgF
import Derived.Test.YtaklbnabgcglhacMrgG

/- Memory that is cells. -/
namespace Go.Proofs.Ytaklbnabgcglhac
open Go.RowKit Go.PlainAid Go.Lib

/-- Block B holds just these. -/
def CellsAt (W : World) (B : Nat) (t : TypeId) (cs : Array Value) : Prop := W.heap[B]? = some (.cells cs t (0, 0))
theorem CellsAt.lt {W : World} {B : Nat} {t : TypeId} {cs : Array Value} (h : CellsAt W B t cs) : B < W.heap.size := (Array.getElem?_eq_some_iff.1 h).1
theorem CellsAt.cell {W : World} {B : Nat} {t : TypeId} {cs : Array Value} (h : CellsAt W B t cs) (i : Nat) : W.cell? ⟨B, i, none⟩ = cs[i]? := by
  simp [World.cell?, show W.heap[B]? = _ from h]
theorem CellsAt.frozen {W : World} {B : Nat} {t : TypeId} {cs : Array Value} (h : CellsAt W B t cs) (i : Nat) : W.frozen? ⟨B, i, none⟩ = false := by
  simp [World.frozen?, show W.heap[B]? = _ from h]
theorem CellsAt.new (W : World) (t : TypeId) (cs : Array Value) : CellsAt (W.alloc (.cells cs t)) W.heap.size t cs := World.alloc_heap_new W _
theorem CellsAt.kept {W W' : World} {row : Option Nat} {B : Nat} {t : TypeId} {cs : Array Value} (h : CellsAt W B t cs) (hg : W.grownBy W' row) (hne : some B ≠ row) : CellsAt W' B t cs := (hg.block B h.lt hne).trans h
theorem CellsAt.below {W W' : World} {B n : Nat} {t : TypeId} {cs : Array Value} (h : CellsAt W B t cs) (hb : Below n W W') (hn : B < n) : CellsAt W' B t cs := (hb.block B hn).trans h
theorem CellsAt.set {W : World} {B : Nat} {t : TypeId} {cs : Array Value} (i : Nat) (v : Value) (h : CellsAt W B t cs) : CellsAt (W.setCell ⟨B, i, none⟩ v) B t (cs.setIfInBounds i v) := by
  obtain ⟨hlt, hk⟩ := Array.getElem?_eq_some_iff.1 h
  show (W.heap.modify B _)[B]? = _
  rw [Array.getElem?_eq_getElem (by rw [Array.size_modify]; exact hlt), Array.getElem_modify_self, hk]
  rfl
theorem grown_set (W : World) (b i : Nat) (v : Value) : W.grownBy (W.setCell ⟨b, i, none⟩ v) (some b) :=
  ⟨rfl, rfl, rfl, by simp [World.setCell], fun k _ hne => Below.heap_setCell W ⟨b, i, none⟩ v k (fun e => hne (by rw [e]))⟩

theorem results_cell_tmp_row {P : Program} {fn : Func} {p u : Tmp} {ty : TypeId} (h : fn.results = #[.cell p ty, .tmp u]) (tmps : Array Value) (w : World) (g : Nat) (t : TypeId) (cs : Array Value) (fr : Nat × Nat) (d : TypeDesc)
    (hp : tmps.getD p undef = .pointer (some ⟨g, 0, none⟩)) (hg : w.heap[g]? = some (.cells cs t fr))
    (hu : P.underlying ty = some d) (hd : (match d with | .struct _ | .array _ _ => true | _ => false) = true) (hi : (P.info? ty).map (·.size) = some cs.size) :
    (results fn tmps).run P w = .ok (.tuple #[.agg cs, tmps.getD u undef]) w := by
  rw [results_cell_tmp h, hp]
  simp [asAddr, run_loadVar_row w g t ty cs fr d hg hu hd hi]

def expC (e : Exp) : List Value := [.string e.name, .int .i64 e.pos]
def impC (i : Imp) : List Value := [.string i.mod, .string i.name, .int .i64 i.major, .int .i64 i.minor]
def patC (p : Pat) : List Value := [.int .i64 p.kind, .int .i64 p.pos, .int .i64 p.sym, .int .i64 p.add]

theorem flat_at {α : Type} {C : α → List Value} {sz : Nat} (hC : ∀ x, (C x).length = sz) : ∀ (l : List α) (j : Nat) (x : α) (i : Nat), l[j]? = some x → i < sz → (l.flatMap C)[j * sz + i]? = (C x)[i]?
  | [], j, x, i, h, _ => by simp at h
  | y :: l, 0, x, i, h, hi => by
    obtain rfl : y = x := by simpa using h
    rw [List.flatMap_cons, Nat.zero_mul, Nat.zero_add, List.getElem?_append_left (by rw [hC]; exact hi)]
  | y :: l, j + 1, x, i, h, hi => by
    rw [List.flatMap_cons, List.getElem?_append_right (by rw [hC, Nat.succ_mul]; omega), hC]
    have := flat_at hC l j x i (by simpa using h) hi
    rwa [show (j + 1) * sz + i - sz = j * sz + i by rw [Nat.succ_mul]; omega]

theorem rowOf_cells {α : Type} {C : α → List Value} {cells : α → Nat → Value} {sz : Nat} (hC : ∀ x, (C x).length = sz) (hc : ∀ x i, i < sz → (C x)[i]? = some (cells x i)) {W : World} {B : Nat} {t : TypeId} {cs : Array Value} (h : CellsAt W B t cs)
    (l : List α) (hl : l.length ≤ 255) (cap : Nat) (hcs : cs.toList = l.flatMap C) : RowOf sz cells W.heap.size W (.slice (some ⟨B, 0, none⟩) l.length cap) l := by
  refine ⟨_, cap, rfl, by omega, .inr ⟨B, 0, rfl, h.lt, fun j x hj i hi => ?_⟩⟩
  rw [Nat.zero_add, h.cell]
  have h1 := flat_at hC l j x i hj hi
  rw [hc x i hi, ← hcs] at h1
  simpa using h1
theorem expC_at (x : Exp) (i : Nat) (hi : i < 2) : (expC x)[i]? = some (Exp.cell x i) := by
  have : i = 0 ∨ i = 1 := by omega
  rcases this with rfl | rfl <;> rfl
theorem impC_at (x : Imp) (i : Nat) (hi : i < 4) : (impC x)[i]? = some (Imp.cell x i) := by
  have : i = 0 ∨ i = 1 ∨ i = 2 ∨ i = 3 := by omega
  rcases this with rfl | rfl | rfl | rfl <;> rfl
theorem patC_at (x : Pat) (i : Nat) (hi : i < 4) : (patC x)[i]? = some (Pat.cell x i) := by
  have : i = 0 ∨ i = 1 ∨ i = 2 ∨ i = 3 := by omega
  rcases this with rfl | rfl | rfl | rfl <;> rfl

end Go.Proofs.Ytaklbnabgcglhac

/- The contract of placed.Wrong: nothing more is asked of a module, or one thing more. -/
namespace Go.Proofs.Ytaklbnabgcglhac
open Go.RowKit Go.PlainAid

set_option maxRecDepth 100000

theorem plc_new (wr : World) (x : PV) (t : TypeId) : CellsAt (wr.alloc (.cells #[.string x.mod.name, .int .i64 x.mod.major, .int .i64 x.mod.minor, .string x.mod.text, x.ve, x.vi, x.vp, .int .i64 x.first] t)) wr.heap.size t #[.string x.mod.name, .int .i64 x.mod.major, .int .i64 x.mod.minor, .string x.mod.text, x.ve, x.vi, x.vp, .int .i64 x.first] := CellsAt.new _ _ _

set_option maxHeartbeats 2000000 in
theorem placedWrong_nil (l : List PV) (v : Value) (w : World) (hrow : IsPlcs w.heap.size w v l) (hfit : ∀ x ∈ l, x.mod.fits) :
    Calls Try.prog 53 #[v, .slice none 0 0] w fun e w' => e = .returned (.int .i64 (if 8 < l.length then 2 else chkBy (fun _ => 0) (l.map PV.plc))) ∧ Below w.heap.size w w' := by
  have HC0 : Hid (∀ x ∈ l, ∀ W, Below w.heap.size w W → Calls Try.prog 33 #[x.modV] W fun e w' => e = .returned (.int .i64 (chkMod x.mod)) ∧ Below W.heap.size W w') := fun x hx W hb => check_any x.mod x.modV W (((hrow.2 x hx).below hb).more hb.size |>.isMod) (hfit x hx)
  have hat := hrow.2
  obtain ⟨⟨a, cap, rfl, _, hrow⟩, _⟩ := hrow
  by_cases h8 : 8 < l.length
  · rw [if_pos h8]
    have h8' : (8 : Int) < l.length := by omega
    clear HC0 hat hrow
    go_enter Try.func53, Try.ntmps53
    go_wp2
    go_ret
    exact ⟨rfl, Below.refl _ _⟩
  · rw [if_neg h8]
    have h8' : decide ((8 : Int) < l.length) = false := decide_eq_false (by omega)
    have h8'' : decide (8 < l.length) = false := decide_eq_false (by omega)
    go_enter Try.func53, Try.ntmps53
    go_wp2_with fail
    go_loopw [16] (fun i wr => ∃ (k : Nat), k ≤ l.length ∧ i = .int .i64 k ∧ Hid (chkBy (fun _ => 0) (l.map PV.plc) = chkBy (fun _ => 0) ((l.drop k).map PV.plc)) ∧ Below w.heap.size w wr) (fun i _ => l.length - (intOf i).toNat)
    case atStart => exact ⟨0, Nat.zero_le _, rfl, by show chkBy _ (l.map PV.plc) = chkBy _ ((l.drop 0).map PV.plc); rfl, Below.refl _ _⟩
    case round =>
      obtain ⟨k, hk, rfl, HC, B⟩ := hrel
      by_cases hlt : k < l.length
      · obtain ⟨x, hx⟩ : ∃ x, l[k]? = some x := ⟨_, List.getElem?_eq_getElem hlt⟩
        rcases hrow with h | ⟨b, off, rfl, hbn, hcells⟩
        · subst h; simp at hlt
        have key := chkBy_step (fun _ => 0) x.plc ((l.drop (k + 1)).map PV.plc)
        have HR : Hid (chkBy (fun _ => 0) (l.map PV.plc) = chkBy (fun _ => 0) (x.plc :: (l.drop (k + 1)).map PV.plc)) := by
          show chkBy _ (l.map PV.plc) = _
          rw [HC.out, drop_at hx]; rfl
        have HM : Hid (∀ W, Below w.heap.size w W → Calls Try.prog 33 #[x.modV] W fun e w' => e = .returned (.int .i64 (chkMod x.mod)) ∧ Below W.heap.size W w') := HC0.out x (List.mem_of_getElem? hx)
        obtain ⟨⟨pe, ke, e4, _⟩, ⟨pi, ki, e5, _⟩, ⟨pp, kp, e6, _⟩⟩ := hat x (List.mem_of_getElem? hx)
        obtain ⟨⟨N, ma, mi, T, es, is, ps⟩, ve, vi, vp, fi⟩ := x
        dsimp only at e4 e5 e6
        subst e4 e5 e6
        have c0 := (B.cell (p := ⟨b, off + k * 8 + 0, none⟩) hbn).trans (hcells k _ hx 0 (by omega))
        have c1 := (B.cell (p := ⟨b, off + k * 8 + 1, none⟩) hbn).trans (hcells k _ hx 1 (by omega))
        have c2 := (B.cell (p := ⟨b, off + k * 8 + 2, none⟩) hbn).trans (hcells k _ hx 2 (by omega))
        have c3 := (B.cell (p := ⟨b, off + k * 8 + 3, none⟩) hbn).trans (hcells k _ hx 3 (by omega))
        have c4 := (B.cell (p := ⟨b, off + k * 8 + 4, none⟩) hbn).trans (hcells k _ hx 4 (by omega))
        have c5 := (B.cell (p := ⟨b, off + k * 8 + 5, none⟩) hbn).trans (hcells k _ hx 5 (by omega))
        have c6 := (B.cell (p := ⟨b, off + k * 8 + 6, none⟩) hbn).trans (hcells k _ hx 6 (by omega))
        have c7 := (B.cell (p := ⟨b, off + k * 8 + 7, none⟩) hbn).trans (hcells k _ hx 7 (by omega))
        dsimp only [PV.cell, PV.modV] at c0 c1 c2 c3 c4 c5 c6 c7 HM
        rw [Nat.add_zero] at c0
        clear HC HC0 hcells hx hat
        dsimp only [PV.plc] at key HR
        generalize chkMod ⟨N, ma, mi, T, es, is, ps⟩ = cm at key HM
        generalize chkBy (fun _ => 0) (⟨⟨N, ma, mi, T, es, is, ps⟩, fi⟩ :: (l.drop (k + 1)).map PV.plc) = R at key HR
        generalize es.length = le at *
        generalize is.length = li at *
        generalize ps.length = lp at *
        have HBB : Hid (Below w.heap.size w (wr.alloc (.cells #[.string N, .int .i64 ma, .int .i64 mi, .string T, .slice pe le ke, .slice pi li ki, .slice pp lp kp, .int .i64 fi] 38))) := B.alloc B.size _
        go_wp2_with fail
        refine (HM.out _ HBB.out).mono ?_
        rintro e w2 ⟨rfl, b2⟩
        have B2 := HBB.out.trans (b2.mono HBB.out.size)
        clear HBB b2 c0 c1 c2 c3 c4 c5 c6 c7
        rcases key with ⟨h1, rfl⟩ | ⟨rfl, h2, _⟩ | ⟨rfl, _, rfl⟩
        · have h1' : (R != 0) = true := by simpa using h1
          go_wp2
          go_ret
          exact ⟨by rw [HR.out]; rfl, B2⟩
        · exact absurd rfl h2
        · go_wp2_with fail
          go_loopw [28] (fun j wq => j = .int .i64 0 ∧ Below w.heap.size w wq) (fun _ _ => 0)
          case atStart => exact ⟨rfl, B2⟩
          case round =>
            obtain ⟨rfl, B3⟩ := hrel
            go_wp2
            exact ⟨⟨k + 1, by omega, by go_num, HR.out, B3⟩, by simp [intOf]; omega⟩
      · obtain rfl : k = l.length := by omega
        have HZ : Hid (chkBy (fun _ => 0) (l.map PV.plc) = 0) := by
          show chkBy _ (l.map PV.plc) = 0
          rw [HC.out, List.drop_length]; rfl
        go_wp2
        go_ret
        exact ⟨by rw [HZ.out]; rfl, B⟩

set_option maxHeartbeats 4000000 in
theorem placedWrong_one (l : List PV) (v : Value) (b1 : Nat) (K : FuncId) (q : Plc → Int) (w : World) (hrow : IsPlcs w.heap.size w v l) (hfit : ∀ x ∈ l, x.mod.fits)
    (hb1 : b1 < w.heap.size) (hcell : w.cell? ⟨b1, 0, none⟩ = some (.func (.func K) #[] #[]))
    (hK : ∀ w x, Sem.run Try.prog (callFunc K #[x]) w = .ok (.enter K #[x]) w)
    (hq : ∀ x ∈ l, chkMod x.mod = 0 → ∀ W, Below w.heap.size w W → Calls Try.prog K #[x.val] W fun e w' => e = .returned (.int .i64 (q x.plc)) ∧ Below W.heap.size W w') :
    Calls Try.prog 53 #[v, .slice (some ⟨b1, 0, none⟩) 1 1] w fun e w' => e = .returned (.int .i64 (if 8 < l.length then 2 else chkBy q (l.map PV.plc))) ∧ Below w.heap.size w w' := by
  have HC0 : Hid (∀ x ∈ l, ∀ W, Below w.heap.size w W → Calls Try.prog 33 #[x.modV] W fun e w' => e = .returned (.int .i64 (chkMod x.mod)) ∧ Below W.heap.size W w') := fun x hx W hb => check_any x.mod x.modV W (((hrow.2 x hx).below hb).more hb.size |>.isMod) (hfit x hx)
  have HQ0 : Hid (∀ x ∈ l, chkMod x.mod = 0 → ∀ W, Below w.heap.size w W → Calls Try.prog K #[x.val] W fun e w' => e = .returned (.int .i64 (q x.plc)) ∧ Below W.heap.size W w') := hq
  clear hq
  have hat := hrow.2
  obtain ⟨⟨a, cap, rfl, _, hrow⟩, _⟩ := hrow
  by_cases h8 : 8 < l.length
  · rw [if_pos h8]
    have h8' : (8 : Int) < l.length := by omega
    clear HC0 HQ0 hat hrow
    go_enter Try.func53, Try.ntmps53
    go_wp2
    go_ret
    exact ⟨rfl, Below.refl _ _⟩
  · rw [if_neg h8]
    have h8' : decide ((8 : Int) < l.length) = false := decide_eq_false (by omega)
    have h8'' : decide (8 < l.length) = false := decide_eq_false (by omega)
    go_enter Try.func53, Try.ntmps53
    go_wp2_with fail
    go_loopw [16] (fun i wr => ∃ (k : Nat), k ≤ l.length ∧ i = .int .i64 k ∧ Hid (chkBy q (l.map PV.plc) = chkBy q ((l.drop k).map PV.plc)) ∧ Below w.heap.size w wr) (fun i _ => l.length - (intOf i).toNat)
    case atStart => exact ⟨0, Nat.zero_le _, rfl, by show chkBy q (l.map PV.plc) = chkBy q ((l.drop 0).map PV.plc); rfl, Below.refl _ _⟩
    case round =>
      obtain ⟨k, hk, rfl, HC, B⟩ := hrel
      by_cases hlt : k < l.length
      · obtain ⟨x, hx⟩ : ∃ x, l[k]? = some x := ⟨_, List.getElem?_eq_getElem hlt⟩
        rcases hrow with h | ⟨b, off, rfl, hbn, hcells⟩
        · subst h; simp at hlt
        have key := chkBy_step q x.plc ((l.drop (k + 1)).map PV.plc)
        have HR : Hid (chkBy q (l.map PV.plc) = chkBy q (x.plc :: (l.drop (k + 1)).map PV.plc)) := by
          show chkBy q (l.map PV.plc) = _
          rw [HC.out, drop_at hx]; rfl
        have HM : Hid (∀ W, Below w.heap.size w W → Calls Try.prog 33 #[x.modV] W fun e w' => e = .returned (.int .i64 (chkMod x.mod)) ∧ Below W.heap.size W w') := HC0.out x (List.mem_of_getElem? hx)
        have HQ : Hid (chkMod x.mod = 0 → ∀ W, Below w.heap.size w W → Calls Try.prog K #[x.val] W fun e w' => e = .returned (.int .i64 (q x.plc)) ∧ Below W.heap.size W w') := HQ0.out x (List.mem_of_getElem? hx)
        obtain ⟨⟨pe, ke, e4, _⟩, ⟨pi, ki, e5, _⟩, ⟨pp, kp, e6, _⟩⟩ := hat x (List.mem_of_getElem? hx)
        obtain ⟨⟨N, ma, mi, T, es, is, ps⟩, ve, vi, vp, fi⟩ := x
        dsimp only at e4 e5 e6
        subst e4 e5 e6
        have c0 := (B.cell (p := ⟨b, off + k * 8 + 0, none⟩) hbn).trans (hcells k _ hx 0 (by omega))
        have c1 := (B.cell (p := ⟨b, off + k * 8 + 1, none⟩) hbn).trans (hcells k _ hx 1 (by omega))
        have c2 := (B.cell (p := ⟨b, off + k * 8 + 2, none⟩) hbn).trans (hcells k _ hx 2 (by omega))
        have c3 := (B.cell (p := ⟨b, off + k * 8 + 3, none⟩) hbn).trans (hcells k _ hx 3 (by omega))
        have c4 := (B.cell (p := ⟨b, off + k * 8 + 4, none⟩) hbn).trans (hcells k _ hx 4 (by omega))
        have c5 := (B.cell (p := ⟨b, off + k * 8 + 5, none⟩) hbn).trans (hcells k _ hx 5 (by omega))
        have c6 := (B.cell (p := ⟨b, off + k * 8 + 6, none⟩) hbn).trans (hcells k _ hx 6 (by omega))
        have c7 := (B.cell (p := ⟨b, off + k * 8 + 7, none⟩) hbn).trans (hcells k _ hx 7 (by omega))
        dsimp only [PV.cell, PV.modV] at c0 c1 c2 c3 c4 c5 c6 c7 HM
        dsimp only [PV.val] at HQ
        rw [Nat.add_zero] at c0
        clear HC HC0 HQ0 hcells hx hat
        dsimp only [PV.plc] at key HR HQ
        generalize chkMod ⟨N, ma, mi, T, es, is, ps⟩ = cm at key HM HQ
        generalize chkBy q (⟨⟨N, ma, mi, T, es, is, ps⟩, fi⟩ :: (l.drop (k + 1)).map PV.plc) = R at key HR
        generalize q ⟨⟨N, ma, mi, T, es, is, ps⟩, fi⟩ = qx at key HQ
        generalize es.length = le at *
        generalize is.length = li at *
        generalize ps.length = lp at *
        have HBB : Hid (Below w.heap.size w (wr.alloc (.cells #[.string N, .int .i64 ma, .int .i64 mi, .string T, .slice pe le ke, .slice pi li ki, .slice pp lp kp, .int .i64 fi] 38))) := B.alloc B.size _
        have HCA : Hid (CellsAt (wr.alloc (.cells #[.string N, .int .i64 ma, .int .i64 mi, .string T, .slice pe le ke, .slice pi li ki, .slice pp lp kp, .int .i64 fi] 38)) wr.heap.size 38 #[.string N, .int .i64 ma, .int .i64 mi, .string T, .slice pe le ke, .slice pi li ki, .slice pp lp kp, .int .i64 fi]) := CellsAt.new _ _ _
        go_wp2_with fail
        refine (HM.out _ HBB.out).mono ?_
        rintro e w2 ⟨rfl, b2⟩
        have B2 := HBB.out.trans (b2.mono HBB.out.size)
        have C2 := HCA.out.below b2 HCA.out.lt
        clear HBB HCA b2 c0 c1 c2 c3 c4 c5 c6 c7
        rcases key with ⟨h1, rfl⟩ | ⟨rfl, h2, rfl⟩ | ⟨rfl, rfl, rfl⟩
        · have h1' : (R != 0) = true := by simpa using h1
          clear C2
          go_wp2
          go_ret
          exact ⟨by rw [HR.out]; rfl, B2⟩
        · go_wp2_with fail
          go_loopw [28] (fun j wq => j = .int .i64 0 ∧ Below w2.heap.size w2 wq) (fun j _ => 1 - (intOf j).toNat)
          case atStart => exact ⟨rfl, Below.refl _ _⟩
          case round =>
            obtain ⟨rfl, B3⟩ := hrel
            have BB := B2.trans (B3.mono B2.size)
            have C3 := C2.below B3 C2.lt
            have t0 := C3.cell 0
            have t1 := C3.cell 1
            have t2 := C3.cell 2
            have t3 := C3.cell 3
            have t4 := C3.cell 4
            have t5 := C3.cell 5
            have t6 := C3.cell 6
            have t7 := C3.cell 7
            simp at t0 t1 t2 t3 t4 t5 t6 t7
            have tf := (BB.cell (p := ⟨b1, 0, none⟩) hb1).trans hcell
            clear C2 C3
            go_wp2_with fail
            refine Calls.mono (HQ.out (by first | rfl | trivial) _ BB) ?_
            rintro e w4 ⟨rfl, b4⟩
            have B4 := BB.trans (b4.mono BB.size)
            have B34 := B3.trans (b4.mono B3.size)
            clear HQ t0 t1 t2 t3 t4 t5 t6 t7 tf b4
            have h2' : (R != 0) = true := by simpa using h2
            go_wp2
            go_ret
            exact ⟨by rw [HR.out]; rfl, B4⟩
        · go_wp2_with fail
          go_loopw [28] (fun j wq => ((j = .int .i64 0 ∧ True) ∨ (j = .int .i64 1 ∧ True)) ∧ Below w2.heap.size w2 wq) (fun j _ => 1 - (intOf j).toNat)
          case atStart => exact ⟨.inl ⟨rfl, trivial⟩, Below.refl _ _⟩
          case round =>
            obtain ⟨hj, B3⟩ := hrel
            rcases hj with ⟨rfl, _⟩ | ⟨rfl, _⟩
            · have BB := B2.trans (B3.mono B2.size)
              have C3 := C2.below B3 C2.lt
              have t0 := C3.cell 0
              have t1 := C3.cell 1
              have t2 := C3.cell 2
              have t3 := C3.cell 3
              have t4 := C3.cell 4
              have t5 := C3.cell 5
              have t6 := C3.cell 6
              have t7 := C3.cell 7
              simp at t0 t1 t2 t3 t4 t5 t6 t7
              have tf := (BB.cell (p := ⟨b1, 0, none⟩) hb1).trans hcell
              clear C2 C3
              go_wp2_with fail
              refine Calls.mono (HQ.out (by first | rfl | trivial) _ BB) ?_
              rintro e w4 ⟨rfl, b4⟩
              have B4 := BB.trans (b4.mono BB.size)
              have B34 := B3.trans (b4.mono B3.size)
              clear HQ t0 t1 t2 t3 t4 t5 t6 t7 tf b4
              go_wp2
              exact ⟨⟨.inr ⟨rfl, trivial⟩, B34⟩, by simp [intOf]⟩
            · have BB := B2.trans (B3.mono B2.size)
              clear C2
              go_wp2
              exact ⟨⟨k + 1, by omega, by go_num, HR.out, BB⟩, by simp [intOf]; omega⟩
      · obtain rfl : k = l.length := by omega
        have HZ : Hid (chkBy q (l.map PV.plc) = 0) := by
          show chkBy q (l.map PV.plc) = 0
          rw [HC.out, List.drop_length]; rfl
        go_wp2
        go_ret
        exact ⟨by rw [HZ.out]; rfl, B⟩

end Go.Proofs.Ytaklbnabgcglhac

/- The contract of graph.wrong. -/
namespace Go.Proofs.Ytaklbnabgcglhac
open Go.RowKit Go.PlainAid Go.Maps Go.WideMaps

set_option maxRecDepth 100000

theorem chkGraph_cases (L : List Plc) : (plainErr L ≠ 0 ∧ chkGraph L = plainErr L) ∨ (plainErr L = 0 ∧ L.length ≤ 8 ∧ chkGraph L = if twiceFrom [] L = true then 6 else 0) := by
  unfold chkGraph
  by_cases h : plainErr L = 0
  · refine .inr ⟨h, ?_, by rw [if_neg (by omega)]⟩
    unfold plainErr at h
    split at h
    · omega
    · omega
  · exact .inl ⟨h, by rw [if_pos h]⟩

set_option maxHeartbeats 4000000 in
theorem graphWrong_any (l : List PV) (v : Value) (w : World) (hrow : IsPlcs w.heap.size w v l) (hfit : ∀ x ∈ l, x.mod.fits) :
    Calls Try.prog 30 #[v] w fun e w' => e = .returned (.int .i64 (chkGraph (l.map PV.plc))) ∧ Below w.heap.size w w' := by
  have HP : Hid (∀ W, Below w.heap.size w W → Calls Try.prog 53 #[v, .slice none 0 0] W fun e w' => e = .returned (.int .i64 (plainErr (l.map PV.plc))) ∧ Below W.heap.size W w') := by
    intro W hb
    have := placedWrong_nil l v W ((hrow.below hb).more hb.size) hfit
    unfold plainErr
    rw [List.length_map]
    exact this
  have hat := hrow.2
  obtain ⟨⟨a, cap, rfl, hmax, hrow⟩, _⟩ := hrow
  have key := chkGraph_cases (l.map PV.plc)
  rw [List.length_map] at key
  generalize chkGraph (l.map PV.plc) = R at *
  generalize plainErr (l.map PV.plc) = cp at *
  have hmm := @run_makeMap Try.prog
  go_enter Try.func30, Try.ntmps30
  go_wp2_with fail
  refine (HP.out w (Below.refl _ _)).mono ?_
  rintro e w2 ⟨rfl, B2⟩
  clear HP
  rcases key with ⟨h0, rfl⟩ | ⟨rfl, h8, hR⟩
  · have h0' : (R != 0) = true := by simpa using h0
    clear hrow hat h0
    go_wp2
    go_ret
    exact ⟨rfl, B2⟩
  · have HRR : Hid (R = if twiceFrom [] (l.map PV.plc) = true then 6 else 0) := hR
    clear hR
    go_wp2
    go_loopw [17] (fun i wr => ∃ (k : Nat) (D : DataW Unit), k ≤ l.length ∧ i = .int .i64 k ∧ wr.ownsMap Try.prog 9 (plainElem Try.prog 3) w2.heap.size k D ∧ HasNames D ((l.take k).map (·.mod.name)) ∧ Hid (twiceFrom [] (l.map PV.plc) = twiceFrom ((l.take k).map (·.mod.name)) ((l.drop k).map PV.plc)) ∧ Below w2.heap.size w2 wr) (fun i _ => l.length - (intOf i).toNat)
    case atStart => exact ⟨0, .map [], Nat.zero_le _, rfl, World.ownsMap_made _ _ _ _, HasNames.none, by show twiceFrom [] (l.map PV.plc) = twiceFrom [] ((l.drop 0).map PV.plc); rfl, (Below.refl _ _).alloc (Nat.le_refl _) _⟩
    case round =>
      obtain ⟨k, D, hk, rfl, hown, hD, HC, B⟩ := hrel
      have B' : Below w.heap.size w wr := B2.trans (B.mono B2.size)
      by_cases hlt : k < l.length
      · obtain ⟨x, hx⟩ : ∃ x, l[k]? = some x := ⟨_, List.getElem?_eq_getElem hlt⟩
        rcases hrow with h | ⟨b, off, rfl, hbn, hcells⟩
        · subst h; simp at hlt
        have hn : x.mod.name.size ≤ 9223372036854775807 := (hfit x (List.mem_of_getElem? hx)).1
        have htk : (l.take (k + 1)).map (·.mod.name) = (l.take k).map (·.mod.name) ++ [x.mod.name] := by rw [List.take_add_one, hx]; simp
        have HR : Hid (twiceFrom [] (l.map PV.plc) = ((((l.take k).map (·.mod.name)).any fun y => y == x.mod.name) || twiceFrom ((l.take (k + 1)).map (·.mod.name)) ((l.drop (k + 1)).map PV.plc))) := by
          show twiceFrom [] (l.map PV.plc) = _
          rw [HC.out, drop_at hx, htk]; rfl
        have hhas := hD x.mod.name
        have HPUT : Hid (∀ d, HasNames (D.put (.string x.mod.name.data.toList) d) ((l.take (k + 1)).map (·.mod.name))) := fun d => by rw [htk]; exact hD.put hown.isMap x.mod.name d
        have hkey : keyOf Try.prog 9 (.string x.mod.name) = some (.string x.mod.name.data.toList) := keyOf_string_mk Try.underlying9 hn
        obtain ⟨⟨pe, ke, e4, _⟩, ⟨pi, ki, e5, _⟩, ⟨pp, kp, e6, _⟩⟩ := hat x (List.mem_of_getElem? hx)
        obtain ⟨⟨N, ma, mi, T, es, is, ps⟩, ve, vi, vp, fi⟩ := x
        dsimp only at e4 e5 e6 hn HR hhas HPUT hkey
        subst e4 e5 e6
        have c0 := (B'.cell (p := ⟨b, off + k * 8 + 0, none⟩) hbn).trans (hcells k _ hx 0 (by omega))
        have c1 := (B'.cell (p := ⟨b, off + k * 8 + 1, none⟩) hbn).trans (hcells k _ hx 1 (by omega))
        have c2 := (B'.cell (p := ⟨b, off + k * 8 + 2, none⟩) hbn).trans (hcells k _ hx 2 (by omega))
        have c3 := (B'.cell (p := ⟨b, off + k * 8 + 3, none⟩) hbn).trans (hcells k _ hx 3 (by omega))
        have c4 := (B'.cell (p := ⟨b, off + k * 8 + 4, none⟩) hbn).trans (hcells k _ hx 4 (by omega))
        have c5 := (B'.cell (p := ⟨b, off + k * 8 + 5, none⟩) hbn).trans (hcells k _ hx 5 (by omega))
        have c6 := (B'.cell (p := ⟨b, off + k * 8 + 6, none⟩) hbn).trans (hcells k _ hx 6 (by omega))
        have c7 := (B'.cell (p := ⟨b, off + k * 8 + 7, none⟩) hbn).trans (hcells k _ hx 7 (by omega))
        dsimp only [PV.cell] at c0 c1 c2 c3 c4 c5 c6 c7
        rw [Nat.add_zero] at c0
        clear HC hcells hx hat htk hD
        generalize es.length = le at *
        generalize is.length = li at *
        generalize ps.length = lp at *
        generalize ((l.take k).map (·.mod.name)).any (fun y => y == N) = T' at HR hhas
        cases T'
        all_goals
          go_wp2_with (first
            | (at_lookup; refine wpList_lookup_own_ok_int _ rfl _ _ 80 rfl 9 3 .i64 lawS Try.underlying80 Try.underlying3 (zeroI _) w2.heap.size k D rfl (hown.kept (World.grownBy_alloc _ _ none) (by simp)) _ _ rfl hkey ?_; intro c hat hwc; clear hat hwc)
            | (at_mapUpdate; refine wpList_mapUpdate_own _ rfl _ _ _ 80 rfl 9 3 lawS Try.underlying80 _ w2.heap.size k _ rfl (hown.kept (World.grownBy_alloc _ _ none) (by simp)) (by unfold maxLen; omega) _ _ _ rfl rfl hkey _ [] (plainElem_int Try.underlying3 (WalkArith.wf_i64 (by omega))) ?_; intro w1 hown1 hgrow1))
        case roundEnd =>
          exact ⟨⟨k + 1, _, by omega, by go_num, hown1, HPUT.out _, HR.out, (B.alloc B.size _).grown hgrow1 (by simp; have := B.size; omega) (fun j hj => by cases hj; exact Nat.le_refl _)⟩, by simp [intOf]; omega⟩
        all_goals
          go_ret
          exact ⟨by rw [HRR.out, HR.out]; rfl, B'.alloc B'.size _⟩
      · obtain rfl : k = l.length := by omega
        have HZ : Hid (R = 0) := by
          show R = 0
          rw [HRR.out, HC.out, List.drop_length]; rfl
        go_wp2
        go_ret
        exact ⟨by rw [HZ.out]; rfl, B'⟩

end Go.Proofs.Ytaklbnabgcglhac
