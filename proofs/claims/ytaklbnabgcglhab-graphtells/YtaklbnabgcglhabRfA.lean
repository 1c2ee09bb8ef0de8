/- The contracts of the document's CheckModules where no place is asked for, and of IsTwice. -/
import Derived.Test.YtaklbnabgcglhabGrM
import Derived.Test.YtaklbnabgcglhabRrA
namespace Go.Proofs.Ytaklbnabgcglhab
open Go.RowKit Go.PlainAid

set_option maxRecDepth 100000

set_option maxHeartbeats 2000000 in
theorem checkPlain_any (l : List PV) (v : Value) (w : World) (hrow : IsPlcs w.heap.size w v l) (hfit : ∀ x ∈ l, x.mod.fits) :
    Calls Try.prog 47 #[v, .bool false, .bool false] w fun e w' => e = .returned (.int .i64 (plainErr (l.map PV.plc))) ∧ Below w.heap.size w w' := by
  have HC0 : Hid (∀ x ∈ l, ∀ W, Below w.heap.size w W → Calls Try.prog 20 #[x.modV] W fun e w' => e = .returned (.int .i64 (chkMod x.mod)) ∧ Below W.heap.size W w') := fun x hx W hb => checkModule_any x.mod x.modV W (((hrow.2 x hx).below hb).more hb.size |>.isMod) (hfit x hx)
  have hat := hrow.2
  obtain ⟨⟨a, cap, rfl, _, hrow⟩, _⟩ := hrow
  unfold plainErr
  rw [List.length_map]
  by_cases h8 : 8 < l.length
  · rw [if_pos h8]
    have h8' : (8 : Int) < l.length := by omega
    clear HC0 hat hrow
    go_enter Try.func47, Try.ntmps47
    go_wp2
    go_ret
    exact ⟨rfl, Below.refl _ _⟩
  · rw [if_neg h8]
    have h8' : decide ((8 : Int) < l.length) = false := decide_eq_false (by omega)
    have h8'' : decide (8 < l.length) = false := decide_eq_false (by omega)
    go_enter Try.func47, Try.ntmps47
    go_wp2_with fail
    go_loopw [7] (fun i wr => ∃ (k : Nat), k ≤ l.length ∧ i = .int .i64 k ∧ Hid (chkBy (fun _ => 0) (l.map PV.plc) = chkBy (fun _ => 0) ((l.drop k).map PV.plc)) ∧ Below w.heap.size w wr) (fun i _ => l.length - (intOf i).toNat)
    case atStart => exact ⟨0, Nat.zero_le _, rfl, by show chkBy _ (l.map PV.plc) = chkBy _ ((l.drop 0).map PV.plc); rfl, Below.refl _ _⟩
    case round =>
      obtain ⟨k, hk, rfl, HC, B⟩ := hrel
      by_cases hlt : k < l.length
      · obtain ⟨x, hx⟩ : ∃ x, l[k]? = some x := ⟨_, List.getElem?_eq_getElem hlt⟩
        rcases hrow with h | ⟨b, off, rfl, hbn, hcells⟩
        · subst h; simp at hlt
        have key := chkBy_step (fun _ => 0) x.plc ((l.drop (k + 1)).map PV.plc)
        have HR : Hid (chkBy (fun _ => 0) (l.map PV.plc) = chkBy (fun _ => 0) (x.plc :: (l.drop (k + 1)).map PV.plc)) := by
          show chkBy _ (l.map PV.plc) = _
          rw [HC.out, drop_at hx]
          rfl
        have HM : Hid (∀ W, Below w.heap.size w W → Calls Try.prog 20 #[x.modV] W fun e w' => e = .returned (.int .i64 (chkMod x.mod)) ∧ Below W.heap.size W w') := HC0.out x (List.mem_of_getElem? hx)
        obtain ⟨⟨pe, ke, e4, _⟩, ⟨pi, ki, e5, _⟩, ⟨pp, kp, e6, _⟩⟩ := hat x (List.mem_of_getElem? hx)
        have c0 := (B.cell (p := ⟨b, off + k * 8 + 0, none⟩) hbn).trans (hcells k _ hx 0 (by omega))
        have c1 := (B.cell (p := ⟨b, off + k * 8 + 1, none⟩) hbn).trans (hcells k _ hx 1 (by omega))
        have c2 := (B.cell (p := ⟨b, off + k * 8 + 2, none⟩) hbn).trans (hcells k _ hx 2 (by omega))
        have c3 := (B.cell (p := ⟨b, off + k * 8 + 3, none⟩) hbn).trans (hcells k _ hx 3 (by omega))
        have c4 := (B.cell (p := ⟨b, off + k * 8 + 4, none⟩) hbn).trans (hcells k _ hx 4 (by omega))
        have c5 := (B.cell (p := ⟨b, off + k * 8 + 5, none⟩) hbn).trans (hcells k _ hx 5 (by omega))
        have c6 := (B.cell (p := ⟨b, off + k * 8 + 6, none⟩) hbn).trans (hcells k _ hx 6 (by omega))
        clear HC HC0 hcells hx hat
        rw [show x.plc.mod = x.mod from rfl] at key
        generalize hcm : chkMod x.mod = cm at key HM
        generalize chkBy (fun _ => 0) (x.plc :: (l.drop (k + 1)).map PV.plc) = R at key HR
        clear hcm
        obtain ⟨⟨N, ma, mi, T, es, is, ps⟩, ve, vi, vp, fi⟩ := x
        dsimp only at e4 e5 e6
        subst e4 e5 e6
        dsimp only [PV.cell, PV.modV] at c0 c1 c2 c3 c4 c5 c6 HM
        rw [Nat.add_zero] at c0
        generalize es.length = le at *
        generalize is.length = li at *
        generalize ps.length = lp at *
        go_wp2_with fail
        refine (HM.out _ B).mono ?_
        rintro e w2 ⟨rfl, b2⟩
        have B2 := B.trans (b2.mono B.size)
        clear b2 c0 c1 c2 c3 c4 c5 c6 HM
        rcases key with ⟨h1, rfl⟩ | ⟨_, h2, _⟩ | ⟨rfl, _, rfl⟩
        · have h1' : (R != 0) = true := by simpa using h1
          clear h1
          go_wp2
          go_ret
          exact ⟨by rw [HR.out]; rfl, B2⟩
        · exact absurd rfl h2
        · go_wp2
          exact ⟨⟨k + 1, by omega, by go_num, HR.out, B2⟩, by simp [intOf]; omega⟩
      · obtain rfl : k = l.length := by omega
        have HZ : Hid (chkBy (fun _ => 0) (l.map PV.plc) = 0) := by
          show chkBy _ (l.map PV.plc) = 0
          rw [HC.out, List.drop_length]; rfl
        go_wp2
        go_ret
        exact ⟨by rw [HZ.out]; rfl, B⟩

theorem idx_lt {α : Type} {p : α → Bool} : ∀ (l : List α) (n k : Nat) (x : α), l[k]? = some x → p x = true → (decide (idxFrom p n l < ((n + k : Nat) : Int)) = (l.take k).any p)
  | [], _, _, _, h, _ => by simp at h
  | y :: l, n, 0, x, h, hx => by
    obtain rfl : y = x := by simpa using h
    have hs : idxFrom p n (y :: l) = if p y = true then (n : Int) else idxFrom p (n + 1) l := rfl
    rw [hs, hx]
    simp
  | y :: l, n, k + 1, x, h, hx => by
    have hs : idxFrom p n (y :: l) = if p y = true then (n : Int) else idxFrom p (n + 1) l := rfl
    rw [hs, List.take_succ_cons, List.any_cons]
    cases hy : p y
    · have ih := idx_lt l (n + 1) k x (by simpa using h) hx
      rw [Bool.false_or, ← ih, if_neg (by decide), show n + (k + 1) = n + 1 + k by omega]
    · rw [if_pos rfl, Bool.true_or]
      exact decide_eq_true (by omega)

set_option maxHeartbeats 2000000 in
theorem isTwice_any (l : List PV) (v : Value) (w : World) (hrow : RowOf 8 PV.cell w.heap.size w v l) :
    Calls Try.prog 65 #[v] w fun e w' => e = .returned (.bool (twiceFrom [] (l.map PV.plc))) ∧ Below w.heap.size w w' := by
  have HP : Hid (∀ W n, Below w.heap.size w W → Calls Try.prog 31 #[v, .string n] W fun e w' => e = .returned (.int .i64 (idxFrom (fun x : PV => x.mod.name == n) 0 l)) ∧ Below W.heap.size W w') := fun W n hb => placeOf_any l v n W ((hrow.below hb).more hb.size)
  obtain ⟨a, cap, rfl, hz, hrow⟩ := hrow
  have HC0 : Hid (twiceFrom [] (l.map PV.plc) = twiceFrom ((l.take 0).map (·.mod.name)) ((l.drop 0).map PV.plc)) := (rfl : _ = _)
  generalize twiceFrom [] (l.map PV.plc) = R at *
  go_enter Try.func65, Try.ntmps65
  go_wp2_with fail
  go_loopw [3] (fun i wr => ∃ (k : Nat), k ≤ l.length ∧ i = .int .i64 k ∧ Hid (R = twiceFrom ((l.take k).map (·.mod.name)) ((l.drop k).map PV.plc)) ∧ Below w.heap.size w wr) (fun i _ => l.length - (intOf i).toNat)
  case atStart => exact ⟨0, Nat.zero_le _, rfl, HC0.out, Below.refl _ _⟩
  case round =>
    obtain ⟨k, hk, rfl, HC, B⟩ := hrel
    clear HC0
    by_cases hlt : k < l.length
    · obtain ⟨x, hx⟩ : ∃ x, l[k]? = some x := ⟨_, List.getElem?_eq_getElem hlt⟩
      rcases hrow with h | ⟨b, off, rfl, hbn, hcells⟩
      · subst h; simp at hlt
      have c0 := (B.cell (p := ⟨b, off + k * 8 + 0, none⟩) hbn).trans (hcells k _ hx 0 (by omega))
      dsimp only [PV.cell] at c0
      rw [Nat.add_zero] at c0
      have hix := idx_lt (p := fun y : PV => y.mod.name == x.mod.name) l 0 k x hx ((Go.MapKept.bytes_beq _ _).2 rfl)
      have htk : (l.take (k + 1)).map (·.mod.name) = (l.take k).map (·.mod.name) ++ [x.mod.name] := by rw [List.take_add_one, hx]; simp
      have HR : Hid (R = (((l.take k).any fun y => y.mod.name == x.mod.name) || twiceFrom ((l.take (k + 1)).map (·.mod.name)) ((l.drop (k + 1)).map PV.plc))) := by
        show R = _
        rw [HC.out, drop_at hx, htk]
        have hs : ∀ met, twiceFrom met (x.plc :: (l.drop (k + 1)).map PV.plc) = ((met.any fun y => y == x.mod.name) || twiceFrom (met ++ [x.mod.name]) ((l.drop (k + 1)).map PV.plc)) := fun _ => rfl
        rw [List.map_cons, hs, List.any_map]
        rfl
      have HPX : Hid (Calls Try.prog 31 #[.slice (some ⟨b, off, none⟩) l.length cap, .string x.mod.name] wr fun e w' => e = .returned (.int .i64 (idxFrom (fun y : PV => y.mod.name == x.mod.name) 0 l)) ∧ Below wr.heap.size wr w') := HP.out wr x.mod.name B
      rw [Nat.zero_add] at hix
      clear hcells hx HC htk
      generalize ((l.take k).any fun y => y.mod.name == x.mod.name) = t at *
      generalize idxFrom (fun y : PV => y.mod.name == x.mod.name) 0 l = ix at *
      generalize x.mod.name = xn at *
      go_wp2_with fail
      refine HPX.out.mono ?_
      rintro e w2 ⟨rfl, b2⟩
      have B2 := B.trans (b2.mono B.size)
      clear HPX b2 c0
      cases t
      · have h1 : ¬ ix < (k : Int) := of_decide_eq_false hix
        have HR2 : Hid (R = twiceFrom ((l.take (k + 1)).map (·.mod.name)) ((l.drop (k + 1)).map PV.plc)) := by
          show R = _
          rw [HR.out, Bool.false_or]
        clear HR
        go_wp2
        exact ⟨⟨k + 1, by omega, by go_num, HR2.out, B2⟩, by simp [intOf]; omega⟩
      · have h1 : ix < (k : Int) := of_decide_eq_true hix
        have HR2 : Hid (R = true) := by
          show R = _
          rw [HR.out, Bool.true_or]
        clear HR
        go_wp2
        go_ret
        exact ⟨by rw [HR2.out]; rfl, B2⟩
    · obtain rfl : k = l.length := by omega
      have HZ : Hid (R = false) := by
        show R = false
        rw [HC.out, List.drop_length]; rfl
      go_wp2
      go_ret
      exact ⟨by rw [HZ.out]; rfl, B⟩

end Go.Proofs.Ytaklbnabgcglhab
