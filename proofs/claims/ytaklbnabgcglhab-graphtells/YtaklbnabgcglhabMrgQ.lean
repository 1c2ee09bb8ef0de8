/- Texts that are laid together. -/
import Derived.Test.YtaklbnabgcglhabMrgF
import Derived.Test.YtaklbnabgcglhabMrgP
import Derived.Test.YtaklbnabgcglhabMrgE
import Derived.Test.YtaklbnabgcglhabMrgH
import Derived.Deep.QuietTactic
import Derived.BigQuiet
import Derived.Test.YtaklbnabgcglhabMrgG
import Derived.BigRegion

/- The contracts of the document's CheckModules where no place is asked for, and of IsTwice. -/
namespace Go.Proofs.Ytaklbnabgcglhab
open Go.RowKit Go.PlainAid

set_option maxRecDepth 100000

set_option maxHeartbeats 2000000 in
theorem checkPlain_any (l : List PV) (v : Value) (w : World) (hrow : IsPlcs w.heap.size w v l) (hfit : ∀ x ∈ l, x.mod.fits) :
    Calls Try.prog 47 #[v, .bool false, .bool false] w fun e w' => e = .returned (.int .i64 (plainErr (l.map PV.plc))) ∧ Below w.heap.size w w' := by
  have HC0 : Hid (∀ x ∈ l, ∀ W, Below w.heap.size w W → Calls Try.prog 20 #[x.modV] W fun e w' => e = .returned (.int .i64 (chkMod x.mod)) ∧ Below W.heap.size W w') := fun x hx W hb => checkModule_any x.mod x.modV W (((hrow.2 x hx).below hb).more hb.size |>.isMod) (hfit x hx)
  have hat := hrow.2
  obtain ⟨⟨a, cap, rfl, _, hrow⟩, _⟩ := hrow
  unfold plainErr
  rw [List.length_map]
  by_cases h8 : 8 < l.length
  · rw [if_pos h8]
    have h8' : (8 : Int) < l.length := by omega
    clear HC0 hat hrow
    go_enter Try.func47, Try.ntmps47
    go_wp2
    go_ret
    exact ⟨rfl, Below.refl _ _⟩
  · rw [if_neg h8]
    have h8' : decide ((8 : Int) < l.length) = false := decide_eq_false (by omega)
    have h8'' : decide (8 < l.length) = false := decide_eq_false (by omega)
    go_enter Try.func47, Try.ntmps47
    go_wp2_with fail
    go_loopw [7] (fun i wr => ∃ (k : Nat), k ≤ l.length ∧ i = .int .i64 k ∧ Hid (chkBy (fun _ => 0) (l.map PV.plc) = chkBy (fun _ => 0) ((l.drop k).map PV.plc)) ∧ Below w.heap.size w wr) (fun i _ => l.length - (intOf i).toNat)
    case atStart => exact ⟨0, Nat.zero_le _, rfl, by show chkBy _ (l.map PV.plc) = chkBy _ ((l.drop 0).map PV.plc); rfl, Below.refl _ _⟩
    case round =>
      obtain ⟨k, hk, rfl, HC, B⟩ := hrel
      by_cases hlt : k < l.length
      · obtain ⟨x, hx⟩ : ∃ x, l[k]? = some x := ⟨_, List.getElem?_eq_getElem hlt⟩
        rcases hrow with h | ⟨b, off, rfl, hbn, hcells⟩
        · subst h; simp at hlt
        have key := chkBy_step (fun _ => 0) x.plc ((l.drop (k + 1)).map PV.plc)
        have HR : Hid (chkBy (fun _ => 0) (l.map PV.plc) = chkBy (fun _ => 0) (x.plc :: (l.drop (k + 1)).map PV.plc)) := by
          show chkBy _ (l.map PV.plc) = _
          rw [HC.out, drop_at hx]
          rfl
        have HM : Hid (∀ W, Below w.heap.size w W → Calls Try.prog 20 #[x.modV] W fun e w' => e = .returned (.int .i64 (chkMod x.mod)) ∧ Below W.heap.size W w') := HC0.out x (List.mem_of_getElem? hx)
        obtain ⟨⟨pe, ke, e4, _⟩, ⟨pi, ki, e5, _⟩, ⟨pp, kp, e6, _⟩⟩ := hat x (List.mem_of_getElem? hx)
        have c0 := (B.cell (p := ⟨b, off + k * 8 + 0, none⟩) hbn).trans (hcells k _ hx 0 (by omega))
        have c1 := (B.cell (p := ⟨b, off + k * 8 + 1, none⟩) hbn).trans (hcells k _ hx 1 (by omega))
        have c2 := (B.cell (p := ⟨b, off + k * 8 + 2, none⟩) hbn).trans (hcells k _ hx 2 (by omega))
        have c3 := (B.cell (p := ⟨b, off + k * 8 + 3, none⟩) hbn).trans (hcells k _ hx 3 (by omega))
        have c4 := (B.cell (p := ⟨b, off + k * 8 + 4, none⟩) hbn).trans (hcells k _ hx 4 (by omega))
        have c5 := (B.cell (p := ⟨b, off + k * 8 + 5, none⟩) hbn).trans (hcells k _ hx 5 (by omega))
        have c6 := (B.cell (p := ⟨b, off + k * 8 + 6, none⟩) hbn).trans (hcells k _ hx 6 (by omega))
        clear HC HC0 hcells hx hat
        rw [show x.plc.mod = x.mod from rfl] at key
        generalize hcm : chkMod x.mod = cm at key HM
        generalize chkBy (fun _ => 0) (x.plc :: (l.drop (k + 1)).map PV.plc) = R at key HR
        clear hcm
        obtain ⟨⟨N, ma, mi, T, es, is, ps⟩, ve, vi, vp, fi⟩ := x
        dsimp only at e4 e5 e6
        subst e4 e5 e6
        dsimp only [PV.cell, PV.modV] at c0 c1 c2 c3 c4 c5 c6 HM
        rw [Nat.add_zero] at c0
        generalize es.length = le at *
        generalize is.length = li at *
        generalize ps.length = lp at *
        go_wp2_with fail
        refine (HM.out _ B).mono ?_
        rintro e w2 ⟨rfl, b2⟩
        have B2 := B.trans (b2.mono B.size)
        clear b2 c0 c1 c2 c3 c4 c5 c6 HM
        rcases key with ⟨h1, rfl⟩ | ⟨_, h2, _⟩ | ⟨rfl, _, rfl⟩
        · have h1' : (R != 0) = true := by simpa using h1
          clear h1
          go_wp2
          go_ret
          exact ⟨by rw [HR.out]; rfl, B2⟩
        · exact absurd rfl h2
        · go_wp2
          exact ⟨⟨k + 1, by omega, by go_num, HR.out, B2⟩, by simp [intOf]; omega⟩
      · obtain rfl : k = l.length := by omega
        have HZ : Hid (chkBy (fun _ => 0) (l.map PV.plc) = 0) := by
          show chkBy _ (l.map PV.plc) = 0
          rw [HC.out, List.drop_length]; rfl
        go_wp2
        go_ret
        exact ⟨by rw [HZ.out]; rfl, B⟩

theorem idx_lt {α : Type} {p : α → Bool} : ∀ (l : List α) (n k : Nat) (x : α), l[k]? = some x → p x = true → (decide (idxFrom p n l < ((n + k : Nat) : Int)) = (l.take k).any p)
  | [], _, _, _, h, _ => by simp at h
  | y :: l, n, 0, x, h, hx => by
    obtain rfl : y = x := by simpa using h
    have hs : idxFrom p n (y :: l) = if p y = true then (n : Int) else idxFrom p (n + 1) l := rfl
    rw [hs, hx]
    simp
  | y :: l, n, k + 1, x, h, hx => by
    have hs : idxFrom p n (y :: l) = if p y = true then (n : Int) else idxFrom p (n + 1) l := rfl
    rw [hs, List.take_succ_cons, List.any_cons]
    cases hy : p y
    · have ih := idx_lt l (n + 1) k x (by simpa using h) hx
      rw [Bool.false_or, ← ih, if_neg (by decide), show n + (k + 1) = n + 1 + k by omega]
    · rw [if_pos rfl, Bool.true_or]
      exact decide_eq_true (by omega)

set_option maxHeartbeats 2000000 in
theorem isTwice_any (l : List PV) (v : Value) (w : World) (hrow : RowOf 8 PV.cell w.heap.size w v l) :
    Calls Try.prog 65 #[v] w fun e w' => e = .returned (.bool (twiceFrom [] (l.map PV.plc))) ∧ Below w.heap.size w w' := by
  have HP : Hid (∀ W n, Below w.heap.size w W → Calls Try.prog 31 #[v, .string n] W fun e w' => e = .returned (.int .i64 (idxFrom (fun x : PV => x.mod.name == n) 0 l)) ∧ Below W.heap.size W w') := fun W n hb => placeOf_any l v n W ((hrow.below hb).more hb.size)
  obtain ⟨a, cap, rfl, hz, hrow⟩ := hrow
  have HC0 : Hid (twiceFrom [] (l.map PV.plc) = twiceFrom ((l.take 0).map (·.mod.name)) ((l.drop 0).map PV.plc)) := (rfl : _ = _)
  generalize twiceFrom [] (l.map PV.plc) = R at *
  go_enter Try.func65, Try.ntmps65
  go_wp2_with fail
  go_loopw [3] (fun i wr => ∃ (k : Nat), k ≤ l.length ∧ i = .int .i64 k ∧ Hid (R = twiceFrom ((l.take k).map (·.mod.name)) ((l.drop k).map PV.plc)) ∧ Below w.heap.size w wr) (fun i _ => l.length - (intOf i).toNat)
  case atStart => exact ⟨0, Nat.zero_le _, rfl, HC0.out, Below.refl _ _⟩
  case round =>
    obtain ⟨k, hk, rfl, HC, B⟩ := hrel
    clear HC0
    by_cases hlt : k < l.length
    · obtain ⟨x, hx⟩ : ∃ x, l[k]? = some x := ⟨_, List.getElem?_eq_getElem hlt⟩
      rcases hrow with h | ⟨b, off, rfl, hbn, hcells⟩
      · subst h; simp at hlt
      have c0 := (B.cell (p := ⟨b, off + k * 8 + 0, none⟩) hbn).trans (hcells k _ hx 0 (by omega))
      dsimp only [PV.cell] at c0
      rw [Nat.add_zero] at c0
      have hix := idx_lt (p := fun y : PV => y.mod.name == x.mod.name) l 0 k x hx ((Go.MapKept.bytes_beq _ _).2 rfl)
      have htk : (l.take (k + 1)).map (·.mod.name) = (l.take k).map (·.mod.name) ++ [x.mod.name] := by rw [List.take_add_one, hx]; simp
      have HR : Hid (R = (((l.take k).any fun y => y.mod.name == x.mod.name) || twiceFrom ((l.take (k + 1)).map (·.mod.name)) ((l.drop (k + 1)).map PV.plc))) := by
        show R = _
        rw [HC.out, drop_at hx, htk]
        have hs : ∀ met, twiceFrom met (x.plc :: (l.drop (k + 1)).map PV.plc) = ((met.any fun y => y == x.mod.name) || twiceFrom (met ++ [x.mod.name]) ((l.drop (k + 1)).map PV.plc)) := fun _ => rfl
        rw [List.map_cons, hs, List.any_map]
        rfl
      have HPX : Hid (Calls Try.prog 31 #[.slice (some ⟨b, off, none⟩) l.length cap, .string x.mod.name] wr fun e w' => e = .returned (.int .i64 (idxFrom (fun y : PV => y.mod.name == x.mod.name) 0 l)) ∧ Below wr.heap.size wr w') := HP.out wr x.mod.name B
      rw [Nat.zero_add] at hix
      clear hcells hx HC htk
      generalize ((l.take k).any fun y => y.mod.name == x.mod.name) = t at *
      generalize idxFrom (fun y : PV => y.mod.name == x.mod.name) 0 l = ix at *
      generalize x.mod.name = xn at *
      go_wp2_with fail
      refine HPX.out.mono ?_
      rintro e w2 ⟨rfl, b2⟩
      have B2 := B.trans (b2.mono B.size)
      clear HPX b2 c0
      cases t
      · have h1 : ¬ ix < (k : Int) := of_decide_eq_false hix
        have HR2 : Hid (R = twiceFrom ((l.take (k + 1)).map (·.mod.name)) ((l.drop (k + 1)).map PV.plc)) := by
          show R = _
          rw [HR.out, Bool.false_or]
        clear HR
        go_wp2
        exact ⟨⟨k + 1, by omega, by go_num, HR2.out, B2⟩, by simp [intOf]; omega⟩
      · have h1 : ix < (k : Int) := of_decide_eq_true hix
        have HR2 : Hid (R = true) := by
          show R = _
          rw [HR.out, Bool.true_or]
        clear HR
        go_wp2
        go_ret
        exact ⟨by rw [HR2.out]; rfl, B2⟩
    · obtain rfl : k = l.length := by omega
      have HZ : Hid (R = false) := by
        show R = false
        rw [HC.out, List.drop_length]; rfl
      go_wp2
      go_ret
      exact ⟨by rw [HZ.out]; rfl, B⟩

end Go.Proofs.Ytaklbnabgcglhab

/- The contract of the statements' checkGraph. -/
namespace Go.Proofs.Ytaklbnabgcglhab
open Go.RowKit Go.PlainAid

set_option maxRecDepth 100000

set_option maxHeartbeats 1000000 in
theorem checkGraph_any (l : List PV) (v : Value) (w : World) (hrow : IsPlcs w.heap.size w v l) (hfit : ∀ x ∈ l, x.mod.fits) :
    Calls Try.prog 30 #[v] w fun e w' => e = .returned (.int .i64 (chkGraph (l.map PV.plc))) ∧ Below w.heap.size w w' := by
  have HC : Hid (Calls Try.prog 47 #[v, .bool false, .bool false] w fun e w' => e = .returned (.int .i64 (plainErr (l.map PV.plc))) ∧ Below w.heap.size w w') := checkPlain_any l v w hrow hfit
  have HT : Hid (∀ W, Below w.heap.size w W → Calls Try.prog 65 #[v] W fun e w' => e = .returned (.bool (twiceFrom [] (l.map PV.plc))) ∧ Below W.heap.size W w') := fun W hb => isTwice_any l v W ((hrow.1.below hb).more hb.size)
  obtain ⟨⟨a, cap, rfl, _, _⟩, _⟩ := hrow
  have HK : Hid (chkGraph (l.map PV.plc) = if plainErr (l.map PV.plc) ≠ 0 then plainErr (l.map PV.plc) else if twiceFrom [] (l.map PV.plc) = true then 6 else 0) := (rfl : _ = _)
  generalize chkGraph (l.map PV.plc) = R at *
  generalize plainErr (l.map PV.plc) = cp at *
  generalize twiceFrom [] (l.map PV.plc) = t at *
  generalize l.length = ll at *
  clear hfit
  go_enter Try.func30, Try.ntmps30
  go_wp2_with fail
  refine HC.out.mono ?_
  rintro e w2 ⟨rfl, B2⟩
  clear HC
  by_cases h0 : cp = 0
  · subst h0
    go_wp2_with fail
    refine (HT.out _ B2).mono ?_
    rintro e w3 ⟨rfl, b3⟩
    have B3 := B2.trans (b3.mono B2.size)
    clear HT b3
    cases t
    · have HR : Hid (R = 0) := HK.out
      clear HK
      go_wp2
      go_ret
      exact ⟨by rw [HR.out]; rfl, B3⟩
    · have HR : Hid (R = 6) := HK.out
      clear HK
      go_wp2
      go_ret
      exact ⟨by rw [HR.out]; rfl, B3⟩
  · have h0' : (cp == 0) = false := by simpa using h0
    have HR : Hid (R = cp) := by
      show R = cp
      rw [HK.out, if_pos h0]
    clear HK HT h0
    go_wp2
    go_ret
    exact ⟨by rw [HR.out]; rfl, B2⟩

end Go.Proofs.Ytaklbnabgcglhab

/- The contracts of the document's Direct and textLess. -/
namespace Go.Proofs.Ytaklbnabgcglhab
open Go.RowKit Go.PlainAid

set_option maxRecDepth 100000

set_option maxHeartbeats 2000000 in
theorem direct_any (l : List PV) (v : Value) (i k : Nat) (x y : PV) (hx : l[i]? = some x) (hy : l[k]? = some y) (w : World) (hrow : IsPlcs w.heap.size w v l) :
    Calls Try.prog 97 #[v, .int .i64 i, .int .i64 k] w fun e w' => e = .returned (.bool (asksM x.mod y.mod.name)) ∧ Below w.heap.size w w' := by
  have hat := (hrow.2 x (List.mem_of_getElem? hx)).2.1
  obtain ⟨⟨a, cap, rfl, hz, hrow⟩, _⟩ := hrow
  have hil : i < l.length := (List.getElem?_eq_some_iff.1 hx).1
  have hkl : k < l.length := (List.getElem?_eq_some_iff.1 hy).1
  rcases hrow with h | ⟨b, off, rfl, hbn, hcells⟩
  · subst h; simp at hil
  have c5 := hcells i x hx 5 (by omega)
  have d0 := hcells k y hy 0 (by omega)
  dsimp only [PV.cell] at c5 d0
  rw [Nat.add_zero] at d0
  obtain ⟨pi, ki, e5, hzi, hri⟩ := hat
  rw [e5] at c5
  have HC0 : Hid (asksM x.mod y.mod.name = (x.mod.imps.drop 0).any fun i => i.mod == y.mod.name) := (rfl : _ = _)
  clear hcells hx hy e5
  generalize asksM x.mod y.mod.name = R at *
  generalize y.mod.name = yn at *
  generalize x.mod.imps = is at *
  have hil' : (i : Int) < (l.length : Int) := by omega
  have hkl' : (k : Int) < (l.length : Int) := by omega
  go_enter Try.func97, Try.ntmps97
  go_wp2_with fail
  go_loopw [7] (fun q wr => ∃ (n : Nat), n ≤ is.length ∧ q = .int .i64 n ∧ Hid (R = (is.drop n).any fun i => i.mod == yn) ∧ Below w.heap.size w wr) (fun q _ => is.length - (intOf q).toNat)
  case atStart => exact ⟨0, Nat.zero_le _, rfl, HC0.out, Below.refl _ _⟩
  case round =>
    obtain ⟨n, hn, rfl, HC, B⟩ := hrel
    clear HC0
    have c5' := (B.cell (p := ⟨b, off + i * 8 + 5, none⟩) hbn).trans c5
    have d0' := (B.cell (p := ⟨b, off + k * 8, none⟩) hbn).trans d0
    have hbw : b < wr.heap.size := Nat.lt_of_lt_of_le hbn B.size
    by_cases hlt : n < is.length
    · obtain ⟨z, hz2⟩ : ∃ z, is[n]? = some z := ⟨_, List.getElem?_eq_getElem hlt⟩
      rcases hri with h | ⟨bi, offi, rfl, hbi, hci⟩
      · subst h; simp at hlt
      have e0 := (B.cell (p := ⟨bi, offi + n * 4 + 0, none⟩) hbi).trans (hci n z hz2 0 (by omega))
      dsimp only [Imp.cell] at e0
      rw [Nat.add_zero] at e0
      have HR : Hid (R = ((z.mod.toList == yn.toList) || (is.drop (n + 1)).any fun i => i.mod == yn)) := by
        show R = _
        rw [HC.out, drop_at hz2, List.any_cons, ← toList_beq2]
      have hbi2 : bi < wr.heap.size := Nat.lt_of_lt_of_le hbi B.size
      have hlt' : (n : Int) < (is.length : Int) := by omega
      clear hci HC hz2
      generalize z.mod = zm at *
      cases ht : (zm.toList == yn.toList)
      · rw [ht] at HR
        have HR2 : Hid (R = (is.drop (n + 1)).any fun i => i.mod == yn) := by
          show R = _
          rw [HR.out, Bool.false_or]
        clear HR
        go_wp2_with fail
        go_quiet (fail)
        have BQ := below_drewN B
        go_wp2
        exact ⟨⟨n + 1, by omega, by go_num, HR2.out, BQ _⟩, by simp [intOf]; omega⟩
      · rw [ht] at HR
        have HR2 : Hid (R = true) := by
          show R = _
          rw [HR.out, Bool.true_or]
        clear HR
        go_wp2_with fail
        go_quiet (fail)
        have BQ := below_drewN B
        go_wp2
        go_ret
        exact ⟨by rw [HR2.out]; rfl, BQ _⟩
    · obtain rfl : n = is.length := by omega
      have HZ : Hid (R = false) := by
        show R = false
        rw [HC.out, List.drop_length]; rfl
      go_wp2
      go_ret
      exact ⟨by rw [HZ.out]; rfl, B⟩

theorem lt_drop (a b : List UInt8) (k : Nat) (x y : UInt8) (hx : a[k]? = some x) (hy : b[k]? = some y) (h : x ≠ y) : a.drop k < b.drop k ↔ x < y := by
  rw [drop_at hx, drop_at hy, List.cons_lt_cons_iff]
  constructor
  · rintro (h1 | ⟨h1, _⟩)
    · exact h1
    · exact absurd h1 h
  · exact fun h1 => .inl h1
theorem lt_drop_eq (a b : List UInt8) (k : Nat) (x : UInt8) (hx : a[k]? = some x) (hy : b[k]? = some x) : a.drop k < b.drop k ↔ a.drop (k + 1) < b.drop (k + 1) := by
  rw [drop_at hx, drop_at hy, List.cons_lt_cons_iff]
  constructor
  · rintro (h1 | ⟨_, h1⟩)
    · exact absurd h1 (UInt8.lt_irrefl x)
    · exact h1
  · exact fun h1 => .inr ⟨rfl, h1⟩
theorem lt_drop_end (a b : List UInt8) (k : Nat) (h : a.length ≤ k ∨ b.length ≤ k) (ha : k ≤ a.length) (hb : k ≤ b.length) : a.drop k < b.drop k ↔ a.length < b.length := by
  by_cases h1 : a.length ≤ k
  · rw [List.drop_of_length_le h1]
    by_cases h2 : b.length ≤ k
    · rw [List.drop_of_length_le h2]
      constructor
      · intro h3; exact absurd h3 (List.lt_irrefl _)
      · intro h3; omega
    · have hk : k < b.length := by omega
      rw [drop_at (List.getElem?_eq_getElem hk)]
      constructor
      · intro _; omega
      · intro _; exact List.nil_lt_cons _ _
  · have hk : k < a.length := by omega
    have h2 : b.length ≤ k := by omega
    rw [List.drop_of_length_le h2, drop_at (List.getElem?_eq_getElem hk)]
    constructor
    · intro h3; exact absurd h3 (List.not_lt_nil _)
    · intro h3; omega

end Go.Proofs.Ytaklbnabgcglhab

/- The document's table of who needs whom, in memory. -/
namespace Go.Proofs.Ytaklbnabgcglhab
open Go.RowKit Go.PlainAid

set_option maxRecDepth 100000

def dirB (l : List PV) (i k : Nat) : Bool := match l[i]?, l[k]? with | some x, some y => asksM x.mod y.mod.name | _, _ => false
theorem dirB_at {l : List PV} {i k : Nat} {x y : PV} (hx : l[i]? = some x) (hy : l[k]? = some y) : dirB l i k = asksM x.mod y.mod.name := by unfold dirB; rw [hx, hy]
theorem dirB_next {l : List PV} {i k : Nat} (hi : i < l.length) (hk : k < l.length) : dirB l i k = true ↔ Next nxNeed (l.map (·.mod)) i k := by
  rw [dirB_at (List.getElem?_eq_getElem hi) (List.getElem?_eq_getElem hk)]
  exact (Next.iff (nx := nxNeed) (x := l[i].mod) (y := l[k].mod) (by rw [List.getElem?_map, List.getElem?_eq_getElem hi]; rfl) (by rw [List.getElem?_map, List.getElem?_eq_getElem hk]; rfl)).symm

def boolsTo (f : Nat → Bool) (k : Nat) : List Value := (List.range k).map fun j => .bool (f j)
theorem boolsTo_succ (f : Nat → Bool) (k : Nat) : boolsTo f (k + 1) = boolsTo f k ++ [.bool (f k)] := by unfold boolsTo; rw [List.range_succ, List.map_append]; rfl
theorem boolsTo_at (f : Nat → Bool) {k j : Nat} (h : j < k) : (boolsTo f k)[j]? = some (.bool (f j)) := by unfold boolsTo; rw [List.getElem?_map, List.getElem?_range h]; rfl

theorem own_type_ne {W : World} {base : Nat} {e t : TypeId} {size : Nat} {v : Value} {n : Nat} {xs : List Value} (h : W.ownsRow base e size v n xs) {g : Nat} {cs : Array Value} (hc : CellsAt W g t cs) (hne : t ≠ e) : some g ≠ v.ownBlock := by
  rcases h.2 with ⟨rfl, _⟩ | ⟨g', cap, cur, rfl, _, hb, _⟩
  · intro h2; cases h2
  · intro h2
    have h3 : g = g' := by simpa [Value.ownBlock] using h2
    subst h3
    have h4 : W.heap[g]? = some (.cells cs t (0, 0)) := hc
    rw [hb] at h4
    injection h4 with h4
    injection h4 with _ h5
    exact hne h5.symm

/-- Rows of truths, each in a block of its own. -/
structure PartAt (W : World) (lim base n : Nat) (D : Nat → Nat → Bool) (vs : List Value) : Prop where
  row : ∀ (j : Nat) (v : Value), vs[j]? = some v → ∃ g c cs, v = .slice (some ⟨g, 0, none⟩) n c ∧ base ≤ g ∧ g < lim ∧ CellsAt W g 4 cs ∧ ∀ k, k < n → cs[k]? = some (.bool (D j k))
  apart : ∀ (j k : Nat) (v v' : Value), vs[j]? = some v → vs[k]? = some v' → v.ownBlock = v'.ownBlock → j = k
theorem PartAt.below {W W' : World} {lim base n m : Nat} {D : Nat → Nat → Bool} {vs : List Value} (h : PartAt W lim base n D vs) (hb : Below m W W') (hm : lim ≤ m) : PartAt W' lim base n D vs :=
  ⟨fun j v hj => by
    obtain ⟨g, c, cs, h1, h2, h3, h4, h5⟩ := h.row j v hj
    exact ⟨g, c, cs, h1, h2, h3, h4.below hb (by omega), h5⟩, h.apart⟩
theorem PartAt.more {W : World} {lim lim' base n : Nat} {D : Nat → Nat → Bool} {vs : List Value} (h : PartAt W lim base n D vs) (hm : lim ≤ lim') : PartAt W lim' base n D vs :=
  ⟨fun j v hj => by
    obtain ⟨g, c, cs, h1, h2, h3, h4, h5⟩ := h.row j v hj
    exact ⟨g, c, cs, h1, h2, by omega, h4, h5⟩, h.apart⟩
theorem PartAt.kept {W W' : World} {lim base n b0 m : Nat} {D : Nat → Nat → Bool} {vs : List Value} {f : Value} {xs : List Value} (h : PartAt W lim base n D vs) (ho : W.ownsRow b0 100 1 f m xs) (hg : W.grownBy W' f.ownBlock) : PartAt W' lim base n D vs :=
  ⟨fun j v hj => by
    obtain ⟨g, c, cs, h1, h2, h3, h4, h5⟩ := h.row j v hj
    exact ⟨g, c, cs, h1, h2, h3, h4.kept hg (own_type_ne ho h4 (by decide)), h5⟩, h.apart⟩
theorem PartAt.snoc {W : World} {lim lim' base n : Nat} {D : Nat → Nat → Bool} {vs : List Value} (h : PartAt W lim base n D vs) {g c : Nat} {cs : Array Value} (hb : base ≤ g) (hl : lim ≤ g) (hg : g < lim') (hc : CellsAt W g 4 cs) (hD : ∀ k, k < n → cs[k]? = some (.bool (D vs.length k))) : PartAt W lim' base n D (vs ++ [.slice (some ⟨g, 0, none⟩) n c]) := by
  have key : ∀ (j : Nat) (v : Value), (vs ++ [Value.slice (some ⟨g, 0, none⟩) n c])[j]? = some v → (j < vs.length ∧ vs[j]? = some v) ∨ (j = vs.length ∧ v = .slice (some ⟨g, 0, none⟩) n c) := fun j v hj => by
    by_cases h1 : j < vs.length
    · rw [List.getElem?_append_left h1] at hj
      exact .inl ⟨h1, hj⟩
    · have h2 := (List.getElem?_eq_some_iff.1 hj).1
      simp at h2
      have h3 : j = vs.length := by omega
      subst h3
      refine .inr ⟨rfl, ?_⟩
      simpa using hj.symm
  have lt : ∀ (j : Nat) (v : Value), vs[j]? = some v → v.ownBlock ≠ some g := fun j v hj e => by
    obtain ⟨g', c', cs', rfl, _, h3, _⟩ := h.row j v hj
    have : g' = g := by simpa [Value.ownBlock] using e
    omega
  refine ⟨fun j v hj => ?_, fun j k v v' hj hk he => ?_⟩
  · rcases key j v hj with ⟨_, h1⟩ | ⟨rfl, rfl⟩
    · obtain ⟨g', c', cs', h1, h2, h3, h4, h5⟩ := h.row j v h1
      exact ⟨g', c', cs', h1, h2, by omega, h4, h5⟩
    · exact ⟨g, c, cs, rfl, hb, hg, hc, hD⟩
  · rcases key j v hj with ⟨h1, h2⟩ | ⟨rfl, rfl⟩
    · rcases key k v' hk with ⟨h3, h4⟩ | ⟨rfl, rfl⟩
      · exact h.apart j k v v' h2 h4 he
      · exact absurd he (lt j v h2)
    · rcases key k v' hk with ⟨h3, h4⟩ | ⟨rfl, _⟩
      · exact absurd he.symm (lt k v' h4)
      · rfl

/-- The whole table. -/
def MatAt (W : World) (base n : Nat) (v : Value) (T : Nat → Nat → Bool) : Prop := ∃ vs : List Value, vs.length = n ∧ W.ownsRow base 100 1 v n vs ∧ PartAt W W.heap.size base n T vs
theorem MatAt.below {W W' : World} {base n : Nat} {v : Value} {T : Nat → Nat → Bool} (h : MatAt W base n v T) (hb : Below W.heap.size W W') : MatAt W' base n v T := by
  obtain ⟨vs, h1, h2, h3⟩ := h
  exact ⟨vs, h1, own_below h2 hb, (h3.below hb (Nat.le_refl _)).more hb.size⟩
theorem addr_add0 (g j : Nat) : (⟨g, 0, none⟩ : Addr).add j = ⟨g, j, none⟩ := by unfold Addr.add; split <;> simp_all
/-- Where the i-th row lies. -/
theorem MatAt.at {W : World} {base n : Nat} {v : Value} {T : Nat → Nat → Bool} (h : MatAt W base n v T) (hn : 0 < n) : ∃ go co, v = .slice (some ⟨go, 0, none⟩) n co ∧ base ≤ go ∧ go < W.heap.size ∧
    ∃ (gs cs : Nat → Nat), ∀ i, i < n → W.cell? ⟨go, i, none⟩ = some (.slice (some ⟨gs i, 0, none⟩) n (cs i)) ∧ base ≤ gs i ∧ gs i < W.heap.size ∧ ∀ k, k < n → W.cell? ⟨gs i, k, none⟩ = some (.bool (T i k)) ∧ W.frozen? ⟨gs i, k, none⟩ = false := by
  obtain ⟨vs, h1, h2, h3⟩ := h
  rcases h2.2 with ⟨_, h0⟩ | ⟨go, co, cur, rfl, hb, hc, _⟩
  · omega
  refine ⟨go, co, rfl, hb, (Array.getElem?_eq_some_iff.1 hc).1, ?_⟩
  have each : ∀ i, ∃ g c, i < n → W.cell? ⟨go, i, none⟩ = some (.slice (some ⟨g, 0, none⟩) n c) ∧ base ≤ g ∧ g < W.heap.size ∧ ∀ k, k < n → W.cell? ⟨g, k, none⟩ = some (.bool (T i k)) ∧ W.frozen? ⟨g, k, none⟩ = false := by
    intro i
    by_cases hi : i < n
    · have hv : vs[i]? = some vs[i] := List.getElem?_eq_getElem (by omega)
      obtain ⟨g, c, cs, e1, e2, e3, e4, e5⟩ := h3.row i _ hv
      refine ⟨g, c, fun _ => ⟨?_, e2, e3, fun k hk => ⟨(e4.cell k).trans (e5 k hk), e4.frozen k⟩⟩⟩
      have := h2.cells (g := go) rfl i _ hv
      rw [addr_add0, e1] at this
      exact this
    · exact ⟨0, 0, fun h => absurd h hi⟩
  refine ⟨fun i => (each i).choose, fun i => (each i).choose_spec.choose, fun i hi => (each i).choose_spec.choose_spec hi⟩
theorem MatAt.set {W : World} {base n : Nat} {v : Value} {T : Nat → Nat → Bool} (h : MatAt W base n v T) {go co g c i k : Nat} (hi : i < n) (hk : k < n) (hv : v = .slice (some ⟨go, 0, none⟩) n co) (hg : W.cell? ⟨go, i, none⟩ = some (.slice (some ⟨g, 0, none⟩) n c)) (b : Bool) : MatAt (W.setCell ⟨g, k, none⟩ (.bool b)) base n v (setT T i k b) := by
  obtain ⟨vs, h1, h2, h3⟩ := h
  have hvi : vs[i]? = some vs[i] := List.getElem?_eq_getElem (by omega)
  obtain ⟨g', c', cs, e1, e2, e3, e4, e5⟩ := h3.row i _ hvi
  have hgg : g = g' := by
    have := h2.cells (g := go) (by rw [hv]; rfl) i _ hvi
    rw [addr_add0, e1, hg] at this
    injection this with this
    injection this with t1 _ _
    injection t1 with t1
    injection t1
  subst hgg
  have hgr := grown_set W g k (.bool b)
  refine ⟨vs, h1, h2.kept hgr (.inr fun e => own_type_ne h2 e4 (by decide) e.symm), ⟨fun j v' hj => ?_, h3.apart⟩⟩
  obtain ⟨g2, c2, cs2, f1, f2, f3, f4, f5⟩ := h3.row j v' hj
  by_cases hji : j = i
  · subst hji
    rw [hvi] at hj
    injection hj with hj
    subst hj
    rw [e1] at f1
    injection f1 with t1 _ t3
    injection t1 with t1
    injection t1 with t1
    subst t1 t3
    refine ⟨g, c', cs.setIfInBounds k (.bool b), e1, e2, Nat.lt_of_lt_of_le e3 hgr.size, e4.set k _, fun q hq => ?_⟩
    rw [Array.getElem?_setIfInBounds]
    by_cases hqk : k = q
    · subst hqk
      have hsz : k < cs.size := by
        have := e5 k hk
        exact (Array.getElem?_eq_some_iff.1 this).1
      rw [if_pos rfl, if_pos hsz, setT_at]
    · rw [if_neg hqk, setT_ne (fun h => hqk h.2.symm)]
      exact e5 q hq
  · have hne : some g2 ≠ some g := fun e => by
      injection e with e
      subst e
      exact hji (h3.apart j i v' _ hj hvi (by rw [f1, e1]; rfl))
    exact ⟨g2, c2, cs2, f1, f2, Nat.lt_of_lt_of_le f3 hgr.size, f4.kept hgr hne, fun q hq => by rw [setT_ne (fun h => hji h.1)]; exact f5 q hq⟩

theorem infoBool : (Try.prog.info? 4).map (fun i => (i.zero, i.size, i.bytes)) = some (some (.bool false), 1, 1) := by kernel_rfl
theorem infoBool_parts : ∃ i, Try.prog.info? 4 = some i ∧ i.zero = some (.bool false) ∧ i.size = 1 ∧ i.bytes = 1 := by
  have h := infoBool
  cases hi : Try.prog.info? 4 with
  | none => rw [hi] at h; cases h
  | some i =>
    rw [hi] at h
    simp at h
    exact ⟨i, rfl, h.1, h.2.1, h.2.2⟩
theorem infoBools : (Try.prog.info? 100).map (fun i => (i.zero, i.size, i.bytes)) = some (some (.slice none 0 0), 1, 24) := by kernel_rfl
theorem infoBools_parts : ∃ i, Try.prog.info? 100 = some i ∧ i.zero = some (.slice none 0 0) ∧ i.size = 1 ∧ i.bytes = 24 := by
  have h := infoBools
  cases hi : Try.prog.info? 100 with
  | none => rw [hi] at h; cases h
  | some i =>
    rw [hi] at h
    simp at h
    exact ⟨i, rfl, h.1, h.2.1, h.2.2⟩

end Go.Proofs.Ytaklbnabgcglhab
