/- Texts that are laid together. -/
import Derived.Test.YtaklbnabgcglhacMrgK
import Derived.Test.YtaklbnabgcglhacMrgP
import Derived.Deep.QuietTactic
import Derived.BigQuiet
import Derived.Test.YtaklbnabgcglhacMrgC
import Derived.ProofKit
import Derived.OpenShut
import Derived.ShutString
import Derived.ChangeOld
import Derived.SizedLaws
import Derived.Below
import Derived.Carry
import Derived.Deep.Slices

/- The statements' has, which leaves all as it was. -/
namespace Go.Proofs.Ytaklbnabgcglhac
open Go.RowKit Go.PlainAid

set_option maxRecDepth 100000

set_option maxHeartbeats 1000000 in
theorem has_same (l : List ByteArray) (v : Value) (s : ByteArray) (w : World) (h1 : RowOf 1 strCell w.heap.size w v l) :
    Calls Try.prog 12 #[v, .string s] w fun e w' => e = .returned (.bool (l.any fun y => y == s)) ∧ w' = w := by
  obtain ⟨a, cap, rfl, hz, h1⟩ := h1
  have HC0 : Hid ((l.any fun y => y == s) = ((l.drop 0).any fun y => y == s)) := (rfl : _ = _)
  generalize (l.any fun y => y == s) = R at *
  go_enter Try.func12, Try.ntmps12
  go_wp2
  go_loopw [5] (fun i wr => ∃ (k : Nat), k ≤ l.length ∧ i = .int .i64 k ∧ Hid (R = ((l.drop k).any fun y => y == s)) ∧ Hid (wr = w)) (fun i _ => l.length - (intOf i).toNat)
  case atStart => exact ⟨0, Nat.zero_le _, rfl, HC0.out, (rfl : w = w)⟩
  case round =>
    obtain ⟨k, hk, rfl, HC, HW⟩ := hrel
    clear HC0
    by_cases hlt : k < l.length
    · obtain ⟨p, hp⟩ : ∃ p, l[k]? = some p := ⟨_, List.getElem?_eq_getElem hlt⟩
      rcases h1 with h | ⟨b, off, rfl, hbn, hc⟩
      · subst h; simp at hlt
      have c0 := hc k _ hp 0 (by omega)
      rw [← HW.out] at c0
      dsimp only [strCell] at c0
      rw [Nat.add_zero, Nat.mul_one] at c0
      have HR : Hid (R = ((p.toList == s.toList) || (l.drop (k + 1)).any fun y => y == s)) := by
        show R = _
        rw [HC.out, drop_at hp, List.any_cons, ← toList_beq2]
      clear hc hp HC
      cases ht : (p.toList == s.toList)
      · rw [ht] at HR
        have HR2 : Hid (R = (l.drop (k + 1)).any fun y => y == s) := by
          show R = _
          rw [HR.out, Bool.false_or]
        clear HR
        go_wp2
        exact ⟨⟨k + 1, by omega, by go_num, HR2.out, HW.out⟩, by simp [intOf]; omega⟩
      · rw [ht] at HR
        have HR2 : Hid (R = true) := by
          show R = _
          rw [HR.out, Bool.true_or]
        clear HR
        go_wp2
        go_ret
        exact ⟨by rw [HR2.out]; rfl, HW.out⟩
    · have HR2 : Hid (R = false) := by
        show _ = _
        rw [HC.out, List.drop_of_length_le (by omega)]; rfl
      go_wp2
      go_ret
      exact ⟨by rw [HR2.out]; rfl, HW.out⟩
theorem has_any (l : List ByteArray) (v : Value) (s : ByteArray) (w : World) (h1 : RowOf 1 strCell w.heap.size w v l) :
    Calls Try.prog 12 #[v, .string s] w fun e w' => e = .returned (.bool (l.any fun y => y == s)) ∧ Below w.heap.size w w' :=
  (has_same l v s w h1).mono fun _ _ ⟨he, hw⟩ => ⟨he, by rw [hw]; exact Below.refl _ _⟩

end Go.Proofs.Ytaklbnabgcglhac

/- The walk of the law GraphOrder. -/
namespace Go.Proofs.Ytaklbnabgcglhac.graphOrder
open Go.RowKit Go.PlainAid

set_option maxRecDepth 100000

theorem row_drewN {α : Type} {sz : Nat} {cells : α → Nat → Value} {W : World} {v : Value} {l : List α} (h : RowOf sz cells W.heap.size W v l) (q : Nat) : RowOf sz cells (W.drewN q).heap.size (W.drewN q) v l := by
  have b := below_drewN (Below.refl W.heap.size W) q
  exact (h.below b).more b.size

set_option maxHeartbeats 4000000 in
theorem walk (l : List PV) (v : Value) (w : World) (hrow : IsPlcs w.heap.size w v l) (hfit : ∀ x ∈ l, x.mod.fits) :
    Calls Try.prog 4 #[v] w fun e w' => e = .returned (.bool true) ∧ Below w.heap.size w w' := by
  have HO : Hid (Calls Try.prog 13 #[v] w fun e w' => (∃ r, e = .returned (.tuple #[r, .int .i64 (ordOf (l.map PV.plc)).2]) ∧ RowOf 1 strCell w'.heap.size w' r (ordOf (l.map PV.plc)).1 ∧ CapOk r) ∧ Below w.heap.size w w') := order_any l v w hrow hfit
  have HN : Hid (∀ W x, Below w.heap.size w W → Calls Try.prog 10 #[v, .string x] W fun e w' => (∃ r ss, e = .returned (.tuple #[r, .int .i64 (comeErr (l.map PV.plc) x)]) ∧ RowOf 1 strCell w'.heap.size w' r ss ∧ ComeRes nxNeed (l.map PV.plc) x ss) ∧ Below W.heap.size W w') := fun W x hb => needs_any l v x W ((hrow.below hb).more hb.size) hfit
  obtain ⟨⟨va, vc, rfl, hmax, _⟩, _⟩ := hrow
  have HE : Hid ((ordOf (l.map PV.plc)).2 ≠ 0 → (ordOf (l.map PV.plc)).1 = []) := ord_err
  have HF : Hid ((ordOf (l.map PV.plc)).2 = 0 → (ordOf (l.map PV.plc)).1.length = l.length ∧ ∀ (i : Nat) (x : ByteArray), (ordOf (l.map PV.plc)).1[i]? = some x → comeErr (l.map PV.plc) x = 0 ∧ (((ordOf (l.map PV.plc)).1.take i).any fun y => y == x) = false ∧ ∀ ns, ComeRes nxNeed (l.map PV.plc) x ns → ∀ z ∈ ns, (((ordOf (l.map PV.plc)).1.take i).any fun y => y == z) = true) := fun h => by
    have := ord_facts h
    rw [List.length_map] at this
    exact this
  clear hfit
  generalize (ordOf (l.map PV.plc)).1 = c at *
  generalize (ordOf (l.map PV.plc)).2 = eo at *
  generalize comeErr (l.map PV.plc) = CE at *
  generalize ComeRes nxNeed (l.map PV.plc) = CR at *
  generalize l.length = ll at *
  go_enter Try.func4, Try.ntmps4
  go_wp2_with fail
  refine HO.out.mono ?_
  rintro e w2 ⟨⟨r2, rfl, R2, hcap⟩, B2⟩
  clear HO
  obtain ⟨a2, c2, rfl, hz2, _⟩ := id R2
  have hcap2 := hcap _ _ _ rfl
  clear hcap
  go_wp2_with fail
  refine (graphBegun_any _).mono ?_
  rintro e w3 ⟨rfl, b3⟩
  have B3 := B2.trans (b3.mono B2.size)
  have R3 := (R2.below b3).more b3.size
  clear b3 B2 R2
  by_cases h0 : eo = 0
  · subst h0
    obtain ⟨hlen, hall⟩ := HF.out (by first | rfl | trivial)
    have HALL : Hid (∀ (i : Nat) (x : ByteArray), c[i]? = some x → CE x = 0 ∧ ((c.take i).any fun y => y == x) = false ∧ ∀ ns, CR x ns → ∀ z ∈ ns, ((c.take i).any fun y => y == z) = true) := hall
    subst hlen
    clear HE HF hall
    have hne : ((c.length : Int) != (c.length : Int)) = false := by simp
    obtain ⟨a2', c2', ee, _, hcc⟩ := id R3
    injection ee with e1 e2 e3
    subst e1 e3
    clear e2
    go_wp2_with fail
    go_loopw [5] (fun i wr => ∃ (k : Nat), k ≤ c.length ∧ i = .int .i64 k ∧ Below w3.heap.size w3 wr) (fun i _ => c.length - (intOf i).toNat)
    case atStart => exact ⟨0, Nat.zero_le _, rfl, Below.refl _ _⟩
    case round =>
      obtain ⟨k, hk, rfl, B⟩ := hrel
      have BW : Below w.heap.size w wr := B3.trans (B.mono B3.size)
      by_cases hlt : k < c.length
      · obtain ⟨x, hx⟩ : ∃ x, c[k]? = some x := ⟨_, List.getElem?_eq_getElem hlt⟩
        rcases hcc with h | ⟨b, off, rfl, hbn, hcl⟩
        · subst h; simp at hlt
        have cx3 := hcl k _ hx 0 (by omega)
        dsimp only [strCell] at cx3
        rw [Nat.add_zero, Nat.mul_one] at cx3
        have cx := (B.cell (p := ⟨b, off + k, none⟩) hbn).trans cx3
        obtain ⟨hce, hno, hns⟩ := HALL.out k x hx
        have HNS : Hid (∀ ns, CR x ns → ∀ z ∈ ns, ((c.take k).any fun y => y == z) = true) := hns
        have HNO : Hid (((c.take k).any fun y => y == x) = false) := hno
        have HNX : Hid (∀ W, Below w.heap.size w W → Calls Try.prog 10 #[.slice va c.length vc, .string x] W fun e w' => (∃ r ss, e = .returned (.tuple #[r, .int .i64 (CE x)]) ∧ RowOf 1 strCell w'.heap.size w' r ss ∧ CR x ss) ∧ Below W.heap.size W w') := fun W hb => HN.out W x hb
        rw [hce] at HNX
        clear hcl hx hce hno hns
        have HT : Hid (RowOf 1 strCell w3.heap.size w3 (.slice (some ⟨b, off, none⟩) k c2) (c.take k)) := R3.take k hk
        go_wp2_with fail
        refine (HNX.out _ BW).mono ?_
        rintro e w5 ⟨⟨r5, ns, rfl, R5, hcr⟩, b5⟩
        have B5 := B.trans (b5.mono B.size)
        obtain ⟨a5, c5, rfl, _, hn5⟩ := id R5
        have HZ : Hid (∀ z ∈ ns, ((c.take k).any fun y => y == z) = true) := HNS.out ns hcr
        have T5 := (HT.out.below B5).more B5.size
        have HH : Hid (∀ q, Calls Try.prog 12 #[.slice (some ⟨b, off, none⟩) k c2, .string x] (w5.drewN q) fun e w' => e = .returned (.bool false) ∧ w' = w5.drewN q) := fun q => by
          have := has_same (c.take k) _ x _ (row_drewN T5 q)
          rw [HNO.out] at this
          exact this
        have cx5 := (B5.cell (p := ⟨b, off + k, none⟩) hbn).trans cx3
        have hbn5 : b < w5.heap.size := Nat.lt_of_lt_of_le hbn B5.size
        have hkc : (k : Int) ≤ (c2 : Int) := by omega
        have hkl : (k : Int) < (c.length : Int) := by omega
        clear HNX HNS HNO cx cx3 b5 B BW hcr HALL HN T5
        go_wp2_with fail
        go_quiet ((go_at_call 12; go_must (refine Calls.quiet_of_same (HH.out _))))
        have BQ := below_drewN (Below.refl w5.heap.size w5)
        clear HH cx5
        go_wp2_with fail
        go_loopw [8] (fun i wi => ∃ (k2 : Nat), k2 ≤ ns.length ∧ i = .int .i64 k2 ∧ Below w5.heap.size w5 wi) (fun i _ => ns.length - (intOf i).toNat)
        case atStart => exact ⟨0, Nat.zero_le _, rfl, BQ _⟩
        case round =>
          obtain ⟨k2, hk2, rfl, BI⟩ := hrel
          clear BQ
          have B6 := B5.trans (BI.mono B5.size)
          by_cases hlt2 : k2 < ns.length
          · obtain ⟨z, hzk⟩ : ∃ z, ns[k2]? = some z := ⟨_, List.getElem?_eq_getElem hlt2⟩
            rcases hn5 with h | ⟨bz, offz, rfl, hbz, hcz⟩
            · subst h; simp at hlt2
            have cz5 := hcz k2 _ hzk 0 (by omega)
            dsimp only [strCell] at cz5
            rw [Nat.add_zero, Nat.mul_one] at cz5
            have cz := (BI.cell (p := ⟨bz, offz + k2, none⟩) hbz).trans cz5
            have T6 := (HT.out.below B6).more B6.size
            have HH : Hid (∀ q, Calls Try.prog 12 #[.slice (some ⟨b, off, none⟩) k c2, .string z] (wr.drewN q) fun e w' => e = .returned (.bool true) ∧ w' = wr.drewN q) := fun q => by
              have := has_same (c.take k) _ z _ (row_drewN T6 q)
              rw [HZ.out z (List.mem_of_getElem? hzk)] at this
              exact this
            have hk2l : (k2 : Int) < (ns.length : Int) := by omega
            have hbz2 : bz < wr.heap.size := Nat.lt_of_lt_of_le hbz BI.size
            clear hcz hzk cz5 T6
            go_wp2_with fail
            go_quiet ((go_at_call 12; go_must (refine Calls.quiet_of_same (HH.out _))))
            have BQ := below_drewN BI
            clear HH cz
            go_wp2
            exact ⟨⟨k2 + 1, by omega, by go_num, BQ _⟩, by simp [intOf]; omega⟩
          · obtain rfl : k2 = ns.length := by omega
            go_wp2
            exact ⟨⟨k + 1, by omega, by go_num, B6⟩, by simp [intOf]; omega⟩
      · obtain rfl : k = c.length := by omega
        go_wp2
        go_ret
        exact ⟨rfl, BW⟩
  · have h0' : (eo != 0) = true := by simpa using h0
    obtain rfl := HE.out h0
    clear HE HF R3 h0
    go_wp2
    go_ret
    exact ⟨rfl, B3⟩

end Go.Proofs.Ytaklbnabgcglhac.graphOrder

/- Arguments that came in: texts, numbers, rows, a patch. -/
namespace Go.Proofs.Ytaklbnabgcglhac
open Go.ChangeShapes Go.WideShapes Go.ChangeAt Go.RowKit Go.PlainAid Go.Deep

set_option maxRecDepth 100000

theorem list7 {α : Type} {l : List α} (h : l.length = 7) : ∃ a b c d e f g, l = [a, b, c, d, e, f, g] := by
  match l, h with
  | [a, b, c, d, e, f, g], _ => exact ⟨a, b, c, d, e, f, g, rfl⟩
theorem list4 {α : Type} {l : List α} (h : l.length = 4) : ∃ a b c d, l = [a, b, c, d] := by
  match l, h with
  | [a, b, c, d], _ => exact ⟨a, b, c, d, rfl⟩
theorem list2 {α : Type} {l : List α} (h : l.length = 2) : ∃ a b, l = [a, b] := by
  match l, h with
  | [a, b], _ => exact ⟨a, b, rfl⟩

section
variable {H : Type} {enc : TypeId × Value → H} {W : World} {spare : Nat → Bool} {held : Bool}

theorem row_of_trod {α : Type} [Inhabited α] {t e : TypeId} {sz fuel : Nat} {c : Value} {y : DataW H × List MemPlace} {cells : α → Nat → Value} {good : α → Prop} (ht : Try.prog.underlying t = some (.slice e)) (hsz : Try.prog.cellsOf e = sz) (h0 : 0 < sz)
    (conv : ∀ n cs z, cs.length = sz → DataW.trod enc Try.prog W 0 spare held n e cs = some z → ∃ x : α, (∀ i, i < sz → cs[i]? = some (cells x i)) ∧ good x)
    (h : DataW.trod enc Try.prog W 0 spare held fuel t [c] = some y) : ∃ l : List α, RowOf sz cells W.heap.size W c l ∧ ∀ x ∈ l, good x := by
  rcases open_slice ht h with ⟨hc, _⟩ | ⟨a, len, cap, m, n, D, Pl, hc, _, hl, hm, hmm, _, hx⟩
  · injection hc with hc
    subst hc
    exact ⟨[], ⟨none, 0, rfl, Nat.zero_le _, .inl rfl⟩, by simp⟩
  · injection hc with hc
    subst hc
    rw [hsz] at hx
    have hle : len ≤ m := by rw [hmm]; split <;> omega
    obtain ⟨X, hX⟩ := choose_lt (α := α) (n := len) (p := fun i x => (∀ j, j < sz → W.cell? (a.add (i * sz + j)) = some (cells x j)) ∧ good x) (fun i hi => by
      obtain ⟨cs', h1, h2⟩ := hx i (by omega)
      obtain ⟨_, hlen, hcell⟩ := World.cells?_some h1
      obtain ⟨x, hx1, hx2⟩ := conv n cs' _ hlen h2
      refine ⟨x, fun j hj => ?_, hx2⟩
      have h3 := hcell j hj
      rw [hx1 j hj] at h3
      have hadd : (a.add (i * sz)).add j = a.add (i * sz + j) ∨ W.cell? ((a.add (i * sz)).add j) = W.cell? (a.add (i * sz + j)) := by
        unfold Addr.add
        by_cases e1 : i * sz = 0
        · rw [if_pos e1, e1, Nat.zero_add]; exact .inl rfl
        · rw [if_neg e1]
          by_cases e2 : j = 0
          · rw [if_pos e2, e2, Nat.add_zero, if_neg e1]; exact .inl rfl
          · rw [if_neg e2, if_neg (by omega), Nat.add_assoc]; exact .inl rfl
      rcases hadd with hadd | hadd
      · rw [← hadd]; exact h3
      · rw [← hadd]; exact h3)
    refine ⟨(List.range len).map X, ⟨some a, cap, by simp, by simp; unfold maxLen at hm; omega, ?_⟩, ?_⟩
    · by_cases hz : len = 0
      · left
        subst hz
        rfl
      · right
        have hc0 := (hX 0 (by omega)).1 0 h0
        rw [Nat.zero_mul, Nat.zero_add] at hc0
        obtain ⟨b, off, spot⟩ := a
        have hsp : spot = none := by simpa [Addr.add] using World.cell?_spot hc0
        subst hsp
        refine ⟨b, off, rfl, ?_, fun j x hj i hi => ?_⟩
        · have := World.block_lt_of_cell? W _ hc0
          simpa [Addr.add] using this
        · have hjl : j < len := by
            have := (List.getElem?_eq_some_iff.1 hj).1
            simpa using this
          obtain rfl : X j = x := by
            rw [List.getElem?_map, List.getElem?_range hjl] at hj
            simpa using hj
          have h4 := (hX j hjl).1 i hi
          unfold Addr.add at h4
          by_cases e0 : j * sz + i = 0
          · rw [if_pos e0] at h4
            rw [Nat.add_assoc, e0]
            exact h4
          · rw [if_neg e0] at h4
            rw [Nat.add_assoc]
            exact h4
    · intro x hx
      obtain ⟨i, hi, rfl⟩ := List.mem_map.1 hx
      exact (hX i (by simpa using hi)).2

theorem str_of_trod {n : Nat} {c : Value} {y : DataW H × List MemPlace} (h : DataW.trod enc Try.prog W 0 spare held n 9 [c] = some y) : ∃ s : ByteArray, c = .string s ∧ s.size ≤ 9223372036854775807 := by
  obtain ⟨s, hc, _, hs⟩ := DataW.trod_string Try.underlying9 h
  injection hc with hc
  exact ⟨s, hc, hs⟩
theorem int_of_trod {n : Nat} {c : Value} {y : DataW H × List MemPlace} (h : DataW.trod enc Try.prog W 0 spare held n 3 [c] = some y) : ∃ k : Int, c = .int .i64 k := by
  obtain ⟨k, hc, _, _⟩ := DataW.trod_int Try.underlying3 h
  injection hc with hc
  exact ⟨k, hc⟩

theorem exp_of_trod (n : Nat) (cs : List Value) (z : DataW H × List MemPlace) (hl : cs.length = 2) (h : DataW.trod enc Try.prog W 0 spare held n 101 cs = some z) : ∃ x : Exp, (∀ i, i < 2 → cs[i]? = some (Exp.cell x i)) ∧ x.name.size ≤ 9223372036854775807 := by
  obtain ⟨xs, m, _, _, _, hlen, hf⟩ := DataW.trod_struct Try.underlying101 h
  obtain ⟨x0, x1, rfl⟩ := list2 hlen
  obtain ⟨c0, c1, rfl⟩ := list2 hl
  obtain ⟨s, rfl, hs⟩ := str_of_trod (hf 0 _ rfl)
  obtain ⟨k, rfl⟩ := int_of_trod (hf 1 _ rfl)
  refine ⟨⟨s, k⟩, fun i hi => ?_, hs⟩
  have : i = 0 ∨ i = 1 := by omega
  rcases this with rfl | rfl <;> rfl
theorem imp_of_trod (n : Nat) (cs : List Value) (z : DataW H × List MemPlace) (hl : cs.length = 4) (h : DataW.trod enc Try.prog W 0 spare held n 71 cs = some z) : ∃ x : Imp, (∀ i, i < 4 → cs[i]? = some (Imp.cell x i)) ∧ x.fits := by
  obtain ⟨xs, m, _, _, _, hlen, hf⟩ := DataW.trod_struct Try.underlying71 h
  obtain ⟨x0, x1, x2, x3, rfl⟩ := list4 hlen
  obtain ⟨c0, c1, c2, c3, rfl⟩ := list4 hl
  obtain ⟨s, rfl, hs⟩ := str_of_trod (hf 0 _ rfl)
  obtain ⟨t, rfl, ht⟩ := str_of_trod (hf 1 _ rfl)
  obtain ⟨k, rfl⟩ := int_of_trod (hf 2 _ rfl)
  obtain ⟨j, rfl⟩ := int_of_trod (hf 3 _ rfl)
  refine ⟨⟨s, t, k, j⟩, fun i hi => ?_, ⟨hs, ht⟩⟩
  have : i = 0 ∨ i = 1 ∨ i = 2 ∨ i = 3 := by omega
  rcases this with rfl | rfl | rfl | rfl <;> rfl
theorem pat_of_trod (n : Nat) (cs : List Value) (z : DataW H × List MemPlace) (hl : cs.length = 4) (h : DataW.trod enc Try.prog W 0 spare held n 73 cs = some z) : ∃ x : Pat, (∀ i, i < 4 → cs[i]? = some (Pat.cell x i)) ∧ True := by
  obtain ⟨xs, m, _, _, _, hlen, hf⟩ := DataW.trod_struct Try.underlying73 h
  obtain ⟨x0, x1, x2, x3, rfl⟩ := list4 hlen
  obtain ⟨c0, c1, c2, c3, rfl⟩ := list4 hl
  obtain ⟨a, rfl⟩ := int_of_trod (hf 0 _ rfl)
  obtain ⟨b, rfl⟩ := int_of_trod (hf 1 _ rfl)
  obtain ⟨k, rfl⟩ := int_of_trod (hf 2 _ rfl)
  obtain ⟨j, rfl⟩ := int_of_trod (hf 3 _ rfl)
  refine ⟨⟨a, b, k, j⟩, fun i hi => ?_, trivial⟩
  have : i = 0 ∨ i = 1 ∨ i = 2 ∨ i = 3 := by omega
  rcases this with rfl | rfl | rfl | rfl <;> rfl

theorem open_patch {v : Value} {d : DataW H} {ps : List MemPlace} {base : Nat} (hv : Value.okWide Try.prog W .any base 73 v) (h : DataW.Trod enc Try.prog W 0 spare held 73 v d ps) : ∃ p : Pat, v = .agg #[.int .i64 p.kind, .int .i64 p.pos, .int .i64 p.sym, .int .i64 p.add] := by
  obtain ⟨cs, rfl, hcs⟩ := okWide_struct Try.underlying73 hv
  obtain ⟨fuel, hf⟩ := h
  obtain ⟨xs, m, _, _, hl, hlen, hf⟩ := DataW.trod_struct Try.underlying73 hf
  have hc4 : Try.prog.cellsOf 73 = 4 := by kernel_rfl
  obtain ⟨x0, x1, x2, x3, rfl⟩ := list4 hlen
  rw [hc4] at hl
  obtain ⟨c0, c1, c2, c3, hcl⟩ := list4 hl
  have hcs' : cs.toList = [c0, c1, c2, c3] := hcl
  have hcA : cs = #[c0, c1, c2, c3] := by rw [← Array.toArray_toList (xs := cs), hcs']
  subst hcA
  have f0 := hf 0 _ rfl
  have f1 := hf 1 _ rfl
  have f2 := hf 2 _ rfl
  have f3 := hf 3 _ rfl
  obtain ⟨a, rfl⟩ := int_of_trod f0
  obtain ⟨b, rfl⟩ := int_of_trod f1
  obtain ⟨c, rfl⟩ := int_of_trod f2
  obtain ⟨e, rfl⟩ := int_of_trod f3
  exact ⟨⟨a, b, c, e⟩, rfl⟩
end

end Go.Proofs.Ytaklbnabgcglhac
