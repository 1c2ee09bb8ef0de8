/- The walk of the law GraphOrder. -/
import Derived.Test.YtaklbnabgcglhacGrG
import Derived.Test.YtaklbnabgcglhacGrU
import Derived.Test.YtaklbnabgcglhacGrH
import Derived.Deep.QuietTactic
import Derived.BigQuiet
namespace Go.Proofs.Ytaklbnabgcglhac.graphOrder
open Go.RowKit Go.PlainAid

set_option maxRecDepth 100000

theorem row_drewN {α : Type} {sz : Nat} {cells : α → Nat → Value} {W : World} {v : Value} {l : List α} (h : RowOf sz cells W.heap.size W v l) (q : Nat) : RowOf sz cells (W.drewN q).heap.size (W.drewN q) v l := by
  have b := below_drewN (Below.refl W.heap.size W) q
  exact (h.below b).more b.size

set_option maxHeartbeats 4000000 in
theorem walk (l : List PV) (v : Value) (w : World) (hrow : IsPlcs w.heap.size w v l) (hfit : ∀ x ∈ l, x.mod.fits) :
    Calls Try.prog 4 #[v] w fun e w' => e = .returned (.bool true) ∧ Below w.heap.size w w' := by
  have HO : Hid (Calls Try.prog 13 #[v] w fun e w' => (∃ r, e = .returned (.tuple #[r, .int .i64 (ordOf (l.map PV.plc)).2]) ∧ RowOf 1 strCell w'.heap.size w' r (ordOf (l.map PV.plc)).1 ∧ CapOk r) ∧ Below w.heap.size w w') := order_any l v w hrow hfit
  have HN : Hid (∀ W x, Below w.heap.size w W → Calls Try.prog 10 #[v, .string x] W fun e w' => (∃ r ss, e = .returned (.tuple #[r, .int .i64 (comeErr (l.map PV.plc) x)]) ∧ RowOf 1 strCell w'.heap.size w' r ss ∧ ComeRes nxNeed (l.map PV.plc) x ss) ∧ Below W.heap.size W w') := fun W x hb => needs_any l v x W ((hrow.below hb).more hb.size) hfit
  obtain ⟨⟨va, vc, rfl, hmax, _⟩, _⟩ := hrow
  have HE : Hid ((ordOf (l.map PV.plc)).2 ≠ 0 → (ordOf (l.map PV.plc)).1 = []) := ord_err
  have HF : Hid ((ordOf (l.map PV.plc)).2 = 0 → (ordOf (l.map PV.plc)).1.length = l.length ∧ ∀ (i : Nat) (x : ByteArray), (ordOf (l.map PV.plc)).1[i]? = some x → comeErr (l.map PV.plc) x = 0 ∧ (((ordOf (l.map PV.plc)).1.take i).any fun y => y == x) = false ∧ ∀ ns, ComeRes nxNeed (l.map PV.plc) x ns → ∀ z ∈ ns, (((ordOf (l.map PV.plc)).1.take i).any fun y => y == z) = true) := fun h => by
    have := ord_facts h
    rw [List.length_map] at this
    exact this
  clear hfit
  generalize (ordOf (l.map PV.plc)).1 = c at *
  generalize (ordOf (l.map PV.plc)).2 = eo at *
  generalize comeErr (l.map PV.plc) = CE at *
  generalize ComeRes nxNeed (l.map PV.plc) = CR at *
  generalize l.length = ll at *
  go_enter Try.func4, Try.ntmps4
  go_wp2_with fail
  refine HO.out.mono ?_
  rintro e w2 ⟨⟨r2, rfl, R2, hcap⟩, B2⟩
  clear HO
  obtain ⟨a2, c2, rfl, hz2, _⟩ := id R2
  have hcap2 := hcap _ _ _ rfl
  clear hcap
  go_wp2_with fail
  refine (graphBegun_any _).mono ?_
  rintro e w3 ⟨rfl, b3⟩
  have B3 := B2.trans (b3.mono B2.size)
  have R3 := (R2.below b3).more b3.size
  clear b3 B2 R2
  by_cases h0 : eo = 0
  · subst h0
    obtain ⟨hlen, hall⟩ := HF.out (by first | rfl | trivial)
    have HALL : Hid (∀ (i : Nat) (x : ByteArray), c[i]? = some x → CE x = 0 ∧ ((c.take i).any fun y => y == x) = false ∧ ∀ ns, CR x ns → ∀ z ∈ ns, ((c.take i).any fun y => y == z) = true) := hall
    subst hlen
    clear HE HF hall
    have hne : ((c.length : Int) != (c.length : Int)) = false := by simp
    obtain ⟨a2', c2', ee, _, hcc⟩ := id R3
    injection ee with e1 e2 e3
    subst e1 e3
    clear e2
    go_wp2_with fail
    go_loopw [5] (fun i wr => ∃ (k : Nat), k ≤ c.length ∧ i = .int .i64 k ∧ Below w3.heap.size w3 wr) (fun i _ => c.length - (intOf i).toNat)
    case atStart => exact ⟨0, Nat.zero_le _, rfl, Below.refl _ _⟩
    case round =>
      obtain ⟨k, hk, rfl, B⟩ := hrel
      have BW : Below w.heap.size w wr := B3.trans (B.mono B3.size)
      by_cases hlt : k < c.length
      · obtain ⟨x, hx⟩ : ∃ x, c[k]? = some x := ⟨_, List.getElem?_eq_getElem hlt⟩
        rcases hcc with h | ⟨b, off, rfl, hbn, hcl⟩
        · subst h; simp at hlt
        have cx3 := hcl k _ hx 0 (by omega)
        dsimp only [strCell] at cx3
        rw [Nat.add_zero, Nat.mul_one] at cx3
        have cx := (B.cell (p := ⟨b, off + k, none⟩) hbn).trans cx3
        obtain ⟨hce, hno, hns⟩ := HALL.out k x hx
        have HNS : Hid (∀ ns, CR x ns → ∀ z ∈ ns, ((c.take k).any fun y => y == z) = true) := hns
        have HNO : Hid (((c.take k).any fun y => y == x) = false) := hno
        have HNX : Hid (∀ W, Below w.heap.size w W → Calls Try.prog 10 #[.slice va c.length vc, .string x] W fun e w' => (∃ r ss, e = .returned (.tuple #[r, .int .i64 (CE x)]) ∧ RowOf 1 strCell w'.heap.size w' r ss ∧ CR x ss) ∧ Below W.heap.size W w') := fun W hb => HN.out W x hb
        rw [hce] at HNX
        clear hcl hx hce hno hns
        have HT : Hid (RowOf 1 strCell w3.heap.size w3 (.slice (some ⟨b, off, none⟩) k c2) (c.take k)) := R3.take k hk
        go_wp2_with fail
        refine (HNX.out _ BW).mono ?_
        rintro e w5 ⟨⟨r5, ns, rfl, R5, hcr⟩, b5⟩
        have B5 := B.trans (b5.mono B.size)
        obtain ⟨a5, c5, rfl, _, hn5⟩ := id R5
        have HZ : Hid (∀ z ∈ ns, ((c.take k).any fun y => y == z) = true) := HNS.out ns hcr
        have T5 := (HT.out.below B5).more B5.size
        have HH : Hid (∀ q, Calls Try.prog 12 #[.slice (some ⟨b, off, none⟩) k c2, .string x] (w5.drewN q) fun e w' => e = .returned (.bool false) ∧ w' = w5.drewN q) := fun q => by
          have := has_same (c.take k) _ x _ (row_drewN T5 q)
          rw [HNO.out] at this
          exact this
        have cx5 := (B5.cell (p := ⟨b, off + k, none⟩) hbn).trans cx3
        have hbn5 : b < w5.heap.size := Nat.lt_of_lt_of_le hbn B5.size
        have hkc : (k : Int) ≤ (c2 : Int) := by omega
        have hkl : (k : Int) < (c.length : Int) := by omega
        clear HNX HNS HNO cx cx3 b5 B BW hcr HALL HN T5
        go_wp2_with fail
        go_quiet ((go_at_call 12; go_must (refine Calls.quiet_of_same (HH.out _))))
        have BQ := below_drewN (Below.refl w5.heap.size w5)
        clear HH cx5
        go_wp2_with fail
        go_loopw [8] (fun i wi => ∃ (k2 : Nat), k2 ≤ ns.length ∧ i = .int .i64 k2 ∧ Below w5.heap.size w5 wi) (fun i _ => ns.length - (intOf i).toNat)
        case atStart => exact ⟨0, Nat.zero_le _, rfl, BQ _⟩
        case round =>
          obtain ⟨k2, hk2, rfl, BI⟩ := hrel
          clear BQ
          have B6 := B5.trans (BI.mono B5.size)
          by_cases hlt2 : k2 < ns.length
          · obtain ⟨z, hzk⟩ : ∃ z, ns[k2]? = some z := ⟨_, List.getElem?_eq_getElem hlt2⟩
            rcases hn5 with h | ⟨bz, offz, rfl, hbz, hcz⟩
            · subst h; simp at hlt2
            have cz5 := hcz k2 _ hzk 0 (by omega)
            dsimp only [strCell] at cz5
            rw [Nat.add_zero, Nat.mul_one] at cz5
            have cz := (BI.cell (p := ⟨bz, offz + k2, none⟩) hbz).trans cz5
            have T6 := (HT.out.below B6).more B6.size
            have HH : Hid (∀ q, Calls Try.prog 12 #[.slice (some ⟨b, off, none⟩) k c2, .string z] (wr.drewN q) fun e w' => e = .returned (.bool true) ∧ w' = wr.drewN q) := fun q => by
              have := has_same (c.take k) _ z _ (row_drewN T6 q)
              rw [HZ.out z (List.mem_of_getElem? hzk)] at this
              exact this
            have hk2l : (k2 : Int) < (ns.length : Int) := by omega
            have hbz2 : bz < wr.heap.size := Nat.lt_of_lt_of_le hbz BI.size
            clear hcz hzk cz5 T6
            go_wp2_with fail
            go_quiet ((go_at_call 12; go_must (refine Calls.quiet_of_same (HH.out _))))
            have BQ := below_drewN BI
            clear HH cz
            go_wp2
            exact ⟨⟨k2 + 1, by omega, by go_num, BQ _⟩, by simp [intOf]; omega⟩
          · obtain rfl : k2 = ns.length := by omega
            go_wp2
            exact ⟨⟨k + 1, by omega, by go_num, B6⟩, by simp [intOf]; omega⟩
      · obtain rfl : k = c.length := by omega
        go_wp2
        go_ret
        exact ⟨rfl, BW⟩
  · have h0' : (eo != 0) = true := by simpa using h0
    obtain rfl := HE.out h0
    clear HE HF R3 h0
    go_wp2
    go_ret
    exact ⟨rfl, B3⟩

end Go.Proofs.Ytaklbnabgcglhac.graphOrder
