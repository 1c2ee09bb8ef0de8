/- The walk of the law GraphTurned. -/
import Derived.Test.YtaklbnabgcglhacGrG
import Derived.Test.YtaklbnabgcglhacGrT
import Derived.Test.YtaklbnabgcglhacGrH
namespace Go.Proofs.Ytaklbnabgcglhac.graphTurned
open Go.RowKit Go.PlainAid

set_option maxRecDepth 100000

set_option maxHeartbeats 4000000 in
theorem walk (l : List PV) (v : Value) (a b : ByteArray) (w : World) (hrow : IsPlcs w.heap.size w v l) (hfit : ∀ x ∈ l, x.mod.fits) (_ : a.size ≤ 140737488351232) (_ : b.size ≤ 140737488351232) :
    Calls Try.prog 3 #[v, .string a, .string b] w fun e w' => e = .returned (.bool true) ∧ Below w.heap.size w w' := by
  have HNA : Hid (∀ W, Below w.heap.size w W → Calls Try.prog 10 #[v, .string a] W fun e w' => (∃ r ss, e = .returned (.tuple #[r, .int .i64 (comeErr (l.map PV.plc) a)]) ∧ RowOf 1 strCell w'.heap.size w' r ss ∧ ComeRes nxNeed (l.map PV.plc) a ss) ∧ Below W.heap.size W w') := fun W hb => needs_any l v a W ((hrow.below hb).more hb.size) hfit
  have HUB : Hid (∀ W, Below w.heap.size w W → Calls Try.prog 11 #[v, .string b] W fun e w' => (∃ r ss, e = .returned (.tuple #[r, .int .i64 (comeErr (l.map PV.plc) b)]) ∧ RowOf 1 strCell w'.heap.size w' r ss ∧ ComeRes nxUse (l.map PV.plc) b ss) ∧ Below W.heap.size W w') := fun W hb => users_any l v b W ((hrow.below hb).more hb.size) hfit
  have HNB : Hid (∀ W, Below w.heap.size w W → Calls Try.prog 10 #[v, .string b] W fun e w' => (∃ r ss, e = .returned (.tuple #[r, .int .i64 (comeErr (l.map PV.plc) b)]) ∧ RowOf 1 strCell w'.heap.size w' r ss ∧ ComeRes nxNeed (l.map PV.plc) b ss) ∧ Below W.heap.size W w') := fun W hb => needs_any l v b W ((hrow.below hb).more hb.size) hfit
  obtain ⟨⟨va, vc, rfl, _, _⟩, _⟩ := hrow
  have HE : Hid (∀ xs, ComeRes nxNeed (l.map PV.plc) a xs → comeErr (l.map PV.plc) a ≠ 0 → xs = []) := fun xs h he => h.err he
  have HT : Hid (∀ xs ys, comeErr (l.map PV.plc) a = 0 → comeErr (l.map PV.plc) b = 0 → ComeRes nxNeed (l.map PV.plc) a xs → ComeRes nxUse (l.map PV.plc) b ys → (xs.any fun y => y == b) = (ys.any fun y => y == a)) := fun xs ys h1 h2 h3 h4 => turned_has h1 h2 h3 h4
  have HM : Hid (∀ xs zs, comeErr (l.map PV.plc) a = 0 → comeErr (l.map PV.plc) b = 0 → ComeRes nxNeed (l.map PV.plc) a xs → ComeRes nxNeed (l.map PV.plc) b zs → (xs.any fun y => y == b) = true → ∀ z ∈ zs, (xs.any fun y => y == z) = true) := fun xs zs h1 h2 h3 h4 => turned_more h1 h2 h3 h4
  clear hfit
  generalize comeErr (l.map PV.plc) a = ea at *
  generalize comeErr (l.map PV.plc) b = eb at *
  generalize ComeRes nxNeed (l.map PV.plc) a = CA at *
  generalize ComeRes nxNeed (l.map PV.plc) b = CB at *
  generalize ComeRes nxUse (l.map PV.plc) b = CU at *
  generalize l.length = ll at *
  go_enter Try.func3, Try.ntmps3
  go_wp2_with fail
  refine (graphBegun_any _).mono ?_
  rintro e w1 ⟨rfl, B1⟩
  go_wp2_with fail
  refine (HNA.out _ B1).mono ?_
  rintro e w2 ⟨⟨r2, xs, rfl, R2, hx⟩, b2⟩
  have B2 := B1.trans (b2.mono B1.size)
  clear b2 B1 HNA
  obtain ⟨a2, c2, rfl, _⟩ := id R2
  go_wp2_with fail
  refine (HUB.out _ B2).mono ?_
  rintro e w3 ⟨⟨r3, ys, rfl, U3, hy⟩, b3⟩
  have B3 := B2.trans (b3.mono B2.size)
  have R3 := (R2.below b3).more b3.size
  clear b3 B2 R2 HUB
  obtain ⟨a3, c3, rfl, _⟩ := id U3
  go_wp2_with fail
  refine (HNB.out _ B3).mono ?_
  rintro e w4 ⟨⟨r4, zs, rfl, Z4, hz⟩, b4⟩
  have B4 := B3.trans (b4.mono B3.size)
  have R4 := (R3.below b4).more b4.size
  have U4 := (U3.below b4).more b4.size
  clear b4 B3 R3 U3 HNB
  obtain ⟨a4, c4, rfl, hz4, hzc⟩ := id Z4
  by_cases h0 : ea = 0
  · subst h0
    by_cases h1 : eb = 0
    · subst h1
      have HEQ : Hid ((xs.any fun y => y == b) = (ys.any fun y => y == a)) := HT.out xs ys rfl rfl hx hy
      have HMM : Hid ((xs.any fun y => y == b) = true → ∀ z ∈ zs, (xs.any fun y => y == z) = true) := HM.out xs zs rfl rfl hx hz
      have HX : Hid (∀ W s, Below w4.heap.size w4 W → Calls Try.prog 12 #[.slice a2 xs.length c2, .string s] W fun e w' => e = .returned (.bool (xs.any fun y => y == s)) ∧ Below W.heap.size W w') := fun W s hb => has_any xs _ s W ((R4.below hb).more hb.size)
      have HY : Hid (∀ W s, Below w4.heap.size w4 W → Calls Try.prog 12 #[.slice a3 ys.length c3, .string s] W fun e w' => e = .returned (.bool (ys.any fun y => y == s)) ∧ Below W.heap.size W w') := fun W s hb => has_any ys _ s W ((U4.below hb).more hb.size)
      clear HE HT HM hx hy hz R4 U4 Z4
      go_wp2_with fail
      refine (HX.out _ b (Below.refl _ _)).mono ?_
      rintro e w5 ⟨rfl, B5⟩
      go_wp2_with fail
      refine (HY.out _ a B5).mono ?_
      rintro e w6 ⟨rfl, b6⟩
      rw [← HEQ.out]
      have B6 := B5.trans (b6.mono B5.size)
      clear HY HEQ B5 b6
      generalize hT : (xs.any fun y => y == b) = T at *
      have HTT : Hid ((xs.any fun y => y == b) = T) := hT
      clear hT
      have hTT : (T != T) = false := by cases T <;> rfl
      go_wp2_with fail
      go_loopw [13] (fun i wr => ∃ (k : Nat), k ≤ zs.length ∧ i = .int .i64 k ∧ Below w4.heap.size w4 wr) (fun i _ => zs.length - (intOf i).toNat)
      case atStart => exact ⟨0, Nat.zero_le _, rfl, B6⟩
      case round =>
        obtain ⟨k, hk, rfl, B⟩ := hrel
        clear B6
        by_cases hlt : k < zs.length
        · obtain ⟨z, hzk⟩ : ∃ z, zs[k]? = some z := ⟨_, List.getElem?_eq_getElem hlt⟩
          rcases hzc with h | ⟨bz, off, rfl, hbn, hcc⟩
          · subst h; simp at hlt
          have hcell := hcc k _ hzk 0 (by omega)
          dsimp only [strCell] at hcell
          rw [Nat.add_zero, Nat.mul_one] at hcell
          have hz1 : T = true → (xs.any fun y => y == z) = true := fun h => HMM.out h z (List.mem_of_getElem? hzk)
          have HZ1 : Hid (T = true → (xs.any fun y => y == z) = true) := hz1
          clear hz1 hcc hzk
          go_wp2_with fail
          refine (HX.out _ b B).mono ?_
          rintro e w7 ⟨rfl, b7⟩
          rw [HTT.out]
          have B7 := B.trans (b7.mono B.size)
          have c7 := (B7.cell (p := ⟨bz, off + k, none⟩) hbn).trans hcell
          clear B b7 hcell
          cases T
          · go_wp2
            go_ret
            exact ⟨rfl, B4.trans (B7.mono B4.size)⟩
          · go_wp2_with fail
            refine (HX.out _ z B7).mono ?_
            rintro e w8 ⟨rfl, b8⟩
            rw [HZ1.out (by first | rfl | trivial)]
            have B8 := B7.trans (b8.mono B7.size)
            clear B7 b8 c7
            go_wp2
            exact ⟨⟨k + 1, by omega, by go_num, B8⟩, by simp [intOf]; omega⟩
        · obtain rfl : k = zs.length := by omega
          go_wp2
          go_ret
          exact ⟨rfl, B4.trans (B.mono B4.size)⟩
    · have h1' : (eb != 0) = true := by simpa using h1
      clear HE HT HM hx hy hz R4 U4 Z4 hzc h1
      go_wp2
      go_ret
      exact ⟨rfl, B4⟩
  · have h0' : (ea != 0) = true := by simpa using h0
    have h0'' : (ea == 0) = false := by simpa using h0
    obtain rfl := HE.out xs hx h0
    clear HE HT HM hx hy hz R4 U4 Z4 hzc h0
    go_wp2
    go_ret
    exact ⟨rfl, B4⟩

end Go.Proofs.Ytaklbnabgcglhac.graphTurned
