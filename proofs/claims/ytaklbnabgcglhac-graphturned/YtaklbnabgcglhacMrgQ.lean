/- Texts that are laid together. -/
import Derived.Test.YtaklbnabgcglhacMrgP
import Derived.Test.YtaklbnabgcglhacMrgC
import Derived.ProofKit
import Derived.OpenShut
import Derived.ShutString
import Derived.ChangeOld
import Derived.SizedLaws
import Derived.Below
import Derived.Carry
import Derived.Deep.Slices
import Derived.Test.YtaklbnabgcglhacMrgD

/- The walk of the law GraphTurned. -/
namespace Go.Proofs.Ytaklbnabgcglhac.graphTurned
open Go.RowKit Go.PlainAid

set_option maxRecDepth 100000

set_option maxHeartbeats 4000000 in
theorem walk (l : List PV) (v : Value) (a b : ByteArray) (w : World) (hrow : IsPlcs w.heap.size w v l) (hfit : ∀ x ∈ l, x.mod.fits) (_ : a.size ≤ 140737488351232) (_ : b.size ≤ 140737488351232) :
    Calls Try.prog 3 #[v, .string a, .string b] w fun e w' => e = .returned (.bool true) ∧ Below w.heap.size w w' := by
  have HNA : Hid (∀ W, Below w.heap.size w W → Calls Try.prog 10 #[v, .string a] W fun e w' => (∃ r ss, e = .returned (.tuple #[r, .int .i64 (comeErr (l.map PV.plc) a)]) ∧ RowOf 1 strCell w'.heap.size w' r ss ∧ ComeRes nxNeed (l.map PV.plc) a ss) ∧ Below W.heap.size W w') := fun W hb => needs_any l v a W ((hrow.below hb).more hb.size) hfit
  have HUB : Hid (∀ W, Below w.heap.size w W → Calls Try.prog 11 #[v, .string b] W fun e w' => (∃ r ss, e = .returned (.tuple #[r, .int .i64 (comeErr (l.map PV.plc) b)]) ∧ RowOf 1 strCell w'.heap.size w' r ss ∧ ComeRes nxUse (l.map PV.plc) b ss) ∧ Below W.heap.size W w') := fun W hb => users_any l v b W ((hrow.below hb).more hb.size) hfit
  have HNB : Hid (∀ W, Below w.heap.size w W → Calls Try.prog 10 #[v, .string b] W fun e w' => (∃ r ss, e = .returned (.tuple #[r, .int .i64 (comeErr (l.map PV.plc) b)]) ∧ RowOf 1 strCell w'.heap.size w' r ss ∧ ComeRes nxNeed (l.map PV.plc) b ss) ∧ Below W.heap.size W w') := fun W hb => needs_any l v b W ((hrow.below hb).more hb.size) hfit
  obtain ⟨⟨va, vc, rfl, _, _⟩, _⟩ := hrow
  have HE : Hid (∀ xs, ComeRes nxNeed (l.map PV.plc) a xs → comeErr (l.map PV.plc) a ≠ 0 → xs = []) := fun xs h he => h.err he
  have HT : Hid (∀ xs ys, comeErr (l.map PV.plc) a = 0 → comeErr (l.map PV.plc) b = 0 → ComeRes nxNeed (l.map PV.plc) a xs → ComeRes nxUse (l.map PV.plc) b ys → (xs.any fun y => y == b) = (ys.any fun y => y == a)) := fun xs ys h1 h2 h3 h4 => turned_has h1 h2 h3 h4
  have HM : Hid (∀ xs zs, comeErr (l.map PV.plc) a = 0 → comeErr (l.map PV.plc) b = 0 → ComeRes nxNeed (l.map PV.plc) a xs → ComeRes nxNeed (l.map PV.plc) b zs → (xs.any fun y => y == b) = true → ∀ z ∈ zs, (xs.any fun y => y == z) = true) := fun xs zs h1 h2 h3 h4 => turned_more h1 h2 h3 h4
  clear hfit
  generalize comeErr (l.map PV.plc) a = ea at *
  generalize comeErr (l.map PV.plc) b = eb at *
  generalize ComeRes nxNeed (l.map PV.plc) a = CA at *
  generalize ComeRes nxNeed (l.map PV.plc) b = CB at *
  generalize ComeRes nxUse (l.map PV.plc) b = CU at *
  generalize l.length = ll at *
  go_enter Try.func3, Try.ntmps3
  go_wp2_with fail
  refine (graphBegun_any _).mono ?_
  rintro e w1 ⟨rfl, B1⟩
  go_wp2_with fail
  refine (HNA.out _ B1).mono ?_
  rintro e w2 ⟨⟨r2, xs, rfl, R2, hx⟩, b2⟩
  have B2 := B1.trans (b2.mono B1.size)
  clear b2 B1 HNA
  obtain ⟨a2, c2, rfl, _⟩ := id R2
  go_wp2_with fail
  refine (HUB.out _ B2).mono ?_
  rintro e w3 ⟨⟨r3, ys, rfl, U3, hy⟩, b3⟩
  have B3 := B2.trans (b3.mono B2.size)
  have R3 := (R2.below b3).more b3.size
  clear b3 B2 R2 HUB
  obtain ⟨a3, c3, rfl, _⟩ := id U3
  go_wp2_with fail
  refine (HNB.out _ B3).mono ?_
  rintro e w4 ⟨⟨r4, zs, rfl, Z4, hz⟩, b4⟩
  have B4 := B3.trans (b4.mono B3.size)
  have R4 := (R3.below b4).more b4.size
  have U4 := (U3.below b4).more b4.size
  clear b4 B3 R3 U3 HNB
  obtain ⟨a4, c4, rfl, hz4, hzc⟩ := id Z4
  by_cases h0 : ea = 0
  · subst h0
    by_cases h1 : eb = 0
    · subst h1
      have HEQ : Hid ((xs.any fun y => y == b) = (ys.any fun y => y == a)) := HT.out xs ys rfl rfl hx hy
      have HMM : Hid ((xs.any fun y => y == b) = true → ∀ z ∈ zs, (xs.any fun y => y == z) = true) := HM.out xs zs rfl rfl hx hz
      have HX : Hid (∀ W s, Below w4.heap.size w4 W → Calls Try.prog 12 #[.slice a2 xs.length c2, .string s] W fun e w' => e = .returned (.bool (xs.any fun y => y == s)) ∧ Below W.heap.size W w') := fun W s hb => has_any xs _ s W ((R4.below hb).more hb.size)
      have HY : Hid (∀ W s, Below w4.heap.size w4 W → Calls Try.prog 12 #[.slice a3 ys.length c3, .string s] W fun e w' => e = .returned (.bool (ys.any fun y => y == s)) ∧ Below W.heap.size W w') := fun W s hb => has_any ys _ s W ((U4.below hb).more hb.size)
      clear HE HT HM hx hy hz R4 U4 Z4
      go_wp2_with fail
      refine (HX.out _ b (Below.refl _ _)).mono ?_
      rintro e w5 ⟨rfl, B5⟩
      go_wp2_with fail
      refine (HY.out _ a B5).mono ?_
      rintro e w6 ⟨rfl, b6⟩
      rw [← HEQ.out]
      have B6 := B5.trans (b6.mono B5.size)
      clear HY HEQ B5 b6
      generalize hT : (xs.any fun y => y == b) = T at *
      have HTT : Hid ((xs.any fun y => y == b) = T) := hT
      clear hT
      have hTT : (T != T) = false := by cases T <;> rfl
      go_wp2_with fail
      go_loopw [13] (fun i wr => ∃ (k : Nat), k ≤ zs.length ∧ i = .int .i64 k ∧ Below w4.heap.size w4 wr) (fun i _ => zs.length - (intOf i).toNat)
      case atStart => exact ⟨0, Nat.zero_le _, rfl, B6⟩
      case round =>
        obtain ⟨k, hk, rfl, B⟩ := hrel
        clear B6
        by_cases hlt : k < zs.length
        · obtain ⟨z, hzk⟩ : ∃ z, zs[k]? = some z := ⟨_, List.getElem?_eq_getElem hlt⟩
          rcases hzc with h | ⟨bz, off, rfl, hbn, hcc⟩
          · subst h; simp at hlt
          have hcell := hcc k _ hzk 0 (by omega)
          dsimp only [strCell] at hcell
          rw [Nat.add_zero, Nat.mul_one] at hcell
          have hz1 : T = true → (xs.any fun y => y == z) = true := fun h => HMM.out h z (List.mem_of_getElem? hzk)
          have HZ1 : Hid (T = true → (xs.any fun y => y == z) = true) := hz1
          clear hz1 hcc hzk
          go_wp2_with fail
          refine (HX.out _ b B).mono ?_
          rintro e w7 ⟨rfl, b7⟩
          rw [HTT.out]
          have B7 := B.trans (b7.mono B.size)
          have c7 := (B7.cell (p := ⟨bz, off + k, none⟩) hbn).trans hcell
          clear B b7 hcell
          cases T
          · go_wp2
            go_ret
            exact ⟨rfl, B4.trans (B7.mono B4.size)⟩
          · go_wp2_with fail
            refine (HX.out _ z B7).mono ?_
            rintro e w8 ⟨rfl, b8⟩
            rw [HZ1.out (by first | rfl | trivial)]
            have B8 := B7.trans (b8.mono B7.size)
            clear B7 b8 c7
            go_wp2
            exact ⟨⟨k + 1, by omega, by go_num, B8⟩, by simp [intOf]; omega⟩
        · obtain rfl : k = zs.length := by omega
          go_wp2
          go_ret
          exact ⟨rfl, B4.trans (B.mono B4.size)⟩
    · have h1' : (eb != 0) = true := by simpa using h1
      clear HE HT HM hx hy hz R4 U4 Z4 hzc h1
      go_wp2
      go_ret
      exact ⟨rfl, B4⟩
  · have h0' : (ea != 0) = true := by simpa using h0
    have h0'' : (ea == 0) = false := by simpa using h0
    obtain rfl := HE.out xs hx h0
    clear HE HT HM hx hy hz R4 U4 Z4 hzc h0
    go_wp2
    go_ret
    exact ⟨rfl, B4⟩

end Go.Proofs.Ytaklbnabgcglhac.graphTurned

/- Arguments that came in: texts, numbers, rows, a patch. -/
namespace Go.Proofs.Ytaklbnabgcglhac
open Go.ChangeShapes Go.WideShapes Go.ChangeAt Go.RowKit Go.PlainAid Go.Deep

set_option maxRecDepth 100000

theorem list7 {α : Type} {l : List α} (h : l.length = 7) : ∃ a b c d e f g, l = [a, b, c, d, e, f, g] := by
  match l, h with
  | [a, b, c, d, e, f, g], _ => exact ⟨a, b, c, d, e, f, g, rfl⟩
theorem list4 {α : Type} {l : List α} (h : l.length = 4) : ∃ a b c d, l = [a, b, c, d] := by
  match l, h with
  | [a, b, c, d], _ => exact ⟨a, b, c, d, rfl⟩
theorem list2 {α : Type} {l : List α} (h : l.length = 2) : ∃ a b, l = [a, b] := by
  match l, h with
  | [a, b], _ => exact ⟨a, b, rfl⟩

section
variable {H : Type} {enc : TypeId × Value → H} {W : World} {spare : Nat → Bool} {held : Bool}

theorem row_of_trod {α : Type} [Inhabited α] {t e : TypeId} {sz fuel : Nat} {c : Value} {y : DataW H × List MemPlace} {cells : α → Nat → Value} {good : α → Prop} (ht : Try.prog.underlying t = some (.slice e)) (hsz : Try.prog.cellsOf e = sz) (h0 : 0 < sz)
    (conv : ∀ n cs z, cs.length = sz → DataW.trod enc Try.prog W 0 spare held n e cs = some z → ∃ x : α, (∀ i, i < sz → cs[i]? = some (cells x i)) ∧ good x)
    (h : DataW.trod enc Try.prog W 0 spare held fuel t [c] = some y) : ∃ l : List α, RowOf sz cells W.heap.size W c l ∧ ∀ x ∈ l, good x := by
  rcases open_slice ht h with ⟨hc, _⟩ | ⟨a, len, cap, m, n, D, Pl, hc, _, hl, hm, hmm, _, hx⟩
  · injection hc with hc
    subst hc
    exact ⟨[], ⟨none, 0, rfl, Nat.zero_le _, .inl rfl⟩, by simp⟩
  · injection hc with hc
    subst hc
    rw [hsz] at hx
    have hle : len ≤ m := by rw [hmm]; split <;> omega
    obtain ⟨X, hX⟩ := choose_lt (α := α) (n := len) (p := fun i x => (∀ j, j < sz → W.cell? (a.add (i * sz + j)) = some (cells x j)) ∧ good x) (fun i hi => by
      obtain ⟨cs', h1, h2⟩ := hx i (by omega)
      obtain ⟨_, hlen, hcell⟩ := World.cells?_some h1
      obtain ⟨x, hx1, hx2⟩ := conv n cs' _ hlen h2
      refine ⟨x, fun j hj => ?_, hx2⟩
      have h3 := hcell j hj
      rw [hx1 j hj] at h3
      have hadd : (a.add (i * sz)).add j = a.add (i * sz + j) ∨ W.cell? ((a.add (i * sz)).add j) = W.cell? (a.add (i * sz + j)) := by
        unfold Addr.add
        by_cases e1 : i * sz = 0
        · rw [if_pos e1, e1, Nat.zero_add]; exact .inl rfl
        · rw [if_neg e1]
          by_cases e2 : j = 0
          · rw [if_pos e2, e2, Nat.add_zero, if_neg e1]; exact .inl rfl
          · rw [if_neg e2, if_neg (by omega), Nat.add_assoc]; exact .inl rfl
      rcases hadd with hadd | hadd
      · rw [← hadd]; exact h3
      · rw [← hadd]; exact h3)
    refine ⟨(List.range len).map X, ⟨some a, cap, by simp, by simp; unfold maxLen at hm; omega, ?_⟩, ?_⟩
    · by_cases hz : len = 0
      · left
        subst hz
        rfl
      · right
        have hc0 := (hX 0 (by omega)).1 0 h0
        rw [Nat.zero_mul, Nat.zero_add] at hc0
        obtain ⟨b, off, spot⟩ := a
        have hsp : spot = none := by simpa [Addr.add] using World.cell?_spot hc0
        subst hsp
        refine ⟨b, off, rfl, ?_, fun j x hj i hi => ?_⟩
        · have := World.block_lt_of_cell? W _ hc0
          simpa [Addr.add] using this
        · have hjl : j < len := by
            have := (List.getElem?_eq_some_iff.1 hj).1
            simpa using this
          obtain rfl : X j = x := by
            rw [List.getElem?_map, List.getElem?_range hjl] at hj
            simpa using hj
          have h4 := (hX j hjl).1 i hi
          unfold Addr.add at h4
          by_cases e0 : j * sz + i = 0
          · rw [if_pos e0] at h4
            rw [Nat.add_assoc, e0]
            exact h4
          · rw [if_neg e0] at h4
            rw [Nat.add_assoc]
            exact h4
    · intro x hx
      obtain ⟨i, hi, rfl⟩ := List.mem_map.1 hx
      exact (hX i (by simpa using hi)).2

theorem str_of_trod {n : Nat} {c : Value} {y : DataW H × List MemPlace} (h : DataW.trod enc Try.prog W 0 spare held n 9 [c] = some y) : ∃ s : ByteArray, c = .string s ∧ s.size ≤ 9223372036854775807 := by
  obtain ⟨s, hc, _, hs⟩ := DataW.trod_string Try.underlying9 h
  injection hc with hc
  exact ⟨s, hc, hs⟩
theorem int_of_trod {n : Nat} {c : Value} {y : DataW H × List MemPlace} (h : DataW.trod enc Try.prog W 0 spare held n 3 [c] = some y) : ∃ k : Int, c = .int .i64 k := by
  obtain ⟨k, hc, _, _⟩ := DataW.trod_int Try.underlying3 h
  injection hc with hc
  exact ⟨k, hc⟩

theorem exp_of_trod (n : Nat) (cs : List Value) (z : DataW H × List MemPlace) (hl : cs.length = 2) (h : DataW.trod enc Try.prog W 0 spare held n 101 cs = some z) : ∃ x : Exp, (∀ i, i < 2 → cs[i]? = some (Exp.cell x i)) ∧ x.name.size ≤ 9223372036854775807 := by
  obtain ⟨xs, m, _, _, _, hlen, hf⟩ := DataW.trod_struct Try.underlying101 h
  obtain ⟨x0, x1, rfl⟩ := list2 hlen
  obtain ⟨c0, c1, rfl⟩ := list2 hl
  obtain ⟨s, rfl, hs⟩ := str_of_trod (hf 0 _ rfl)
  obtain ⟨k, rfl⟩ := int_of_trod (hf 1 _ rfl)
  refine ⟨⟨s, k⟩, fun i hi => ?_, hs⟩
  have : i = 0 ∨ i = 1 := by omega
  rcases this with rfl | rfl <;> rfl
theorem imp_of_trod (n : Nat) (cs : List Value) (z : DataW H × List MemPlace) (hl : cs.length = 4) (h : DataW.trod enc Try.prog W 0 spare held n 71 cs = some z) : ∃ x : Imp, (∀ i, i < 4 → cs[i]? = some (Imp.cell x i)) ∧ x.fits := by
  obtain ⟨xs, m, _, _, _, hlen, hf⟩ := DataW.trod_struct Try.underlying71 h
  obtain ⟨x0, x1, x2, x3, rfl⟩ := list4 hlen
  obtain ⟨c0, c1, c2, c3, rfl⟩ := list4 hl
  obtain ⟨s, rfl, hs⟩ := str_of_trod (hf 0 _ rfl)
  obtain ⟨t, rfl, ht⟩ := str_of_trod (hf 1 _ rfl)
  obtain ⟨k, rfl⟩ := int_of_trod (hf 2 _ rfl)
  obtain ⟨j, rfl⟩ := int_of_trod (hf 3 _ rfl)
  refine ⟨⟨s, t, k, j⟩, fun i hi => ?_, ⟨hs, ht⟩⟩
  have : i = 0 ∨ i = 1 ∨ i = 2 ∨ i = 3 := by omega
  rcases this with rfl | rfl | rfl | rfl <;> rfl
theorem pat_of_trod (n : Nat) (cs : List Value) (z : DataW H × List MemPlace) (hl : cs.length = 4) (h : DataW.trod enc Try.prog W 0 spare held n 73 cs = some z) : ∃ x : Pat, (∀ i, i < 4 → cs[i]? = some (Pat.cell x i)) ∧ True := by
  obtain ⟨xs, m, _, _, _, hlen, hf⟩ := DataW.trod_struct Try.underlying73 h
  obtain ⟨x0, x1, x2, x3, rfl⟩ := list4 hlen
  obtain ⟨c0, c1, c2, c3, rfl⟩ := list4 hl
  obtain ⟨a, rfl⟩ := int_of_trod (hf 0 _ rfl)
  obtain ⟨b, rfl⟩ := int_of_trod (hf 1 _ rfl)
  obtain ⟨k, rfl⟩ := int_of_trod (hf 2 _ rfl)
  obtain ⟨j, rfl⟩ := int_of_trod (hf 3 _ rfl)
  refine ⟨⟨a, b, k, j⟩, fun i hi => ?_, trivial⟩
  have : i = 0 ∨ i = 1 ∨ i = 2 ∨ i = 3 := by omega
  rcases this with rfl | rfl | rfl | rfl <;> rfl

theorem open_patch {v : Value} {d : DataW H} {ps : List MemPlace} {base : Nat} (hv : Value.okWide Try.prog W .any base 73 v) (h : DataW.Trod enc Try.prog W 0 spare held 73 v d ps) : ∃ p : Pat, v = .agg #[.int .i64 p.kind, .int .i64 p.pos, .int .i64 p.sym, .int .i64 p.add] := by
  obtain ⟨cs, rfl, hcs⟩ := okWide_struct Try.underlying73 hv
  obtain ⟨fuel, hf⟩ := h
  obtain ⟨xs, m, _, _, hl, hlen, hf⟩ := DataW.trod_struct Try.underlying73 hf
  have hc4 : Try.prog.cellsOf 73 = 4 := by kernel_rfl
  obtain ⟨x0, x1, x2, x3, rfl⟩ := list4 hlen
  rw [hc4] at hl
  obtain ⟨c0, c1, c2, c3, hcl⟩ := list4 hl
  have hcs' : cs.toList = [c0, c1, c2, c3] := hcl
  have hcA : cs = #[c0, c1, c2, c3] := by rw [← Array.toArray_toList (xs := cs), hcs']
  subst hcA
  have f0 := hf 0 _ rfl
  have f1 := hf 1 _ rfl
  have f2 := hf 2 _ rfl
  have f3 := hf 3 _ rfl
  obtain ⟨a, rfl⟩ := int_of_trod f0
  obtain ⟨b, rfl⟩ := int_of_trod f1
  obtain ⟨c, rfl⟩ := int_of_trod f2
  obtain ⟨e, rfl⟩ := int_of_trod f3
  exact ⟨⟨a, b, c, e⟩, rfl⟩
end

end Go.Proofs.Ytaklbnabgcglhac

/- A module that came in. -/
namespace Go.Proofs.Ytaklbnabgcglhac
open Go.ChangeShapes Go.WideShapes Go.ChangeAt Go.RowKit Go.PlainAid Go.Deep

set_option maxRecDepth 100000

section
variable {H : Type} {enc : TypeId × Value → H} {W : World} {spare : Nat → Bool} {held : Bool}

theorem open_module {v : Value} {d : DataW H} {ps : List MemPlace} {base : Nat} (hv : Value.okWide Try.prog W .any base 36 v) (h : DataW.Trod enc Try.prog W 0 spare held 36 v d ps) : ∃ M, IsMod W.heap.size W v M ∧ M.fits := by
  obtain ⟨cs, rfl, hcs⟩ := okWide_struct Try.underlying36 hv
  obtain ⟨fuel, hf⟩ := h
  obtain ⟨xs, m, _, _, hl, hlen, hf⟩ := DataW.trod_struct Try.underlying36 hf
  have hc7 : Try.prog.cellsOf 36 = 7 := by kernel_rfl
  obtain ⟨x0, x1, x2, x3, x4, x5, x6, rfl⟩ := list7 hlen
  rw [hc7] at hl
  obtain ⟨c0, c1, c2, c3, c4, c5, c6, hcl⟩ := list7 hl
  have hcs' : cs.toList = [c0, c1, c2, c3, c4, c5, c6] := hcl
  have hcA : cs = #[c0, c1, c2, c3, c4, c5, c6] := by rw [← Array.toArray_toList (xs := cs), hcs']
  subst hcA
  have f0 := hf 0 _ rfl
  have f1 := hf 1 _ rfl
  have f2 := hf 2 _ rfl
  have f3 := hf 3 _ rfl
  have f4 := hf 4 _ rfl
  have f5 := hf 5 _ rfl
  have f6 := hf 6 _ rfl
  obtain ⟨N, rfl, hN⟩ := str_of_trod f0
  obtain ⟨a, rfl⟩ := int_of_trod f1
  obtain ⟨b, rfl⟩ := int_of_trod f2
  obtain ⟨T, rfl, hT⟩ := str_of_trod f3
  have _ : Inhabited Exp := ⟨⟨⟨#[]⟩, 0⟩⟩
  have _ : Inhabited Imp := ⟨⟨⟨#[]⟩, ⟨#[]⟩, 0, 0⟩⟩
  have _ : Inhabited Pat := ⟨⟨0, 0, 0, 0⟩⟩
  obtain ⟨es, hE, gE⟩ := row_of_trod (cells := Exp.cell) Try.underlying32 (sz := 2) (by kernel_rfl) (by decide) exp_of_trod f4
  obtain ⟨is, hI, gI⟩ := row_of_trod (cells := Imp.cell) Try.underlying33 (sz := 4) (by kernel_rfl) (by decide) imp_of_trod f5
  obtain ⟨ps, hP, _⟩ := row_of_trod (cells := Pat.cell) Try.underlying34 (sz := 4) (by kernel_rfl) (by decide) pat_of_trod f6
  exact ⟨⟨N, a, b, T, es, is, ps⟩, ⟨c4, c5, c6, rfl, hE, hI, hP⟩, hN, hT, gE, gI⟩
end

end Go.Proofs.Ytaklbnabgcglhac
