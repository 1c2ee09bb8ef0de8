/- The contract of resolve.address. -/
import Derived.Test.YtaklbnabgcglhabResD
namespace Go.Proofs.Ytaklbnabgcglhab
open Go.RowKit Go.PlainAid

set_option maxRecDepth 100000

theorem addrOf_cases (K : Ker) (l : List Plc) (i : Imp) : (tgtOf K l i.mod = none ∧ addrOf K l i = (0, 5)) ∨ ∃ t, tgtOf K l i.mod = some t ∧ ((t.major ≠ i.major ∧ addrOf K l i = (0, 4)) ∨ (t.major = i.major ∧ t.minor < i.minor ∧ addrOf K l i = (0, 4)) ∨
    (t.major = i.major ∧ i.minor ≤ t.minor ∧ (expOf t.exps i.name = none ∧ addrOf K l i = (0, 5) ∨ ∃ x, expOf t.exps i.name = some x ∧ addrOf K l i = (t.beg + x.pos, 0)))) := by
  unfold addrOf
  cases ht : tgtOf K l i.mod with
  | none => exact .inl ⟨rfl, rfl⟩
  | some t =>
    refine .inr ⟨t, rfl, ?_⟩
    dsimp only
    by_cases h1 : t.major = i.major
    · by_cases h2 : t.minor < i.minor
      · exact .inr (.inl ⟨h1, h2, by rw [if_pos (.inr h2)]⟩)
      · refine .inr (.inr ⟨h1, by omega, ?_⟩)
        rw [if_neg (by omega)]
        cases hx : expOf t.exps i.name with
        | none => exact .inl ⟨rfl, rfl⟩
        | some x => exact .inr ⟨x, rfl, rfl⟩
    · exact .inl ⟨h1, by rw [if_pos (.inl h1)]⟩

set_option maxHeartbeats 4000000 in
theorem address_any (K : Ker) (vk : Value) (l : List PV) (v : Value) (i : Imp) (w : World) (hK : IsKer w.heap.size w vk K) (hrow : IsPlcs w.heap.size w v l) (h0 : chkFind K (l.map PV.plc) = 0) :
    Calls Try.prog 45 #[vk, v, .agg #[.string i.mod, .string i.name, .int .i64 i.major, .int .i64 i.minor]] w fun e w' => e = .returned (.tuple #[.int .i64 (addrOf K (l.map PV.plc) i).1, .int .i64 (addrOf K (l.map PV.plc) i).2]) ∧ Below w.heap.size w w' := by
  have hfst : ∀ x ∈ l, 0 ≤ x.first ∧ x.first ≤ 15 := fun x hx => by
    have := (chkFind_zero h0).2.2 x.plc (List.mem_map_of_mem hx)
    exact ⟨this.2.1, this.2.2⟩
  have HM : Hid (∀ W, Below w.heap.size w W → Calls Try.prog 76 #[vk, v, .string i.mod] W fun e w' => (∃ r, e = .returned r ∧ TgtV W.heap.size W r (tgtOf K (l.map PV.plc) i.mod)) ∧ Below W.heap.size W w') :=
    fun W hb => meant_any K vk l v i.mod W ((hK.below hb).more hb.size) ((hrow.below hb).more hb.size) hfst
  obtain ⟨vke, rfl, hE⟩ := hK
  obtain ⟨pe, ke, rfl, _, _⟩ := hE
  obtain ⟨⟨a, cap, rfl, _, _⟩, _⟩ := hrow
  have key := addrOf_cases K (l.map PV.plc) i
  have hbd := fun t (ht : tgtOf K (l.map PV.plc) i.mod = some t) => tgt_bd h0 ht
  generalize addrOf K (l.map PV.plc) i = R at *
  generalize tgtOf K (l.map PV.plc) i.mod = TT at *
  obtain ⟨ma, mi, es⟩ := K
  obtain ⟨im, inm, ia, ib⟩ := i
  dsimp only at *
  clear h0 hfst
  generalize es.length = le at *
  generalize l.length = ll at *
  have HW2 : Hid (Below w.heap.size w ((w.alloc (.cells #[.int .i64 ma, .int .i64 mi, .slice pe le ke] 37)).alloc (.cells #[.string im, .string inm, .int .i64 ia, .int .i64 ib] 40))) := ((Below.refl _ _).alloc (Nat.le_refl _) _).alloc (by simp) _
  have HC2 : Hid (CellsAt ((w.alloc (.cells #[.int .i64 ma, .int .i64 mi, .slice pe le ke] 37)).alloc (.cells #[.string im, .string inm, .int .i64 ia, .int .i64 ib] 40)) (w.heap.size + 1) 40 #[.string im, .string inm, .int .i64 ia, .int .i64 ib]) := by
    have := CellsAt.new (w.alloc (.cells #[.int .i64 ma, .int .i64 mi, .slice pe le ke] 37)) 40 #[.string im, .string inm, .int .i64 ia, .int .i64 ib]
    rw [World.size_alloc] at this
    exact this
  go_enter Try.func45, Try.ntmps45
  go_wp2_with fail
  refine (HM.out _ HW2.out).mono ?_
  rintro e w3 ⟨⟨r, rfl, hT⟩, b3⟩
  have C3 := HC2.out.below b3 (by simp)
  have B3 := HW2.out.trans (b3.mono HW2.out.size)
  have hz3 := C3.lt
  rcases key with ⟨rfl, rfl⟩ | ⟨t, rfl, key⟩
  · have hT' : r = .tuple #[.agg #[.int .i64 0, .int .i64 0, .int .i64 0, .slice none 0 0], .bool false] := hT
    subst hT'
    clear HM HW2 HC2 hT b3 hbd
    go_wp2
    go_ret2
    exact ⟨rfl, B3.alloc B3.size _⟩
  · obtain ⟨vt, hr, hR⟩ : ∃ ve, r = .tuple #[.agg #[.int .i64 t.major, .int .i64 t.minor, .int .i64 t.beg, ve], .bool true] ∧ RowOf 2 Exp.cell _ _ ve t.exps := hT
    subst hr
    obtain ⟨q1, q2, q3, q4⟩ := hbd t rfl
    have hR3 := (hR.below b3).more b3.size
    obtain ⟨pt, kt, rfl, _, _⟩ := hR
    clear HM HW2 HC2 b3 hbd
    obtain ⟨ta, ti, tb, ts⟩ := t
    dsimp only at *
    have hW4 : Below w3.heap.size w3 (w3.alloc (.cells #[.int .i64 ta, .int .i64 ti, .int .i64 tb, .slice pt ts.length kt] 114)) := (Below.refl _ _).alloc (Nat.le_refl _) _
    have hR4 := (hR3.below hW4).more hW4.size
    have C4 := C3.below hW4 C3.lt
    have T4 := CellsAt.new w3 114 #[.int .i64 ta, .int .i64 ti, .int .i64 tb, .slice pt ts.length kt]
    have B4 := B3.trans (hW4.mono B3.size)
    have HF : Hid (Calls Try.prog 77 #[.slice pt ts.length kt, .func (.func 78) #[] #[.pointer (some ⟨w.heap.size + 1, 0, none⟩)]] (w3.alloc (.cells #[.int .i64 ta, .int .i64 ti, .int .i64 tb, .slice pt ts.length kt] 114)) fun e w' => e = .returned (optExp (expOf ts inm)) ∧ Below (w3.alloc (.cells #[.int .i64 ta, .int .i64 ti, .int .i64 tb, .slice pt ts.length kt] 114)).heap.size (w3.alloc (.cells #[.int .i64 ta, .int .i64 ti, .int .i64 tb, .slice pt ts.length kt] 114)) w') :=
      firstExp_any ts _ 78 (.pointer (some ⟨w.heap.size + 1, 0, none⟩)) (fun w x => enters_of Try.func78 (by kernel_rfl) rfl _ w) _ _ hR4 (fun x _ W' hb' => isCalled_any (w.heap.size + 1) inm x W' (Nat.lt_of_lt_of_le C4.lt hb'.size) ((hb'.cell (p := ⟨w.heap.size + 1, 1, none⟩) C4.lt).trans (C4.cell 1)))
    have HC4 : Hid (CellsAt (w3.alloc (.cells #[.int .i64 ta, .int .i64 ti, .int .i64 tb, .slice pt ts.length kt] 114)) (w.heap.size + 1) 40 #[.string im, .string inm, .int .i64 ia, .int .i64 ib]) := C4
    have HT4 : Hid (CellsAt (w3.alloc (.cells #[.int .i64 ta, .int .i64 ti, .int .i64 tb, .slice pt ts.length kt] 114)) w3.heap.size 114 #[.int .i64 ta, .int .i64 ti, .int .i64 tb, .slice pt ts.length kt]) := T4
    have HB4 : Hid (Below w.heap.size w (w3.alloc (.cells #[.int .i64 ta, .int .i64 ti, .int .i64 tb, .slice pt ts.length kt] 114))) := B4
    have c2 := C3.cell 2
    have c3 := C3.cell 3
    simp at c2 c3
    clear C4 T4 B4 hR3 hR4 hW4
    generalize hn : ts.length = lt at *
    rcases key with ⟨h1, rfl⟩ | ⟨rfl, h2, rfl⟩ | ⟨rfl, h2, ⟨h3, rfl⟩ | ⟨x, h3, rfl⟩⟩
    · have h1' : (ta != ia) = true := by simpa using h1
      go_wp2
      go_ret2
      exact ⟨rfl, HB4.out⟩
    · go_wp2
      go_ret2
      exact ⟨rfl, HB4.out⟩
    · rw [h3] at HF
      dsimp only [optExp] at HF
      go_wp2_with fail
      refine HF.out.mono ?_
      rintro e w5 ⟨rfl, b5⟩
      have B5 := HB4.out.trans (b5.mono HB4.out.size)
      go_wp2
      go_ret2
      exact ⟨rfl, B5.alloc B5.size _⟩
    · rw [h3] at HF
      dsimp only [optExp] at HF
      obtain ⟨g1, g2, g3⟩ := q4 x (List.mem_of_find?_eq_some h3)
      clear q4 h3
      go_wp2_with fail
      refine HF.out.mono ?_
      rintro e w5 ⟨rfl, b5⟩
      have B5 := HB4.out.trans (b5.mono HB4.out.size)
      have T5 := HT4.out.below b5 (by simp)
      have t2 := T5.cell 2
      have hz5 := T5.lt
      simp at t2
      clear b5 HF HT4 HC4 HB4
      go_wp2
      go_ret2
      exact ⟨rfl, B5.alloc B5.size _⟩

end Go.Proofs.Ytaklbnabgcglhab
