/- The contracts of package flash's Do, tearing, Torn. -/
import Derived.Test.YtnomapbiklfciafFlF
import Derived.Test.YtnomapbiklfciafOrd
namespace Go.Proofs.Ytnomapbiklfciaf
open Go.RowKit Go.PlainAid

set_option maxRecDepth 100000

/-- A cell that holds a row is no string of a row. -/
theorem IsFl.stored {n₀ : Nat} {W : World} {v : Value} {F : List ByteArray} (h : IsFl n₀ W v F) {B : Nat} {t : TypeId} {x : Value} (hc : CellsAt W B t #[x]) (hx : ∀ s, x ≠ .string s) (u : Value) : IsFl n₀ (W.setCell ⟨B, 0, none⟩ u) v F := by
  obtain ⟨⟨a, cap, e, hl, h | ⟨b, off, e2, hlt, hcell⟩⟩, hcap⟩ := h
  · exact ⟨⟨a, cap, e, hl, .inl h⟩, hcap⟩
  · refine ⟨⟨a, cap, e, hl, ?_⟩, hcap⟩
    by_cases hF : F = []
    · exact .inl hF
    · refine .inr ⟨b, off, e2, hlt, fun j y hj i hi => ?_⟩
      have h1 := hcell j y hj i hi
      have hne : b ≠ B := by
        intro hb
        subst hb
        rw [hc.cell] at h1
        have : off + j * 1 + i = 0 ∨ 0 < off + j * 1 + i := by omega
        rcases this with h0 | h0
        · rw [h0] at h1
          simp [strCell] at h1
          exact hx _ h1
        · rw [Array.getElem?_eq_none (by simp; omega)] at h1
          cases h1
      exact (World.cell?_setCell_far W ⟨B, 0, none⟩ ⟨b, off + j * 1 + i, none⟩ u (fun e => hne e.symm)).trans h1

theorem do1_any (i : Nat) (b : UInt8) (w : World) : Calls Try.prog 27 #[.int .i64 i, .int .u8 (b.toNat : Int)] w fun e w' => e = .returned (.int .u8 ((allT i b).toNat : Int)) ∧ Below w.heap.size w w' := by
  go_enter Try.func27, Try.ntmps27
  go_wp2
  go_ret
  exact ⟨rfl, Below.refl _ _⟩

set_option maxHeartbeats 2000000 in
theorem flDo_any (F : List ByteArray) (v : Value) (l : List Deed) (vl : Value) (w : World) (hF : IsFl w.heap.size w v F) (hl : RowOf 3 Deed.cell w.heap.size w vl l) :
    Calls Try.prog 8 #[.agg #[v], vl] w fun e w' => (∃ r, e = .returned (.tuple #[.agg #[r], .int .i64 (chgRes allT F l).2]) ∧ IsFl w'.heap.size w' r (chgRes allT F l).1) ∧ Below w.heap.size w w' := by
  have HC : Hid (∀ W, Below w.heap.size w W → Calls Try.prog 26 #[.agg #[v], .func (.func 27) #[] #[], vl] W fun e w' => (∃ r, e = .returned (.tuple #[.agg #[r], .int .i64 (chgRes allT F l).2]) ∧ IsFl w'.heap.size w' r (chgRes allT F l).1) ∧ Below W.heap.size W w') := fun W hb =>
    changed_any0 allT F v l vl 27 (fun w x y => enters_of Try.func27 (by kernel_rfl) rfl _ w) W (fun i b W' _ => do1_any i b W') ((hF.below hb).more hb.size) ((hl.below hb).more hb.size)
  obtain ⟨⟨a, cap, rfl, _, _⟩, _⟩ := hF
  obtain ⟨la, lcap, rfl, _, _⟩ := hl
  generalize chgRes allT F l = R at *
  obtain ⟨RF, RE⟩ := R
  dsimp only at *
  generalize F.length = nF at *
  generalize l.length = nl at *
  have HB1 : Hid (Below w.heap.size w ((w.alloc (.cells #[.slice a nF cap] 24)).alloc (.cells #[.slice none 0 0] 24))) := ((Below.refl _ _).alloc (Nat.le_refl _) _).alloc (by simp) _
  have HR1 : Hid (CellsAt ((w.alloc (.cells #[.slice a nF cap] 24)).alloc (.cells #[.slice none 0 0] 24)) (w.heap.size + 1) 24 #[.slice none 0 0]) := by
    have := CellsAt.new (w.alloc (.cells #[.slice a nF cap] 24)) 24 #[.slice none 0 0]
    rw [World.size_alloc] at this
    exact this
  go_enter Try.func8, Try.ntmps8
  go_wp2_with fail
  refine (HC.out _ HB1.out).mono ?_
  rintro e w2 ⟨⟨r, rfl, hr⟩, b2⟩
  have HRR : Hid (IsFl w2.heap.size w2 r RF) := hr
  have hR2 := HR1.out.below b2 HR1.out.lt
  have HR2 : Hid (CellsAt w2 (w.heap.size + 1) 24 #[.slice none 0 0]) := hR2
  have HB2 : Hid (Below w.heap.size w w2) := HB1.out.trans (b2.mono HB1.out.size)
  obtain ⟨⟨ra, rc, rfl, _, _⟩, _⟩ := hr
  have r0 := hR2.cell 0
  have r1 := hR2.frozen 0
  simp at r0
  clear HC b2 hR2 HB1 HR1
  go_wp2
  have hF := HR2.out.set 0 (.slice ra RF.length rc)
  simp only [List.setIfInBounds_toArray, List.set_cons_zero] at hF
  refine bodyPost_ret (results_cell_tmp_row rfl _ _ _ _ _ _ _ rfl hF Try.underlying24 rfl (by kernel_rfl)) rfl ?_
  exact ⟨⟨_, rfl, (HRR.out.stored HR2.out (fun s h => by cases h) _).more (by simp [World.setCell])⟩, HB2.out.setCell (by simp) _⟩

set_option maxHeartbeats 2000000 in
theorem torn1_any (B : Nat) (p : ByteArray) (i : Nat) (b : UInt8) (w : World) (hc : w.cell? ⟨B, 0, none⟩ = some (.string p)) :
    Calls Try.prog 48 #[.int .i64 i, .int .u8 (b.toNat : Int), .pointer (some ⟨B, 0, none⟩)] w fun e w' => e = .returned (.int .u8 ((tornT 2 p i b).toNat : Int)) ∧ Below w.heap.size w w' := by
  by_cases h : i < p.size
  · have HE : Hid (bits .and .u8 (b.toNat : Int) (p[i].toNat : Int) = ((tornT 2 p i b).toNat : Int)) := by
      show bits .and .u8 (b.toNat : Int) (p[i].toNat : Int) = _
      rw [bits_and_u8]
      unfold tornT
      rw [if_pos rfl]
      rw [if_pos h, List.getD_eq_getElem?_getD, List.getElem?_eq_getElem (by simpa using h)]
      rfl
    generalize tornT 2 p i b = r at *
    go_enter Try.func48, Try.ntmps48
    go_wp2
    go_ret
    refine ⟨?_, Below.refl _ _⟩
    rw [← HE.out]
    first | rfl | trace_state
  · have HE : Hid ((0 : Int) = ((tornT 2 p i b).toNat : Int)) := by
      show (0 : Int) = _
      unfold tornT
      rw [if_pos rfl]
      rw [if_neg h]
      rfl
    generalize tornT 2 p i b = r at *
    go_enter Try.func48, Try.ntmps48
    go_wp2
    go_ret
    refine ⟨?_, Below.refl _ _⟩
    rw [← HE.out]
    rfl

set_option maxHeartbeats 2000000 in
theorem torn2_any (B : Nat) (k : Int) (hk : k ≠ 2) (p : ByteArray) (i : Nat) (b : UInt8) (w : World) (hc : w.cell? ⟨B, 0, none⟩ = some (.int .u8 ((if p.size = 0 then (255 : UInt8) else p.data.toList.getD 0 0).toNat : Int))) :
    Calls Try.prog 49 #[.int .i64 i, .int .u8 (b.toNat : Int), .pointer (some ⟨B, 0, none⟩)] w fun e w' => e = .returned (.int .u8 ((tornT k p i b).toNat : Int)) ∧ Below w.heap.size w w' := by
  have HE : Hid (bits .andNot .u8 (b.toNat : Int) ((if p.size = 0 then (255 : UInt8) else p.data.toList.getD 0 0).toNat : Int) = ((tornT k p i b).toNat : Int)) := by
    show bits .andNot .u8 _ _ = _
    rw [bits_andNot_u8]
    unfold tornT
    rw [if_neg hk]
  generalize (if p.size = 0 then (255 : UInt8) else p.data.toList.getD 0 0) = st at *
  generalize tornT k p i b = r at *
  go_enter Try.func49, Try.ntmps49
  go_wp2
  go_ret
  refine ⟨?_, Below.refl _ _⟩
  rw [← HE.out]
  first | rfl | trace_state

set_option maxHeartbeats 2000000 in
theorem tearing_any (k : Int) (p : ByteArray) (w : World) (hp : p.size ≤ 9223372036854775807) :
    Calls Try.prog 32 #[.int .i64 k, .string p] w fun e w' => (∃ (K : FuncId) (B : Nat), e = .returned (.func (.func K) #[] #[.pointer (some ⟨B, 0, none⟩)]) ∧ (∀ w x y, Sem.run Try.prog (callFunc K #[x, y, .pointer (some ⟨B, 0, none⟩)]) w = .ok (.enter K #[x, y, .pointer (some ⟨B, 0, none⟩)]) w) ∧
      ∀ (i : Nat) (b : UInt8) W, Below w'.heap.size w' W → Calls Try.prog K #[.int .i64 i, .int .u8 (b.toNat : Int), .pointer (some ⟨B, 0, none⟩)] W fun e W' => e = .returned (.int .u8 ((tornT k p i b).toNat : Int)) ∧ Below W.heap.size W W') ∧ Below w.heap.size w w' := by
  by_cases hk : k = 2
  · subst hk
    go_enter Try.func32, Try.ntmps32
    go_wp2
    go_ret
    refine ⟨⟨48, w.heap.size, rfl, fun w x y => enters_of Try.func48 (by kernel_rfl) rfl _ w, fun i b W hb => ?_⟩, (Below.refl _ _).alloc (Nat.le_refl _) _⟩
    have hC : CellsAt (w.alloc (.cells #[.string p] 9)) w.heap.size 9 #[.string p] := CellsAt.new _ _ _
    have hC2 := hC.below hb hC.lt
    exact torn1_any w.heap.size p i b W (hC2.cell 0)
  · have hk' : (k == 2) = false := by simpa using hk
    by_cases h0 : p.size = 0
    · obtain rfl : p = ⟨#[]⟩ := ByteArray.ext (Array.eq_empty_of_size_eq_zero h0)
      have HK : Hid (k ≠ 2) := hk
      clear hk
      go_enter Try.func32, Try.ntmps32
      go_wp2
      go_ret
      have hC : CellsAt ((w.alloc (.cells #[.string ⟨#[]⟩] 9)).alloc (.cells #[.int .u8 255] 5)) (w.heap.size + 1) 5 #[.int .u8 255] := by
        have := CellsAt.new (w.alloc (.cells #[.string ⟨#[]⟩] 9)) 5 #[.int .u8 255]
        rw [World.size_alloc] at this
        exact this
      refine ⟨⟨49, w.heap.size + 1, rfl, fun w x y => enters_of Try.func49 (by kernel_rfl) rfl _ w, fun i b W hb => ?_⟩, ((Below.refl _ _).alloc (Nat.le_refl _) _).alloc (by simp) _⟩
      exact torn2_any (w.heap.size + 1) k HK.out _ i b W ((hC.below hb hC.lt).cell 0)
    · have h0' : p.toList.isEmpty = false := by
        rw [ByteArray.toList_eq]
        cases h : p.data.toList with
        | nil => exact absurd (by have := congrArg List.length h; simpa using this) h0
        | cons x l => rfl
      have hpos : 0 < p.size := by omega
      have HK : Hid (k ≠ 2) := hk
      have HP : Hid (¬ p.size = 0) := h0
      clear hk h0
      go_enter Try.func32, Try.ntmps32
      go_wp2
      go_ret
      have hC : CellsAt ((w.alloc (.cells #[.string p] 9)).alloc (.cells #[.int .u8 (p[0].toNat : Int)] 5)) (w.heap.size + 1) 5 #[.int .u8 (p[0].toNat : Int)] := by
        have := CellsAt.new (w.alloc (.cells #[.string p] 9)) 5 #[.int .u8 (p[0].toNat : Int)]
        rw [World.size_alloc] at this
        exact this
      refine ⟨⟨49, w.heap.size + 1, rfl, fun w x y => enters_of Try.func49 (by kernel_rfl) rfl _ w, fun i b W hb => ?_⟩, ((Below.refl _ _).alloc (Nat.le_refl _) _).alloc (by simp) _⟩
      refine torn2_any (w.heap.size + 1) k HK.out _ i b W (((hC.below hb hC.lt).cell 0).trans ?_)
      rw [if_neg HP.out, List.getD_eq_getElem?_getD, List.getElem?_eq_getElem (by simpa using hpos)]
      rfl

theorem tornT_ne (k : Int) (h : k ≠ 2) (p : ByteArray) : tornT k p = tornT 1 p := by
  unfold tornT
  rw [if_neg h, if_neg (show ¬ ((1 : Int) = 2) by decide)]

end Go.Proofs.Ytnomapbiklfciaf
