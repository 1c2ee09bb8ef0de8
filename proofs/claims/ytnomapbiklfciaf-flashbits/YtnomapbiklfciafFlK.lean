/- The contracts of package flash's New and Read. -/
import Derived.Test.YtnomapbiklfciafFlI
import Derived.Test.YtnomapbiklfciafFlH
namespace Go.Proofs.Ytnomapbiklfciaf
open Go.RowKit Go.PlainAid

set_option maxRecDepth 100000

def newRes (n : Int) : List ByteArray := if 1 ≤ n ∧ n ≤ 32 then blocksM (List.replicate (n.toNat * 128) 255) else []

set_option maxHeartbeats 4000000 in
theorem flNew_any (n : Int) (w : World) :
    Calls Try.prog 11 #[.int .i64 n] w fun e w' => (∃ r, e = .returned (.tuple #[.agg #[r], .int .i64 (if 1 ≤ n ∧ n ≤ 32 then 0 else 3)]) ∧ IsFl w'.heap.size w' r (newRes n)) ∧ Below w.heap.size w w' := by
  have HB1 : Hid (Below w.heap.size w (w.alloc (.cells #[.slice none 0 0] 24))) := (Below.refl _ _).alloc (Nat.le_refl _) _
  have HR1 : Hid (CellsAt (w.alloc (.cells #[.slice none 0 0] 24)) w.heap.size 24 #[.slice none 0 0]) := CellsAt.new _ _ _
  by_cases h : 1 ≤ n ∧ n ≤ 32
  · have HN : Hid (newRes n = blocksM (List.replicate (n.toNat * 128) 255)) := if_pos h
    rw [if_pos h]
    have g : decide (1 ≤ n ∧ n ≤ 32) = true := decide_eq_true h
    obtain ⟨m, rfl⟩ : ∃ m : Nat, n = m := ⟨n.toNat, by omega⟩
    rw [Int.toNat_natCast] at HN
    have hm1 : 1 ≤ m := by omega
    have hm2 : m ≤ 32 := by omega
    have e1 : IntKind.i64.wrap ((m : Int) * 128) = ((m * 128 : Nat) : Int) := by rw [i64_is]; unfold wrap64; omega
    have e2 : (m : Int) * 128 = ((m * 128 : Nat) : Int) := by omega
    have HRB : Hid (∀ (B : Nat) W, CellsAt W B 5 #[.int .u8 255] → Calls Try.prog 30 #[.slice (some ⟨B, 0, none⟩) 1 1, .int .i64 ((m : Int) * 128)] W fun e w' => e = .returned (.slice (some ⟨W.heap.size, 0, none⟩) (m * 128) (m * 128)) ∧ CellsB w' W.heap.size (List.replicate (m * 128) 255) ∧ Below W.heap.size W w') := fun B W hB => by
      have := repB_any B (m * 128) W hB (by omega) (by omega)
      rw [← e2] at this
      exact this
    have HFO : Hid (∀ (g : Nat) W, CellsB W g (List.replicate (m * 128) 255) → Calls Try.prog 31 #[.slice (some ⟨g, 0, none⟩) (m * 128) (m * 128)] W fun e w' => (∃ v, e = .returned (.agg #[v]) ∧ w'.ownsRow W.heap.size 9 1 v (blocksM (List.replicate (m * 128) 255)).length ((blocksM (List.replicate (m * 128) 255)).flatMap strC)) ∧ Below W.heap.size W w') := fun g W h => by
      have := flashOf_any g (m * 128) (List.replicate (m * 128) 255) W h (by rw [List.length_replicate]; omega) (by rw [List.length_replicate]; exact Nat.le_refl _) (by omega)
      rw [List.length_replicate] at this
      exact this
    have HBL : Hid ((blocksM (List.replicate (m * 128) 255)).length ≤ 9223372036854775807) := by
      show (blocksM (List.replicate (m * 128) 255)).length ≤ _
      rw [blocksM_length, List.length_replicate]
      omega
    generalize blocksM (List.replicate (m * 128) 255) = BL at *
    generalize List.replicate (m * 128) (255 : UInt8) = c at *
    generalize m * 128 = q at *
    go_enter Try.func11, Try.ntmps11
    go_wp2_with fail
    refine (mayBe_any _ _).mono ?_
    rintro e w2 ⟨rfl, rfl⟩
    rw [g]
    clear g e1 e2 h
    have HRx : Hid (CellsAt ((w.alloc (.cells #[.slice none 0 0] 24)).alloc (.cells #[.int .u8 255] 5)) w.heap.size 24 #[.slice none 0 0]) := HR1.out.kept (World.grownBy_alloc _ _ none) (by simp)
    have HXx : Hid (CellsAt ((w.alloc (.cells #[.slice none 0 0] 24)).alloc (.cells #[.int .u8 255] 5)) (w.heap.size + 1) 5 #[.int .u8 255]) := by
      have := CellsAt.new (w.alloc (.cells #[.slice none 0 0] 24)) 5 #[.int .u8 255]
      rw [World.size_alloc] at this
      exact this
    have HBx : Hid (Below w.heap.size w ((w.alloc (.cells #[.slice none 0 0] 24)).alloc (.cells #[.int .u8 255] 5))) := HB1.out.alloc (by simp) _
    clear HR1 HB1
    go_wp2_with fail
    refine (HRB.out (w.heap.size + 1) _ HXx.out).mono ?_
    rintro e w3 ⟨rfl, hc3, b3⟩
    have HB3 : Hid (Below w.heap.size w w3) := HBx.out.trans (b3.mono HBx.out.size)
    have HR3 : Hid (CellsAt w3 w.heap.size 24 #[.slice none 0 0]) := HRx.out.below b3 HRx.out.lt
    simp only [World.size_alloc] at hc3
    have HC3 := hc3
    clear b3 HRx HXx HBx HRB hc3
    go_wp2_with fail
    refine (HFO.out _ _ HC3).mono ?_
    rintro e w6 ⟨⟨r, rfl, ho⟩, b6⟩
    have HO6 : Hid (w6.ownsRow w3.heap.size 9 1 r BL.length (BL.flatMap strC)) := ho
    have hR6 := HR3.out.below b6 HR3.out.lt
    have HR6 : Hid (CellsAt w6 w.heap.size 24 #[.slice none 0 0]) := hR6
    have HB6 : Hid (Below w.heap.size w w6) := HB3.out.trans (b6.mono HB3.out.size)
    have hlt3 := HR3.out.lt
    obtain ⟨ra, rc, rfl⟩ := own_form ho
    have r0 := hR6.cell 0
    have r1 := hR6.frozen 0
    simp at r0
    clear ho hR6 b6 HFO HR3 HC3 HB3
    go_wp2
    have hF := HR6.out.set 0 (.slice ra BL.length rc)
    simp only [List.setIfInBounds_toArray, List.set_cons_zero] at hF
    refine bodyPost_ret (results_cell_tmp_row rfl _ _ _ _ _ _ _ rfl hF Try.underlying24 rfl (by kernel_rfl)) rfl ?_
    rw [HN.out]
    have ho := HO6.out.kept (grown_set w6 w.heap.size 0 (.slice ra BL.length rc)) (.inr (fun e => by
      have h1 := own_block HO6.out _ e
      omega))
    exact ⟨⟨_, rfl, IsFl.own ho HBL.out⟩, HB6.out.setCell (Nat.le_refl _) _⟩
  · have HN : Hid (newRes n = []) := if_neg h
    rw [if_neg h]
    have g : decide (1 ≤ n ∧ n ≤ 32) = false := decide_eq_false h
    clear h
    go_enter Try.func11, Try.ntmps11
    go_wp2_with fail
    refine (mayBe_any _ _).mono ?_
    rintro e w2 ⟨rfl, rfl⟩
    rw [g]
    clear g
    go_wp2
    have hF := HR1.out.set 0 (.slice none 0 0)
    simp only [List.setIfInBounds_toArray, List.set_cons_zero] at hF
    refine bodyPost_ret (results_cell_tmp_row rfl _ _ _ _ _ _ _ rfl HR1.out Try.underlying24 rfl (by kernel_rfl)) rfl ?_
    rw [HN.out]
    exact ⟨⟨_, rfl, IsFl.nil _ _⟩, HB1.out⟩

/-- What Read answers. -/
def readRes (F : List ByteArray) (a m : Int) : ByteArray × Int :=
  if chkFl F ≠ 0 then (⟨#[]⟩, chkFl F) else if a < 0 ∨ m < 0 ∨ ((joinM F).length : Int) - a < m then (⟨#[]⟩, 3) else (⟨(((joinM F).drop a.toNat).take m.toNat).toArray⟩, 0)

theorem extract_list (c : List UInt8) (i j : Nat) : (⟨c.toArray⟩ : ByteArray).extract i j = ⟨((c.drop i).take (j - i)).toArray⟩ := by
  apply ByteArray.ext
  apply Array.toList_inj.1
  rw [ByteArray.data_extract]
  simp [List.extract_eq_take_drop]

set_option maxHeartbeats 4000000 in
theorem flRead_any (F : List ByteArray) (v : Value) (a m : Int) (w : World) (hF : IsFl w.heap.size w v F) (ha : (Lit.int .i64 a).wf = true) (hm : (Lit.int .i64 m).wf = true) :
    Calls Try.prog 10 #[.agg #[v], .int .i64 a, .int .i64 m] w fun e w' => e = .returned (.tuple #[.string (readRes F a m).1, .int .i64 (readRes F a m).2]) ∧ Below w.heap.size w w' := by
  have HCK : Hid (∀ W, Below w.heap.size w W → Calls Try.prog 19 #[.agg #[v]] W fun e w' => e = .returned (.int .i64 (chkFl F)) ∧ Below W.heap.size W w') := fun W hb => flCheck_any F v W ((hF.1.below hb).more hb.size)
  have HJ : Hid (∀ W, chkFl F = 0 → Below w.heap.size w W → Calls Try.prog 28 #[v, .string ⟨#[]⟩] W fun e w' => e = .returned (.string ⟨(joinM F).toArray⟩) ∧ Below W.heap.size W w') := fun W h0 hb => by
    have := joinM_bound h0
    exact joinStr_any F v W ((hF.1.below hb).more hb.size) (by omega) (by omega) hF.2
  have key : (chkFl F ≠ 0 ∧ readRes F a m = (⟨#[]⟩, chkFl F)) ∨ (chkFl F = 0 ∧ (joinM F).length ≤ 4096 ∧ ((a < 0 ∧ readRes F a m = (⟨#[]⟩, 3)) ∨ (0 ≤ a ∧ m < 0 ∧ readRes F a m = (⟨#[]⟩, 3)) ∨ (0 ≤ a ∧ 0 ≤ m ∧ ((joinM F).length : Int) - a < m ∧ readRes F a m = (⟨#[]⟩, 3)) ∨
      (∃ an mn : Nat, a = an ∧ m = mn ∧ an + mn ≤ (joinM F).length ∧ readRes F a m = ((⟨(joinM F).toArray⟩ : ByteArray).extract an (an + mn), 0)))) := by
    by_cases h0 : chkFl F = 0
    · have := joinM_bound h0
      refine .inr ⟨h0, by omega, ?_⟩
      unfold readRes
      rw [if_neg (by omega)]
      by_cases h1 : a < 0
      · exact .inl ⟨h1, if_pos (.inl h1)⟩
      by_cases h2 : m < 0
      · exact .inr (.inl ⟨by omega, h2, if_pos (.inr (.inl h2))⟩)
      by_cases h3 : ((joinM F).length : Int) - a < m
      · exact .inr (.inr (.inl ⟨by omega, by omega, h3, if_pos (.inr (.inr h3))⟩))
      · refine .inr (.inr (.inr ⟨a.toNat, m.toNat, by omega, by omega, by omega, ?_⟩))
        rw [if_neg (by omega), extract_list, Nat.add_sub_cancel_left]
    · exact .inl ⟨h0, if_pos h0⟩
  obtain ⟨⟨ad, cap, rfl, _, _⟩, _⟩ := hF
  generalize chkFl F = cf at *
  generalize readRes F a m = R at *
  have hsz : (⟨(joinM F).toArray⟩ : ByteArray).size = (joinM F).length := by simp [ByteArray.size]
  rw [← hsz] at key
  generalize (⟨(joinM F).toArray⟩ : ByteArray) = s at *
  clear hsz
  generalize F.length = nF at *
  have HB1 : Hid (Below w.heap.size w (w.alloc (.cells #[.slice ad nF cap] 24))) := (Below.refl _ _).alloc (Nat.le_refl _) _
  have HF1 : Hid (CellsAt (w.alloc (.cells #[.slice ad nF cap] 24)) w.heap.size 24 #[.slice ad nF cap]) := CellsAt.new _ _ _
  go_enter Try.func10, Try.ntmps10
  go_wp2_with fail
  refine (HCK.out _ HB1.out).mono ?_
  rintro e w2 ⟨rfl, b2⟩
  have HB2 : Hid (Below w.heap.size w w2) := HB1.out.trans (b2.mono HB1.out.size)
  have hF2 := HF1.out.below b2 HF1.out.lt
  clear b2 HB1 HF1 HCK
  rcases key with ⟨h0, rfl⟩ | ⟨rfl, hs, key⟩
  · have h0' : (cf != 0) = true := by simpa using h0
    clear h0 hF2
    go_wp2
    go_ret2
    exact ⟨rfl, HB2.out⟩
  · have f0 := hF2.cell 0
    simp at f0
    go_wp2_with fail
    refine (HJ.out _ (by first | rfl | trivial) HB2.out).mono ?_
    rintro e w3 ⟨rfl, b3⟩
    have HB3 : Hid (Below w.heap.size w w3) := HB2.out.trans (b3.mono HB2.out.size)
    clear HB2 b3 hF2 f0 HJ
    simp [Lit.wf] at ha hm
    rcases key with ⟨h1, rfl⟩ | ⟨h1, h2, rfl⟩ | ⟨h1, h2, h3, rfl⟩ | ⟨an, mn, rfl, rfl, h3, rfl⟩
    · go_wp2
      go_ret2
      exact ⟨rfl, HB3.out⟩
    · go_wp2
      go_ret2
      exact ⟨rfl, HB3.out⟩
    · obtain ⟨an, rfl⟩ : ∃ an : Nat, a = an := ⟨a.toNat, by omega⟩
      have e1 : IntKind.i64.wrap ((s.size : Int) - (an : Int)) = (s.size : Int) - (an : Int) := by rw [i64_is]; unfold wrap64; omega
      go_wp2
      go_ret2
      exact ⟨rfl, HB3.out⟩
    · have e1 : IntKind.i64.wrap ((s.size : Int) - (an : Int)) = (s.size : Int) - (an : Int) := by rw [i64_is]; unfold wrap64; omega
      have e2 : IntKind.i64.wrap ((an : Int) + (mn : Int)) = ((an + mn : Nat) : Int) := by rw [i64_is]; unfold wrap64; omega
      have e3 : (an : Int) + (mn : Int) = ((an + mn : Nat) : Int) := by omega
      generalize hq : an + mn = q at *
      go_wp2
      go_ret2
      refine ⟨?_, HB3.out⟩
      first | rfl | trace_state

end Go.Proofs.Ytnomapbiklfciaf
