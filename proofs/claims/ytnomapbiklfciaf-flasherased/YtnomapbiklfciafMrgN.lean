/- Texts that are laid together. -/
import Derived.Test.YtnomapbiklfciafMrgL
import Derived.Test.YtnomapbiklfciafMrgM

/- The contracts of package flash's New and Read. -/
namespace Go.Proofs.Ytnomapbiklfciaf
open Go.RowKit Go.PlainAid

set_option maxRecDepth 100000

def newRes (n : Int) : List ByteArray := if 1 ≤ n ∧ n ≤ 32 then blocksM (List.replicate (n.toNat * 128) 255) else []

set_option maxHeartbeats 4000000 in
theorem flNew_any (n : Int) (w : World) :
    Calls Try.prog 11 #[.int .i64 n] w fun e w' => (∃ r, e = .returned (.tuple #[.agg #[r], .int .i64 (if 1 ≤ n ∧ n ≤ 32 then 0 else 3)]) ∧ IsFl w'.heap.size w' r (newRes n)) ∧ Below w.heap.size w w' := by
  have HB1 : Hid (Below w.heap.size w (w.alloc (.cells #[.slice none 0 0] 24))) := (Below.refl _ _).alloc (Nat.le_refl _) _
  have HR1 : Hid (CellsAt (w.alloc (.cells #[.slice none 0 0] 24)) w.heap.size 24 #[.slice none 0 0]) := CellsAt.new _ _ _
  by_cases h : 1 ≤ n ∧ n ≤ 32
  · have HN : Hid (newRes n = blocksM (List.replicate (n.toNat * 128) 255)) := if_pos h
    rw [if_pos h]
    have g : decide (1 ≤ n ∧ n ≤ 32) = true := decide_eq_true h
    obtain ⟨m, rfl⟩ : ∃ m : Nat, n = m := ⟨n.toNat, by omega⟩
    rw [Int.toNat_natCast] at HN
    have hm1 : 1 ≤ m := by omega
    have hm2 : m ≤ 32 := by omega
    have e1 : IntKind.i64.wrap ((m : Int) * 128) = ((m * 128 : Nat) : Int) := by rw [i64_is]; unfold wrap64; omega
    have e2 : (m : Int) * 128 = ((m * 128 : Nat) : Int) := by omega
    have HRB : Hid (∀ (B : Nat) W, CellsAt W B 5 #[.int .u8 255] → Calls Try.prog 30 #[.slice (some ⟨B, 0, none⟩) 1 1, .int .i64 ((m : Int) * 128)] W fun e w' => e = .returned (.slice (some ⟨W.heap.size, 0, none⟩) (m * 128) (m * 128)) ∧ CellsB w' W.heap.size (List.replicate (m * 128) 255) ∧ Below W.heap.size W w') := fun B W hB => by
      have := repB_any B (m * 128) W hB (by omega) (by omega)
      rw [← e2] at this
      exact this
    have HFO : Hid (∀ (g : Nat) W, CellsB W g (List.replicate (m * 128) 255) → Calls Try.prog 31 #[.slice (some ⟨g, 0, none⟩) (m * 128) (m * 128)] W fun e w' => (∃ v, e = .returned (.agg #[v]) ∧ w'.ownsRow W.heap.size 9 1 v (blocksM (List.replicate (m * 128) 255)).length ((blocksM (List.replicate (m * 128) 255)).flatMap strC)) ∧ Below W.heap.size W w') := fun g W h => by
      have := flashOf_any g (m * 128) (List.replicate (m * 128) 255) W h (by rw [List.length_replicate]; omega) (by rw [List.length_replicate]; exact Nat.le_refl _) (by omega)
      rw [List.length_replicate] at this
      exact this
    have HBL : Hid ((blocksM (List.replicate (m * 128) 255)).length ≤ 9223372036854775807) := by
      show (blocksM (List.replicate (m * 128) 255)).length ≤ _
      rw [blocksM_length, List.length_replicate]
      omega
    generalize blocksM (List.replicate (m * 128) 255) = BL at *
    generalize List.replicate (m * 128) (255 : UInt8) = c at *
    generalize m * 128 = q at *
    go_enter Try.func11, Try.ntmps11
    go_wp2_with fail
    refine (mayBe_any _ _).mono ?_
    rintro e w2 ⟨rfl, rfl⟩
    rw [g]
    clear g e1 e2 h
    have HRx : Hid (CellsAt ((w.alloc (.cells #[.slice none 0 0] 24)).alloc (.cells #[.int .u8 255] 5)) w.heap.size 24 #[.slice none 0 0]) := HR1.out.kept (World.grownBy_alloc _ _ none) (by simp)
    have HXx : Hid (CellsAt ((w.alloc (.cells #[.slice none 0 0] 24)).alloc (.cells #[.int .u8 255] 5)) (w.heap.size + 1) 5 #[.int .u8 255]) := by
      have := CellsAt.new (w.alloc (.cells #[.slice none 0 0] 24)) 5 #[.int .u8 255]
      rw [World.size_alloc] at this
      exact this
    have HBx : Hid (Below w.heap.size w ((w.alloc (.cells #[.slice none 0 0] 24)).alloc (.cells #[.int .u8 255] 5))) := HB1.out.alloc (by simp) _
    clear HR1 HB1
    go_wp2_with fail
    refine (HRB.out (w.heap.size + 1) _ HXx.out).mono ?_
    rintro e w3 ⟨rfl, hc3, b3⟩
    have HB3 : Hid (Below w.heap.size w w3) := HBx.out.trans (b3.mono HBx.out.size)
    have HR3 : Hid (CellsAt w3 w.heap.size 24 #[.slice none 0 0]) := HRx.out.below b3 HRx.out.lt
    simp only [World.size_alloc] at hc3
    have HC3 := hc3
    clear b3 HRx HXx HBx HRB hc3
    go_wp2_with fail
    refine (HFO.out _ _ HC3).mono ?_
    rintro e w6 ⟨⟨r, rfl, ho⟩, b6⟩
    have HO6 : Hid (w6.ownsRow w3.heap.size 9 1 r BL.length (BL.flatMap strC)) := ho
    have hR6 := HR3.out.below b6 HR3.out.lt
    have HR6 : Hid (CellsAt w6 w.heap.size 24 #[.slice none 0 0]) := hR6
    have HB6 : Hid (Below w.heap.size w w6) := HB3.out.trans (b6.mono HB3.out.size)
    have hlt3 := HR3.out.lt
    obtain ⟨ra, rc, rfl⟩ := own_form ho
    have r0 := hR6.cell 0
    have r1 := hR6.frozen 0
    simp at r0
    clear ho hR6 b6 HFO HR3 HC3 HB3
    go_wp2
    have hF := HR6.out.set 0 (.slice ra BL.length rc)
    simp only [List.setIfInBounds_toArray, List.set_cons_zero] at hF
    refine bodyPost_ret (results_cell_tmp_row rfl _ _ _ _ _ _ _ rfl hF Try.underlying24 rfl (by kernel_rfl)) rfl ?_
    rw [HN.out]
    have ho := HO6.out.kept (grown_set w6 w.heap.size 0 (.slice ra BL.length rc)) (.inr (fun e => by
      have h1 := own_block HO6.out _ e
      omega))
    exact ⟨⟨_, rfl, IsFl.own ho HBL.out⟩, HB6.out.setCell (Nat.le_refl _) _⟩
  · have HN : Hid (newRes n = []) := if_neg h
    rw [if_neg h]
    have g : decide (1 ≤ n ∧ n ≤ 32) = false := decide_eq_false h
    clear h
    go_enter Try.func11, Try.ntmps11
    go_wp2_with fail
    refine (mayBe_any _ _).mono ?_
    rintro e w2 ⟨rfl, rfl⟩
    rw [g]
    clear g
    go_wp2
    have hF := HR1.out.set 0 (.slice none 0 0)
    simp only [List.setIfInBounds_toArray, List.set_cons_zero] at hF
    refine bodyPost_ret (results_cell_tmp_row rfl _ _ _ _ _ _ _ rfl HR1.out Try.underlying24 rfl (by kernel_rfl)) rfl ?_
    rw [HN.out]
    exact ⟨⟨_, rfl, IsFl.nil _ _⟩, HB1.out⟩

/-- What Read answers. -/
def readRes (F : List ByteArray) (a m : Int) : ByteArray × Int :=
  if chkFl F ≠ 0 then (⟨#[]⟩, chkFl F) else if a < 0 ∨ m < 0 ∨ ((joinM F).length : Int) - a < m then (⟨#[]⟩, 3) else (⟨(((joinM F).drop a.toNat).take m.toNat).toArray⟩, 0)

theorem extract_list (c : List UInt8) (i j : Nat) : (⟨c.toArray⟩ : ByteArray).extract i j = ⟨((c.drop i).take (j - i)).toArray⟩ := by
  apply ByteArray.ext
  apply Array.toList_inj.1
  rw [ByteArray.data_extract]
  simp [List.extract_eq_take_drop]

set_option maxHeartbeats 4000000 in
theorem flRead_any (F : List ByteArray) (v : Value) (a m : Int) (w : World) (hF : IsFl w.heap.size w v F) (ha : (Lit.int .i64 a).wf = true) (hm : (Lit.int .i64 m).wf = true) :
    Calls Try.prog 10 #[.agg #[v], .int .i64 a, .int .i64 m] w fun e w' => e = .returned (.tuple #[.string (readRes F a m).1, .int .i64 (readRes F a m).2]) ∧ Below w.heap.size w w' := by
  have HCK : Hid (∀ W, Below w.heap.size w W → Calls Try.prog 19 #[.agg #[v]] W fun e w' => e = .returned (.int .i64 (chkFl F)) ∧ Below W.heap.size W w') := fun W hb => flCheck_any F v W ((hF.1.below hb).more hb.size)
  have HJ : Hid (∀ W, chkFl F = 0 → Below w.heap.size w W → Calls Try.prog 28 #[v, .string ⟨#[]⟩] W fun e w' => e = .returned (.string ⟨(joinM F).toArray⟩) ∧ Below W.heap.size W w') := fun W h0 hb => by
    have := joinM_bound h0
    exact joinStr_any F v W ((hF.1.below hb).more hb.size) (by omega) (by omega) hF.2
  have key : (chkFl F ≠ 0 ∧ readRes F a m = (⟨#[]⟩, chkFl F)) ∨ (chkFl F = 0 ∧ (joinM F).length ≤ 4096 ∧ ((a < 0 ∧ readRes F a m = (⟨#[]⟩, 3)) ∨ (0 ≤ a ∧ m < 0 ∧ readRes F a m = (⟨#[]⟩, 3)) ∨ (0 ≤ a ∧ 0 ≤ m ∧ ((joinM F).length : Int) - a < m ∧ readRes F a m = (⟨#[]⟩, 3)) ∨
      (∃ an mn : Nat, a = an ∧ m = mn ∧ an + mn ≤ (joinM F).length ∧ readRes F a m = ((⟨(joinM F).toArray⟩ : ByteArray).extract an (an + mn), 0)))) := by
    by_cases h0 : chkFl F = 0
    · have := joinM_bound h0
      refine .inr ⟨h0, by omega, ?_⟩
      unfold readRes
      rw [if_neg (by omega)]
      by_cases h1 : a < 0
      · exact .inl ⟨h1, if_pos (.inl h1)⟩
      by_cases h2 : m < 0
      · exact .inr (.inl ⟨by omega, h2, if_pos (.inr (.inl h2))⟩)
      by_cases h3 : ((joinM F).length : Int) - a < m
      · exact .inr (.inr (.inl ⟨by omega, by omega, h3, if_pos (.inr (.inr h3))⟩))
      · refine .inr (.inr (.inr ⟨a.toNat, m.toNat, by omega, by omega, by omega, ?_⟩))
        rw [if_neg (by omega), extract_list, Nat.add_sub_cancel_left]
    · exact .inl ⟨h0, if_pos h0⟩
  obtain ⟨⟨ad, cap, rfl, _, _⟩, _⟩ := hF
  generalize chkFl F = cf at *
  generalize readRes F a m = R at *
  have hsz : (⟨(joinM F).toArray⟩ : ByteArray).size = (joinM F).length := by simp [ByteArray.size]
  rw [← hsz] at key
  generalize (⟨(joinM F).toArray⟩ : ByteArray) = s at *
  clear hsz
  generalize F.length = nF at *
  have HB1 : Hid (Below w.heap.size w (w.alloc (.cells #[.slice ad nF cap] 24))) := (Below.refl _ _).alloc (Nat.le_refl _) _
  have HF1 : Hid (CellsAt (w.alloc (.cells #[.slice ad nF cap] 24)) w.heap.size 24 #[.slice ad nF cap]) := CellsAt.new _ _ _
  go_enter Try.func10, Try.ntmps10
  go_wp2_with fail
  refine (HCK.out _ HB1.out).mono ?_
  rintro e w2 ⟨rfl, b2⟩
  have HB2 : Hid (Below w.heap.size w w2) := HB1.out.trans (b2.mono HB1.out.size)
  have hF2 := HF1.out.below b2 HF1.out.lt
  clear b2 HB1 HF1 HCK
  rcases key with ⟨h0, rfl⟩ | ⟨rfl, hs, key⟩
  · have h0' : (cf != 0) = true := by simpa using h0
    clear h0 hF2
    go_wp2
    go_ret2
    exact ⟨rfl, HB2.out⟩
  · have f0 := hF2.cell 0
    simp at f0
    go_wp2_with fail
    refine (HJ.out _ (by first | rfl | trivial) HB2.out).mono ?_
    rintro e w3 ⟨rfl, b3⟩
    have HB3 : Hid (Below w.heap.size w w3) := HB2.out.trans (b3.mono HB2.out.size)
    clear HB2 b3 hF2 f0 HJ
    simp [Lit.wf] at ha hm
    rcases key with ⟨h1, rfl⟩ | ⟨h1, h2, rfl⟩ | ⟨h1, h2, h3, rfl⟩ | ⟨an, mn, rfl, rfl, h3, rfl⟩
    · go_wp2
      go_ret2
      exact ⟨rfl, HB3.out⟩
    · go_wp2
      go_ret2
      exact ⟨rfl, HB3.out⟩
    · obtain ⟨an, rfl⟩ : ∃ an : Nat, a = an := ⟨a.toNat, by omega⟩
      have e1 : IntKind.i64.wrap ((s.size : Int) - (an : Int)) = (s.size : Int) - (an : Int) := by rw [i64_is]; unfold wrap64; omega
      go_wp2
      go_ret2
      exact ⟨rfl, HB3.out⟩
    · have e1 : IntKind.i64.wrap ((s.size : Int) - (an : Int)) = (s.size : Int) - (an : Int) := by rw [i64_is]; unfold wrap64; omega
      have e2 : IntKind.i64.wrap ((an : Int) + (mn : Int)) = ((an + mn : Nat) : Int) := by rw [i64_is]; unfold wrap64; omega
      have e3 : (an : Int) + (mn : Int) = ((an + mn : Nat) : Int) := by omega
      generalize hq : an + mn = q at *
      go_wp2
      go_ret2
      refine ⟨?_, HB3.out⟩
      first | rfl | trace_state

end Go.Proofs.Ytnomapbiklfciaf

/- The contract of the document's NewFlash. -/
namespace Go.Proofs.Ytnomapbiklfciaf
open Go.RowKit Go.PlainAid Go.Lib

set_option maxRecDepth 100000

def ffB (n : Nat) : ByteArray := ⟨(List.replicate n 255).toArray⟩
theorem ffB_next (n : Nat) : ffB n ++ ⟨#[255]⟩ = ffB (n + 1) := by
  unfold ffB
  apply ByteArray.ext
  apply Array.toList_inj.1
  rw [ByteArray.data_append, List.replicate_succ']
  simp
theorem ffB_size (n : Nat) : (ffB n).size = n := by simp [ffB, ByteArray.size]

set_option maxHeartbeats 4000000 in
theorem rNew_any (n : Nat) (hn : n ≤ 32) (w : World) :
    Calls Try.prog 15 #[.int .i64 n] w fun e w' => (∃ r, e = .returned (.agg #[r]) ∧ w'.ownsRow w.heap.size 9 1 r n ((List.replicate n (ffB 128)).flatMap strC)) ∧ Below w.heap.size w w' := by
  obtain ⟨is, his, hs0, hs1, hs2⟩ := infoStrF_parts
  have HF : Hid (∀ k, ffB k ++ ⟨#[255]⟩ = ffB (k + 1)) := ffB_next
  have HZ : Hid (∀ k, (ffB k).size = k) := ffB_size
  have HB1 : Hid (Below w.heap.size w (w.alloc (.cells #[.slice none 0 0] 24))) := (Below.refl _ _).alloc (Nat.le_refl _) _
  have HR1 : Hid (CellsAt (w.alloc (.cells #[.slice none 0 0] 24)) w.heap.size 24 #[.slice none 0 0]) := CellsAt.new _ _ _
  go_enter Try.func15, Try.ntmps15
  go_wp2
  go_loop [3, 4] (fun s i => ∃ (j : Nat) (t : ByteArray), j ≤ 128 ∧ i = .int .i64 j ∧ s = .string t ∧ Hid (t = ffB j)) (fun _ i => 128 - (intOf i).toNat)
  case atStart => exact ⟨0, ⟨#[]⟩, by omega, rfl, rfl, (rfl : (⟨#[]⟩ : ByteArray) = ffB 0)⟩
  case round =>
    obtain ⟨j, t, hj, rfl, rfl, HT⟩ := hrel
    by_cases hlt : j < 128
    · have hsz : t.size = j := by rw [HT.out, HZ.out]
      have hbig : ¬ (9223372036854775807 < t.size + 1) := by omega
      have HN : Hid (t ++ ⟨#[255]⟩ = ffB (j + 1)) := by show t ++ _ = _; rw [HT.out, HF.out]
      go_wp2
      exact ⟨⟨j + 1, t ++ ⟨#[255]⟩, by omega, by go_num, rfl, HN⟩, by simp [intOf]; omega⟩
    · obtain rfl : j = 128 := by omega
      have HR2 : Hid (CellsAt ((w.alloc (.cells #[.slice none 0 0] 24)).alloc (.cells #[.slice none 0 0] 24)) w.heap.size 24 #[.slice none 0 0]) := HR1.out.kept (World.grownBy_alloc _ _ none) (by simp)
      have HV2 : Hid (CellsAt ((w.alloc (.cells #[.slice none 0 0] 24)).alloc (.cells #[.slice none 0 0] 24)) (w.heap.size + 1) 24 #[.slice none 0 0]) := by
        have := CellsAt.new (w.alloc (.cells #[.slice none 0 0] 24)) 24 #[.slice none 0 0]
        rw [World.size_alloc] at this
        exact this
      have HB2 : Hid (Below w.heap.size w ((w.alloc (.cells #[.slice none 0 0] 24)).alloc (.cells #[.slice none 0 0] 24))) := HB1.out.alloc (by simp) _
      have HTF : Hid (t = ffB 128) := HT
      have HS2 : Hid (w.heap.size + 2 ≤ ((w.alloc (.cells #[.slice none 0 0] 24)).alloc (.cells #[.slice none 0 0] 24)).heap.size) := by
        show _ ≤ _
        simp
      clear HR1 HB1 HF HZ HT
      go_wp2
      go_loopw [6] (fun i wr => ∃ (k : Nat) (v : Value), k ≤ n ∧ i = .int .i64 k ∧ Hid (CellsAt wr w.heap.size 24 #[.slice none 0 0]) ∧ Hid (CellsAt wr (w.heap.size + 1) 24 #[v]) ∧ Hid (wr.ownsRow (w.heap.size + 2) 9 1 v k ((List.replicate k t).flatMap strC)) ∧ Hid (Below w.heap.size w wr) ∧ Hid (w.heap.size + 2 ≤ wr.heap.size)) (fun i _ => n - (intOf i).toNat)
      case atStart => exact ⟨0, .slice none 0 0, Nat.zero_le _, rfl, HR2, HV2, World.ownsRow_nil _ _ _ _, HB2, HS2⟩
      case round =>
        obtain ⟨k, v, hk, rfl, HR, HV, HO, HB, HS⟩ := hrel
        clear HR2 HV2 HB2 HS2
        obtain ⟨av, kv, rfl⟩ := own_form HO.out
        have v0 := HV.out.cell 0
        have vf := HV.out.frozen 0
        simp at v0
        have hlt1 : w.heap.size + 1 < wr.heap.size := HV.out.lt
        by_cases hltk : k < n
        · have HA1 : Hid (CellsAt (wr.alloc (.cells #[.string t] 9)) wr.heap.size 9 #[.string t]) := CellsAt.new _ _ _
          have HAR : Hid (CellsAt (wr.alloc (.cells #[.string t] 9)) w.heap.size 24 #[.slice none 0 0]) := HR.out.kept (World.grownBy_alloc _ _ none) (by simp)
          have HAV : Hid (CellsAt (wr.alloc (.cells #[.string t] 9)) (w.heap.size + 1) 24 #[.slice av k kv]) := HV.out.kept (World.grownBy_alloc _ _ none) (by simp)
          have HAB : Hid (Below w.heap.size w (wr.alloc (.cells #[.string t] 9))) := HB.out.alloc HB.out.size _
          have HRP : Hid ((List.replicate k t).flatMap strC ++ [.string t] = (List.replicate (k + 1) t).flatMap strC) := by
            show _ = _
            rw [List.replicate_succ', List.flatMap_append]; rfl
          clear HR HV HB
          go_wp2_with (at_builtin; refine wpList_append_lies _ rfl _ _ _ rfl (w.heap.size + 2) 9 is _ 1 16 Try.underlying22 his hs0 hs1 hs2 rfl (by omega) (.slice av k kv) k ((List.replicate k t).flatMap strC) rfl (HO.out.alloc _) ⟨wr.heap.size, 0, none⟩ 1 1 [.string t] rfl rfl (World.news_of_block (cs := #[.string t]) (t := 9) (fr := (0, 0)) HA1.out) (by simp [Value.oneCell']) (by omega) (by unfold maxLen; omega) (by omega) (by have := HS.out; simp; omega) (wr.heap.size + 1) (by simp) ?_; intro g gc w8 hown8 hgrow hat hltg; have z8 := HAV.out.kept hgrow (fun e => by have := own_block HO.out _ e.symm; omega); have z0 := z8.cell 0; have zf := z8.frozen 0; simp at z0)
          have hO8 := hown8.kept (grown_set w8 (w.heap.size + 1) 0 (.slice (some ⟨g, 0, none⟩) (k + 1) gc)) (.inr (fun e => by have := own_block hown8 _ e; omega))
          rw [HRP.out] at hO8
          have hV8 := z8.set 0 (.slice (some ⟨g, 0, none⟩) (k + 1) gc)
          simp only [List.setIfInBounds_toArray, List.set_cons_zero] at hV8
          have hR8 := (HAR.out.kept hgrow (fun e => by have := own_block HO.out _ e.symm; omega)).kept (grown_set w8 (w.heap.size + 1) 0 (.slice (some ⟨g, 0, none⟩) (k + 1) gc)) (by simp)
          have hB8 := (HAB.out.grown hgrow HAB.out.size (fun q hq => by have := own_block HO.out q hq; omega)).setCell (p := ⟨w.heap.size + 1, 0, none⟩) (by simp) (.slice (some ⟨g, 0, none⟩) (k + 1) gc)
          have hS8 : w.heap.size + 2 ≤ (w8.setCell ⟨w.heap.size + 1, 0, none⟩ (.slice (some ⟨g, 0, none⟩) (k + 1) gc)).heap.size := by
            have h1 := hgrow.size
            have h2 := HS.out
            simp [World.setCell] at h1 ⊢
            omega
          exact ⟨⟨k + 1, _, by omega, by go_num, hR8, hV8, hO8, hB8, hS8⟩, by simp [intOf]; omega⟩
        · obtain rfl : k = n := by omega
          have r0 := HR.out.cell 0
          have rf := HR.out.frozen 0
          simp at r0
          go_wp2
          have hF := HR.out.set 0 (.slice av k kv)
          simp only [List.setIfInBounds_toArray, List.set_cons_zero] at hF
          refine bodyPost_ret (results_cell_row rfl _ _ _ _ _ _ _ rfl hF Try.underlying24 rfl (by kernel_rfl)) rfl ?_
          have ho := HO.out.kept (grown_set wr w.heap.size 0 (.slice av k kv)) (.inr (fun e => by have := own_block HO.out _ e; omega))
          rw [← HTF.out]
          exact ⟨⟨_, rfl, ho.1, ho.2.imp id (fun ⟨g, cap, cur, h1, h2, h3⟩ => ⟨g, cap, cur, h1, by omega, h3⟩)⟩, HB.out.setCell (Nat.le_refl _) _⟩

end Go.Proofs.Ytnomapbiklfciaf

/- The contract of the document's deedBytes. -/
namespace Go.Proofs.Ytnomapbiklfciaf
open Go.RowKit Go.PlainAid Go.Lib

set_option maxRecDepth 100000

/-- The block that a deed turns, and its bytes then. -/
def dBlk (d : Deed) : Nat := if d.kind = 2 then d.pos.toNat else d.pos.toNat / 128
def dBytes (F : List ByteArray) (d : Deed) : List UInt8 :=
  if d.kind = 2 then List.replicate 128 255
  else ((F.getD (d.pos.toNat / 128) ⟨#[]⟩).data.toList).set (d.pos.toNat % 128) (((F.getD (d.pos.toNat / 128) ⟨#[]⟩).data.toList.getD (d.pos.toNat % 128) 0) &&& UInt8.ofNat d.val.toNat)

theorem convBytes (w : World) (s : ByteArray) (hs : s.size ≤ 4096) : ∃ w' cap, (convert 9 57 (.string s)).run Try.prog w = .ok (.slice (some ⟨w.heap.size, 0, none⟩) s.size cap) w' ∧ CellsB w' w.heap.size s.data.toList ∧ Below w.heap.size w w' ∧ s.size ≤ cap ∧ cap ≤ 9223372036854775807 := by
  have h := run_bytes_of_string (P := Try.prog) w 9 57 5 s Try.underlying9 Try.underlying57 Try.underlying5
  obtain ⟨cap, hcap⟩ : ∃ cap, grownCap w s.size 0 5 = cap := ⟨_, rfl⟩
  have h1 := grownCap_ge w s.size 0 5
  have h2 := grownCap_le_maxLen w s.size 0 5 (by unfold maxLen; omega)
  rw [hcap] at h h1 h2
  unfold maxLen at h2
  refine ⟨_, cap, h, ⟨?_, fun j x hx => ?_, fun j hj => ?_⟩, ((Below.refl _ _).drew).alloc (Nat.le_refl _) _, h1, by omega⟩
  · rw [World.size_alloc]; exact Nat.lt_succ_self _
  · have hj := (List.getElem?_eq_some_iff.1 hx).1
    have := World.cell?_alloc_mark w.drew (bytesRow s cap) 5 ((bytesRow s cap).size, (bytesRow s cap).size + 1) j
    refine this.trans ?_
    rw [bytesRow_at _ _ _ (by simpa using hj)]
    have : s.data.toList[j]? = some s.data.toList[j] := List.getElem?_eq_getElem hj
    rw [hx] at this
    injection this with this
    simp [this]
  · have := World.frozen?_alloc_mark w.drew (bytesRow s cap) 5 (bytesRow s cap).size ((bytesRow s cap).size + 1) j
    refine this.trans ?_
    have hz : s.size ≤ (bytesRow s cap).size := by unfold bytesRow; simp
    have hl : s.data.toList.length = s.size := by simp
    rw [decide_eq_false (by omega)]
    rfl

set_option maxHeartbeats 8000000 in
theorem rDeedBytes_any (F : List ByteArray) (v : Value) (d : Deed) (w : World) (hF : RowOf 1 strCell w.heap.size w v F) (hf : chkFl F = 0) (h0 : chkDeed (F.length * 128) d = 0) :
    Calls Try.prog 35 #[.agg #[v], d.value] w fun e w' => (∃ g cap, e = .returned (.tuple #[.int .i64 (dBlk d : Int), .slice (some ⟨g, 0, none⟩) 128 cap]) ∧ CellsB w' g (dBytes F d) ∧ (dBytes F d).length = 128 ∧ w.heap.size ≤ g ∧ 128 ≤ cap ∧ cap ≤ 9223372036854775807) ∧ Below w.heap.size w w' := by
  obtain ⟨p0, v0, v1, hle, key⟩ := deed_right h0
  have hall : ∀ b ∈ F, b.size = 128 := by
    rcases chkFl_cases F with ⟨e, _⟩ | ⟨e, _⟩ | ⟨_, _, _, h⟩
    · rw [e] at hf; cases hf
    · rw [e] at hf; cases hf
    · exact h
  have hl := (joinM_bound hf).2.1
  obtain ⟨a, cap, rfl, hmx, hrow⟩ := hF
  clear h0 hf
  rcases key with ⟨hk, hst, hmn⟩ | ⟨hk, hv, hst, hmn⟩
  · -- a program
    have hq : d.pos.toNat / 128 < F.length := by omega
    obtain ⟨x, hx⟩ : ∃ x, F[d.pos.toNat / 128]? = some x := ⟨_, List.getElem?_eq_getElem hq⟩
    have hxs : x.size = 128 := hall x (List.mem_of_getElem? hx)
    have HD : Hid (dBytes F d = x.data.toList.set (d.pos.toNat % 128) (x.data.toList.getD (d.pos.toNat % 128) 0 &&& UInt8.ofNat d.val.toNat)) := by
      show dBytes F d = _
      unfold dBytes
      rw [if_neg (by omega), List.getD_eq_getElem?_getD, hx]
      rfl
    have HK : Hid (dBlk d = d.pos.toNat / 128) := by show dBlk d = _; unfold dBlk; rw [if_neg (by omega)]
    have hB : ∃ y : UInt8, x.data.toList.getD (d.pos.toNat % 128) 0 = y ∧ x.data.toList[d.pos.toNat % 128]? = some y := by
      have hj : d.pos.toNat % 128 < x.data.toList.length := by
        have : x.data.toList.length = x.size := by simp
        have := Nat.mod_lt d.pos.toNat (by decide : 128 > 0)
        omega
      refine ⟨x.data.toList[d.pos.toNat % 128], ?_, List.getElem?_eq_getElem hj⟩
      rw [List.getD_eq_getElem?_getD, List.getElem?_eq_getElem hj]; rfl
    obtain ⟨y, hy1, hy2⟩ := hB
    rw [hy1] at HD
    have hvb : d.val = ((UInt8.ofNat d.val.toNat).toNat : Int) := by
      rw [UInt8.toNat_ofNat', Nat.mod_eq_of_lt (by omega)]; omega
    generalize UInt8.ofNat d.val.toNat = z at *
    generalize dBytes F d = DB at *
    generalize dBlk d = DK at *
    rcases hrow with h | ⟨b, off, rfl, hbn, hcells⟩
    · subst h; simp at hq
    have HC0 : Hid (w.cell? ⟨b, off + d.pos.toNat / 128, none⟩ = some (.string x)) := by
      have := hcells _ x hx 0 (by omega)
      rw [Nat.mul_one, Nat.add_zero] at this
      exact this
    obtain ⟨kd, ps, vl⟩ := d
    unfold Deed.value
    dsimp only at *
    obtain ⟨p, rfl⟩ : ∃ p : Nat, ps = p := ⟨ps.toNat, by omega⟩
    rw [Int.toNat_natCast] at *
    subst hk
    have ed : (p : Int) / 128 = ((p / 128 : Nat) : Int) := by omega
    have em : (p : Int) % 128 = ((p % 128 : Nat) : Int) := by omega
    have hm128 : p % 128 < 128 := Nat.mod_lt _ (by decide)
    generalize p / 128 = q at *
    generalize p % 128 = r at *
    clear hcells hx hall hst hmn hle
    have HB1 : Hid (Below w.heap.size w ((w.alloc (.cells #[.slice (some ⟨b, off, none⟩) F.length cap] 24)).alloc (.cells #[.int .i64 1, .int .i64 p, .int .i64 vl] 32))) := ((Below.refl _ _).alloc (Nat.le_refl _) _).alloc (by simp) _
    have HD1 : Hid (CellsAt ((w.alloc (.cells #[.slice (some ⟨b, off, none⟩) F.length cap] 24)).alloc (.cells #[.int .i64 1, .int .i64 p, .int .i64 vl] 32)) (w.heap.size + 1) 32 #[.int .i64 1, .int .i64 p, .int .i64 vl]) := by
      have := CellsAt.new (w.alloc (.cells #[.slice (some ⟨b, off, none⟩) F.length cap] 24)) 32 #[.int .i64 1, .int .i64 p, .int .i64 vl]
      rw [World.size_alloc] at this
      exact this
    obtain ⟨w4, kc, hcv, hC4, b4, hk1, hk2⟩ := convBytes ((w.alloc (.cells #[.slice (some ⟨b, off, none⟩) F.length cap] 24)).alloc (.cells #[.int .i64 1, .int .i64 p, .int .i64 vl] 32)) x (by omega)
    have c0 := HC0.out
    have HBO : Hid (∀ W, Calls Try.prog 50 #[.int .u8 (y.toNat : Int), .int .u8 vl] W fun e w' => e = .returned (.int .u8 ((y &&& z).toNat : Int)) ∧ w' = W) := fun W => by rw [hvb]; exact both_any y z W
    generalize y &&& z = u at *
    clear hvb
    have HD4 : Hid (CellsAt w4 (w.heap.size + 1) 32 #[.int .i64 1, .int .i64 p, .int .i64 vl]) := HD1.out.below b4 HD1.out.lt
    have HB4 : Hid (Below w.heap.size w w4) := HB1.out.trans (b4.mono HB1.out.size)
    simp only [World.size_alloc] at hC4 hcv
    rw [hxs] at hcv hk1
    have HC4 : Hid (CellsB w4 (w.heap.size + 1 + 1) x.data.toList) := hC4
    clear hC4 b4 HB1 HD1 HC0
    go_enter Try.func35, Try.ntmps35
    go_wp2_with fail
    refine wp_region_noPanic ?_
    refine wp_region_L (S := fun w' => CellsAt w' (w.heap.size + 1) 32 #[.int .i64 1, .int .i64 p, .int .i64 vl] ∧ CellsB w' (w.heap.size + 1 + 1) x.data.toList) (x := 15) (by kernel_rfl) ?_
    have HD5 : Hid (CellsAt w4.drew (w.heap.size + 1) 32 #[.int .i64 1, .int .i64 p, .int .i64 vl]) := HD4.out
    have HC5 : Hid (CellsB w4.drew (w.heap.size + 1 + 1) x.data.toList) := ⟨HC4.out.lt, HC4.out.holds, HC4.out.free⟩
    have HB5 : Hid (Below w.heap.size w w4.drew) := HB4.out.drew
    clear HD4 HC4 HB4 hcv
    generalize w4.drew = w5 at *
    have hri : ¬ ((128 : Int) ≤ (r : Int)) := by omega
    have et : (p : Int).tmod 128 = (r : Int) := by rw [Int.tmod_eq_emod_of_nonneg (by omega), em]
    have ew : IntKind.u8.wrap vl = vl := by rw [IntKind.wrap_u8]; omega
    have hS : CellsAt w5 (w.heap.size + 1) 32 #[.int .i64 1, .int .i64 p, .int .i64 vl] ∧ CellsB w5 (w.heap.size + 1 + 1) x.data.toList := ⟨HD5.out, HC5.out⟩
    refine wpL_take 0 25 (.slice (some ⟨w.heap.size + 1 + 1, 0, none⟩) 128 kc) rfl (by kernel_rfl) (fun _ _ _ h => h) hS rfl rfl (fun w' hSw => by clear hSw; go_simp) ?_
    simp only [List.setIfInBounds_toArray, List.set_cons_zero, List.set_cons_succ]
    refine wpL_take 1 26 (.pointer (some ⟨w.heap.size + 1, 1, none⟩)) rfl (by kernel_rfl) (fun _ _ _ h => h) hS rfl rfl (fun w' hSw => by have q0 := hSw.1.cell 0; have q1 := hSw.1.cell 1; have q2 := hSw.1.cell 2; simp at q0 q1 q2; have ql := hSw.1.lt; clear hSw; go_simp) ?_
    simp only [List.setIfInBounds_toArray, List.set_cons_zero, List.set_cons_succ]
    refine wpL_take 2 27 (.int .i64 (p : Int)) rfl (by kernel_rfl) (fun _ _ _ h => h) hS rfl rfl (fun w' hSw => by have q0 := hSw.1.cell 0; have q1 := hSw.1.cell 1; have q2 := hSw.1.cell 2; simp at q0 q1 q2; have ql := hSw.1.lt; clear hSw; go_simp) ?_
    simp only [List.setIfInBounds_toArray, List.set_cons_zero, List.set_cons_succ]
    refine wpL_take 3 28 (.int .i64 (r : Int)) rfl (by kernel_rfl) (fun _ _ _ h => h) hS rfl rfl (fun w' hSw => by clear hSw; go_simp) ?_
    simp only [List.setIfInBounds_toArray, List.set_cons_zero, List.set_cons_succ]
    refine wpL_take 4 29 (.slice (some ⟨w.heap.size + 1 + 1, 0, none⟩) 128 kc) rfl (by kernel_rfl) (fun _ _ _ h => h) hS rfl rfl (fun w' hSw => by clear hSw; go_simp) ?_
    simp only [List.setIfInBounds_toArray, List.set_cons_zero, List.set_cons_succ]
    refine wpL_take 5 30 (.pointer (some ⟨w.heap.size + 1, 1, none⟩)) rfl (by kernel_rfl) (fun _ _ _ h => h) hS rfl rfl (fun w' hSw => by have q0 := hSw.1.cell 0; have q1 := hSw.1.cell 1; have q2 := hSw.1.cell 2; simp at q0 q1 q2; have ql := hSw.1.lt; clear hSw; go_simp) ?_
    simp only [List.setIfInBounds_toArray, List.set_cons_zero, List.set_cons_succ]
    refine wpL_take 6 31 (.int .i64 (p : Int)) rfl (by kernel_rfl) (fun _ _ _ h => h) hS rfl rfl (fun w' hSw => by have q0 := hSw.1.cell 0; have q1 := hSw.1.cell 1; have q2 := hSw.1.cell 2; simp at q0 q1 q2; have ql := hSw.1.lt; clear hSw; go_simp) ?_
    simp only [List.setIfInBounds_toArray, List.set_cons_zero, List.set_cons_succ]
    refine wpL_take 7 32 (.int .i64 (r : Int)) rfl (by kernel_rfl) (fun _ _ _ h => h) hS rfl rfl (fun w' hSw => by clear hSw; go_simp) ?_
    simp only [List.setIfInBounds_toArray, List.set_cons_zero, List.set_cons_succ]
    refine wpL_take 8 33 (.pointer (some ⟨w.heap.size + 1 + 1, r, none⟩)) rfl (by kernel_rfl) (fun _ _ _ h => h) hS rfl rfl (fun w' hSw => by clear hSw; go_simp) ?_
    simp only [List.setIfInBounds_toArray, List.set_cons_zero, List.set_cons_succ]
    refine wpL_take 9 34 (.int .u8 (y.toNat : Int)) rfl (by kernel_rfl) (fun _ _ _ h => h) hS rfl rfl (fun w' hSw => by have q0 := hSw.2.holds r y hy2; clear hSw; go_simp) ?_
    simp only [List.setIfInBounds_toArray, List.set_cons_zero, List.set_cons_succ]
    refine wpL_take 10 35 (.pointer (some ⟨w.heap.size + 1, 2, none⟩)) rfl (by kernel_rfl) (fun _ _ _ h => h) hS rfl rfl (fun w' hSw => by have q0 := hSw.1.cell 0; have q1 := hSw.1.cell 1; have q2 := hSw.1.cell 2; simp at q0 q1 q2; have ql := hSw.1.lt; clear hSw; go_simp) ?_
    simp only [List.setIfInBounds_toArray, List.set_cons_zero, List.set_cons_succ]
    refine wpL_take 11 36 (.int .i64 vl) rfl (by kernel_rfl) (fun _ _ _ h => h) hS rfl rfl (fun w' hSw => by have q0 := hSw.1.cell 0; have q1 := hSw.1.cell 1; have q2 := hSw.1.cell 2; simp at q0 q1 q2; have ql := hSw.1.lt; clear hSw; go_simp) ?_
    simp only [List.setIfInBounds_toArray, List.set_cons_zero, List.set_cons_succ]
    refine wpL_take 12 37 (.int .u8 vl) rfl (by kernel_rfl) (fun _ _ _ h => h) hS rfl rfl (fun w' hSw => by clear hSw; go_simp) ?_
    simp only [List.setIfInBounds_toArray, List.set_cons_zero, List.set_cons_succ]
    refine wpL_step (i := 13) rfl (by kernel_rfl) (fun K hK => ?_)
    go_simp
    refine (HBO.out _).mono ?_
    rintro e wz ⟨rfl, rfl⟩
    go_simp
    refine hK.out _ _ hS (fun _ => ?_)
    clear hK K
    refine wpL_take 14 39 (.pointer (some ⟨w.heap.size + 1 + 1, r, none⟩)) rfl (by kernel_rfl) (fun _ _ _ h => h) hS rfl rfl (fun w' hSw => by clear hSw; go_simp) ?_
    simp only [List.setIfInBounds_toArray, List.set_cons_zero, List.set_cons_succ]
    refine wpL_last (x := 15) rfl (by kernel_rfl) (by kernel_rfl) (fun K hK => ?_)
    have c1 := hS.2.holds r y hy2
    have c2 := hS.2.free r (by have := (List.getElem?_eq_some_iff.1 hy2).1; exact this)
    clear hS
    go_simp
    refine hK.out _ _ ?_
    refine NoPanic.normal ?_
    clear hK K
    have HCS : Hid (CellsB (wz.setCell ⟨w.heap.size + 1 + 1, r, none⟩ (.int .u8 (u.toNat : Int))) (w.heap.size + 1 + 1) (x.data.toList.set r u)) := HC5.out.set r u (List.getElem?_eq_some_iff.1 hy2).1
    have hDS := HD5.out.kept (grown_set wz (w.heap.size + 1 + 1) r (.int .u8 (u.toNat : Int))) (by simp)
    have HBS : Hid (Below w.heap.size w (wz.setCell ⟨w.heap.size + 1 + 1, r, none⟩ (.int .u8 (u.toNat : Int)))) := HB5.out.setCell (by simp; omega) _
    have d1 := hDS.cell 1
    simp at d1
    clear HC5 HD5 HB5 hDS c1 c2
    generalize wz.setCell ⟨w.heap.size + 1 + 1, r, none⟩ (.int .u8 (u.toNat : Int)) = w6 at *
    go_wp2
    go_ret2
    rw [HD.out, HK.out]
    have hxl : x.data.toList.length = x.size := by simp
    exact ⟨⟨_, _, rfl, HCS.out, by rw [List.length_set, hxl, hxs], by omega, hk1, hk2⟩, HBS.out⟩
  · -- an erasure
    have HD : Hid (dBytes F d = List.replicate 128 255) := if_pos hk
    have HK : Hid (dBlk d = d.pos.toNat) := if_pos hk
    generalize dBytes F d = DB at *
    generalize dBlk d = DK at *
    obtain ⟨kd, ps, vl⟩ := d
    unfold Deed.value
    dsimp only at *
    obtain ⟨p, rfl⟩ : ∃ p : Nat, ps = p := ⟨ps.toNat, by omega⟩
    rw [Int.toNat_natCast] at *
    subst hk hv
    clear hst hmn hle hrow hall
    have HB1 : Hid (Below w.heap.size w ((w.alloc (.cells #[.slice a F.length cap] 24)).alloc (.cells #[.int .i64 2, .int .i64 p, .int .i64 0] 32))) := ((Below.refl _ _).alloc (Nat.le_refl _) _).alloc (by simp) _
    have HD1 : Hid (CellsAt ((w.alloc (.cells #[.slice a F.length cap] 24)).alloc (.cells #[.int .i64 2, .int .i64 p, .int .i64 0] 32)) (w.heap.size + 1) 32 #[.int .i64 2, .int .i64 p, .int .i64 0]) := by
      have := CellsAt.new (w.alloc (.cells #[.slice a F.length cap] 24)) 32 #[.int .i64 2, .int .i64 p, .int .i64 0]
      rw [World.size_alloc] at this
      exact this
    have HNW : Hid (∀ W, Calls Try.prog 15 #[.int .i64 1] W fun e w' => (∃ r, e = .returned (.agg #[r]) ∧ w'.ownsRow W.heap.size 9 1 r 1 ((List.replicate 1 (ffB 128)).flatMap strC)) ∧ Below W.heap.size W w') := fun W => rNew_any 1 (by decide) W
    have HFB : Hid ((ffB 128).data.toList = List.replicate 128 255 ∧ (ffB 128).size = 128) := ⟨by unfold ffB; rfl, ffB_size 128⟩
    generalize ffB 128 = fb at *
    go_enter Try.func35, Try.ntmps35
    go_wp2_with fail
    refine wp_region_noPanic ?_
    refine wp_region_L (S := fun w' => CellsAt w' (w.heap.size + 1) 32 #[.int .i64 2, .int .i64 p, .int .i64 0]) (x := 8) (by kernel_rfl) ?_
    have HD5 : Hid (CellsAt ((w.alloc (.cells #[.slice a F.length cap] 24)).alloc (.cells #[.int .i64 2, .int .i64 p, .int .i64 0] 32)).drew (w.heap.size + 1) 32 #[.int .i64 2, .int .i64 p, .int .i64 0]) := HD1.out
    have HB5 : Hid (Below w.heap.size w ((w.alloc (.cells #[.slice a F.length cap] 24)).alloc (.cells #[.int .i64 2, .int .i64 p, .int .i64 0] 32)).drew) := HB1.out.drew
    clear HD1 HB1
    generalize ((w.alloc (.cells #[.slice a F.length cap] 24)).alloc (.cells #[.int .i64 2, .int .i64 p, .int .i64 0] 32)).drew = w5 at *
    have hS : CellsAt w5 (w.heap.size + 1) 32 #[.int .i64 2, .int .i64 p, .int .i64 0] := HD5.out
    refine wpL_take 0 10 (.pointer (some ⟨w.heap.size + 1, 1, none⟩)) rfl (by kernel_rfl) (fun _ _ _ h => h) hS rfl rfl (fun w' hSw => by have q0 := CellsAt.cell hSw 0; have q1 := CellsAt.cell hSw 1; have q2 := CellsAt.cell hSw 2; simp at q0 q1 q2; have ql := CellsAt.lt hSw; clear hSw; go_simp) ?_
    simp only [List.setIfInBounds_toArray, List.set_cons_zero, List.set_cons_succ]
    refine wpL_take 1 11 (.int .i64 (p : Int)) rfl (by kernel_rfl) (fun _ _ _ h => h) hS rfl rfl (fun w' hSw => by have q0 := CellsAt.cell hSw 0; have q1 := CellsAt.cell hSw 1; have q2 := CellsAt.cell hSw 2; simp at q0 q1 q2; have ql := CellsAt.lt hSw; clear hSw; go_simp) ?_
    simp only [List.setIfInBounds_toArray, List.set_cons_zero, List.set_cons_succ]
    refine wpL_step (i := 2) rfl (by kernel_rfl) (fun K hK => ?_)
    go_simp
    refine (HNW.out _).mono ?_
    rintro e w6 ⟨⟨rr, rfl, ho⟩, b6⟩
    have hS6 : CellsAt w6 (w.heap.size + 1) 32 #[.int .i64 2, .int .i64 p, .int .i64 0] := CellsAt.below hS b6 (CellsAt.lt hS)
    have HB6 : Hid (Below w.heap.size w w6) := HB5.out.trans (b6.mono HB5.out.size)
    go_simp
    refine hK.out _ _ hS6 (fun _ => ?_)
    clear hK K hS HD5 HB5 b6
    have ho6 : ∃ g c, rr = .slice (some ⟨g, 0, none⟩) 1 c ∧ w6.cell? ⟨g, 0, none⟩ = some (.string fb) := by
      rcases ho.2 with ⟨_, h⟩ | ⟨g, c, cur, rfl, _⟩
      · cases h
      · exact ⟨g, c, rfl, own_cell ho 0 _ (by rfl)⟩
    obtain ⟨g, c, rfl, hg⟩ := ho6
    have hfd : ∀ w : World, (Instr.field 24 (.agg #[.slice (some ⟨g, 0, none⟩) 1 c]) 0).run Try.prog w = .ok (.slice (some ⟨g, 0, none⟩) 1 c) w := fun _ => by kernel_rfl
    refine wpL_take 7 4 (.int .i64 (p : Int)) rfl (by kernel_rfl) (fun _ _ _ h => h) hS6 rfl rfl (fun w' hSw => by clear hSw; go_simp) ?_
    simp only [List.setIfInBounds_toArray, List.set_cons_zero, List.set_cons_succ]
    have HG6 : Hid (w6.cell? ⟨g, 0, none⟩ = some (.string fb)) := hg
    have HSS : Hid (CellsAt w6 (w.heap.size + 1) 32 #[.int .i64 2, .int .i64 p, .int .i64 0]) := hS6
    clear hg hS6 ho
    refine wpL_step (i := 3) rfl (by kernel_rfl) (fun K hK => ?_)
    go_simp
    refine hK.out _ _ HSS.out (fun _ => ?_)
    clear hK K
    refine wpL_step (i := 4) rfl (by kernel_rfl) (fun K hK => ?_)
    go_simp
    refine hK.out _ _ HSS.out (fun _ => ?_)
    clear hK K
    refine wpL_step (i := 5) rfl (by kernel_rfl) (fun K hK => ?_)
    have hg := HG6.out
    go_simp
    refine hK.out _ _ HSS.out (fun _ => ?_)
    clear hK K hg
    obtain ⟨w7, kc, hcv, hC7, b7, hk1, hk2⟩ := convBytes w6 fb (by rw [HFB.out.2]; decide)
    rw [HFB.out.2] at hcv hk1
    rw [HFB.out.1] at hC7
    have HC7 : Hid (CellsB w7 w6.heap.size (List.replicate 128 255)) := hC7
    have HB7 : Hid (Below w.heap.size w w7) := HB6.out.trans (b7.mono HB6.out.size)
    have HS7 : Hid (CellsAt w7 (w.heap.size + 1) 32 #[.int .i64 2, .int .i64 p, .int .i64 0]) := HSS.out.below b7 HSS.out.lt
    have HSZ : Hid (w.heap.size ≤ w6.heap.size) := HB6.out.size
    clear hC7 b7 HSS HG6 HB6 hfd
    refine wpL_step (i := 6) rfl (by kernel_rfl) (fun K hK => ?_)
    go_simp
    refine hK.out _ _ HS7.out (fun _ => ?_)
    clear hK K
    clear hcv
    refine wpL_last (x := 8) rfl (by kernel_rfl) (by kernel_rfl) (fun K hK => ?_)
    go_simp
    refine hK.out _ _ ?_
    refine NoPanic.normal ?_
    clear hK K
    go_wp2
    go_ret2
    rw [HD.out, HK.out]
    exact ⟨⟨_, _, rfl, HC7.out, List.length_replicate, HSZ.out, hk1, hk2⟩, HB7.out⟩

end Go.Proofs.Ytnomapbiklfciaf
