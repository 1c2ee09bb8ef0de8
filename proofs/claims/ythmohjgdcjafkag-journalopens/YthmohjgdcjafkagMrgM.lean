/- Texts that are laid together. -/
import Derived.Test.YthmohjgdcjafkagMrgK
import Derived.Test.YthmohjgdcjafkagMrgL

/- The contracts of package flash's New and Read. -/
namespace Go.Proofs.Ythmohjgdcjafkag
open Go.RowKit Go.PlainAid

set_option maxRecDepth 100000

def newRes (n : Int) : List ByteArray := if 1 ≤ n ∧ n ≤ 32 then blocksM (List.replicate (n.toNat * 128) 255) else []

set_option maxHeartbeats 4000000 in
theorem flNew_own (n : Int) (w : World) :
    Calls Try.prog 17 #[.int .i64 n] w fun e w' => (∃ r, e = .returned (.tuple #[.agg #[r], .int .i64 (if 1 ≤ n ∧ n ≤ 32 then 0 else 3)]) ∧ OwnFl w.heap.size w' r (newRes n)) ∧ Below w.heap.size w w' := by
  have HB1 : Hid (Below w.heap.size w (w.alloc (.cells #[.slice none 0 0] 26))) := (Below.refl _ _).alloc (Nat.le_refl _) _
  have HR1 : Hid (CellsAt (w.alloc (.cells #[.slice none 0 0] 26)) w.heap.size 26 #[.slice none 0 0]) := CellsAt.new _ _ _
  by_cases h : 1 ≤ n ∧ n ≤ 32
  · have HN : Hid (newRes n = blocksM (List.replicate (n.toNat * 128) 255)) := if_pos h
    rw [if_pos h]
    have g : decide (1 ≤ n ∧ n ≤ 32) = true := decide_eq_true h
    obtain ⟨m, rfl⟩ : ∃ m : Nat, n = m := ⟨n.toNat, by omega⟩
    rw [Int.toNat_natCast] at HN
    have hm1 : 1 ≤ m := by omega
    have hm2 : m ≤ 32 := by omega
    have e1 : IntKind.i64.wrap ((m : Int) * 128) = ((m * 128 : Nat) : Int) := by rw [i64_is]; unfold wrap64; omega
    have e2 : (m : Int) * 128 = ((m * 128 : Nat) : Int) := by omega
    have HRB : Hid (∀ (B : Nat) W, CellsAt W B 5 #[.int .u8 255] → Calls Try.prog 31 #[.slice (some ⟨B, 0, none⟩) 1 1, .int .i64 ((m : Int) * 128)] W fun e w' => e = .returned (.slice (some ⟨W.heap.size, 0, none⟩) (m * 128) (m * 128)) ∧ CellsB w' W.heap.size (List.replicate (m * 128) 255) ∧ Below W.heap.size W w') := fun B W hB => by
      have := repB_any B (m * 128) W hB (by omega) (by omega)
      rw [← e2] at this
      exact this
    have HFO : Hid (∀ (g : Nat) W, CellsB W g (List.replicate (m * 128) 255) → Calls Try.prog 32 #[.slice (some ⟨g, 0, none⟩) (m * 128) (m * 128)] W fun e w' => (∃ v, e = .returned (.agg #[v]) ∧ w'.ownsRow W.heap.size 9 1 v (blocksM (List.replicate (m * 128) 255)).length ((blocksM (List.replicate (m * 128) 255)).flatMap strC)) ∧ Below W.heap.size W w') := fun g W h => by
      have := flashOf_any g (m * 128) (List.replicate (m * 128) 255) W h (by rw [List.length_replicate]; omega) (by rw [List.length_replicate]; exact Nat.le_refl _) (by omega)
      rw [List.length_replicate] at this
      exact this
    have HBL : Hid ((blocksM (List.replicate (m * 128) 255)).length ≤ 9223372036854775807) := by
      show (blocksM (List.replicate (m * 128) 255)).length ≤ _
      rw [blocksM_length, List.length_replicate]
      omega
    generalize blocksM (List.replicate (m * 128) 255) = BL at *
    generalize List.replicate (m * 128) (255 : UInt8) = c at *
    generalize m * 128 = q at *
    go_enter Try.func17, Try.ntmps17
    go_wp2_with fail
    refine (mayBe_any _ _).mono ?_
    rintro e w2 ⟨rfl, rfl⟩
    rw [g]
    clear g e1 e2 h
    have HRx : Hid (CellsAt ((w.alloc (.cells #[.slice none 0 0] 26)).alloc (.cells #[.int .u8 255] 5)) w.heap.size 26 #[.slice none 0 0]) := HR1.out.kept (World.grownBy_alloc _ _ none) (by simp)
    have HXx : Hid (CellsAt ((w.alloc (.cells #[.slice none 0 0] 26)).alloc (.cells #[.int .u8 255] 5)) (w.heap.size + 1) 5 #[.int .u8 255]) := by
      have := CellsAt.new (w.alloc (.cells #[.slice none 0 0] 26)) 5 #[.int .u8 255]
      rw [World.size_alloc] at this
      exact this
    have HBx : Hid (Below w.heap.size w ((w.alloc (.cells #[.slice none 0 0] 26)).alloc (.cells #[.int .u8 255] 5))) := HB1.out.alloc (by simp) _
    clear HR1 HB1
    go_wp2_with fail
    refine (HRB.out (w.heap.size + 1) _ HXx.out).mono ?_
    rintro e w3 ⟨rfl, hc3, b3⟩
    have HB3 : Hid (Below w.heap.size w w3) := HBx.out.trans (b3.mono HBx.out.size)
    have HR3 : Hid (CellsAt w3 w.heap.size 26 #[.slice none 0 0]) := HRx.out.below b3 HRx.out.lt
    simp only [World.size_alloc] at hc3
    have HC3 := hc3
    clear b3 HRx HXx HBx HRB hc3
    go_wp2_with fail
    refine (HFO.out _ _ HC3).mono ?_
    rintro e w6 ⟨⟨r, rfl, ho⟩, b6⟩
    have HO6 : Hid (w6.ownsRow w3.heap.size 9 1 r BL.length (BL.flatMap strC)) := ho
    have hR6 := HR3.out.below b6 HR3.out.lt
    have HR6 : Hid (CellsAt w6 w.heap.size 26 #[.slice none 0 0]) := hR6
    have HB6 : Hid (Below w.heap.size w w6) := HB3.out.trans (b6.mono HB3.out.size)
    have hlt3 := HR3.out.lt
    obtain ⟨ra, rc, rfl⟩ := own_form ho
    have r0 := hR6.cell 0
    have r1 := hR6.frozen 0
    simp at r0
    clear ho hR6 b6 HFO HR3 HC3 HB3
    go_wp2
    have hF := HR6.out.set 0 (.slice ra BL.length rc)
    simp only [List.setIfInBounds_toArray, List.set_cons_zero] at hF
    refine bodyPost_ret (results_cell_tmp_row rfl _ _ _ _ _ _ _ rfl hF Try.underlying26 rfl (by kernel_rfl)) rfl ?_
    rw [HN.out]
    have ho := HO6.out.kept (grown_set w6 w.heap.size 0 (.slice ra BL.length rc)) (.inr (fun e => by
      have h1 := own_block HO6.out _ e
      omega))
    exact ⟨⟨_, rfl, own_lower ho (by omega), HBL.out⟩, HB6.out.setCell (Nat.le_refl _) _⟩
  · have HN : Hid (newRes n = []) := if_neg h
    rw [if_neg h]
    have g : decide (1 ≤ n ∧ n ≤ 32) = false := decide_eq_false h
    clear h
    go_enter Try.func17, Try.ntmps17
    go_wp2_with fail
    refine (mayBe_any _ _).mono ?_
    rintro e w2 ⟨rfl, rfl⟩
    rw [g]
    clear g
    go_wp2
    have hF := HR1.out.set 0 (.slice none 0 0)
    simp only [List.setIfInBounds_toArray, List.set_cons_zero] at hF
    refine bodyPost_ret (results_cell_tmp_row rfl _ _ _ _ _ _ _ rfl HR1.out Try.underlying26 rfl (by kernel_rfl)) rfl ?_
    rw [HN.out]
    exact ⟨⟨_, rfl, OwnFl.nil _ _⟩, HB1.out⟩

theorem flNew_any (n : Int) (w : World) :
    Calls Try.prog 17 #[.int .i64 n] w fun e w' => (∃ r, e = .returned (.tuple #[.agg #[r], .int .i64 (if 1 ≤ n ∧ n ≤ 32 then 0 else 3)]) ∧ IsFl w'.heap.size w' r (newRes n)) ∧ Below w.heap.size w w' := by
  refine (flNew_own n w).mono ?_
  rintro e w' ⟨⟨r, he, ho⟩, hb⟩
  exact ⟨⟨r, he, ho.is⟩, hb⟩

/-- What Read answers. -/
def readRes (F : List ByteArray) (a m : Int) : ByteArray × Int :=
  if chkFl F ≠ 0 then (⟨#[]⟩, chkFl F) else if a < 0 ∨ m < 0 ∨ ((joinM F).length : Int) - a < m then (⟨#[]⟩, 3) else (⟨(((joinM F).drop a.toNat).take m.toNat).toArray⟩, 0)

theorem extract_list (c : List UInt8) (i j : Nat) : (⟨c.toArray⟩ : ByteArray).extract i j = ⟨((c.drop i).take (j - i)).toArray⟩ := by
  apply ByteArray.ext
  apply Array.toList_inj.1
  rw [ByteArray.data_extract]
  simp [List.extract_eq_take_drop]

set_option maxHeartbeats 4000000 in
theorem flRead_any (F : List ByteArray) (v : Value) (a m : Int) (w : World) (hF : IsFl w.heap.size w v F) (ha : (Lit.int .i64 a).wf = true) (hm : (Lit.int .i64 m).wf = true) :
    Calls Try.prog 19 #[.agg #[v], .int .i64 a, .int .i64 m] w fun e w' => e = .returned (.tuple #[.string (readRes F a m).1, .int .i64 (readRes F a m).2]) ∧ Below w.heap.size w w' := by
  have HCK : Hid (∀ W, Below w.heap.size w W → Calls Try.prog 21 #[.agg #[v]] W fun e w' => e = .returned (.int .i64 (chkFl F)) ∧ Below W.heap.size W w') := fun W hb => flCheck_any F v W ((hF.1.below hb).more hb.size)
  have HJ : Hid (∀ W, chkFl F = 0 → Below w.heap.size w W → Calls Try.prog 35 #[v, .string ⟨#[]⟩] W fun e w' => e = .returned (.string ⟨(joinM F).toArray⟩) ∧ Below W.heap.size W w') := fun W h0 hb => by
    have := joinM_bound h0
    exact joinStr_any F v W ((hF.1.below hb).more hb.size) (by omega) (by omega) hF.2
  have key : (chkFl F ≠ 0 ∧ readRes F a m = (⟨#[]⟩, chkFl F)) ∨ (chkFl F = 0 ∧ (joinM F).length ≤ 4096 ∧ ((a < 0 ∧ readRes F a m = (⟨#[]⟩, 3)) ∨ (0 ≤ a ∧ m < 0 ∧ readRes F a m = (⟨#[]⟩, 3)) ∨ (0 ≤ a ∧ 0 ≤ m ∧ ((joinM F).length : Int) - a < m ∧ readRes F a m = (⟨#[]⟩, 3)) ∨
      (∃ an mn : Nat, a = an ∧ m = mn ∧ an + mn ≤ (joinM F).length ∧ readRes F a m = ((⟨(joinM F).toArray⟩ : ByteArray).extract an (an + mn), 0)))) := by
    by_cases h0 : chkFl F = 0
    · have := joinM_bound h0
      refine .inr ⟨h0, by omega, ?_⟩
      unfold readRes
      rw [if_neg (by omega)]
      by_cases h1 : a < 0
      · exact .inl ⟨h1, if_pos (.inl h1)⟩
      by_cases h2 : m < 0
      · exact .inr (.inl ⟨by omega, h2, if_pos (.inr (.inl h2))⟩)
      by_cases h3 : ((joinM F).length : Int) - a < m
      · exact .inr (.inr (.inl ⟨by omega, by omega, h3, if_pos (.inr (.inr h3))⟩))
      · refine .inr (.inr (.inr ⟨a.toNat, m.toNat, by omega, by omega, by omega, ?_⟩))
        rw [if_neg (by omega), extract_list, Nat.add_sub_cancel_left]
    · exact .inl ⟨h0, if_pos h0⟩
  obtain ⟨⟨ad, cap, rfl, _, _⟩, _⟩ := hF
  generalize chkFl F = cf at *
  generalize readRes F a m = R at *
  have hsz : (⟨(joinM F).toArray⟩ : ByteArray).size = (joinM F).length := by simp [ByteArray.size]
  rw [← hsz] at key
  generalize (⟨(joinM F).toArray⟩ : ByteArray) = s at *
  clear hsz
  generalize F.length = nF at *
  have HB1 : Hid (Below w.heap.size w (w.alloc (.cells #[.slice ad nF cap] 26))) := (Below.refl _ _).alloc (Nat.le_refl _) _
  have HF1 : Hid (CellsAt (w.alloc (.cells #[.slice ad nF cap] 26)) w.heap.size 26 #[.slice ad nF cap]) := CellsAt.new _ _ _
  go_enter Try.func19, Try.ntmps19
  go_wp2_with fail
  refine (HCK.out _ HB1.out).mono ?_
  rintro e w2 ⟨rfl, b2⟩
  have HB2 : Hid (Below w.heap.size w w2) := HB1.out.trans (b2.mono HB1.out.size)
  have hF2 := HF1.out.below b2 HF1.out.lt
  clear b2 HB1 HF1 HCK
  rcases key with ⟨h0, rfl⟩ | ⟨rfl, hs, key⟩
  · have h0' : (cf != 0) = true := by simpa using h0
    clear h0 hF2
    go_wp2
    go_ret2
    exact ⟨rfl, HB2.out⟩
  · have f0 := hF2.cell 0
    simp at f0
    go_wp2_with fail
    refine (HJ.out _ (by first | rfl | trivial) HB2.out).mono ?_
    rintro e w3 ⟨rfl, b3⟩
    have HB3 : Hid (Below w.heap.size w w3) := HB2.out.trans (b3.mono HB2.out.size)
    clear HB2 b3 hF2 f0 HJ
    simp [Lit.wf] at ha hm
    rcases key with ⟨h1, rfl⟩ | ⟨h1, h2, rfl⟩ | ⟨h1, h2, h3, rfl⟩ | ⟨an, mn, rfl, rfl, h3, rfl⟩
    · go_wp2
      go_ret2
      exact ⟨rfl, HB3.out⟩
    · go_wp2
      go_ret2
      exact ⟨rfl, HB3.out⟩
    · obtain ⟨an, rfl⟩ : ∃ an : Nat, a = an := ⟨a.toNat, by omega⟩
      have e1 : IntKind.i64.wrap ((s.size : Int) - (an : Int)) = (s.size : Int) - (an : Int) := by rw [i64_is]; unfold wrap64; omega
      go_wp2
      go_ret2
      exact ⟨rfl, HB3.out⟩
    · have e1 : IntKind.i64.wrap ((s.size : Int) - (an : Int)) = (s.size : Int) - (an : Int) := by rw [i64_is]; unfold wrap64; omega
      have e2 : IntKind.i64.wrap ((an : Int) + (mn : Int)) = ((an + mn : Nat) : Int) := by rw [i64_is]; unfold wrap64; omega
      have e3 : (an : Int) + (mn : Int) = ((an + mn : Nat) : Int) := by omega
      generalize hq : an + mn = q at *
      go_wp2
      go_ret2
      refine ⟨?_, HB3.out⟩
      first | rfl | trace_state

end Go.Proofs.Ythmohjgdcjafkag

/- Records that last, as data: the bytes of a flash, read as entries. -/
namespace Go.Proofs.Ythmohjgdcjafkag
open Go.RowKit Go.PlainAid Go.Lib

/-- A byte of a text (0 behind its end). -/
def at8 (s : ByteArray) (k : Nat) : UInt8 := s.data.toList.getD k 0
/-- All bits are 1. -/
def allFF (s : ByteArray) : Bool := s.data.toList.all (· == 255)
/-- The first entry of bytes that are not free: its size, its record if that is whole; what is wrong. -/
def entOf (s : ByteArray) : (Nat × ByteArray × Bool) × Int :=
  if s.size < 3 ∨ allFF (s.extract 0 3) = true then ((0, ⟨#[]⟩, false), 4)
  else if at8 s 2 = 255 then ((3, ⟨#[]⟩, false), 0)
  else if (at8 s 0).toNat + (at8 s 1).toNat * 256 < 1 ∨ 800 < (at8 s 0).toNat + (at8 s 1).toNat * 256 ∨ s.size < 3 + ((at8 s 0).toNat + (at8 s 1).toNat * 256) then ((0, ⟨#[]⟩, false), 4)
  else if at8 s 2 = 254 then ((3 + ((at8 s 0).toNat + (at8 s 1).toNat * 256), ⟨#[]⟩, false), 0)
  else if at8 s 2 = 252 then ((3 + ((at8 s 0).toNat + (at8 s 1).toNat * 256), s.extract 3 (3 + ((at8 s 0).toNat + (at8 s 1).toNat * 256)), true), 0)
  else ((0, ⟨#[]⟩, false), 4)
/-- Records, then what is looked up behind them. -/
def comb (pre : List ByteArray) (x : List ByteArray × Nat × Int) : List ByteArray × Nat × Int := if x.2.2 ≠ 0 then ([], 0, x.2.2) else (pre ++ x.1, x.2.1, 0)
/-- The entries from a place on, at most n: their records, the place behind them, what is wrong. -/
def lookFrom (s : ByteArray) : Nat → Nat → List ByteArray × Nat × Int
  | 0, p => ([], p, 0)
  | n + 1, p =>
    if allFF (s.extract p s.size) = true then ([], p, 0)
    else if (entOf (s.extract p s.size)).2 ≠ 0 then ([], 0, (entOf (s.extract p s.size)).2)
    else comb (if (entOf (s.extract p s.size)).1.2.2 = true then [(entOf (s.extract p s.size)).1.2.1] else []) (lookFrom s n (p + (entOf (s.extract p s.size)).1.1))
def lookB (s : ByteArray) : List ByteArray × Nat × Int := if s.size < 384 then ([], 0, 4) else comb [] (lookFrom s s.size 0)

theorem comb_comb (pre q : List ByteArray) (x : List ByteArray × Nat × Int) : comb pre (comb q x) = comb (pre ++ q) x := by
  unfold comb
  by_cases h : x.2.2 ≠ 0
  · rw [if_pos h, if_pos h, if_pos h]
  · rw [if_neg h, if_neg h, if_neg (by simp), List.append_assoc]
theorem look_free (s : ByteArray) (k p : Nat) (h : allFF (s.extract p s.size) = true) : lookFrom s k p = ([], p, 0) := by
  cases k with
  | zero => rfl
  | succ k => exact if_pos h
theorem look_more (s : ByteArray) (k p : Nat) (h : allFF (s.extract p s.size) = false) (pre : List ByteArray) : comb pre (lookFrom s (k + 1) p) = if (entOf (s.extract p s.size)).2 ≠ 0 then ([], 0, (entOf (s.extract p s.size)).2) else comb (pre ++ if (entOf (s.extract p s.size)).1.2.2 = true then [(entOf (s.extract p s.size)).1.2.1] else []) (lookFrom s k (p + (entOf (s.extract p s.size)).1.1)) := by
  have : lookFrom s (k + 1) p = if (entOf (s.extract p s.size)).2 ≠ 0 then ([], 0, (entOf (s.extract p s.size)).2) else comb (if (entOf (s.extract p s.size)).1.2.2 = true then [(entOf (s.extract p s.size)).1.2.1] else []) (lookFrom s k (p + (entOf (s.extract p s.size)).1.1)) := if_neg (by rw [h]; decide)
  rw [this]
  by_cases he : (entOf (s.extract p s.size)).2 ≠ 0
  · rw [if_pos he, if_pos he]
    unfold comb
    rw [if_pos he]
  · rw [if_neg he, if_neg he, comb_comb]
theorem entOf_ok (s : ByteArray) (h : (entOf s).2 = 0) : 3 ≤ (entOf s).1.1 ∧ (entOf s).1.1 ≤ s.size := by
  unfold entOf at h ⊢
  by_cases h1 : s.size < 3 ∨ allFF (s.extract 0 3) = true
  · rw [if_pos h1] at h; exact absurd h (by decide)
  rw [if_neg h1] at h ⊢
  by_cases h2 : at8 s 2 = 255
  · rw [if_pos h2]; exact ⟨Nat.le_refl _, by show 3 ≤ s.size; omega⟩
  rw [if_neg h2] at h ⊢
  by_cases h3 : (at8 s 0).toNat + (at8 s 1).toNat * 256 < 1 ∨ 800 < (at8 s 0).toNat + (at8 s 1).toNat * 256 ∨ s.size < 3 + ((at8 s 0).toNat + (at8 s 1).toNat * 256)
  · rw [if_pos h3] at h; exact absurd h (by decide)
  rw [if_neg h3] at h ⊢
  by_cases h4 : at8 s 2 = 254
  · rw [if_pos h4]; dsimp only; omega
  rw [if_neg h4] at h ⊢
  by_cases h5 : at8 s 2 = 252
  · rw [if_pos h5]; dsimp only; omega
  · rw [if_neg h5] at h; exact absurd h (by decide)
theorem allFF_none (s : ByteArray) (h : s.size = 0) : allFF s = true := by
  unfold allFF
  have : s.data.toList = [] := List.length_eq_zero_iff.1 (by simpa using h)
  rw [this]
  rfl

theorem at8_get (s : ByteArray) (k : Nat) (h : k < s.size) : s[k]'h = at8 s k := by
  unfold at8
  rw [List.getD_eq_getElem?_getD, List.getElem?_eq_getElem (by simpa using h)]
  rfl
theorem allFF_iff (s : ByteArray) : allFF s = true ↔ ∀ k, k < s.size → at8 s k = 255 := by
  unfold allFF at8
  rw [List.all_eq_true]
  constructor
  · intro h k hk
    rw [List.getD_eq_getElem?_getD, List.getElem?_eq_getElem (by simpa using hk)]
    have := h _ (List.getElem_mem (l := s.data.toList) (n := k) (by simpa using hk))
    simpa using this
  · intro h x hx
    obtain ⟨k, hk, rfl⟩ := List.getElem_of_mem hx
    have := h k (by simpa using hk)
    rw [List.getD_eq_getElem?_getD, List.getElem?_eq_getElem hk] at this
    simpa using this
theorem lookFrom_end (s : ByteArray) : ∀ (k p : Nat), p ≤ s.size → (lookFrom s k p).2.1 ≤ s.size
  | 0, p, h => h
  | k + 1, p, h => by
    unfold lookFrom
    by_cases h1 : allFF (s.extract p s.size) = true
    · rw [if_pos h1]; exact h
    rw [if_neg h1]
    by_cases h2 : (entOf (s.extract p s.size)).2 ≠ 0
    · rw [if_pos h2]; exact Nat.zero_le _
    rw [if_neg h2]
    unfold comb
    by_cases h3 : (lookFrom s k (p + (entOf (s.extract p s.size)).1.1)).2.2 ≠ 0
    · rw [if_pos h3]; exact Nat.zero_le _
    rw [if_neg h3]
    refine lookFrom_end s k _ ?_
    have := (entOf_ok _ (Decidable.not_not.1 h2)).2
    rw [ByteArray.size_extract] at this
    omega
theorem lookB_end (s : ByteArray) : (lookB s).2.1 ≤ s.size := by
  unfold lookB comb
  by_cases h1 : s.size < 384
  · rw [if_pos h1]; exact Nat.zero_le _
  rw [if_neg h1]
  by_cases h3 : (lookFrom s s.size 0).2.2 ≠ 0
  · rw [if_pos h3]; exact Nat.zero_le _
  rw [if_neg h3]
  exact lookFrom_end s _ _ (Nat.zero_le _)

theorem ix_any (s : ByteArray) (k : Nat) (hk : k < s.size) (W : World) : (Instr.index 9 (.string s) (.int .i64 (k : Int))).run Try.prog W = .ok (.int .u8 ((at8 s k).toNat : Int)) W := by
  rw [run_index_string W _ _ _ _ Try.underlying9, dif_pos ⟨by omega, by omega⟩]
  have : s[(k : Int).toNat]'(by omega) = at8 s k := by
    rw [← at8_get s k hk]
    congr 1
  rw [this]
end Go.Proofs.Ythmohjgdcjafkag

/- Records that last, as data: entries hang on their own bytes alone; what is written behind all of them is looked up behind all of them. -/
namespace Go.Proofs.Ythmohjgdcjafkag
open Go.RowKit Go.PlainAid Go.Lib

theorem at8_extract (s : ByteArray) (a b k : Nat) (h : a + k < b) : at8 (s.extract a b) k = at8 s (a + k) := by
  unfold at8
  rw [ByteArray.data_extract]
  simp only [Array.toList_extract, List.extract_eq_take_drop, List.getD_eq_getElem?_getD]
  rw [List.getElem?_take, if_pos (by omega), List.getElem?_drop]
theorem at8_ext {s t : ByteArray} (hz : s.size = t.size) (h : ∀ k, k < s.size → at8 s k = at8 t k) : s = t := by
  apply ByteArray.ext
  apply Array.toList_inj.1
  apply List.ext_getElem?
  intro k
  by_cases hk : k < s.size
  · have h1 : k < s.data.toList.length := by simpa using hk
    have h2 : k < t.data.toList.length := by simpa using hz ▸ hk
    have := h k hk
    unfold at8 at this
    rw [List.getD_eq_getElem?_getD, List.getD_eq_getElem?_getD, List.getElem?_eq_getElem h1, List.getElem?_eq_getElem h2] at this
    rw [List.getElem?_eq_getElem h1, List.getElem?_eq_getElem h2]
    simpa using this
  · rw [List.getElem?_eq_none (by simpa using Nat.not_lt.1 hk), List.getElem?_eq_none (by have : t.data.toList.length = t.size := by simp
                                                                                          omega)]
theorem extract_same {s t : ByteArray} (hz : s.size = t.size) (a b : Nat) (h : ∀ j, a ≤ j → j < b → j < s.size → at8 s j = at8 t j) : s.extract a b = t.extract a b := by
  apply at8_ext (by rw [ByteArray.size_extract, ByteArray.size_extract, hz])
  intro k hk
  rw [ByteArray.size_extract] at hk
  rw [at8_extract _ _ _ _ (by omega), at8_extract _ _ _ _ (by omega)]
  exact h _ (by omega) (by omega) (by omega)
theorem allFF_ext (s : ByteArray) (a : Nat) : allFF (s.extract a s.size) = true ↔ ∀ j, a ≤ j → j < s.size → at8 s j = 255 := by
  rw [allFF_iff]
  constructor
  · intro h j h1 h2
    have := h (j - a) (by rw [ByteArray.size_extract]; omega)
    rw [at8_extract _ _ _ _ (by omega)] at this
    rwa [show a + (j - a) = j by omega] at this
  · intro h k hk
    rw [ByteArray.size_extract] at hk
    rw [at8_extract _ _ _ _ (by omega)]
    exact h _ (by omega) (by omega)
theorem allFF_three (s : ByteArray) (a : Nat) (h : a + 3 ≤ s.size) : allFF ((s.extract a s.size).extract 0 3) = true ↔ at8 s a = 255 ∧ at8 s (a + 1) = 255 ∧ at8 s (a + 2) = 255 := by
  have hz : (s.extract a s.size).size = s.size - a := by rw [ByteArray.size_extract]; omega
  rw [allFF_iff]
  have hz3 : ((s.extract a s.size).extract 0 3).size = 3 := by rw [ByteArray.size_extract, hz]; omega
  rw [hz3]
  have e : ∀ k, k < 3 → at8 ((s.extract a s.size).extract 0 3) k = at8 s (a + k) := fun k hk => by
    rw [at8_extract _ _ _ _ (by omega), Nat.zero_add, at8_extract _ _ _ _ (by omega)]
  constructor
  · intro h'
    have h0 := h' 0 (by decide)
    have h1 := h' 1 (by decide)
    have h2 := h' 2 (by decide)
    rw [e 0 (by decide)] at h0
    rw [e 1 (by decide)] at h1
    rw [e 2 (by decide)] at h2
    exact ⟨h0, h1, h2⟩
  · rintro ⟨h0, h1, h2⟩ k hk
    rw [e k hk]
    have : k = 0 ∨ k = 1 ∨ k = 2 := by omega
    rcases this with rfl | rfl | rfl
    · exact h0
    · exact h1
    · exact h2

/-- The entry at a place, by its bytes. -/
def manyAt (s : ByteArray) (p : Nat) : Nat := (at8 s p).toNat + (at8 s (p + 1)).toNat * 256
theorem ent_at (s : ByteArray) (p : Nat) (h : p + 3 ≤ s.size) : entOf (s.extract p s.size) =
    if at8 s p = 255 ∧ at8 s (p + 1) = 255 ∧ at8 s (p + 2) = 255 then ((0, ⟨#[]⟩, false), 4)
    else if at8 s (p + 2) = 255 then ((3, ⟨#[]⟩, false), 0)
    else if manyAt s p < 1 ∨ 800 < manyAt s p ∨ s.size < p + 3 + manyAt s p then ((0, ⟨#[]⟩, false), 4)
    else if at8 s (p + 2) = 254 then ((3 + manyAt s p, ⟨#[]⟩, false), 0)
    else if at8 s (p + 2) = 252 then ((3 + manyAt s p, s.extract (p + 3) (p + 3 + manyAt s p), true), 0)
    else ((0, ⟨#[]⟩, false), 4) := by
  have hz : (s.extract p s.size).size = s.size - p := by rw [ByteArray.size_extract]; omega
  have a0 : at8 (s.extract p s.size) 0 = at8 s p := at8_extract _ _ _ _ (by omega)
  have a1 : at8 (s.extract p s.size) 1 = at8 s (p + 1) := at8_extract _ _ _ _ (by omega)
  have a2 : at8 (s.extract p s.size) 2 = at8 s (p + 2) := at8_extract _ _ _ _ (by omega)
  unfold entOf
  rw [a0, a1, a2, hz]
  by_cases h1 : at8 s p = 255 ∧ at8 s (p + 1) = 255 ∧ at8 s (p + 2) = 255
  · rw [if_pos h1, if_pos (.inr ((allFF_three s p h).2 h1))]
  rw [if_neg h1, if_neg (fun hc => hc.elim (fun h2 => by omega) (fun h2 => h1 ((allFF_three s p h).1 h2)))]
  by_cases h2 : at8 s (p + 2) = 255
  · rw [if_pos h2, if_pos h2]
  rw [if_neg h2, if_neg h2]
  show (if manyAt s p < 1 ∨ 800 < manyAt s p ∨ s.size - p < 3 + manyAt s p then _ else if _ then ((3 + manyAt s p, _, _), _) else if _ then ((3 + manyAt s p, (s.extract p s.size).extract 3 (3 + manyAt s p), _), _) else _) = _
  by_cases h3 : manyAt s p < 1 ∨ 800 < manyAt s p ∨ s.size < p + 3 + manyAt s p
  · rw [if_pos h3, if_pos (by omega)]
  rw [if_neg h3, if_neg (by omega)]
  have e : (s.extract p s.size).extract 3 (3 + manyAt s p) = s.extract (p + 3) (p + 3 + manyAt s p) := by
    apply at8_ext
    · rw [ByteArray.size_extract, hz, ByteArray.size_extract]; omega
    · intro k hk
      rw [ByteArray.size_extract, hz] at hk
      rw [at8_extract _ _ _ _ (by omega), at8_extract _ _ _ _ (by omega), at8_extract _ _ _ _ (by omega)]
      congr 1
      omega
  rw [e]

theorem ent_zero_head {s : ByteArray} {p : Nat} (h : (entOf (s.extract p s.size)).2 = 0) : p + 3 ≤ s.size := by
  have := entOf_ok _ h
  rw [ByteArray.size_extract] at this
  omega
theorem ent_local {s t : ByteArray} (hz : s.size = t.size) {p : Nat} (h : (entOf (s.extract p s.size)).2 = 0) (hb : ∀ j, j < p + (entOf (s.extract p s.size)).1.1 → at8 s j = at8 t j) : entOf (t.extract p t.size) = entOf (s.extract p s.size) ∧ allFF (t.extract p t.size) = false ∧ allFF (s.extract p s.size) = false := by
  have h3 := ent_zero_head h
  have hk := (entOf_ok _ h).1
  have b0 := hb p (by omega)
  have b1 := hb (p + 1) (by omega)
  have b2 := hb (p + 2) (by omega)
  have hm : manyAt s p = manyAt t p := by unfold manyAt; rw [b0, b1]
  have es := ent_at s p h3
  have et := ent_at t p (by omega)
  rw [← b0, ← b1, ← b2, ← hm, ← hz] at et
  have hf : ¬ (at8 s p = 255 ∧ at8 s (p + 1) = 255 ∧ at8 s (p + 2) = 255) := fun hc => by
    rw [es, if_pos hc] at h; exact absurd h (by decide)
  refine ⟨?_, ?_, ?_⟩
  · rw [← hz, et, es]
    rw [es] at hb
    by_cases h1 : at8 s p = 255 ∧ at8 s (p + 1) = 255 ∧ at8 s (p + 2) = 255
    · exact absurd h1 hf
    rw [if_neg h1] at hb ⊢
    rw [if_neg h1]
    by_cases h2 : at8 s (p + 2) = 255
    · rw [if_pos h2, if_pos h2]
    rw [if_neg h2] at hb ⊢
    rw [if_neg h2]
    by_cases h4 : manyAt s p < 1 ∨ 800 < manyAt s p ∨ s.size < p + 3 + manyAt s p
    · rw [if_pos h4, if_pos h4]
    rw [if_neg h4] at hb ⊢
    rw [if_neg h4]
    by_cases h5 : at8 s (p + 2) = 254
    · rw [if_pos h5, if_pos h5]
    rw [if_neg h5] at hb ⊢
    rw [if_neg h5]
    by_cases h6 : at8 s (p + 2) = 252
    · rw [if_pos h6] at hb ⊢
      rw [if_pos h6]
      rw [extract_same hz (p + 3) (p + 3 + manyAt s p) (fun j h1 h2 h3 => hb j (by dsimp only; omega))]
    · rw [if_neg h6, if_neg h6]
  · refine Bool.eq_false_iff.2 fun hc => hf ?_
    have := (allFF_ext t p).1 hc
    exact ⟨by rw [b0]; exact this p (by omega) (by omega), by rw [b1]; exact this _ (by omega) (by omega), by rw [b2]; exact this _ (by omega) (by omega)⟩
  · refine Bool.eq_false_iff.2 fun hc => hf ?_
    have := (allFF_ext s p).1 hc
    exact ⟨this p (by omega) (by omega), this _ (by omega) (by omega), this _ (by omega) (by omega)⟩

theorem comb_nil (s : ByteArray) (k p : Nat) : comb [] (lookFrom s k p) = lookFrom s k p := by
  cases k with
  | zero => rfl
  | succ k =>
    by_cases h1 : allFF (s.extract p s.size) = true
    · rw [look_free s (k + 1) p h1]; rfl
    rw [look_more s k p (by simpa using h1) [], List.nil_append]
    exact (if_neg h1).symm
theorem comb_zero {pre : List ByteArray} {x : List ByteArray × Nat × Int} {recs : List ByteArray} {q : Nat} (h : comb pre x = (recs, q, 0)) : x.2.2 = 0 ∧ recs = pre ++ x.1 ∧ q = x.2.1 := by
  unfold comb at h
  by_cases h1 : x.2.2 ≠ 0
  · rw [if_pos h1] at h
    injection h with _ h
    injection h with _ h
    exact absurd h h1
  · rw [if_neg h1] at h
    injection h with h2 h
    injection h with h3 h
    exact ⟨Decidable.not_not.1 h1, h2.symm, h3.symm⟩

theorem look_local {s t : ByteArray} (hz : s.size = t.size) : ∀ (k p : Nat) {recs : List ByteArray} {q : Nat}, lookFrom s k p = (recs, q, 0) → (∀ j, j < q → at8 s j = at8 t j) → p ≤ q ∧ ∃ i, p + 3 * i ≤ q ∧ i ≤ k ∧ ∀ m, lookFrom t (i + m) p = comb recs (lookFrom t m q)
  | 0, p, recs, q, h, hb => by
    unfold lookFrom at h
    injection h with h1 h2
    injection h2 with h2 h3
    subst h1 h2
    exact ⟨Nat.le_refl _, 0, by omega, Nat.le_refl _, fun m => by rw [Nat.zero_add, comb_nil]⟩
  | k + 1, p, recs, q, h, hb => by
    unfold lookFrom at h
    by_cases h1 : allFF (s.extract p s.size) = true
    · rw [if_pos h1] at h
      injection h with h1 h2
      injection h2 with h2 h3
      subst h1 h2
      exact ⟨Nat.le_refl _, 0, by omega, Nat.zero_le _, fun m => by rw [Nat.zero_add, comb_nil]⟩
    rw [if_neg h1] at h
    by_cases h2 : (entOf (s.extract p s.size)).2 ≠ 0
    · rw [if_pos h2] at h
      injection h with _ h
      injection h with _ h
      exact absurd h h2
    rw [if_neg h2] at h
    have h2' := Decidable.not_not.1 h2
    obtain ⟨c0, c1, c2⟩ := comb_zero h
    obtain ⟨hle, i, hi1, hi2, hi3⟩ := look_local hz k _ (recs := (lookFrom s k (p + (entOf (s.extract p s.size)).1.1)).1) (q := q) (by rw [c2]; exact Prod.ext rfl (Prod.ext rfl c0)) hb
    have hk := (entOf_ok _ h2').1
    obtain ⟨e1, e2, e3⟩ := ent_local hz h2' (fun j hj => hb j (by omega))
    refine ⟨by omega, i + 1, by omega, by omega, fun m => ?_⟩
    rw [← comb_nil, show i + 1 + m = (i + m) + 1 by omega, look_more t (i + m) p e2, e1, if_neg h2, hi3 m, comb_comb, c1, List.nil_append]

theorem look_rest {s : ByteArray} : ∀ (k p : Nat) {recs : List ByteArray} {q : Nat}, lookFrom s k p = (recs, q, 0) → s.size ≤ p + 3 * k → allFF (s.extract q s.size) = true
  | 0, p, recs, q, h, hk => by
    unfold lookFrom at h
    injection h with h1 h2
    injection h2 with h2 h3
    subst h2
    exact allFF_none _ (by rw [ByteArray.size_extract]; omega)
  | k + 1, p, recs, q, h, hk => by
    unfold lookFrom at h
    by_cases h1 : allFF (s.extract p s.size) = true
    · rw [if_pos h1] at h
      injection h with _ h2
      injection h2 with h2 h3
      subst h2
      exact h1
    rw [if_neg h1] at h
    by_cases h2 : (entOf (s.extract p s.size)).2 ≠ 0
    · rw [if_pos h2] at h
      injection h with _ h
      injection h with _ h
      exact absurd h h2
    rw [if_neg h2] at h
    obtain ⟨c0, c1, c2⟩ := comb_zero h
    have hk' := (entOf_ok _ (Decidable.not_not.1 h2)).1
    exact look_rest k _ (recs := (lookFrom s k (p + (entOf (s.extract p s.size)).1.1)).1) (by rw [c2]; exact Prod.ext rfl (Prod.ext rfl c0)) (by omega)

theorem lookB_zero {s : ByteArray} {recs : List ByteArray} {q : Nat} (h : lookB s = (recs, q, 0)) : 384 ≤ s.size ∧ lookFrom s s.size 0 = (recs, q, 0) ∧ allFF (s.extract q s.size) = true ∧ q ≤ s.size := by
  have he := lookFrom_end s s.size 0 (Nat.zero_le _)
  unfold lookB at h
  by_cases h1 : s.size < 384
  · rw [if_pos h1] at h
    injection h with _ h
    injection h with _ h
    exact absurd h (by decide)
  rw [if_neg h1, comb_nil] at h
  rw [h] at he
  exact ⟨by omega, h, look_rest _ _ h (by omega), he⟩
/-- Bytes that are as others were as far as entries go there: what is looked up is their records, and what is behind them. -/
theorem lookB_on {s t : ByteArray} (hz : s.size = t.size) {recs : List ByteArray} {q : Nat} (h : lookB s = (recs, q, 0)) (hb : ∀ j, j < q → at8 s j = at8 t j) : ∃ m, t.size ≤ q + 3 * m ∧ lookB t = comb recs (lookFrom t m q) := by
  obtain ⟨h1, h2, _, hq⟩ := lookB_zero h
  obtain ⟨_, i, i1, i2, i3⟩ := look_local hz _ _ h2 hb
  refine ⟨s.size - i, by omega, ?_⟩
  have := i3 (s.size - i)
  rw [show i + (s.size - i) = s.size by omega] at this
  unfold lookB
  rw [if_neg (by omega), comb_nil, ← hz, this]
/-- Nothing is behind them. -/
theorem lookB_same {s t : ByteArray} (hz : s.size = t.size) {recs : List ByteArray} {q : Nat} (h : lookB s = (recs, q, 0)) (hb : ∀ j, j < q → at8 s j = at8 t j) (hf : ∀ j, q ≤ j → j < t.size → at8 t j = 255) : lookB t = (recs, q, 0) := by
  obtain ⟨m, _, hm⟩ := lookB_on hz h hb
  rw [hm, look_free t m q ((allFF_ext t q).2 hf)]
  unfold comb
  rw [if_neg (by simp), List.append_nil]
/-- One entry is behind them, and nothing more. -/
theorem lookB_entry {s t : ByteArray} (hz : s.size = t.size) {recs : List ByteArray} {q : Nat} (h : lookB s = (recs, q, 0)) (hb : ∀ j, j < q → at8 s j = at8 t j) {z : Nat} {r : ByteArray} {b : Bool} (he : entOf (t.extract q t.size) = ((z, r, b), 0)) (hf : ∀ j, q + z ≤ j → j < t.size → at8 t j = 255) : lookB t = (recs ++ (if b = true then [r] else []), q + z, 0) := by
  obtain ⟨m, hm1, hm⟩ := lookB_on hz h hb
  obtain ⟨_, _, hff⟩ := ent_local (s := t) (t := t) rfl (p := q) (by rw [he]) (fun _ _ => rfl)
  have h3 := ent_zero_head (s := t) (p := q) (by rw [he])
  obtain ⟨k, rfl⟩ : ∃ k, m = k + 1 := ⟨m - 1, by omega⟩
  rw [hm, look_more t k q hff, he, if_neg (by simp), look_free t k (q + z) ((allFF_ext t _).2 hf)]
  unfold comb
  rw [if_neg (by simp), List.append_nil]

end Go.Proofs.Ythmohjgdcjafkag
