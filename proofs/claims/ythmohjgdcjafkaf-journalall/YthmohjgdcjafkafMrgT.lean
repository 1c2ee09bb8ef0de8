/- Texts that are laid together. -/
import Derived.Test.YthmohjgdcjafkafMrgS
import Derived.Test.YthmohjgdcjafkafMrgN
import Derived.Test.YthmohjgdcjafkafMrgJ
import Derived.Deep.Cut
import Derived.Deep.CutRange
import Derived.Deep.LoopGhost

/- What must be in any case, of journals. -/
namespace Go.Proofs.Ythmohjgdcjafkaf
open Go.RowKit Go.PlainAid Go.Lib

set_option maxRecDepth 100000

theorem look_err (s : ByteArray) : ∀ (k p : Nat), (lookFrom s k p).2.2 = 0 ∨ (lookFrom s k p).2.2 = 4 ∧ (lookFrom s k p).1 = []
  | 0, p => .inl rfl
  | k + 1, p => by
    unfold lookFrom
    by_cases h1 : allFF (s.extract p s.size) = true
    · rw [if_pos h1]; exact .inl rfl
    rw [if_neg h1]
    by_cases h2 : (entOf (s.extract p s.size)).2 ≠ 0
    · rw [if_pos h2]
      refine .inr ⟨?_, rfl⟩
      revert h2
      unfold entOf
      dsimp only
      repeat' split
      all_goals first | (intro; rfl) | (intro h; exact absurd rfl h)
    rw [if_neg h2]
    unfold comb
    rcases look_err s k (p + (entOf (s.extract p s.size)).1.1) with h | ⟨h, h'⟩
    · rw [if_neg (by rw [h]; decide)]; exact .inl rfl
    · rw [if_pos (by rw [h]; decide)]; exact .inr ⟨h, rfl⟩
theorem lookB_err (s : ByteArray) : (lookB s).2.2 = 0 ∨ (lookB s).2.2 = 4 ∧ (lookB s).1 = [] := by
  unfold lookB
  by_cases h : s.size < 384
  · rw [if_pos h]; exact .inr ⟨rfl, rfl⟩
  · rw [if_neg h, comb_nil]; exact look_err _ _ _
theorem look_new (n : Nat) (h1 : 3 ≤ n) (h2 : n ≤ 32) : lookB ⟨(joinM (newRes (n : Int))).toArray⟩ = ([], 0, 0) := by
  obtain ⟨e, hG⟩ := newRes_ff n (by omega) h2
  have hz : (⟨(joinM (newRes (n : Int))).toArray⟩ : ByteArray).size = n * 128 := by rw [size_of_join, joinM_length hG.2.2.2, hG.1]
  unfold lookB
  rw [if_neg (by omega), comb_nil]
  apply look_free
  rw [allFF_ext]
  intro j _ hj
  obtain ⟨b, hb⟩ : ∃ b, (joinM (newRes (n : Int)))[j]? = some b := ⟨_, List.getElem?_eq_getElem (by rw [size_of_join] at hj; exact hj)⟩
  rw [at8_some hb]
  have hm := List.mem_of_getElem? hb
  unfold joinM at hm
  obtain ⟨x, hx, hbx⟩ := List.mem_flatMap.1 hm
  rw [e] at hx
  rw [(List.mem_replicate.1 hx).2] at hbx
  unfold ffB at hbx
  simpa using hbx
theorem append_ok {n : Nat} {F : List ByteArray} (hG : GoodF n F) {s : ByteArray} (h0 : 1 ≤ s.size) (h8 : s.size ≤ 800) {recs : List ByteArray} {q : Nat} (h : lookB ⟨(joinM F).toArray⟩ = (recs, q, 0)) (hr : q + 3 + s.size ≤ n * 128) : appRes F s = (doneAll F (deedsOf q s), deedsOf q s, 0) := by
  have hz : (⟨(joinM F).toArray⟩ : ByteArray).size = n * 128 := by rw [size_of_join, joinM_length hG.2.2.2, hG.1]
  have hp : placeRes ⟨(joinM F).toArray⟩ s = (q, 0) := by
    unfold placeRes
    rw [if_neg (by omega), if_neg (by omega), h, if_neg (by simp), if_neg (by dsimp only; omega)]
  unfold appRes
  rw [if_neg (by rw [hG.chk]; decide), hp, if_neg (by simp)]
  have hd := (append_there hG h0 h8 h hr).2.2
  unfold doRes
  rw [if_pos hd]
theorem open_ok {n : Nat} {F : List ByteArray} (hG : GoodF n F) {recs : List ByteArray} {q : Nat} (h : lookB ⟨(joinM F).toArray⟩ = (recs, q, 0)) : openRes F = (recs, 0) := by
  unfold openRes
  rw [if_neg (by rw [hG.chk]; decide), h]
theorem fmt_ok (n : Nat) (h1 : 3 ≤ n) (h2 : n ≤ 32) : fmtRes (n : Int) = (newRes (n : Int), 0) := by
  unfold fmtRes
  rw [if_neg (by omega), if_pos (by omega)]

/-- What they lie on. -/
def jbS : ByteArray := ⟨#[115, 111, 109, 101, 32, 114, 101, 99, 111, 114, 100]⟩
def jbF : List ByteArray := newRes 3
def jbX : List ByteArray := doneAll jbF (deedsOf 0 jbS)
theorem jb1 : fmtRes 3 = (jbF, 0) := fmt_ok 3 (by decide) (by decide)
theorem jb2 : appRes jbF jbS = (jbX, deedsOf 0 jbS, 0) := append_ok (newRes_ff 3 (by decide) (by decide)).2 (by decide) (by decide) (look_new 3 (by decide) (by decide)) (by decide)
theorem jb3 : openRes jbX = ([jbS], 0) := by
  obtain ⟨g, h, _⟩ := append_there (newRes_ff 3 (by decide) (by decide)).2 (s := jbS) (by decide) (by decide) (look_new 3 (by decide) (by decide)) (by decide)
  exact open_ok g h
theorem jb4 : openRes jbF = ([], 0) := open_ok (newRes_ff 3 (by decide) (by decide)).2 (look_new 3 (by decide) (by decide))

set_option maxHeartbeats 8000000 in
theorem journalBegun_any (w : World) : Calls Try.prog 21 #[] w fun e w' => e = .returned (.bool true) ∧ Below w.heap.size w w' := by
  have HFM : Hid (∀ W, Calls Try.prog 22 #[.int .i64 3] W fun e w' => (∃ r, e = .returned (.tuple #[.agg #[r], .int .i64 0]) ∧ IsFl w'.heap.size w' r jbF) ∧ Below W.heap.size W w') := fun W => by
    have := format_any 3 W
    rw [jb1] at this
    exact this
  have HAP : Hid (∀ v W, IsFl W.heap.size W v jbF → Calls Try.prog 23 #[.agg #[v], .string ⟨#[115, 111, 109, 101, 32, 114, 101, 99, 111, 114, 100]⟩] W fun e w' => (∃ r d, e = .returned (.tuple #[.agg #[r], d, .int .i64 0]) ∧ IsFl w'.heap.size w' r jbX ∧ ∃ da dc, d = .slice da 15 dc) ∧ Below W.heap.size W w') := fun v W h => by
    have := append_any jbF v jbS W h (by decide)
    rw [jb2] at this
    refine this.mono ?_
    rintro e w' ⟨⟨r, d, rfl, h1, h2⟩, hb⟩
    obtain ⟨da, dc, rfl⟩ := own_form h2
    exact ⟨⟨r, _, rfl, h1, da, dc, by rw [show (deedsOf 0 jbS).length = 15 from deedsOf_length 0 jbS]⟩, hb⟩
  have HO1 : Hid (∀ v W, IsFl W.heap.size W v jbX → Calls Try.prog 24 #[.agg #[v]] W fun e w' => (∃ r, e = .returned (.tuple #[r, .int .i64 0]) ∧ RowOf 1 strCell w'.heap.size w' r [jbS]) ∧ Below W.heap.size W w') := fun v W h => by
    have := open_any jbX v W h
    rw [jb3] at this
    refine this.mono ?_
    rintro e w' ⟨⟨r, rfl, h1⟩, hb⟩
    exact ⟨⟨r, rfl, own_rows (C := strC) (fun _ => rfl) strC_at h1 (by simp)⟩, hb⟩
  have HO2 : Hid (∀ v W, IsFl W.heap.size W v jbF → Calls Try.prog 24 #[.agg #[v]] W fun e w' => (∃ ra rc, e = .returned (.tuple #[.slice ra 0 rc, .int .i64 0])) ∧ Below W.heap.size W w') := fun v W h => by
    have := open_any jbF v W h
    rw [jb4] at this
    refine this.mono ?_
    rintro e w' ⟨⟨r, rfl, h1⟩, hb⟩
    obtain ⟨ra, rc, rfl⟩ := own_form h1
    exact ⟨⟨ra, rc, rfl⟩, hb⟩
  have HST : Hid (∀ v v' W, RowOf 1 strCell W.heap.size W v [jbS] → RowOf 1 strCell W.heap.size W v' [jbS] → Calls Try.prog 25 #[v, v'] W fun e w' => e = .returned (.bool true) ∧ Below W.heap.size W w') := fun v v' W h1 h2 => by
    have := sameTexts_any [jbS] [jbS] v v' W h1 h2
    rw [sameB_self] at this
    exact this
  have HRW : Hid (∀ (W : World) n, n = W.heap.size → RowOf 1 strCell (W.alloc (.cells #[.string ⟨#[115, 111, 109, 101, 32, 114, 101, 99, 111, 114, 100]⟩] 9)).heap.size (W.alloc (.cells #[.string ⟨#[115, 111, 109, 101, 32, 114, 101, 99, 111, 114, 100]⟩] 9)) (.slice (some ⟨n, 0, none⟩) 1 1) [jbS]) := fun W n hn => by
    subst hn
    exact rowOf_cells (C := strC) (cells := strCell) (sz := 1) (fun _ => rfl) strC_at (CellsAt.new W 9 #[.string ⟨#[115, 111, 109, 101, 32, 114, 101, 99, 111, 114, 100]⟩]) [jbS] (show 1 ≤ 255 by decide) 1 rfl
  have hsz : jbF.length = 3 ∧ jbX.length = 3 := by
    obtain ⟨g, _⟩ := append_there (newRes_ff 3 (by decide) (by decide)).2 (s := jbS) (by decide) (by decide) (look_new 3 (by decide) (by decide)) (by decide)
    exact ⟨(newRes_ff 3 (by decide) (by decide)).2.1, g.1⟩
  obtain ⟨hl1, hl2⟩ := hsz
  generalize jbF = F at *
  generalize jbX = X at *
  generalize hdl : [jbS] = dl at *
  have HDL : Hid ((1 : Nat) = dl.length) := by rw [← hdl]; rfl
  clear hdl
  have HB0 : Hid (Below w.heap.size w w) := Below.refl _ _
  go_enter Try.func21, Try.ntmps21
  go_wp2_with fail
  refine (HFM.out _).mono ?_
  rintro e wc1 ⟨⟨r1, rfl, hr1⟩, bb1⟩
  replace HB0 : Hid (Below w.heap.size w wc1) := HB0.out.trans (bb1.mono HB0.out.size)
  clear bb1
  obtain ⟨⟨a1, c1, rfl, _, _⟩, _⟩ := id hr1
  rw [hl1] at hr1 ⊢
  have HF : Hid (IsFl wc1.heap.size wc1 (.slice a1 3 c1) F) := hr1
  clear hr1 HFM
  replace HB0 : Hid (Below w.heap.size w (wc1.alloc (.cells #[.slice a1 3 c1] 24))) := HB0.out.alloc HB0.out.size _
  replace HF : Hid (IsFl (wc1.alloc (.cells #[.slice a1 3 c1] 24)).heap.size (wc1.alloc (.cells #[.slice a1 3 c1] 24)) (.slice a1 3 c1) F) := (HF.out.below ((Below.refl _ _).alloc (Nat.le_refl _) _)).more (by simp)
  have H1 : Hid (CellsAt (wc1.alloc (.cells #[.slice a1 3 c1] 24)) (wc1.heap.size) 24 #[.slice a1 3 c1]) := by first | exact CellsAt.new _ _ _ | (have := CellsAt.new wc1 24 #[.slice a1 3 c1]; simp only [World.size_alloc] at this; exact this)
  go_wp2_with fail
  generalize (wc1.alloc (.cells #[.slice a1 3 c1] 24)) = w2 at *
  refine (HAP.out _ _ HF.out).mono ?_
  rintro e wc3 ⟨⟨r3, d3, rfl, hr3, da, dc, rfl⟩, bb3⟩
  replace HB0 : Hid (Below w.heap.size w wc3) := HB0.out.trans (bb3.mono HB0.out.size)
  replace HF : Hid (IsFl wc3.heap.size wc3 (.slice a1 3 c1) F) := (HF.out.below bb3).more bb3.size
  replace H1 : Hid (CellsAt wc3 (wc1.heap.size) 24 #[.slice a1 3 c1]) := H1.out.below bb3 H1.out.lt
  clear bb3
  obtain ⟨⟨a3, c3, rfl, _, _⟩, _⟩ := id hr3
  rw [hl2] at hr3 ⊢
  have HX : Hid (IsFl wc3.heap.size wc3 (.slice a3 3 c3) X) := hr3
  clear hr3 HAP
  have pl_H1_0 := H1.out.cell 0
  simp at pl_H1_0
  have pl_H1_lt := H1.out.lt
  replace HB0 : Hid (Below w.heap.size w (wc3.alloc (.cells #[.slice a3 3 c3] 24))) := HB0.out.alloc HB0.out.size _
  replace HF : Hid (IsFl (wc3.alloc (.cells #[.slice a3 3 c3] 24)).heap.size (wc3.alloc (.cells #[.slice a3 3 c3] 24)) (.slice a1 3 c1) F) := (HF.out.below ((Below.refl _ _).alloc (Nat.le_refl _) _)).more (by simp)
  replace H1 : Hid (CellsAt (wc3.alloc (.cells #[.slice a3 3 c3] 24)) (wc1.heap.size) 24 #[.slice a1 3 c1]) := H1.out.kept (World.grownBy_alloc _ _ none) (by simp)
  replace HX : Hid (IsFl (wc3.alloc (.cells #[.slice a3 3 c3] 24)).heap.size (wc3.alloc (.cells #[.slice a3 3 c3] 24)) (.slice a3 3 c3) X) := (HX.out.below ((Below.refl _ _).alloc (Nat.le_refl _) _)).more (by simp)
  have H3 : Hid (CellsAt (wc3.alloc (.cells #[.slice a3 3 c3] 24)) (wc3.heap.size) 24 #[.slice a3 3 c3]) := by first | exact CellsAt.new _ _ _ | (have := CellsAt.new wc3 24 #[.slice a3 3 c3]; simp only [World.size_alloc] at this; exact this)
  go_wp2_with fail
  clear pl_H1_0 pl_H1_lt
  generalize (wc3.alloc (.cells #[.slice a3 3 c3] 24)) = w4 at *
  refine (HO1.out _ _ HX.out).mono ?_
  rintro e wc5 ⟨⟨r6, rfl, hr6⟩, bb5⟩
  replace HB0 : Hid (Below w.heap.size w wc5) := HB0.out.trans (bb5.mono HB0.out.size)
  replace HF : Hid (IsFl wc5.heap.size wc5 (.slice a1 3 c1) F) := (HF.out.below bb5).more bb5.size
  replace H1 : Hid (CellsAt wc5 (wc1.heap.size) 24 #[.slice a1 3 c1]) := H1.out.below bb5 H1.out.lt
  replace HX : Hid (IsFl wc5.heap.size wc5 (.slice a3 3 c3) X) := (HX.out.below bb5).more bb5.size
  replace H3 : Hid (CellsAt wc5 (wc3.heap.size) 24 #[.slice a3 3 c3]) := H3.out.below bb5 H3.out.lt
  clear bb5
  obtain ⟨a6, c6, rfl, _, _⟩ := id hr6
  rw [← HDL.out] at hr6 ⊢
  have HR6 : Hid (RowOf 1 strCell wc5.heap.size wc5 (.slice a6 1 c6) dl) := hr6
  clear hr6 HO1
  have pl_H1_0 := H1.out.cell 0
  simp at pl_H1_0
  have pl_H1_lt := H1.out.lt
  go_wp2_with fail
  clear pl_H1_0 pl_H1_lt
  refine (HO2.out _ _ HF.out).mono ?_
  rintro e wc6 ⟨⟨ra, rc, rfl⟩, bb6⟩
  replace HB0 : Hid (Below w.heap.size w wc6) := HB0.out.trans (bb6.mono HB0.out.size)
  replace HF : Hid (IsFl wc6.heap.size wc6 (.slice a1 3 c1) F) := (HF.out.below bb6).more bb6.size
  replace H1 : Hid (CellsAt wc6 (wc1.heap.size) 24 #[.slice a1 3 c1]) := H1.out.below bb6 H1.out.lt
  replace HX : Hid (IsFl wc6.heap.size wc6 (.slice a3 3 c3) X) := (HX.out.below bb6).more bb6.size
  replace H3 : Hid (CellsAt wc6 (wc3.heap.size) 24 #[.slice a3 3 c3]) := H3.out.below bb6 H3.out.lt
  replace HR6 : Hid (RowOf 1 strCell wc6.heap.size wc6 (.slice a6 1 c6) dl) := (HR6.out.below bb6).more bb6.size
  clear bb6
  clear HO2
  replace HB0 : Hid (Below w.heap.size w (wc6.alloc (.cells #[.string ⟨#[115, 111, 109, 101, 32, 114, 101, 99, 111, 114, 100]⟩] 9))) := HB0.out.alloc HB0.out.size _
  replace HF : Hid (IsFl (wc6.alloc (.cells #[.string ⟨#[115, 111, 109, 101, 32, 114, 101, 99, 111, 114, 100]⟩] 9)).heap.size (wc6.alloc (.cells #[.string ⟨#[115, 111, 109, 101, 32, 114, 101, 99, 111, 114, 100]⟩] 9)) (.slice a1 3 c1) F) := (HF.out.below ((Below.refl _ _).alloc (Nat.le_refl _) _)).more (by simp)
  replace H1 : Hid (CellsAt (wc6.alloc (.cells #[.string ⟨#[115, 111, 109, 101, 32, 114, 101, 99, 111, 114, 100]⟩] 9)) (wc1.heap.size) 24 #[.slice a1 3 c1]) := H1.out.kept (World.grownBy_alloc _ _ none) (by simp)
  replace HX : Hid (IsFl (wc6.alloc (.cells #[.string ⟨#[115, 111, 109, 101, 32, 114, 101, 99, 111, 114, 100]⟩] 9)).heap.size (wc6.alloc (.cells #[.string ⟨#[115, 111, 109, 101, 32, 114, 101, 99, 111, 114, 100]⟩] 9)) (.slice a3 3 c3) X) := (HX.out.below ((Below.refl _ _).alloc (Nat.le_refl _) _)).more (by simp)
  replace H3 : Hid (CellsAt (wc6.alloc (.cells #[.string ⟨#[115, 111, 109, 101, 32, 114, 101, 99, 111, 114, 100]⟩] 9)) (wc3.heap.size) 24 #[.slice a3 3 c3]) := H3.out.kept (World.grownBy_alloc _ _ none) (by simp)
  replace HR6 : Hid (RowOf 1 strCell (wc6.alloc (.cells #[.string ⟨#[115, 111, 109, 101, 32, 114, 101, 99, 111, 114, 100]⟩] 9)).heap.size (wc6.alloc (.cells #[.string ⟨#[115, 111, 109, 101, 32, 114, 101, 99, 111, 114, 100]⟩] 9)) (.slice a6 1 c6) dl) := (HR6.out.below ((Below.refl _ _).alloc (Nat.le_refl _) _)).more (by simp)
  have HRB : Hid (RowOf 1 strCell (wc6.alloc (.cells #[.string ⟨#[115, 111, 109, 101, 32, 114, 101, 99, 111, 114, 100]⟩] 9)).heap.size (wc6.alloc (.cells #[.string ⟨#[115, 111, 109, 101, 32, 114, 101, 99, 111, 114, 100]⟩] 9)) (.slice (some ⟨wc6.heap.size, 0, none⟩) 1 1) dl) := HRW.out _ _ rfl
  go_wp2_with fail
  generalize (wc6.alloc (.cells #[.string ⟨#[115, 111, 109, 101, 32, 114, 101, 99, 111, 114, 100]⟩] 9)) = w6 at *
  refine (HST.out _ _ _ HR6.out HRB.out).mono ?_
  rintro e wc8 ⟨rfl, bb8⟩
  replace HB0 : Hid (Below w.heap.size w wc8) := HB0.out.trans (bb8.mono HB0.out.size)
  replace HF : Hid (IsFl wc8.heap.size wc8 (.slice a1 3 c1) F) := (HF.out.below bb8).more bb8.size
  replace H1 : Hid (CellsAt wc8 (wc1.heap.size) 24 #[.slice a1 3 c1]) := H1.out.below bb8 H1.out.lt
  replace HX : Hid (IsFl wc8.heap.size wc8 (.slice a3 3 c3) X) := (HX.out.below bb8).more bb8.size
  replace H3 : Hid (CellsAt wc8 (wc3.heap.size) 24 #[.slice a3 3 c3]) := H3.out.below bb8 H3.out.lt
  replace HR6 : Hid (RowOf 1 strCell wc8.heap.size wc8 (.slice a6 1 c6) dl) := (HR6.out.below bb8).more bb8.size
  replace HRB : Hid (RowOf 1 strCell wc8.heap.size wc8 (.slice (some ⟨wc6.heap.size, 0, none⟩) 1 1) dl) := (HRB.out.below bb8).more bb8.size
  clear bb8
  have HBZ := HB0
  clear HF H1 HX H3 HR6 HRB HST HRW
  go_wp2
  go_ret
  exact ⟨rfl, HBZ.out⟩

end Go.Proofs.Ythmohjgdcjafkaf

/- Records that last, as data: what is written one behind the other; rows apart. -/
namespace Go.Proofs.Ythmohjgdcjafkaf
open Go.RowKit Go.PlainAid Go.Lib

theorem chkDs_more (n : Nat) : ∀ (l r : List Deed) (e : Int), chkDs n e (l ++ r) = chkDs n (chkDs n e l) r
  | [], r, e => rfl
  | d :: l, r, e => by
    show (if e = 0 then chkDs n (chkDeed n d) (l ++ r) else e) = _
    by_cases h : e = 0
    · rw [if_pos h, chkDs_more n l r, show chkDs n e (d :: l) = chkDs n (chkDeed n d) l from if_pos h]
    · rw [if_neg h]
      show e = chkDs n (if e = 0 then _ else e) r
      rw [if_neg h, chkDs_wrong _ _ _ h]

/-- What is there behind all that was written. -/
def JInv (n : Nat) (F0 G : List ByteArray) (recs : List ByteArray) (D : List Deed) : Prop :=
  ∃ q, GoodF n F0 ∧ GoodF n G ∧ lookB ⟨(joinM G).toArray⟩ = (recs, q, 0) ∧ recs.length ≤ q ∧ D.length ≤ 2 * q ∧ chkDeeds F0 D = 0 ∧ doneAll F0 D = G
theorem JInv.start (n : Nat) (h1 : 3 ≤ n) (h2 : n ≤ 32) : JInv n (newRes (n : Int)) (newRes (n : Int)) [] [] :=
  have hG := (newRes_ff n (by omega) h2).2
  ⟨0, hG, hG, look_new n h1 h2, by simp, by simp, hG.chk, rfl⟩
theorem JInv.bounds {n : Nat} {F0 G recs : List ByteArray} {D : List Deed} (h : JInv n F0 G recs D) : recs.length ≤ 4096 ∧ D.length ≤ 8192 ∧ G.length = n ∧ n ≤ 32 := by
  obtain ⟨q, _, hG, hl, h1, h2, _⟩ := h
  have hq := (lookB_zero hl).2.2.2
  rw [size_of_join, joinM_length hG.2.2.2, hG.1] at hq
  have := hG.2.2.1
  exact ⟨by omega, by omega, hG.1, this⟩
theorem JInv.done {n : Nat} {F0 G recs : List ByteArray} {D : List Deed} (h : JInv n F0 G recs D) : doRes F0 D = G ∧ chkDeeds F0 D = 0 := by
  obtain ⟨q, _, _, _, _, _, h1, h2⟩ := h
  exact ⟨(if_pos h1).trans h2, h1⟩
theorem JInv.there {n : Nat} {F0 G recs : List ByteArray} {D : List Deed} (h : JInv n F0 G recs D) : openRes G = (recs, 0) := by
  obtain ⟨q, _, hG, hl, _⟩ := h
  exact open_ok hG hl
theorem JInv.next {n : Nat} {F0 G recs : List ByteArray} {D : List Deed} (h : JInv n F0 G recs D) (s : ByteArray) :
    (∃ l, appRes G s = (doneAll G l, l, 0) ∧ 1 ≤ l.length ∧ l.length ≤ 804 ∧ JInv n F0 (doneAll G l) (recs ++ [s]) (D ++ l)) ∨
    ((appRes G s).1 = [] ∧ (appRes G s).2.1 = [] ∧ ((s.size = 0 ∧ (appRes G s).2.2 = 1) ∨ (800 < s.size ∧ (appRes G s).2.2 = 2) ∨ (1 ≤ s.size ∧ s.size ≤ 800 ∧ (appRes G s).2.2 = 8))) := by
  obtain ⟨q, hF, hG, hl, h1, h2, h3, h4⟩ := h
  have hz : (⟨(joinM G).toArray⟩ : ByteArray).size = n * 128 := by rw [size_of_join, joinM_length hG.2.2.2, hG.1]
  by_cases a0 : s.size = 0
  · right
    unfold appRes placeRes
    rw [if_neg (by rw [hG.chk]; decide), if_pos a0, if_pos (by simp)]
    exact ⟨rfl, rfl, .inl ⟨a0, rfl⟩⟩
  by_cases a1 : 800 < s.size
  · right
    unfold appRes placeRes
    rw [if_neg (by rw [hG.chk]; decide), if_neg a0, if_pos a1, if_pos (by simp)]
    exact ⟨rfl, rfl, .inr (.inl ⟨a1, rfl⟩)⟩
  by_cases a2 : n * 128 < q + (3 + s.size)
  · right
    have hp : placeRes ⟨(joinM G).toArray⟩ s = (0, 8) := by
      unfold placeRes
      rw [if_neg a0, if_neg a1, hl, if_neg (by simp), if_pos (by dsimp only; omega)]
    unfold appRes
    rw [if_neg (by rw [hG.chk]; decide), hp, if_pos (by simp)]
    exact ⟨rfl, rfl, .inr (.inr ⟨by omega, by omega, rfl⟩)⟩
  · left
    obtain ⟨g1, g2, g3⟩ := append_there hG (s := s) (by omega) (by omega) hl (by omega)
    refine ⟨deedsOf q s, append_ok hG (by omega) (by omega) hl (by omega), by rw [deedsOf_length]; omega, by rw [deedsOf_length]; omega, q + 3 + s.size, hF, g1, g2, ?_, ?_, ?_, ?_⟩
    · rw [List.length_append, List.length_singleton]; omega
    · rw [List.length_append, deedsOf_length]; omega
    · unfold chkDeeds at h3 g3 ⊢
      rw [chkDs_more, h3]
      rw [hG.1, hG.chk] at g3
      rw [hF.1]
      exact g3
    · unfold doneAll at h4 ⊢
      rw [List.foldl_append, h4]

theorem own_kind {W : World} {base : Nat} {e : TypeId} {size : Nat} {v : Value} {n : Nat} {xs : List Value} (h : W.ownsRow base e size v n xs) : ∀ k, v.ownBlock = some k → ∃ cur fr, W.heap[k]? = some (.cells cur e fr) := by
  intro k hk
  rcases h.2 with ⟨rfl, _⟩ | ⟨g, cap, cur, rfl, _, hc, _⟩
  · cases hk
  · simp [Value.ownBlock] at hk
    subst hk
    exact ⟨cur, _, hc⟩
theorem own_ne_own {W : World} {b1 b2 : Nat} {e1 e2 : TypeId} {s1 s2 : Nat} {v1 v2 : Value} {n1 n2 : Nat} {x1 x2 : List Value} (h1 : W.ownsRow b1 e1 s1 v1 n1 x1) (h2 : W.ownsRow b2 e2 s2 v2 n2 x2) (he : e1 ≠ e2) : v1.ownBlock = none ∨ v1.ownBlock ≠ v2.ownBlock := by
  cases hv : v1.ownBlock with
  | none => exact .inl rfl
  | some k =>
    refine .inr fun e => ?_
    obtain ⟨c1, f1, hc1⟩ := own_kind h1 k hv
    obtain ⟨c2, f2, hc2⟩ := own_kind h2 k e.symm
    rw [hc1] at hc2
    injection hc2 with hc2
    injection hc2 with _ h
    exact he h
theorem own_ne_cells {W : World} {b B : Nat} {e t : TypeId} {s : Nat} {v : Value} {n : Nat} {xs : List Value} {cs : Array Value} (h1 : W.ownsRow b e s v n xs) (hc : CellsAt W B t cs) (he : e ≠ t) : v.ownBlock ≠ some B := by
  intro hv
  obtain ⟨c1, f1, hc1⟩ := own_kind h1 B hv
  rw [show W.heap[B]? = _ from hc] at hc1
  injection hc1 with hc1
  injection hc1 with _ h
  exact he h.symm
theorem own_storeAt {W : World} {b B : Nat} {e t : TypeId} {s : Nat} {v : Value} {n : Nat} {xs : List Value} {cs : Array Value} (h : W.ownsRow b e s v n xs) (hc : CellsAt W B t cs) (he : e ≠ t) (i : Nat) (u : Value) : (W.setCell ⟨B, i, none⟩ u).ownsRow b e s v n xs :=
  h.kept (grown_set W B i u) (.inr (own_ne_cells h hc he))
theorem own_some {W : World} {base : Nat} {e : TypeId} {size : Nat} {v : Value} {n : Nat} {xs : List Value} (h : W.ownsRow base e size v n xs) (hn : 1 ≤ n) : ∃ g cap, v = .slice (some ⟨g, 0, none⟩) n cap ∧ ∀ j u, xs[j]? = some u → W.cell? ((⟨g, 0, none⟩ : Addr).add j) = some u := by
  rcases h.2 with ⟨rfl, h0⟩ | ⟨g, cap, cur, rfl, _, hc, _⟩
  · omega
  · exact ⟨g, cap, rfl, h.cells rfl⟩

theorem own_apart {v1 v2 : Value} (h : ∀ k, v1.ownBlock = some k → v2.ownBlock ≠ some k) : v2.ownBlock = none ∨ v2.ownBlock ≠ v1.ownBlock := by
  cases hv : v2.ownBlock with
  | none => exact .inl rfl
  | some k => exact .inr fun e => h k e.symm hv
theorem deedC_one (l : List Deed) : ∀ u ∈ l.flatMap deedC, u.oneCell' = true := by
  intro u hu
  obtain ⟨d, _, hd⟩ := List.mem_flatMap.1 hu
  simp only [deedC, List.mem_cons, List.not_mem_nil, or_false] at hd
  rcases hd with rfl | rfl | rfl <;> rfl

end Go.Proofs.Ythmohjgdcjafkaf

/- JournalAll: the walk. -/
namespace Go.Proofs.Ythmohjgdcjafkaf.journalAll
open Go.RowKit Go.PlainAid Go.Lib

set_option maxRecDepth 100000

set_option maxHeartbeats 16000000 in
theorem walk (l : List ByteArray) (vl : Value) (w : World) (hl : RowOf 1 strCell w.heap.size w vl l) (hsz : ∀ x ∈ l, x.size ≤ 9223372036854775807) (_ : CapIn vl) :
    Calls Try.prog 6 #[vl] w fun e w' => e = .returned (.bool true) ∧ Below w.heap.size w w' := by
  obtain ⟨is, his, hs0, hs1, hs2⟩ := infoStrF_parts
  obtain ⟨ie, hie, he0, he1, he2⟩ := infoDeed_parts
  have HBJ : Hid (∀ W, Calls Try.prog 21 #[] W fun e w' => e = .returned (.bool true) ∧ Below W.heap.size W w') := journalBegun_any
  have HBG : Hid (∀ W, Calls Try.prog 7 #[] W fun e w' => e = .returned (.bool true) ∧ Below W.heap.size W w') := flashBegun_any
  have HFM : Hid (∀ W, Calls Try.prog 22 #[.int .i64 32] W fun e w' => (∃ r, e = .returned (.tuple #[.agg #[r], .int .i64 0]) ∧ OwnFl W.heap.size w' r (newRes 32)) ∧ Below W.heap.size W w') := fun W => by
    have := format_own 32 W
    have fm : fmtRes 32 = (newRes 32, 0) := fmt_ok 32 (by decide) (by decide)
    rw [fm] at this
    exact this
  have HAP : Hid (∀ (G : List ByteArray) (s : ByteArray) v W, s.size ≤ 9223372036854775807 → IsFl W.heap.size W v G → Calls Try.prog 23 #[.agg #[v], .string s] W fun e w' => (∃ r d, e = .returned (.tuple #[.agg #[r], d, .int .i64 (appRes G s).2.2]) ∧ OwnFl W.heap.size w' r (appRes G s).1 ∧ w'.ownsRow W.heap.size 32 3 d (appRes G s).2.1.length ((appRes G s).2.1.flatMap deedC)) ∧ Below W.heap.size W w') := fun G s v W h1 h2 => append_own G v s W h2 h1
  have HOP : Hid (∀ (G : List ByteArray) v W, IsFl W.heap.size W v G → Calls Try.prog 24 #[.agg #[v]] W fun e w' => (∃ r, e = .returned (.tuple #[r, .int .i64 (openRes G).2]) ∧ w'.ownsRow W.heap.size 9 1 r (openRes G).1.length ((openRes G).1.flatMap strC)) ∧ Below W.heap.size W w') := fun G v W h => open_any G v W h
  have HDO : Hid (∀ (F : List ByteArray) (L : List Deed) v vl W, IsFl W.heap.size W v F → RowOf 3 Deed.cell W.heap.size W vl L → Calls Try.prog 8 #[.agg #[v], vl] W fun e w' => (∃ r, e = .returned (.tuple #[.agg #[r], .int .i64 (chkDeeds F L)]) ∧ IsFl w'.heap.size w' r (doRes F L)) ∧ Below W.heap.size W w') := fun F L v vl W h1 h2 => do_doc F v L vl W h1 h2
  have HST : Hid (∀ (X : List ByteArray) v v' W, RowOf 1 strCell W.heap.size W v X → RowOf 1 strCell W.heap.size W v' X → Calls Try.prog 25 #[v, v'] W fun e w' => e = .returned (.bool true) ∧ Below W.heap.size W w') := fun X v v' W h1 h2 => by
    have := sameTexts_any X X v v' W h1 h2
    rw [sameB_self] at this
    exact this
  have HSF : Hid (∀ (X : List ByteArray) v v' W, IsFl W.heap.size W v X → IsFl W.heap.size W v' X → Calls Try.prog 9 #[.agg #[v], .agg #[v']] W fun e w' => e = .returned (.bool true) ∧ Below W.heap.size W w') := fun X v v' W h1 h2 => by
    have := sameFlash_any X X v v' W h1.1 h2.1
    rw [sameB_self] at this
    exact this
  obtain ⟨la, lcap, rfl, hlm, hlr⟩ := id hl
  have HJ0 : Hid (JInv 32 (newRes 32) (newRes 32) [] []) := JInv.start 32 (by decide) (by decide)
  have HNX : Hid (∀ (F0 G recs : List ByteArray) (D : List Deed), JInv 32 F0 G recs D → ∀ s : ByteArray, (∃ l, appRes G s = (doneAll G l, l, 0) ∧ 1 ≤ l.length ∧ l.length ≤ 804 ∧ JInv 32 F0 (doneAll G l) (recs ++ [s]) (D ++ l)) ∨ ((appRes G s).1 = [] ∧ (appRes G s).2.1 = [] ∧ ((s.size = 0 ∧ (appRes G s).2.2 = 1) ∨ (800 < s.size ∧ (appRes G s).2.2 = 2) ∨ (1 ≤ s.size ∧ s.size ≤ 800 ∧ (appRes G s).2.2 = 8)))) := fun F0 G recs D h s => h.next s
  have hF0 := (newRes_ff 32 (by decide) (by decide)).2.1
  have HLR : Hid (l = [] ∨ ∃ bl off, la = some ⟨bl, off, none⟩ ∧ bl < w.heap.size ∧ ∀ j x, l[j]? = some x → ∀ i, i < 1 → w.cell? ⟨bl, off + j * 1 + i, none⟩ = some (strCell x i)) := hlr
  have HSZ : Hid (∀ x ∈ l, x.size ≤ 9223372036854775807) := hsz
  clear hl hlr hsz
  rw [show ((32 : Nat) : Int) = 32 from rfl] at hF0
  generalize newRes 32 = F0 at *
  have HB0 : Hid (Below w.heap.size w w) := Below.refl _ _
  go_enter Try.func6, Try.ntmps6
  go_wp2_with fail
  refine (HBJ.out _).mono ?_
  rintro e wc1 ⟨rfl, bb1⟩
  replace HB0 : Hid (Below w.heap.size w wc1) := HB0.out.trans (bb1.mono HB0.out.size)
  clear bb1
  go_wp2_with fail
  refine (HBG.out _).mono ?_
  rintro e wc2 ⟨rfl, bb2⟩
  replace HB0 : Hid (Below w.heap.size w wc2) := HB0.out.trans (bb2.mono HB0.out.size)
  clear bb2
  clear HBJ HBG
  go_wp2_with fail
  refine (HFM.out _).mono ?_
  rintro e wc3 ⟨⟨r1, rfl, hr1⟩, bb3⟩
  replace HB0 : Hid (Below w.heap.size w wc3) := HB0.out.trans (bb3.mono HB0.out.size)
  clear bb3
  obtain ⟨a1, c1, rfl⟩ := own_form hr1.1
  rw [hF0] at hr1 ⊢
  have HG : Hid (OwnFl 0 wc3 (.slice a1 32 c1) F0) := OwnFl.lower (b := 0) hr1 (Nat.zero_le _)
  clear hr1 HFM
  have LWB : w.heap.size ≤ wc3.heap.size := HB0.out.size
  have n_Hf : Hid (CellsAt (wc3.alloc (.cells #[.slice a1 32 c1] 24)) (wc3.heap.size) 24 #[.slice a1 32 c1]) := by first | exact CellsAt.new _ _ _ | (have := CellsAt.new wc3 24 #[.slice a1 32 c1]; simp only [World.size_alloc] at this; exact this)
  have n_HB0 : Hid (Below w.heap.size w (wc3.alloc (.cells #[.slice a1 32 c1] 24))) := HB0.out.alloc HB0.out.size _
  have n_HG : Hid (OwnFl 0 (wc3.alloc (.cells #[.slice a1 32 c1] 24)) (.slice a1 32 c1) F0) := HG.out.below ((Below.refl _ _).alloc (Nat.le_refl _) _)
  clear HB0 HG
  have HB0 := n_HB0
  clear n_HB0
  have HG := n_HG
  clear n_HG
  have Hf := n_Hf
  clear n_Hf
  have n_Hg : Hid (CellsAt ((wc3.alloc (.cells #[.slice a1 32 c1] 24)).alloc (.cells #[.slice a1 32 c1] 24)) (wc3.heap.size + 1) 24 #[.slice a1 32 c1]) := by first | exact CellsAt.new _ _ _ | (have := CellsAt.new (wc3.alloc (.cells #[.slice a1 32 c1] 24)) 24 #[.slice a1 32 c1]; simp only [World.size_alloc] at this; exact this)
  have n_HB0 : Hid (Below w.heap.size w ((wc3.alloc (.cells #[.slice a1 32 c1] 24)).alloc (.cells #[.slice a1 32 c1] 24))) := HB0.out.alloc HB0.out.size _
  have n_HG : Hid (OwnFl 0 ((wc3.alloc (.cells #[.slice a1 32 c1] 24)).alloc (.cells #[.slice a1 32 c1] 24)) (.slice a1 32 c1) F0) := HG.out.below ((Below.refl _ _).alloc (Nat.le_refl _) _)
  have n_Hf : Hid (CellsAt ((wc3.alloc (.cells #[.slice a1 32 c1] 24)).alloc (.cells #[.slice a1 32 c1] 24)) (wc3.heap.size) 24 #[.slice a1 32 c1]) := Hf.out.kept (World.grownBy_alloc _ _ none) (by simp)
  clear HB0 HG Hf
  have HB0 := n_HB0
  clear n_HB0
  have HG := n_HG
  clear n_HG
  have Hf := n_Hf
  clear n_Hf
  have Hg := n_Hg
  clear n_Hg
  go_upto_region 7 with fail
  have H0 : Hid (IsFl (wc3.heap.size + 2) ((wc3.alloc (.cells #[.slice a1 32 c1] 24)).alloc (.cells #[.slice a1 32 c1] 24)) (.slice a1 32 c1) F0) := HG.out.is.more (by simp)
  have LW : Hid (wc3.heap.size + 2 ≤ ((wc3.alloc (.cells #[.slice a1 32 c1] 24)).alloc (.cells #[.slice a1 32 c1] 24)).heap.size) := (by simp : _ ≤ _)
  generalize ((wc3.alloc (.cells #[.slice a1 32 c1] 24)).alloc (.cells #[.slice a1 32 c1] 24)) = w2 at *
  generalize wc3.heap.size = B3 at *
  go_wp2_with fail
  go_loopg [6, 7, 8] l.length (fun gk s6 s7 s8 wr => ∃ (j : Nat) (G recs : List ByteArray) (D : List Deed) (ga : Option Addr) (gc : Nat) (vA vD : Value), Hid (gk = l.length - j) ∧ j ≤ l.length ∧ s6 = vA ∧ s7 = vD ∧ s8 = .int .i64 j ∧ Hid (JInv 32 F0 G recs D) ∧ Hid (∀ k, vA.ownBlock = some k → (Value.slice ga 32 gc).ownBlock ≠ some k) ∧ Hid (Below w.heap.size w wr) ∧ Hid (OwnFl 0 wr (.slice ga 32 gc) G) ∧ Hid (CellsAt wr (B3) 24 #[.slice ga 32 gc]) ∧ Hid (CellsAt wr ((B3 + 1)) 24 #[.slice a1 32 c1]) ∧ Hid (IsFl (B3 + 2) wr (.slice a1 32 c1) F0) ∧ Hid ((B3 + 2) ≤ wr.heap.size) ∧ Hid (wr.ownsRow (B3 + 2) 9 1 (vA) recs.length (recs.flatMap strC)) ∧ Hid (wr.ownsRow (B3 + 2) 32 3 (vD) D.length (D.flatMap deedC)))
  case atStart => exact ⟨0, F0, [], [], a1, c1, _, _, (by simp : l.length = l.length - 0), Nat.zero_le _, rfl, rfl, rfl, HJ0, (fun k e => by cases e), HB0, HG, Hf, Hg, H0, LW, World.ownsRow_nil _ _ _ _, World.ownsRow_nil _ _ _ _⟩
  case round =>
    obtain ⟨j, G, recs, D, ga, gc, vA, vD, HGK, hj, rfl, rfl, rfl, HJ, HNE, qHB0, qHG, qHf, qHg, qH0, qLW, qHA, qHD⟩ := hrel
    clear HJ0 HB0 HG Hf Hg H0 LW
    have HB0 := qHB0
    clear qHB0
    have HG := qHG
    clear qHG
    have Hf := qHf
    clear qHf
    have Hg := qHg
    clear qHg
    have H0 := qH0
    clear qH0
    have LW := qLW
    clear qLW
    have HA := qHA
    clear qHA
    have HD := qHD
    clear qHD
    obtain ⟨hrl, hdl, hgl, -⟩ := HJ.out.bounds
    obtain ⟨wl, hwl⟩ : ∃ x, x = wr := ⟨_, rfl⟩
    subst hwl
    obtain ⟨av, kv, rfl⟩ := own_form HA.out
    obtain ⟨dv, dk, rfl⟩ := own_form HD.out
    by_cases hlt : j < l.length
    · rcases HLR.out with h | ⟨bl, offl, rfl, hbl, hcl2⟩
      · rw [h] at hlt; exact absurd hlt (Nat.not_lt_zero _)
      obtain ⟨s, hs⟩ : ∃ s, l[j]? = some s := ⟨_, List.getElem?_eq_getElem hlt⟩
      have HSC : Hid (∀ W, Below w.heap.size w W → W.cell? ⟨bl, offl + j, none⟩ = some (.string s)) := fun W hB => (hB.cell (p := ⟨bl, offl + j, none⟩) hbl).trans (by
        have := hcl2 j s hs 0 (by omega)
        rw [Nat.mul_one, Nat.add_zero] at this
        exact this)
      have hss := HSZ.out s (List.mem_of_getElem? hs)
      have HAS : Hid _ := HAP.out G s
      have HN := HNX.out F0 G recs D HJ.out s
      have HNN : Hid _ := HN
      clear HN hcl2 hs
      obtain ⟨R, hR⟩ : ∃ R, R = appRes G s := ⟨_, rfl⟩
      rw [← hR] at HAS HNN
      clear hR
      obtain ⟨RG, RD, RE⟩ := R
      dsimp only at HAS HNN
      go_upto_region 12 with fail
      go_cut [9, 10, 11] from 28 to 73 (fun s9 s10 s11 wx => (∃ (Bn : Nat) (vn dn : Value), s9 = .pointer (some ⟨Bn, 0, none⟩) ∧ s10 = dn ∧ s11 = .int .i64 RE ∧ Hid (CellsAt wx Bn 24 #[vn]) ∧ Hid (OwnFl 0 wx vn RG) ∧ Hid (wx.ownsRow 0 32 3 dn RD.length (RD.flatMap deedC)) ∧ Hid (∀ k, (Value.slice av recs.length kv).ownBlock = some k → vn.ownBlock ≠ some k)) ∧ Hid (Below w.heap.size w wx) ∧ Hid (OwnFl 0 wx (.slice ga 32 gc) G) ∧ Hid (CellsAt wx (B3) 24 #[.slice ga 32 gc]) ∧ Hid (CellsAt wx ((B3 + 1)) 24 #[.slice a1 32 c1]) ∧ Hid (IsFl (B3 + 2) wx (.slice a1 32 c1) F0) ∧ Hid ((B3 + 2) ≤ wx.heap.size) ∧ Hid (wx.ownsRow (B3 + 2) 9 1 (.slice av recs.length kv) recs.length (recs.flatMap strC)) ∧ Hid (wx.ownsRow (B3 + 2) 32 3 (.slice dv D.length dk) D.length (D.flatMap deedC)))
      case first =>
        replace HB0 : Hid (Below w.heap.size w wl.drew) := HB0.out.drew
        replace HG : Hid (OwnFl 0 wl.drew (.slice ga 32 gc) G) := ⟨HG.out.1.drew, HG.out.2⟩
        replace Hf : Hid (CellsAt wl.drew (B3) 24 #[.slice ga 32 gc]) := (Hf.out : _)
        replace Hg : Hid (CellsAt wl.drew ((B3 + 1)) 24 #[.slice a1 32 c1]) := (Hg.out : _)
        replace H0 : Hid (IsFl (B3 + 2) wl.drew (.slice a1 32 c1) F0) := (H0.out : _)
        replace LW : Hid ((B3 + 2) ≤ wl.drew.heap.size) := (LW.out : _)
        replace HA : Hid (wl.drew.ownsRow (B3 + 2) 9 1 (.slice av recs.length kv) recs.length (recs.flatMap strC)) := HA.out.drew
        replace HD : Hid (wl.drew.ownsRow (B3 + 2) 32 3 (.slice dv D.length dk) D.length (D.flatMap deedC)) := HD.out.drew
        refine wp_region_noPanic ?_
        refine wp_region_L (S := fun w' => CellsAt w' B3 24 #[.slice ga 32 gc] ∧ w'.cell? ⟨bl, offl + j, none⟩ = some (.string s)) (x := 13) (by kernel_rfl) ?_
        generalize wl.drew = wd at *
        have hS0 : CellsAt wd B3 24 #[.slice ga 32 gc] ∧ wd.cell? ⟨bl, offl + j, none⟩ = some (.string s) := ⟨Hf.out, HSC.out _ HB0.out⟩
        refine wpL_take 0 35 (.agg #[.slice ga 32 gc]) rfl (by kernel_rfl) (fun _ _ _ h => h) hS0 rfl rfl (fun w' hSw => by obtain ⟨q0, q1⟩ := hSw; have q := CellsAt.cell q0 0; simp at q; clear q0; go_simp) ?_
        simp only [List.setIfInBounds_toArray, List.set_cons_zero, List.set_cons_succ]
        refine wpL_take 1 36 (.slice (some ⟨bl, offl, none⟩) l.length lcap) rfl (by kernel_rfl) (fun _ _ _ h => h) hS0 rfl rfl (fun w' hSw => by clear hSw; go_simp) ?_
        simp only [List.setIfInBounds_toArray, List.set_cons_zero, List.set_cons_succ]
        refine wpL_take 2 37 (.int .i64 (j : Int)) rfl (by kernel_rfl) (fun _ _ _ h => h) hS0 rfl rfl (fun w' hSw => by clear hSw; go_simp) ?_
        simp only [List.setIfInBounds_toArray, List.set_cons_zero, List.set_cons_succ]
        refine wpL_take 3 38 (.pointer (some ⟨bl, offl + j, none⟩)) rfl (by kernel_rfl) (fun _ _ _ h => h) hS0 rfl rfl (fun w' hSw => by clear hSw; go_simp) ?_
        simp only [List.setIfInBounds_toArray, List.set_cons_zero, List.set_cons_succ]
        refine wpL_take 4 39 (.string s) rfl (by kernel_rfl) (fun _ _ _ h => h) hS0 rfl rfl (fun w' hSw => by obtain ⟨q0, q1⟩ := hSw; clear q0; go_simp) ?_
        simp only [List.setIfInBounds_toArray, List.set_cons_zero, List.set_cons_succ]
        clear hS0
        refine wpL_two (i := 5) (j := 10) rfl rfl (by kernel_rfl) (fun K hK => ?_) (fun K hK => ?_)
        · skip
          go_simp
          have hun := own_under HA.out
          refine (HAS.out _ _ hss (HG.out.is)).mono ?_
          rintro e wc5 ⟨⟨rq, dq, rfl, hrq, hdq⟩, bb5⟩
          replace HB0 : Hid (Below w.heap.size w wc5) := HB0.out.trans (bb5.mono HB0.out.size)
          replace HG : Hid (OwnFl 0 wc5 (.slice ga 32 gc) G) := HG.out.below bb5
          replace Hf : Hid (CellsAt wc5 (B3) 24 #[.slice ga 32 gc]) := Hf.out.below bb5 Hf.out.lt
          replace Hg : Hid (CellsAt wc5 ((B3 + 1)) 24 #[.slice a1 32 c1]) := Hg.out.below bb5 Hg.out.lt
          replace H0 : Hid (IsFl (B3 + 2) wc5 (.slice a1 32 c1) F0) := H0.out.below (bb5.mono LW.out)
          replace LW : Hid ((B3 + 2) ≤ wc5.heap.size) := Nat.le_trans LW.out bb5.size
          replace HA : Hid (wc5.ownsRow (B3 + 2) 9 1 (.slice av recs.length kv) recs.length (recs.flatMap strC)) := own_below HA.out bb5
          replace HD : Hid (wc5.ownsRow (B3 + 2) 32 3 (.slice dv D.length dk) D.length (D.flatMap deedC)) := own_below HD.out bb5
          clear bb5
          have HNQ : Hid (∀ k, (Value.slice av recs.length kv).ownBlock = some k → rq.ownBlock ≠ some k) := fun k e1 e2 => by
            have h1 := hun k e1
            have h2 := own_block hrq.1 k e2
            omega
          obtain ⟨aq, cq, rfl⟩ := own_form hrq.1
          obtain ⟨ae, ce, rfl⟩ := own_form hdq
          have HQ : Hid (OwnFl 0 wc5 (.slice aq RG.length cq) RG) := hrq.lower (Nat.zero_le _)
          have HQD : Hid (wc5.ownsRow 0 32 3 (.slice ae RD.length ce) RD.length (RD.flatMap deedC)) := own_lower hdq (Nat.zero_le _)
          clear hrq hdq hun
          go_simp
          refine hK.out _ _ ⟨Hf.out, HSC.out _ HB0.out⟩ (fun _ => ?_)
          clear hK K
          refine wpL_take 6 34 (.tuple #[.agg #[.slice aq RG.length cq], .slice ae RD.length ce, .int .i64 RE]) rfl (by kernel_rfl) (fun _ _ _ h => h) (show _ ∧ _ from ⟨Hf.out, HSC.out _ HB0.out⟩) rfl rfl (fun w' hSw => by clear hSw; go_simp) ?_
          simp only [List.setIfInBounds_toArray, List.set_cons_zero, List.set_cons_succ]
          refine wpL_take 7 41 (.agg #[.slice aq RG.length cq]) rfl (by kernel_rfl) (fun _ _ _ h => h) (show _ ∧ _ from ⟨Hf.out, HSC.out _ HB0.out⟩) rfl rfl (fun w' hSw => by clear hSw; go_simp) ?_
          simp only [List.setIfInBounds_toArray, List.set_cons_zero, List.set_cons_succ]
          refine wpL_take 8 42 (.slice ae RD.length ce) rfl (by kernel_rfl) (fun _ _ _ h => h) (show _ ∧ _ from ⟨Hf.out, HSC.out _ HB0.out⟩) rfl rfl (fun w' hSw => by clear hSw; go_simp) ?_
          simp only [List.setIfInBounds_toArray, List.set_cons_zero, List.set_cons_succ]
          refine wpL_take 9 43 (.int .i64 RE) rfl (by kernel_rfl) (fun _ _ _ h => h) (show _ ∧ _ from ⟨Hf.out, HSC.out _ HB0.out⟩) rfl rfl (fun w' hSw => by clear hSw; go_simp) ?_
          simp only [List.setIfInBounds_toArray, List.set_cons_zero, List.set_cons_succ]
          refine wpL_step (i := 10) rfl (by kernel_rfl) (fun K hK => ?_)
          go_simp
          have LTHf := Hf.out.lt
          have LTHg := Hg.out.lt
          have n_HN : Hid (CellsAt (wc5.alloc (.cells #[.slice none 0 0] 24)) (wc5.heap.size) 24 #[.slice none 0 0]) := CellsAt.new _ _ _
          have n_HB0 : Hid (Below w.heap.size w (wc5.alloc (.cells #[.slice none 0 0] 24))) := HB0.out.alloc HB0.out.size _
          have n_HG : Hid (OwnFl 0 (wc5.alloc (.cells #[.slice none 0 0] 24)) (.slice ga 32 gc) G) := HG.out.below ((Below.refl _ _).alloc (Nat.le_refl _) _)
          have n_Hf : Hid (CellsAt (wc5.alloc (.cells #[.slice none 0 0] 24)) (B3) 24 #[.slice ga 32 gc]) := Hf.out.kept (World.grownBy_alloc _ _ none) (by simp)
          have n_Hg : Hid (CellsAt (wc5.alloc (.cells #[.slice none 0 0] 24)) ((B3 + 1)) 24 #[.slice a1 32 c1]) := Hg.out.kept (World.grownBy_alloc _ _ none) (by simp)
          have n_H0 : Hid (IsFl (B3 + 2) (wc5.alloc (.cells #[.slice none 0 0] 24)) (.slice a1 32 c1) F0) := H0.out.below ((Below.refl _ _).alloc LW.out _)
          have n_LW : Hid ((B3 + 2) ≤ (wc5.alloc (.cells #[.slice none 0 0] 24)).heap.size) := Nat.le_trans LW.out (by simp)
          have n_HA : Hid ((wc5.alloc (.cells #[.slice none 0 0] 24)).ownsRow (B3 + 2) 9 1 (.slice av recs.length kv) recs.length (recs.flatMap strC)) := HA.out.alloc _
          have n_HD : Hid ((wc5.alloc (.cells #[.slice none 0 0] 24)).ownsRow (B3 + 2) 32 3 (.slice dv D.length dk) D.length (D.flatMap deedC)) := HD.out.alloc _
          have n_HQ : Hid (OwnFl 0 (wc5.alloc (.cells #[.slice none 0 0] 24)) (.slice aq RG.length cq) RG) := HQ.out.below ((Below.refl _ _).alloc (Nat.le_refl _) _)
          have n_HQD : Hid ((wc5.alloc (.cells #[.slice none 0 0] 24)).ownsRow 0 32 3 (.slice ae RD.length ce) RD.length (RD.flatMap deedC)) := HQD.out.alloc _
          clear HB0 HG Hf Hg H0 LW HA HD HQ HQD
          have HB0 := n_HB0
          clear n_HB0
          have HG := n_HG
          clear n_HG
          have Hf := n_Hf
          clear n_Hf
          have Hg := n_Hg
          clear n_Hg
          have H0 := n_H0
          clear n_H0
          have LW := n_LW
          clear n_LW
          have HA := n_HA
          clear n_HA
          have HD := n_HD
          clear n_HD
          have HQ := n_HQ
          clear n_HQ
          have HQD := n_HQD
          clear n_HQD
          have HN := n_HN
          clear n_HN
          refine hK.out _ _ ⟨Hf.out, HSC.out _ HB0.out⟩ (fun _ => ?_)
          clear hK K
          generalize (wc5.alloc (.cells #[.slice none 0 0] 24)) = wq at *
          refine wpL_step (i := 11) rfl (by kernel_rfl) (fun K hK => ?_)
          have pq0 := HN.out.cell 0
          have pq1 := HN.out.frozen 0
          simp at pq0
          go_simp
          clear pq0 pq1
          have gs := grown_set wq (wc5.heap.size) 0 (.slice aq RG.length cq)
          have zc := HN.out.set 0 (.slice aq RG.length cq)
          simp only [List.setIfInBounds_toArray, List.set_cons_zero] at zc
          have hb9 := HB0.out.setCell (p := ⟨wc5.heap.size, 0, none⟩) (by simp; omega) (.slice aq RG.length cq)
          have z_HN := HN
          have n_HB0 : Hid (Below w.heap.size w (wq.setCell ⟨wc5.heap.size, 0, none⟩ (.slice aq RG.length cq))) := hb9
          have n_HG : Hid (OwnFl 0 (wq.setCell ⟨wc5.heap.size, 0, none⟩ (.slice aq RG.length cq)) (.slice ga 32 gc) G) := ⟨own_storeAt HG.out.1 z_HN.out (by decide) 0 _, HG.out.2⟩
          have n_Hf : Hid (CellsAt (wq.setCell ⟨wc5.heap.size, 0, none⟩ (.slice aq RG.length cq)) (B3) 24 #[.slice ga 32 gc]) := Hf.out.kept gs (by intro e; injection e with e; omega)
          have n_Hg : Hid (CellsAt (wq.setCell ⟨wc5.heap.size, 0, none⟩ (.slice aq RG.length cq)) ((B3 + 1)) 24 #[.slice a1 32 c1]) := Hg.out.kept gs (by intro e; injection e with e; omega)
          have n_H0 : Hid (IsFl (B3 + 2) (wq.setCell ⟨wc5.heap.size, 0, none⟩ (.slice aq RG.length cq)) (.slice a1 32 c1) F0) := H0.out.stored z_HN.out (fun s h => by cases h) _
          have n_LW : Hid ((B3 + 2) ≤ (wq.setCell ⟨wc5.heap.size, 0, none⟩ (.slice aq RG.length cq)).heap.size) := (by have q9 := LW.out; show _ ≤ _; simpa [World.setCell] using q9)
          have n_HA : Hid ((wq.setCell ⟨wc5.heap.size, 0, none⟩ (.slice aq RG.length cq)).ownsRow (B3 + 2) 9 1 (.slice av recs.length kv) recs.length (recs.flatMap strC)) := own_storeAt HA.out z_HN.out (by decide) 0 _
          have n_HD : Hid ((wq.setCell ⟨wc5.heap.size, 0, none⟩ (.slice aq RG.length cq)).ownsRow (B3 + 2) 32 3 (.slice dv D.length dk) D.length (D.flatMap deedC)) := own_storeAt HD.out z_HN.out (by decide) 0 _
          have n_HQ : Hid (OwnFl 0 (wq.setCell ⟨wc5.heap.size, 0, none⟩ (.slice aq RG.length cq)) (.slice aq RG.length cq) RG) := ⟨own_storeAt HQ.out.1 z_HN.out (by decide) 0 _, HQ.out.2⟩
          have n_HQD : Hid ((wq.setCell ⟨wc5.heap.size, 0, none⟩ (.slice aq RG.length cq)).ownsRow 0 32 3 (.slice ae RD.length ce) RD.length (RD.flatMap deedC)) := own_storeAt HQD.out z_HN.out (by decide) 0 _
          have n_HN : Hid (CellsAt (wq.setCell ⟨wc5.heap.size, 0, none⟩ (.slice aq RG.length cq)) (wc5.heap.size) 24 #[.slice aq RG.length cq]) := zc
          clear HB0 HG Hf Hg H0 LW HA HD HQ HQD HN
          have HB0 := n_HB0
          clear n_HB0
          have HG := n_HG
          clear n_HG
          have Hf := n_Hf
          clear n_Hf
          have Hg := n_Hg
          clear n_Hg
          have H0 := n_H0
          clear n_H0
          have LW := n_LW
          clear n_LW
          have HA := n_HA
          clear n_HA
          have HD := n_HD
          clear n_HD
          have HQ := n_HQ
          clear n_HQ
          have HQD := n_HQD
          clear n_HQD
          have HN := n_HN
          clear n_HN
          clear gs zc hb9 z_HN
          refine hK.out _ _ ⟨Hf.out, HSC.out _ HB0.out⟩ (fun _ => ?_)
          clear hK K
          refine wpL_take 12 10 (.slice ae RD.length ce) rfl (by kernel_rfl) (fun _ _ _ h => h) (show _ ∧ _ from ⟨Hf.out, HSC.out _ HB0.out⟩) rfl rfl (fun w' hSw => by clear hSw; go_simp) ?_
          simp only [List.setIfInBounds_toArray, List.set_cons_zero, List.set_cons_succ]
          refine wpL_last (x := 13) rfl (by kernel_rfl) (by kernel_rfl) (fun K hK => ?_)
          go_simp
          refine hK.out _ _ ?_
          refine NoPanic.normal ?_
          clear hK K
          go_wp2_with fail
          go_meet
          exact ⟨⟨_, _, _, rfl, rfl, rfl, HN, HQ, HQD, HNQ⟩, HB0, HG, Hf, Hg, H0, LW, HA, HD⟩
        · skip
          go_simp
          have LTHf := Hf.out.lt
          have LTHg := Hg.out.lt
          have n_HN : Hid (CellsAt (wd.alloc (.cells #[.slice none 0 0] 24)) (wd.heap.size) 24 #[.slice none 0 0]) := CellsAt.new _ _ _
          have n_HB0 : Hid (Below w.heap.size w (wd.alloc (.cells #[.slice none 0 0] 24))) := HB0.out.alloc HB0.out.size _
          have n_HG : Hid (OwnFl 0 (wd.alloc (.cells #[.slice none 0 0] 24)) (.slice ga 32 gc) G) := HG.out.below ((Below.refl _ _).alloc (Nat.le_refl _) _)
          have n_Hf : Hid (CellsAt (wd.alloc (.cells #[.slice none 0 0] 24)) (B3) 24 #[.slice ga 32 gc]) := Hf.out.kept (World.grownBy_alloc _ _ none) (by simp)
          have n_Hg : Hid (CellsAt (wd.alloc (.cells #[.slice none 0 0] 24)) ((B3 + 1)) 24 #[.slice a1 32 c1]) := Hg.out.kept (World.grownBy_alloc _ _ none) (by simp)
          have n_H0 : Hid (IsFl (B3 + 2) (wd.alloc (.cells #[.slice none 0 0] 24)) (.slice a1 32 c1) F0) := H0.out.below ((Below.refl _ _).alloc LW.out _)
          have n_LW : Hid ((B3 + 2) ≤ (wd.alloc (.cells #[.slice none 0 0] 24)).heap.size) := Nat.le_trans LW.out (by simp)
          have n_HA : Hid ((wd.alloc (.cells #[.slice none 0 0] 24)).ownsRow (B3 + 2) 9 1 (.slice av recs.length kv) recs.length (recs.flatMap strC)) := HA.out.alloc _
          have n_HD : Hid ((wd.alloc (.cells #[.slice none 0 0] 24)).ownsRow (B3 + 2) 32 3 (.slice dv D.length dk) D.length (D.flatMap deedC)) := HD.out.alloc _
          clear HB0 HG Hf Hg H0 LW HA HD
          have HB0 := n_HB0
          clear n_HB0
          have HG := n_HG
          clear n_HG
          have Hf := n_Hf
          clear n_Hf
          have Hg := n_Hg
          clear n_Hg
          have H0 := n_H0
          clear n_H0
          have LW := n_LW
          clear n_LW
          have HA := n_HA
          clear n_HA
          have HD := n_HD
          clear n_HD
          have HN := n_HN
          clear n_HN
          refine hK.out _ _ ⟨Hf.out, HSC.out _ HB0.out⟩ (fun _ => ?_)
          clear hK K
          generalize (wd.alloc (.cells #[.slice none 0 0] 24)) = wq at *
          refine wpL_step (i := 5) rfl (by kernel_rfl) (fun K hK => ?_)
          go_simp
          have hun := own_under HA.out
          refine (HAS.out _ _ hss (HG.out.is)).mono ?_
          rintro e wc8 ⟨⟨rq, dq, rfl, hrq, hdq⟩, bb8⟩
          replace HB0 : Hid (Below w.heap.size w wc8) := HB0.out.trans (bb8.mono HB0.out.size)
          replace HG : Hid (OwnFl 0 wc8 (.slice ga 32 gc) G) := HG.out.below bb8
          replace Hf : Hid (CellsAt wc8 (B3) 24 #[.slice ga 32 gc]) := Hf.out.below bb8 Hf.out.lt
          replace Hg : Hid (CellsAt wc8 ((B3 + 1)) 24 #[.slice a1 32 c1]) := Hg.out.below bb8 Hg.out.lt
          replace H0 : Hid (IsFl (B3 + 2) wc8 (.slice a1 32 c1) F0) := H0.out.below (bb8.mono LW.out)
          replace LW : Hid ((B3 + 2) ≤ wc8.heap.size) := Nat.le_trans LW.out bb8.size
          replace HA : Hid (wc8.ownsRow (B3 + 2) 9 1 (.slice av recs.length kv) recs.length (recs.flatMap strC)) := own_below HA.out bb8
          replace HD : Hid (wc8.ownsRow (B3 + 2) 32 3 (.slice dv D.length dk) D.length (D.flatMap deedC)) := own_below HD.out bb8
          replace HN : Hid (CellsAt wc8 (wd.heap.size) 24 #[.slice none 0 0]) := HN.out.below bb8 HN.out.lt
          clear bb8
          have HNQ : Hid (∀ k, (Value.slice av recs.length kv).ownBlock = some k → rq.ownBlock ≠ some k) := fun k e1 e2 => by
            have h1 := hun k e1
            have h2 := own_block hrq.1 k e2
            omega
          obtain ⟨aq, cq, rfl⟩ := own_form hrq.1
          obtain ⟨ae, ce, rfl⟩ := own_form hdq
          have HQ : Hid (OwnFl 0 wc8 (.slice aq RG.length cq) RG) := hrq.lower (Nat.zero_le _)
          have HQD : Hid (wc8.ownsRow 0 32 3 (.slice ae RD.length ce) RD.length (RD.flatMap deedC)) := own_lower hdq (Nat.zero_le _)
          clear hrq hdq hun
          go_simp
          refine hK.out _ _ ⟨Hf.out, HSC.out _ HB0.out⟩ (fun _ => ?_)
          clear hK K
          refine wpL_take 6 34 (.tuple #[.agg #[.slice aq RG.length cq], .slice ae RD.length ce, .int .i64 RE]) rfl (by kernel_rfl) (fun _ _ _ h => h) (show _ ∧ _ from ⟨Hf.out, HSC.out _ HB0.out⟩) rfl rfl (fun w' hSw => by clear hSw; go_simp) ?_
          simp only [List.setIfInBounds_toArray, List.set_cons_zero, List.set_cons_succ]
          refine wpL_take 7 41 (.agg #[.slice aq RG.length cq]) rfl (by kernel_rfl) (fun _ _ _ h => h) (show _ ∧ _ from ⟨Hf.out, HSC.out _ HB0.out⟩) rfl rfl (fun w' hSw => by clear hSw; go_simp) ?_
          simp only [List.setIfInBounds_toArray, List.set_cons_zero, List.set_cons_succ]
          refine wpL_take 8 42 (.slice ae RD.length ce) rfl (by kernel_rfl) (fun _ _ _ h => h) (show _ ∧ _ from ⟨Hf.out, HSC.out _ HB0.out⟩) rfl rfl (fun w' hSw => by clear hSw; go_simp) ?_
          simp only [List.setIfInBounds_toArray, List.set_cons_zero, List.set_cons_succ]
          refine wpL_take 9 43 (.int .i64 RE) rfl (by kernel_rfl) (fun _ _ _ h => h) (show _ ∧ _ from ⟨Hf.out, HSC.out _ HB0.out⟩) rfl rfl (fun w' hSw => by clear hSw; go_simp) ?_
          simp only [List.setIfInBounds_toArray, List.set_cons_zero, List.set_cons_succ]
          refine wpL_step (i := 11) rfl (by kernel_rfl) (fun K hK => ?_)
          have pq0 := HN.out.cell 0
          have pq1 := HN.out.frozen 0
          simp at pq0
          go_simp
          clear pq0 pq1
          have gs := grown_set wc8 (wd.heap.size) 0 (.slice aq RG.length cq)
          have zc := HN.out.set 0 (.slice aq RG.length cq)
          simp only [List.setIfInBounds_toArray, List.set_cons_zero] at zc
          have hb9 := HB0.out.setCell (p := ⟨wd.heap.size, 0, none⟩) (by simp; omega) (.slice aq RG.length cq)
          have z_HN := HN
          have n_HB0 : Hid (Below w.heap.size w (wc8.setCell ⟨wd.heap.size, 0, none⟩ (.slice aq RG.length cq))) := hb9
          have n_HG : Hid (OwnFl 0 (wc8.setCell ⟨wd.heap.size, 0, none⟩ (.slice aq RG.length cq)) (.slice ga 32 gc) G) := ⟨own_storeAt HG.out.1 z_HN.out (by decide) 0 _, HG.out.2⟩
          have n_Hf : Hid (CellsAt (wc8.setCell ⟨wd.heap.size, 0, none⟩ (.slice aq RG.length cq)) (B3) 24 #[.slice ga 32 gc]) := Hf.out.kept gs (by intro e; injection e with e; omega)
          have n_Hg : Hid (CellsAt (wc8.setCell ⟨wd.heap.size, 0, none⟩ (.slice aq RG.length cq)) ((B3 + 1)) 24 #[.slice a1 32 c1]) := Hg.out.kept gs (by intro e; injection e with e; omega)
          have n_H0 : Hid (IsFl (B3 + 2) (wc8.setCell ⟨wd.heap.size, 0, none⟩ (.slice aq RG.length cq)) (.slice a1 32 c1) F0) := H0.out.stored z_HN.out (fun s h => by cases h) _
          have n_LW : Hid ((B3 + 2) ≤ (wc8.setCell ⟨wd.heap.size, 0, none⟩ (.slice aq RG.length cq)).heap.size) := (by have q9 := LW.out; show _ ≤ _; simpa [World.setCell] using q9)
          have n_HA : Hid ((wc8.setCell ⟨wd.heap.size, 0, none⟩ (.slice aq RG.length cq)).ownsRow (B3 + 2) 9 1 (.slice av recs.length kv) recs.length (recs.flatMap strC)) := own_storeAt HA.out z_HN.out (by decide) 0 _
          have n_HD : Hid ((wc8.setCell ⟨wd.heap.size, 0, none⟩ (.slice aq RG.length cq)).ownsRow (B3 + 2) 32 3 (.slice dv D.length dk) D.length (D.flatMap deedC)) := own_storeAt HD.out z_HN.out (by decide) 0 _
          have n_HN : Hid (CellsAt (wc8.setCell ⟨wd.heap.size, 0, none⟩ (.slice aq RG.length cq)) (wd.heap.size) 24 #[.slice aq RG.length cq]) := zc
          have n_HQ : Hid (OwnFl 0 (wc8.setCell ⟨wd.heap.size, 0, none⟩ (.slice aq RG.length cq)) (.slice aq RG.length cq) RG) := ⟨own_storeAt HQ.out.1 z_HN.out (by decide) 0 _, HQ.out.2⟩
          have n_HQD : Hid ((wc8.setCell ⟨wd.heap.size, 0, none⟩ (.slice aq RG.length cq)).ownsRow 0 32 3 (.slice ae RD.length ce) RD.length (RD.flatMap deedC)) := own_storeAt HQD.out z_HN.out (by decide) 0 _
          clear HB0 HG Hf Hg H0 LW HA HD HN HQ HQD
          have HB0 := n_HB0
          clear n_HB0
          have HG := n_HG
          clear n_HG
          have Hf := n_Hf
          clear n_Hf
          have Hg := n_Hg
          clear n_Hg
          have H0 := n_H0
          clear n_H0
          have LW := n_LW
          clear n_LW
          have HA := n_HA
          clear n_HA
          have HD := n_HD
          clear n_HD
          have HN := n_HN
          clear n_HN
          have HQ := n_HQ
          clear n_HQ
          have HQD := n_HQD
          clear n_HQD
          clear gs zc hb9 z_HN
          refine hK.out _ _ ⟨Hf.out, HSC.out _ HB0.out⟩ (fun _ => ?_)
          clear hK K
          refine wpL_take 12 10 (.slice ae RD.length ce) rfl (by kernel_rfl) (fun _ _ _ h => h) (show _ ∧ _ from ⟨Hf.out, HSC.out _ HB0.out⟩) rfl rfl (fun w' hSw => by clear hSw; go_simp) ?_
          simp only [List.setIfInBounds_toArray, List.set_cons_zero, List.set_cons_succ]
          refine wpL_last (x := 13) rfl (by kernel_rfl) (by kernel_rfl) (fun K hK => ?_)
          go_simp
          refine hK.out _ _ ?_
          refine NoPanic.normal ?_
          clear hK K
          go_wp2_with fail
          go_meet
          exact ⟨⟨_, _, _, rfl, rfl, rfl, HN, HQ, HQD, HNQ⟩, HB0, HG, Hf, Hg, H0, LW, HA, HD⟩
      case rest =>
      obtain ⟨⟨Bn, vn, dn, rfl, rfl, rfl, HN, HQ, HQD, HNQ⟩, HB0, HG, Hf, Hg, H0, LW, HA, HD⟩ := hcut
      obtain ⟨w4, hw4⟩ : ∃ x, x = wc := ⟨_, rfl⟩
      subst hw4
      clear HAS
      rcases HNN.out with ⟨L, hap, h1, h8, hJ2⟩ | ⟨hg, hd, hcs⟩
      · injection hap with e1 hap
        injection hap with e2 e3
        subst e1 e2 e3
        have HJ2 : Hid _ := hJ2
        obtain ⟨-, -, hgl2, -⟩ := hJ2.bounds
        clear HNN hJ2
        generalize doneAll G RD = G2 at *
        obtain ⟨na, nc, rfl⟩ := own_form HQ.out.1
        obtain ⟨gd, cd, rfl, hcells⟩ := own_some HQD.out h1
        clear hcells
        rw [hgl2] at HN HNQ HQ
        have HQ2 : Hid (OwnFl 0 w4 (.slice na 32 nc) G2) := HQ
        clear HQ
        have HQ : Hid (OwnFl 0 w4 (.slice na 32 nc) G2) := HQ2
        clear HQ2
        have pl_HN_0 := HN.out.cell 0
        simp at pl_HN_0
        have pl_HN_lt := HN.out.lt
        have pl_Hf_0 := Hf.out.cell 0
        simp at pl_Hf_0
        have pl_Hf_lt := Hf.out.lt
        have pf := Hf.out.frozen 0
        go_upto_region 17 with fail
        clear pf pl_HN_0 pl_HN_lt pl_Hf_0 pl_Hf_lt
        clear HG
        have HGG := HQ
        clear HQ
        have HG := HGG
        clear HGG
        have LTf : B3 < w4.heap.size := Hf.out.lt
        clear HN
        have gs := grown_set w4 (B3) 0 (.slice na 32 nc)
        have zc := Hf.out.set 0 (.slice na 32 nc)
        simp only [List.setIfInBounds_toArray, List.set_cons_zero] at zc
        have hb9 := HB0.out.setCell (p := ⟨B3, 0, none⟩) (by simp; omega) (.slice na 32 nc)
        have z_Hf := Hf
        have n_HB0 : Hid (Below w.heap.size w (w4.setCell ⟨B3, 0, none⟩ (.slice na 32 nc))) := hb9
        have n_Hf : Hid (CellsAt (w4.setCell ⟨B3, 0, none⟩ (.slice na 32 nc)) (B3) 24 #[.slice na 32 nc]) := zc
        have n_Hg : Hid (CellsAt (w4.setCell ⟨B3, 0, none⟩ (.slice na 32 nc)) ((B3 + 1)) 24 #[.slice a1 32 c1]) := Hg.out.kept gs (by intro e; injection e with e; omega)
        have n_H0 : Hid (IsFl (B3 + 2) (w4.setCell ⟨B3, 0, none⟩ (.slice na 32 nc)) (.slice a1 32 c1) F0) := H0.out.stored z_Hf.out (fun s h => by cases h) _
        have n_LW : Hid ((B3 + 2) ≤ (w4.setCell ⟨B3, 0, none⟩ (.slice na 32 nc)).heap.size) := (by have q9 := LW.out; show _ ≤ _; simpa [World.setCell] using q9)
        have n_HA : Hid ((w4.setCell ⟨B3, 0, none⟩ (.slice na 32 nc)).ownsRow (B3 + 2) 9 1 (.slice av recs.length kv) recs.length (recs.flatMap strC)) := own_storeAt HA.out z_Hf.out (by decide) 0 _
        have n_HD : Hid ((w4.setCell ⟨B3, 0, none⟩ (.slice na 32 nc)).ownsRow (B3 + 2) 32 3 (.slice dv D.length dk) D.length (D.flatMap deedC)) := own_storeAt HD.out z_Hf.out (by decide) 0 _
        have n_HQD : Hid ((w4.setCell ⟨B3, 0, none⟩ (.slice na 32 nc)).ownsRow 0 32 3 (.slice (some ⟨gd, 0, none⟩) RD.length cd) RD.length (RD.flatMap deedC)) := own_storeAt HQD.out z_Hf.out (by decide) 0 _
        have n_HG : Hid (OwnFl 0 (w4.setCell ⟨B3, 0, none⟩ (.slice na 32 nc)) (.slice na 32 nc) G2) := ⟨own_storeAt HG.out.1 z_Hf.out (by decide) 0 _, HG.out.2⟩
        clear HB0 Hf Hg H0 LW HA HD HQD HG
        have HB0 := n_HB0
        clear n_HB0
        have Hf := n_Hf
        clear n_Hf
        have Hg := n_Hg
        clear n_Hg
        have H0 := n_H0
        clear n_H0
        have LW := n_LW
        clear n_LW
        have HA := n_HA
        clear n_HA
        have HD := n_HD
        clear n_HD
        have HQD := n_HQD
        clear n_HQD
        have HG := n_HG
        clear n_HG
        clear gs zc hb9 z_Hf
        generalize (w4.setCell ⟨B3, 0, none⟩ (.slice na 32 nc)) = w5 at *
        have hcs := HSC.out _ HB0.out
        have n_HX : Hid (CellsAt (w5.alloc (.cells #[.string s] 9)) (w5.heap.size) 9 #[.string s]) := CellsAt.new _ _ _
        have n_HB0 : Hid (Below w.heap.size w (w5.alloc (.cells #[.string s] 9))) := HB0.out.alloc HB0.out.size _
        have n_Hf : Hid (CellsAt (w5.alloc (.cells #[.string s] 9)) (B3) 24 #[.slice na 32 nc]) := Hf.out.kept (World.grownBy_alloc _ _ none) (by simp)
        have n_Hg : Hid (CellsAt (w5.alloc (.cells #[.string s] 9)) ((B3 + 1)) 24 #[.slice a1 32 c1]) := Hg.out.kept (World.grownBy_alloc _ _ none) (by simp)
        have n_H0 : Hid (IsFl (B3 + 2) (w5.alloc (.cells #[.string s] 9)) (.slice a1 32 c1) F0) := H0.out.below ((Below.refl _ _).alloc LW.out _)
        have n_LW : Hid ((B3 + 2) ≤ (w5.alloc (.cells #[.string s] 9)).heap.size) := Nat.le_trans LW.out (by simp)
        have n_HA : Hid ((w5.alloc (.cells #[.string s] 9)).ownsRow (B3 + 2) 9 1 (.slice av recs.length kv) recs.length (recs.flatMap strC)) := HA.out.alloc _
        have n_HD : Hid ((w5.alloc (.cells #[.string s] 9)).ownsRow (B3 + 2) 32 3 (.slice dv D.length dk) D.length (D.flatMap deedC)) := HD.out.alloc _
        have n_HQD : Hid ((w5.alloc (.cells #[.string s] 9)).ownsRow 0 32 3 (.slice (some ⟨gd, 0, none⟩) RD.length cd) RD.length (RD.flatMap deedC)) := HQD.out.alloc _
        have n_HG : Hid (OwnFl 0 (w5.alloc (.cells #[.string s] 9)) (.slice na 32 nc) G2) := HG.out.below ((Below.refl _ _).alloc (Nat.le_refl _) _)
        clear HB0 Hf Hg H0 LW HA HD HQD HG
        have HB0 := n_HB0
        clear n_HB0
        have Hf := n_Hf
        clear n_Hf
        have Hg := n_Hg
        clear n_Hg
        have H0 := n_H0
        clear n_H0
        have LW := n_LW
        clear n_LW
        have HA := n_HA
        clear n_HA
        have HD := n_HD
        clear n_HD
        have HQD := n_HQD
        clear n_HQD
        have HG := n_HG
        clear n_HG
        have HX := n_HX
        clear n_HX
        have hun := own_under HG.out.1
        have HRP : Hid (recs.flatMap strC ++ [.string s] = (recs ++ [s]).flatMap strC) := by
          show _ = _
          rw [List.flatMap_append]; rfl
        have HRL : Hid ((recs ++ [s]).length = recs.length + 1) := (by simp : _ = _)
        have HDP : Hid (D.flatMap deedC ++ RD.flatMap deedC = (D ++ RD).flatMap deedC) := by
          show _ = _
          rw [List.flatMap_append]
        have HDL : Hid ((D ++ RD).length = D.length + RD.length) := (by simp : _ = _)
        go_upto_region 18 with (at_builtin; refine wpList_append_lies _ rfl _ _ _ rfl (B3 + 2) 9 is _ 1 16 Try.underlying22 his hs0 hs1 hs2 rfl (by omega) (.slice av recs.length kv) recs.length (recs.flatMap strC) rfl HA.out ⟨w5.heap.size, 0, none⟩ 1 1 [.string s] rfl rfl (World.news_of_block (cs := #[.string s]) (t := 9) (fr := (0, 0)) HX.out) (by simp [Value.oneCell']) (by omega) (by unfold maxLen; omega) (by omega) LW.out (w5.heap.size + 1) (by simp) ?_; intro g8 gc8 w8 hown8 hgrow hat hltg)
        rw [HRP.out] at hown8
        have HNE2 : Hid (∀ k, (Value.slice (some ⟨g8, 0, none⟩) (recs.length + 1) gc8).ownBlock = some k → (Value.slice na 32 nc).ownBlock ≠ some k) := fun k e1 e2 => by
          have e3 : g8 = k := by simpa [Value.ownBlock] using e1
          subst e3
          rcases hat with h | h
          · exact HNQ.out _ h e2
          · have := hun _ e2
            simp at this
            omega
        have hge := HNQ
        clear HX
        have n_HB0 : Hid (Below w.heap.size w w8) := HB0.out.grown hgrow HB0.out.size (fun q hq => by have := own_block HA.out q hq; omega)
        have n_Hf : Hid (CellsAt w8 (B3) 24 #[.slice na 32 nc]) := Hf.out.kept hgrow (fun e => own_ne_cells HA.out Hf.out (by decide) e.symm)
        have n_Hg : Hid (CellsAt w8 ((B3 + 1)) 24 #[.slice a1 32 c1]) := Hg.out.kept hgrow (fun e => own_ne_cells HA.out Hg.out (by decide) e.symm)
        have n_H0 : Hid (IsFl (B3 + 2) w8 (.slice a1 32 c1) F0) := H0.out.below ((Below.refl _ _).grown hgrow LW.out (fun q hq => own_block HA.out q hq))
        have n_LW : Hid ((B3 + 2) ≤ w8.heap.size) := Nat.le_trans LW.out hgrow.size
        have n_HA : Hid (w8.ownsRow (B3 + 2) 9 1 (.slice (some ⟨g8, 0, none⟩) (recs.length + 1) gc8) (recs.length + 1) ((recs ++ [s]).flatMap strC)) := hown8
        have n_HD : Hid (w8.ownsRow (B3 + 2) 32 3 (.slice dv D.length dk) D.length (D.flatMap deedC)) := HD.out.kept hgrow (own_ne_own HD.out HA.out (by decide))
        have n_HQD : Hid (w8.ownsRow 0 32 3 (.slice (some ⟨gd, 0, none⟩) RD.length cd) RD.length (RD.flatMap deedC)) := HQD.out.kept hgrow (own_ne_own HQD.out HA.out (by decide))
        have n_HG : Hid (OwnFl 0 w8 (.slice na 32 nc) G2) := ⟨HG.out.1.kept hgrow (own_apart HNQ.out), HG.out.2⟩
        clear HB0 Hf Hg H0 LW HA HD HQD HG
        have HB0 := n_HB0
        clear n_HB0
        have Hf := n_Hf
        clear n_Hf
        have Hg := n_Hg
        clear n_Hg
        have H0 := n_H0
        clear n_H0
        have LW := n_LW
        clear n_LW
        have HA := n_HA
        clear n_HA
        have HD := n_HD
        clear n_HD
        have HQD := n_HQD
        clear n_HQD
        have HG := n_HG
        clear n_HG
        clear hown8 hgrow hat hltg hun hcs
        obtain ⟨_, _, e9, hcells⟩ := own_some HQD.out h1
        injection e9 with e9 _ e10
        injection e9 with e9
        injection e9 with e9
        subst e9 e10
        go_wp2_with (at_builtin; refine wpList_append_lies _ rfl _ _ _ rfl (B3 + 2) 32 ie _ 3 24 Try.underlying25 hie he0 he1 he2 rfl (by omega) (.slice dv D.length dk) D.length (D.flatMap deedC) rfl HD.out ⟨gd, 0, none⟩ RD.length cd (RD.flatMap deedC) rfl (flat_len (sz := 3) (fun _ => rfl) RD) hcells (deedC_one RD) (by omega) (by unfold maxLen; omega) (by omega) LW.out w8.heap.size rfl ?_; intro g9 gc9 w9 hown8 hgrow hat hltg)
        rw [HDP.out] at hown8
        clear HQD
        have n_HB0 : Hid (Below w.heap.size w w9) := HB0.out.grown hgrow HB0.out.size (fun q hq => by have := own_block HD.out q hq; omega)
        have n_Hf : Hid (CellsAt w9 (B3) 24 #[.slice na 32 nc]) := Hf.out.kept hgrow (fun e => own_ne_cells HD.out Hf.out (by decide) e.symm)
        have n_Hg : Hid (CellsAt w9 ((B3 + 1)) 24 #[.slice a1 32 c1]) := Hg.out.kept hgrow (fun e => own_ne_cells HD.out Hg.out (by decide) e.symm)
        have n_H0 : Hid (IsFl (B3 + 2) w9 (.slice a1 32 c1) F0) := H0.out.below ((Below.refl _ _).grown hgrow LW.out (fun q hq => own_block HD.out q hq))
        have n_LW : Hid ((B3 + 2) ≤ w9.heap.size) := Nat.le_trans LW.out hgrow.size
        have n_HA : Hid (w9.ownsRow (B3 + 2) 9 1 (.slice (some ⟨g8, 0, none⟩) (recs.length + 1) gc8) (recs.length + 1) ((recs ++ [s]).flatMap strC)) := HA.out.kept hgrow (own_ne_own HA.out HD.out (by decide))
        have n_HD : Hid (w9.ownsRow (B3 + 2) 32 3 (.slice (some ⟨g9, 0, none⟩) (D.length + RD.length) gc9) (D.length + RD.length) ((D ++ RD).flatMap deedC)) := hown8
        have n_HG : Hid (OwnFl 0 w9 (.slice na 32 nc) G2) := ⟨HG.out.1.kept hgrow (own_ne_own HG.out.1 HD.out (by decide)), HG.out.2⟩
        clear HB0 Hf Hg H0 LW HA HD HG
        have HB0 := n_HB0
        clear n_HB0
        have Hf := n_Hf
        clear n_Hf
        have Hg := n_Hg
        clear n_Hg
        have H0 := n_H0
        clear n_H0
        have LW := n_LW
        clear n_LW
        have HA := n_HA
        clear n_HA
        have HD := n_HD
        clear n_HD
        have HG := n_HG
        clear n_HG
        go_roundg (l.length - (j + 1))
        case measure =>
          have := HGK.out
          omega
        case rel =>
          have HA2 : Hid (w9.ownsRow (B3 + 2) 9 1 (.slice (some ⟨g8, 0, none⟩) (recs.length + 1) gc8) (recs ++ [s]).length ((recs ++ [s]).flatMap strC)) := by rw [HRL.out]; exact HA
          have HD2 : Hid (w9.ownsRow (B3 + 2) 32 3 (.slice (some ⟨g9, 0, none⟩) (D.length + RD.length) gc9) (D ++ RD).length ((D ++ RD).flatMap deedC)) := by rw [HDL.out]; exact HD
          exact ⟨j + 1, G2, recs ++ [s], D ++ RD, na, nc, _, _, (rfl : l.length - (j + 1) = l.length - (j + 1)), by omega, rfl, rfl, by go_num, HJ2, HNE2, HB0, HG, Hf, Hg, H0, LW, HA2, HD2⟩
      · skip
        have hcq := HSC.out _ HB0.out
        clear HNN HN HQ HQD HNQ
        have HKK : Hid (s.size ≠ 0 → s.toList.isEmpty = false) := fun h0 => by
          rw [ByteArray.toList_eq]
          cases hc : s.data.toList.isEmpty with
          | false => rfl
          | true => exact absurd (show s.data.size = 0 by rw [← Array.length_toList, List.isEmpty_iff.1 hc]; rfl) h0
        rcases hcs with ⟨h3, rfl⟩ | ⟨h3, rfl⟩ | ⟨h3, h4, rfl⟩
        · obtain rfl : s = ⟨#[]⟩ := ByteArray.ext (Array.eq_empty_of_size_eq_zero h3)
          clear HKK h3
          go_wp2_with fail
          go_roundg (l.length - (j + 1))
          case measure =>
            have := HGK.out
            omega
          case rel => exact ⟨j + 1, G, recs, D, ga, gc, _, _, (rfl : l.length - (j + 1) = l.length - (j + 1)), by omega, rfl, rfl, by go_num, HJ, HNE, HB0, HG, Hf, Hg, H0, LW, HA, HD⟩
        · have ke := HKK.out (by omega)
          have k8 : ¬ (s.size : Int) ≤ 800 := by omega
          clear HKK h3
          go_wp2_with fail
          go_roundg (l.length - (j + 1))
          case measure =>
            have := HGK.out
            omega
          case rel => exact ⟨j + 1, G, recs, D, ga, gc, _, _, (rfl : l.length - (j + 1) = l.length - (j + 1)), by omega, rfl, rfl, by go_num, HJ, HNE, HB0, HG, Hf, Hg, H0, LW, HA, HD⟩
        · have ke := HKK.out (by omega)
          have k8 : (s.size : Int) ≤ 800 := by omega
          clear HKK h3 h4
          go_wp2_with fail
          go_roundg (l.length - (j + 1))
          case measure =>
            have := HGK.out
            omega
          case rel => exact ⟨j + 1, G, recs, D, ga, gc, _, _, (rfl : l.length - (j + 1) = l.length - (j + 1)), by omega, rfl, rfl, by go_num, HJ, HNE, HB0, HG, Hf, Hg, H0, LW, HA, HD⟩
    · obtain rfl : j = l.length := by omega
      have HO2 : Hid (∀ v W, IsFl W.heap.size W v G → Calls Try.prog 24 #[.agg #[v]] W fun e w' => (∃ r, e = .returned (.tuple #[r, .int .i64 0]) ∧ w'.ownsRow W.heap.size 9 1 r recs.length (recs.flatMap strC)) ∧ Below W.heap.size W w') := fun v W h => by
        have := HOP.out G v W h
        rw [HJ.out.there] at this
        exact this
      have HD2 : Hid (∀ v vl W, IsFl W.heap.size W v F0 → RowOf 3 Deed.cell W.heap.size W vl D → Calls Try.prog 8 #[.agg #[v], vl] W fun e w' => (∃ r, e = .returned (.tuple #[.agg #[r], .int .i64 0]) ∧ IsFl w'.heap.size w' r G) ∧ Below W.heap.size W w') := fun v vl W h1 h2 => by
        have := HDO.out F0 D v vl W h1 h2
        rw [HJ.out.done.1, HJ.out.done.2] at this
        exact this
      clear HNX HAP HLR HOP HDO HGK
      have pl_Hf_0 := Hf.out.cell 0
      simp at pl_Hf_0
      have pl_Hf_lt := Hf.out.lt
      go_wp2_with fail
      clear pl_Hf_0 pl_Hf_lt
      refine (HO2.out _ _ HG.out.is).mono ?_
      rintro e wc10 ⟨⟨ro, rfl, hro⟩, bb10⟩
      replace HB0 : Hid (Below w.heap.size w wc10) := HB0.out.trans (bb10.mono HB0.out.size)
      replace HG : Hid (OwnFl 0 wc10 (.slice ga 32 gc) G) := HG.out.below bb10
      replace Hf : Hid (CellsAt wc10 (B3) 24 #[.slice ga 32 gc]) := Hf.out.below bb10 Hf.out.lt
      replace Hg : Hid (CellsAt wc10 ((B3 + 1)) 24 #[.slice a1 32 c1]) := Hg.out.below bb10 Hg.out.lt
      replace H0 : Hid (IsFl (B3 + 2) wc10 (.slice a1 32 c1) F0) := H0.out.below (bb10.mono LW.out)
      replace LW : Hid ((B3 + 2) ≤ wc10.heap.size) := Nat.le_trans LW.out bb10.size
      replace HA : Hid (wc10.ownsRow (B3 + 2) 9 1 (.slice av recs.length kv) recs.length (recs.flatMap strC)) := own_below HA.out bb10
      replace HD : Hid (wc10.ownsRow (B3 + 2) 32 3 (.slice dv D.length dk) D.length (D.flatMap deedC)) := own_below HD.out bb10
      clear bb10
      have hrw := own_rows (C := strC) (fun _ => rfl) strC_at hro (by omega)
      obtain ⟨oa, oc, rfl⟩ := own_form hro
      have HR : Hid (RowOf 1 strCell wc10.heap.size wc10 (.slice oa recs.length oc) recs) := hrw
      clear hrw hro HO2
      have pl_Hg_0 := Hg.out.cell 0
      simp at pl_Hg_0
      have pl_Hg_lt := Hg.out.lt
      go_wp2_with fail
      clear pl_Hg_0 pl_Hg_lt
      refine (HD2.out _ _ _ (H0.out.more LW.out) (own_rows (C := deedC) (fun _ => rfl) deedC_at HD.out (by omega))).mono ?_
      rintro e wc11 ⟨⟨ry, rfl, hry⟩, bb11⟩
      replace HB0 : Hid (Below w.heap.size w wc11) := HB0.out.trans (bb11.mono HB0.out.size)
      replace HG : Hid (OwnFl 0 wc11 (.slice ga 32 gc) G) := HG.out.below bb11
      replace Hf : Hid (CellsAt wc11 (B3) 24 #[.slice ga 32 gc]) := Hf.out.below bb11 Hf.out.lt
      replace Hg : Hid (CellsAt wc11 ((B3 + 1)) 24 #[.slice a1 32 c1]) := Hg.out.below bb11 Hg.out.lt
      replace H0 : Hid (IsFl (B3 + 2) wc11 (.slice a1 32 c1) F0) := H0.out.below (bb11.mono LW.out)
      replace LW : Hid ((B3 + 2) ≤ wc11.heap.size) := Nat.le_trans LW.out bb11.size
      replace HA : Hid (wc11.ownsRow (B3 + 2) 9 1 (.slice av recs.length kv) recs.length (recs.flatMap strC)) := own_below HA.out bb11
      replace HD : Hid (wc11.ownsRow (B3 + 2) 32 3 (.slice dv D.length dk) D.length (D.flatMap deedC)) := own_below HD.out bb11
      replace HR : Hid (RowOf 1 strCell wc11.heap.size wc11 (.slice oa recs.length oc) recs) := (HR.out.below bb11).more bb11.size
      clear bb11
      obtain ⟨⟨ya, yc, rfl, _, _⟩, _⟩ := id hry
      rw [hgl] at hry ⊢
      have HY : Hid (IsFl wc11.heap.size wc11 (.slice ya 32 yc) G) := hry
      clear hry HD2
      have n_Hy : Hid (CellsAt (wc11.alloc (.cells #[.slice ya 32 yc] 24)) (wc11.heap.size) 24 #[.slice ya 32 yc]) := by first | exact CellsAt.new _ _ _ | (have := CellsAt.new wc11 24 #[.slice ya 32 yc]; simp only [World.size_alloc] at this; exact this)
      have n_HB0 : Hid (Below w.heap.size w (wc11.alloc (.cells #[.slice ya 32 yc] 24))) := HB0.out.alloc HB0.out.size _
      have n_HG : Hid (OwnFl 0 (wc11.alloc (.cells #[.slice ya 32 yc] 24)) (.slice ga 32 gc) G) := HG.out.below ((Below.refl _ _).alloc (Nat.le_refl _) _)
      have n_Hf : Hid (CellsAt (wc11.alloc (.cells #[.slice ya 32 yc] 24)) (B3) 24 #[.slice ga 32 gc]) := Hf.out.kept (World.grownBy_alloc _ _ none) (by simp)
      have n_Hg : Hid (CellsAt (wc11.alloc (.cells #[.slice ya 32 yc] 24)) ((B3 + 1)) 24 #[.slice a1 32 c1]) := Hg.out.kept (World.grownBy_alloc _ _ none) (by simp)
      have n_H0 : Hid (IsFl (B3 + 2) (wc11.alloc (.cells #[.slice ya 32 yc] 24)) (.slice a1 32 c1) F0) := H0.out.below ((Below.refl _ _).alloc LW.out _)
      have n_LW : Hid ((B3 + 2) ≤ (wc11.alloc (.cells #[.slice ya 32 yc] 24)).heap.size) := Nat.le_trans LW.out (by simp)
      have n_HA : Hid ((wc11.alloc (.cells #[.slice ya 32 yc] 24)).ownsRow (B3 + 2) 9 1 (.slice av recs.length kv) recs.length (recs.flatMap strC)) := HA.out.alloc _
      have n_HD : Hid ((wc11.alloc (.cells #[.slice ya 32 yc] 24)).ownsRow (B3 + 2) 32 3 (.slice dv D.length dk) D.length (D.flatMap deedC)) := HD.out.alloc _
      have n_HR : Hid (RowOf 1 strCell (wc11.alloc (.cells #[.slice ya 32 yc] 24)).heap.size (wc11.alloc (.cells #[.slice ya 32 yc] 24)) (.slice oa recs.length oc) recs) := (HR.out.below ((Below.refl _ _).alloc (Nat.le_refl _) _)).more (by simp)
      have n_HY : Hid (IsFl (wc11.alloc (.cells #[.slice ya 32 yc] 24)).heap.size (wc11.alloc (.cells #[.slice ya 32 yc] 24)) (.slice ya 32 yc) G) := (HY.out.below ((Below.refl _ _).alloc (Nat.le_refl _) _)).more (by simp)
      clear HB0 HG Hf Hg H0 LW HA HD HR HY
      have HB0 := n_HB0
      clear n_HB0
      have HG := n_HG
      clear n_HG
      have Hf := n_Hf
      clear n_Hf
      have Hg := n_Hg
      clear n_Hg
      have H0 := n_H0
      clear n_H0
      have LW := n_LW
      clear n_LW
      have HA := n_HA
      clear n_HA
      have HD := n_HD
      clear n_HD
      have HR := n_HR
      clear n_HR
      have HY := n_HY
      clear n_HY
      have Hy := n_Hy
      clear n_Hy
      go_upto_region 21 with fail
      generalize (wc11.alloc (.cells #[.slice ya 32 yc] 24)) = w31 at *
      go_wp2_with fail
      refine (HST.out recs _ _ _ HR.out (own_rows (C := strC) (fun _ => rfl) strC_at HA.out (by omega))).mono ?_
      rintro e wc13 ⟨rfl, bb13⟩
      replace HB0 : Hid (Below w.heap.size w wc13) := HB0.out.trans (bb13.mono HB0.out.size)
      replace HG : Hid (OwnFl 0 wc13 (.slice ga 32 gc) G) := HG.out.below bb13
      replace Hf : Hid (CellsAt wc13 (B3) 24 #[.slice ga 32 gc]) := Hf.out.below bb13 Hf.out.lt
      replace Hg : Hid (CellsAt wc13 ((B3 + 1)) 24 #[.slice a1 32 c1]) := Hg.out.below bb13 Hg.out.lt
      replace H0 : Hid (IsFl (B3 + 2) wc13 (.slice a1 32 c1) F0) := H0.out.below (bb13.mono LW.out)
      replace LW : Hid ((B3 + 2) ≤ wc13.heap.size) := Nat.le_trans LW.out bb13.size
      replace HA : Hid (wc13.ownsRow (B3 + 2) 9 1 (.slice av recs.length kv) recs.length (recs.flatMap strC)) := own_below HA.out bb13
      replace HD : Hid (wc13.ownsRow (B3 + 2) 32 3 (.slice dv D.length dk) D.length (D.flatMap deedC)) := own_below HD.out bb13
      replace HR : Hid (RowOf 1 strCell wc13.heap.size wc13 (.slice oa recs.length oc) recs) := (HR.out.below bb13).more bb13.size
      replace HY : Hid (IsFl wc13.heap.size wc13 (.slice ya 32 yc) G) := (HY.out.below bb13).more bb13.size
      replace Hy : Hid (CellsAt wc13 (wc11.heap.size) 24 #[.slice ya 32 yc]) := Hy.out.below bb13 Hy.out.lt
      clear bb13
      have pl_Hf_0 := Hf.out.cell 0
      simp at pl_Hf_0
      have pl_Hf_lt := Hf.out.lt
      have pl_Hy_0 := Hy.out.cell 0
      simp at pl_Hy_0
      have pl_Hy_lt := Hy.out.lt
      go_wp2_with fail
      clear pl_Hf_0 pl_Hf_lt pl_Hy_0 pl_Hy_lt
      refine (HSF.out G _ _ _ HY.out HG.out.is).mono ?_
      rintro e wc14 ⟨rfl, bb14⟩
      replace HB0 : Hid (Below w.heap.size w wc14) := HB0.out.trans (bb14.mono HB0.out.size)
      replace HG : Hid (OwnFl 0 wc14 (.slice ga 32 gc) G) := HG.out.below bb14
      replace Hf : Hid (CellsAt wc14 (B3) 24 #[.slice ga 32 gc]) := Hf.out.below bb14 Hf.out.lt
      replace Hg : Hid (CellsAt wc14 ((B3 + 1)) 24 #[.slice a1 32 c1]) := Hg.out.below bb14 Hg.out.lt
      replace H0 : Hid (IsFl (B3 + 2) wc14 (.slice a1 32 c1) F0) := H0.out.below (bb14.mono LW.out)
      replace LW : Hid ((B3 + 2) ≤ wc14.heap.size) := Nat.le_trans LW.out bb14.size
      replace HA : Hid (wc14.ownsRow (B3 + 2) 9 1 (.slice av recs.length kv) recs.length (recs.flatMap strC)) := own_below HA.out bb14
      replace HD : Hid (wc14.ownsRow (B3 + 2) 32 3 (.slice dv D.length dk) D.length (D.flatMap deedC)) := own_below HD.out bb14
      replace HR : Hid (RowOf 1 strCell wc14.heap.size wc14 (.slice oa recs.length oc) recs) := (HR.out.below bb14).more bb14.size
      replace HY : Hid (IsFl wc14.heap.size wc14 (.slice ya 32 yc) G) := (HY.out.below bb14).more bb14.size
      replace Hy : Hid (CellsAt wc14 (wc11.heap.size) 24 #[.slice ya 32 yc]) := Hy.out.below bb14 Hy.out.lt
      clear bb14
      have HBZ := HB0
      clear HB0 HG Hf Hg H0 LW HA HD HR HY Hy
      go_wp2
      go_ret
      exact ⟨rfl, HBZ.out⟩

end Go.Proofs.Ythmohjgdcjafkaf.journalAll
