/- Texts that are laid together. -/
import Derived.Test.YthmohjgdcjafkagMrgS
import Derived.Test.YthmohjgdcjafkagMrgN
import Derived.Test.YthmohjgdcjafkagMrgC
import Derived.ProofKit
import Derived.OpenShut
import Derived.ShutString
import Derived.ChangeOld
import Derived.SizedLaws
import Derived.Below
import Derived.Carry
import Derived.Deep.Slices

/- What must be in any case, of journals. -/
namespace Go.Proofs.Ythmohjgdcjafkag
open Go.RowKit Go.PlainAid Go.Lib

set_option maxRecDepth 100000

theorem look_err (s : ByteArray) : ∀ (k p : Nat), (lookFrom s k p).2.2 = 0 ∨ (lookFrom s k p).2.2 = 4 ∧ (lookFrom s k p).1 = []
  | 0, p => .inl rfl
  | k + 1, p => by
    unfold lookFrom
    by_cases h1 : allFF (s.extract p s.size) = true
    · rw [if_pos h1]; exact .inl rfl
    rw [if_neg h1]
    by_cases h2 : (entOf (s.extract p s.size)).2 ≠ 0
    · rw [if_pos h2]
      refine .inr ⟨?_, rfl⟩
      revert h2
      unfold entOf
      dsimp only
      repeat' split
      all_goals first | (intro; rfl) | (intro h; exact absurd rfl h)
    rw [if_neg h2]
    unfold comb
    rcases look_err s k (p + (entOf (s.extract p s.size)).1.1) with h | ⟨h, h'⟩
    · rw [if_neg (by rw [h]; decide)]; exact .inl rfl
    · rw [if_pos (by rw [h]; decide)]; exact .inr ⟨h, rfl⟩
theorem lookB_err (s : ByteArray) : (lookB s).2.2 = 0 ∨ (lookB s).2.2 = 4 ∧ (lookB s).1 = [] := by
  unfold lookB
  by_cases h : s.size < 384
  · rw [if_pos h]; exact .inr ⟨rfl, rfl⟩
  · rw [if_neg h, comb_nil]; exact look_err _ _ _
theorem look_new (n : Nat) (h1 : 3 ≤ n) (h2 : n ≤ 32) : lookB ⟨(joinM (newRes (n : Int))).toArray⟩ = ([], 0, 0) := by
  obtain ⟨e, hG⟩ := newRes_ff n (by omega) h2
  have hz : (⟨(joinM (newRes (n : Int))).toArray⟩ : ByteArray).size = n * 128 := by rw [size_of_join, joinM_length hG.2.2.2, hG.1]
  unfold lookB
  rw [if_neg (by omega), comb_nil]
  apply look_free
  rw [allFF_ext]
  intro j _ hj
  obtain ⟨b, hb⟩ : ∃ b, (joinM (newRes (n : Int)))[j]? = some b := ⟨_, List.getElem?_eq_getElem (by rw [size_of_join] at hj; exact hj)⟩
  rw [at8_some hb]
  have hm := List.mem_of_getElem? hb
  unfold joinM at hm
  obtain ⟨x, hx, hbx⟩ := List.mem_flatMap.1 hm
  rw [e] at hx
  rw [(List.mem_replicate.1 hx).2] at hbx
  unfold ffB at hbx
  simpa using hbx
theorem append_ok {n : Nat} {F : List ByteArray} (hG : GoodF n F) {s : ByteArray} (h0 : 1 ≤ s.size) (h8 : s.size ≤ 800) {recs : List ByteArray} {q : Nat} (h : lookB ⟨(joinM F).toArray⟩ = (recs, q, 0)) (hr : q + 3 + s.size ≤ n * 128) : appRes F s = (doneAll F (deedsOf q s), deedsOf q s, 0) := by
  have hz : (⟨(joinM F).toArray⟩ : ByteArray).size = n * 128 := by rw [size_of_join, joinM_length hG.2.2.2, hG.1]
  have hp : placeRes ⟨(joinM F).toArray⟩ s = (q, 0) := by
    unfold placeRes
    rw [if_neg (by omega), if_neg (by omega), h, if_neg (by simp), if_neg (by dsimp only; omega)]
  unfold appRes
  rw [if_neg (by rw [hG.chk]; decide), hp, if_neg (by simp)]
  have hd := (append_there hG h0 h8 h hr).2.2
  unfold doRes
  rw [if_pos hd]
theorem open_ok {n : Nat} {F : List ByteArray} (hG : GoodF n F) {recs : List ByteArray} {q : Nat} (h : lookB ⟨(joinM F).toArray⟩ = (recs, q, 0)) : openRes F = (recs, 0) := by
  unfold openRes
  rw [if_neg (by rw [hG.chk]; decide), h]
theorem fmt_ok (n : Nat) (h1 : 3 ≤ n) (h2 : n ≤ 32) : fmtRes (n : Int) = (newRes (n : Int), 0) := by
  unfold fmtRes
  rw [if_neg (by omega), if_pos (by omega)]

/-- What they lie on. -/
def jbS : ByteArray := ⟨#[115, 111, 109, 101, 32, 114, 101, 99, 111, 114, 100]⟩
def jbF : List ByteArray := newRes 3
def jbX : List ByteArray := doneAll jbF (deedsOf 0 jbS)
theorem jb1 : fmtRes 3 = (jbF, 0) := fmt_ok 3 (by decide) (by decide)
theorem jb2 : appRes jbF jbS = (jbX, deedsOf 0 jbS, 0) := append_ok (newRes_ff 3 (by decide) (by decide)).2 (by decide) (by decide) (look_new 3 (by decide) (by decide)) (by decide)
theorem jb3 : openRes jbX = ([jbS], 0) := by
  obtain ⟨g, h, _⟩ := append_there (newRes_ff 3 (by decide) (by decide)).2 (s := jbS) (by decide) (by decide) (look_new 3 (by decide) (by decide)) (by decide)
  exact open_ok g h
theorem jb4 : openRes jbF = ([], 0) := open_ok (newRes_ff 3 (by decide) (by decide)).2 (look_new 3 (by decide) (by decide))

set_option maxHeartbeats 8000000 in
theorem journalBegun_any (w : World) : Calls Try.prog 5 #[] w fun e w' => e = .returned (.bool true) ∧ Below w.heap.size w w' := by
  have HFM : Hid (∀ W, Calls Try.prog 7 #[.int .i64 3] W fun e w' => (∃ r, e = .returned (.tuple #[.agg #[r], .int .i64 0]) ∧ IsFl w'.heap.size w' r jbF) ∧ Below W.heap.size W w') := fun W => by
    have := format_any 3 W
    rw [jb1] at this
    exact this
  have HAP : Hid (∀ v W, IsFl W.heap.size W v jbF → Calls Try.prog 10 #[.agg #[v], .string ⟨#[115, 111, 109, 101, 32, 114, 101, 99, 111, 114, 100]⟩] W fun e w' => (∃ r d, e = .returned (.tuple #[.agg #[r], d, .int .i64 0]) ∧ IsFl w'.heap.size w' r jbX ∧ ∃ da dc, d = .slice da 15 dc) ∧ Below W.heap.size W w') := fun v W h => by
    have := append_any jbF v jbS W h (by decide)
    rw [jb2] at this
    refine this.mono ?_
    rintro e w' ⟨⟨r, d, rfl, h1, h2⟩, hb⟩
    obtain ⟨da, dc, rfl⟩ := own_form h2
    exact ⟨⟨r, _, rfl, h1, da, dc, by rw [show (deedsOf 0 jbS).length = 15 from deedsOf_length 0 jbS]⟩, hb⟩
  have HO1 : Hid (∀ v W, IsFl W.heap.size W v jbX → Calls Try.prog 15 #[.agg #[v]] W fun e w' => (∃ r, e = .returned (.tuple #[r, .int .i64 0]) ∧ RowOf 1 strCell w'.heap.size w' r [jbS]) ∧ Below W.heap.size W w') := fun v W h => by
    have := open_any jbX v W h
    rw [jb3] at this
    refine this.mono ?_
    rintro e w' ⟨⟨r, rfl, h1⟩, hb⟩
    exact ⟨⟨r, rfl, own_rows (C := strC) (fun _ => rfl) strC_at h1 (by simp)⟩, hb⟩
  have HO2 : Hid (∀ v W, IsFl W.heap.size W v jbF → Calls Try.prog 15 #[.agg #[v]] W fun e w' => (∃ ra rc, e = .returned (.tuple #[.slice ra 0 rc, .int .i64 0])) ∧ Below W.heap.size W w') := fun v W h => by
    have := open_any jbF v W h
    rw [jb4] at this
    refine this.mono ?_
    rintro e w' ⟨⟨r, rfl, h1⟩, hb⟩
    obtain ⟨ra, rc, rfl⟩ := own_form h1
    exact ⟨⟨ra, rc, rfl⟩, hb⟩
  have HST : Hid (∀ v v' W, RowOf 1 strCell W.heap.size W v [jbS] → RowOf 1 strCell W.heap.size W v' [jbS] → Calls Try.prog 16 #[v, v'] W fun e w' => e = .returned (.bool true) ∧ Below W.heap.size W w') := fun v v' W h1 h2 => by
    have := sameTexts_any [jbS] [jbS] v v' W h1 h2
    rw [sameB_self] at this
    exact this
  have HRW : Hid (∀ (W : World) n, n = W.heap.size → RowOf 1 strCell (W.alloc (.cells #[.string ⟨#[115, 111, 109, 101, 32, 114, 101, 99, 111, 114, 100]⟩] 9)).heap.size (W.alloc (.cells #[.string ⟨#[115, 111, 109, 101, 32, 114, 101, 99, 111, 114, 100]⟩] 9)) (.slice (some ⟨n, 0, none⟩) 1 1) [jbS]) := fun W n hn => by
    subst hn
    exact rowOf_cells (C := strC) (cells := strCell) (sz := 1) (fun _ => rfl) strC_at (CellsAt.new W 9 #[.string ⟨#[115, 111, 109, 101, 32, 114, 101, 99, 111, 114, 100]⟩]) [jbS] (show 1 ≤ 255 by decide) 1 rfl
  have hsz : jbF.length = 3 ∧ jbX.length = 3 := by
    obtain ⟨g, _⟩ := append_there (newRes_ff 3 (by decide) (by decide)).2 (s := jbS) (by decide) (by decide) (look_new 3 (by decide) (by decide)) (by decide)
    exact ⟨(newRes_ff 3 (by decide) (by decide)).2.1, g.1⟩
  obtain ⟨hl1, hl2⟩ := hsz
  generalize jbF = F at *
  generalize jbX = X at *
  generalize hdl : [jbS] = dl at *
  have HDL : Hid ((1 : Nat) = dl.length) := by rw [← hdl]; rfl
  clear hdl
  have HB0 : Hid (Below w.heap.size w w) := Below.refl _ _
  go_enter Try.func5, Try.ntmps5
  go_wp2_with fail
  refine (HFM.out _).mono ?_
  rintro e wc1 ⟨⟨r1, rfl, hr1⟩, bb1⟩
  replace HB0 : Hid (Below w.heap.size w wc1) := HB0.out.trans (bb1.mono HB0.out.size)
  clear bb1
  obtain ⟨⟨a1, c1, rfl, _, _⟩, _⟩ := id hr1
  rw [hl1] at hr1 ⊢
  have HF : Hid (IsFl wc1.heap.size wc1 (.slice a1 3 c1) F) := hr1
  clear hr1 HFM
  replace HB0 : Hid (Below w.heap.size w (wc1.alloc (.cells #[.slice a1 3 c1] 26))) := HB0.out.alloc HB0.out.size _
  replace HF : Hid (IsFl (wc1.alloc (.cells #[.slice a1 3 c1] 26)).heap.size (wc1.alloc (.cells #[.slice a1 3 c1] 26)) (.slice a1 3 c1) F) := (HF.out.below ((Below.refl _ _).alloc (Nat.le_refl _) _)).more (by simp)
  have H1 : Hid (CellsAt (wc1.alloc (.cells #[.slice a1 3 c1] 26)) (wc1.heap.size) 26 #[.slice a1 3 c1]) := by first | exact CellsAt.new _ _ _ | (have := CellsAt.new wc1 26 #[.slice a1 3 c1]; simp only [World.size_alloc] at this; exact this)
  go_wp2_with fail
  generalize (wc1.alloc (.cells #[.slice a1 3 c1] 26)) = w2 at *
  refine (HAP.out _ _ HF.out).mono ?_
  rintro e wc3 ⟨⟨r3, d3, rfl, hr3, da, dc, rfl⟩, bb3⟩
  replace HB0 : Hid (Below w.heap.size w wc3) := HB0.out.trans (bb3.mono HB0.out.size)
  replace HF : Hid (IsFl wc3.heap.size wc3 (.slice a1 3 c1) F) := (HF.out.below bb3).more bb3.size
  replace H1 : Hid (CellsAt wc3 (wc1.heap.size) 26 #[.slice a1 3 c1]) := H1.out.below bb3 H1.out.lt
  clear bb3
  obtain ⟨⟨a3, c3, rfl, _, _⟩, _⟩ := id hr3
  rw [hl2] at hr3 ⊢
  have HX : Hid (IsFl wc3.heap.size wc3 (.slice a3 3 c3) X) := hr3
  clear hr3 HAP
  have pl_H1_0 := H1.out.cell 0
  simp at pl_H1_0
  have pl_H1_lt := H1.out.lt
  replace HB0 : Hid (Below w.heap.size w (wc3.alloc (.cells #[.slice a3 3 c3] 26))) := HB0.out.alloc HB0.out.size _
  replace HF : Hid (IsFl (wc3.alloc (.cells #[.slice a3 3 c3] 26)).heap.size (wc3.alloc (.cells #[.slice a3 3 c3] 26)) (.slice a1 3 c1) F) := (HF.out.below ((Below.refl _ _).alloc (Nat.le_refl _) _)).more (by simp)
  replace H1 : Hid (CellsAt (wc3.alloc (.cells #[.slice a3 3 c3] 26)) (wc1.heap.size) 26 #[.slice a1 3 c1]) := H1.out.kept (World.grownBy_alloc _ _ none) (by simp)
  replace HX : Hid (IsFl (wc3.alloc (.cells #[.slice a3 3 c3] 26)).heap.size (wc3.alloc (.cells #[.slice a3 3 c3] 26)) (.slice a3 3 c3) X) := (HX.out.below ((Below.refl _ _).alloc (Nat.le_refl _) _)).more (by simp)
  have H3 : Hid (CellsAt (wc3.alloc (.cells #[.slice a3 3 c3] 26)) (wc3.heap.size) 26 #[.slice a3 3 c3]) := by first | exact CellsAt.new _ _ _ | (have := CellsAt.new wc3 26 #[.slice a3 3 c3]; simp only [World.size_alloc] at this; exact this)
  go_wp2_with fail
  clear pl_H1_0 pl_H1_lt
  generalize (wc3.alloc (.cells #[.slice a3 3 c3] 26)) = w4 at *
  refine (HO1.out _ _ HX.out).mono ?_
  rintro e wc5 ⟨⟨r6, rfl, hr6⟩, bb5⟩
  replace HB0 : Hid (Below w.heap.size w wc5) := HB0.out.trans (bb5.mono HB0.out.size)
  replace HF : Hid (IsFl wc5.heap.size wc5 (.slice a1 3 c1) F) := (HF.out.below bb5).more bb5.size
  replace H1 : Hid (CellsAt wc5 (wc1.heap.size) 26 #[.slice a1 3 c1]) := H1.out.below bb5 H1.out.lt
  replace HX : Hid (IsFl wc5.heap.size wc5 (.slice a3 3 c3) X) := (HX.out.below bb5).more bb5.size
  replace H3 : Hid (CellsAt wc5 (wc3.heap.size) 26 #[.slice a3 3 c3]) := H3.out.below bb5 H3.out.lt
  clear bb5
  obtain ⟨a6, c6, rfl, _, _⟩ := id hr6
  rw [← HDL.out] at hr6 ⊢
  have HR6 : Hid (RowOf 1 strCell wc5.heap.size wc5 (.slice a6 1 c6) dl) := hr6
  clear hr6 HO1
  have pl_H1_0 := H1.out.cell 0
  simp at pl_H1_0
  have pl_H1_lt := H1.out.lt
  go_wp2_with fail
  clear pl_H1_0 pl_H1_lt
  refine (HO2.out _ _ HF.out).mono ?_
  rintro e wc6 ⟨⟨ra, rc, rfl⟩, bb6⟩
  replace HB0 : Hid (Below w.heap.size w wc6) := HB0.out.trans (bb6.mono HB0.out.size)
  replace HF : Hid (IsFl wc6.heap.size wc6 (.slice a1 3 c1) F) := (HF.out.below bb6).more bb6.size
  replace H1 : Hid (CellsAt wc6 (wc1.heap.size) 26 #[.slice a1 3 c1]) := H1.out.below bb6 H1.out.lt
  replace HX : Hid (IsFl wc6.heap.size wc6 (.slice a3 3 c3) X) := (HX.out.below bb6).more bb6.size
  replace H3 : Hid (CellsAt wc6 (wc3.heap.size) 26 #[.slice a3 3 c3]) := H3.out.below bb6 H3.out.lt
  replace HR6 : Hid (RowOf 1 strCell wc6.heap.size wc6 (.slice a6 1 c6) dl) := (HR6.out.below bb6).more bb6.size
  clear bb6
  clear HO2
  replace HB0 : Hid (Below w.heap.size w (wc6.alloc (.cells #[.string ⟨#[115, 111, 109, 101, 32, 114, 101, 99, 111, 114, 100]⟩] 9))) := HB0.out.alloc HB0.out.size _
  replace HF : Hid (IsFl (wc6.alloc (.cells #[.string ⟨#[115, 111, 109, 101, 32, 114, 101, 99, 111, 114, 100]⟩] 9)).heap.size (wc6.alloc (.cells #[.string ⟨#[115, 111, 109, 101, 32, 114, 101, 99, 111, 114, 100]⟩] 9)) (.slice a1 3 c1) F) := (HF.out.below ((Below.refl _ _).alloc (Nat.le_refl _) _)).more (by simp)
  replace H1 : Hid (CellsAt (wc6.alloc (.cells #[.string ⟨#[115, 111, 109, 101, 32, 114, 101, 99, 111, 114, 100]⟩] 9)) (wc1.heap.size) 26 #[.slice a1 3 c1]) := H1.out.kept (World.grownBy_alloc _ _ none) (by simp)
  replace HX : Hid (IsFl (wc6.alloc (.cells #[.string ⟨#[115, 111, 109, 101, 32, 114, 101, 99, 111, 114, 100]⟩] 9)).heap.size (wc6.alloc (.cells #[.string ⟨#[115, 111, 109, 101, 32, 114, 101, 99, 111, 114, 100]⟩] 9)) (.slice a3 3 c3) X) := (HX.out.below ((Below.refl _ _).alloc (Nat.le_refl _) _)).more (by simp)
  replace H3 : Hid (CellsAt (wc6.alloc (.cells #[.string ⟨#[115, 111, 109, 101, 32, 114, 101, 99, 111, 114, 100]⟩] 9)) (wc3.heap.size) 26 #[.slice a3 3 c3]) := H3.out.kept (World.grownBy_alloc _ _ none) (by simp)
  replace HR6 : Hid (RowOf 1 strCell (wc6.alloc (.cells #[.string ⟨#[115, 111, 109, 101, 32, 114, 101, 99, 111, 114, 100]⟩] 9)).heap.size (wc6.alloc (.cells #[.string ⟨#[115, 111, 109, 101, 32, 114, 101, 99, 111, 114, 100]⟩] 9)) (.slice a6 1 c6) dl) := (HR6.out.below ((Below.refl _ _).alloc (Nat.le_refl _) _)).more (by simp)
  have HRB : Hid (RowOf 1 strCell (wc6.alloc (.cells #[.string ⟨#[115, 111, 109, 101, 32, 114, 101, 99, 111, 114, 100]⟩] 9)).heap.size (wc6.alloc (.cells #[.string ⟨#[115, 111, 109, 101, 32, 114, 101, 99, 111, 114, 100]⟩] 9)) (.slice (some ⟨wc6.heap.size, 0, none⟩) 1 1) dl) := HRW.out _ _ rfl
  go_wp2_with fail
  generalize (wc6.alloc (.cells #[.string ⟨#[115, 111, 109, 101, 32, 114, 101, 99, 111, 114, 100]⟩] 9)) = w6 at *
  refine (HST.out _ _ _ HR6.out HRB.out).mono ?_
  rintro e wc8 ⟨rfl, bb8⟩
  replace HB0 : Hid (Below w.heap.size w wc8) := HB0.out.trans (bb8.mono HB0.out.size)
  replace HF : Hid (IsFl wc8.heap.size wc8 (.slice a1 3 c1) F) := (HF.out.below bb8).more bb8.size
  replace H1 : Hid (CellsAt wc8 (wc1.heap.size) 26 #[.slice a1 3 c1]) := H1.out.below bb8 H1.out.lt
  replace HX : Hid (IsFl wc8.heap.size wc8 (.slice a3 3 c3) X) := (HX.out.below bb8).more bb8.size
  replace H3 : Hid (CellsAt wc8 (wc3.heap.size) 26 #[.slice a3 3 c3]) := H3.out.below bb8 H3.out.lt
  replace HR6 : Hid (RowOf 1 strCell wc8.heap.size wc8 (.slice a6 1 c6) dl) := (HR6.out.below bb8).more bb8.size
  replace HRB : Hid (RowOf 1 strCell wc8.heap.size wc8 (.slice (some ⟨wc6.heap.size, 0, none⟩) 1 1) dl) := (HRB.out.below bb8).more bb8.size
  clear bb8
  have HBZ := HB0
  clear HF H1 HX H3 HR6 HRB HST HRW
  go_wp2
  go_ret
  exact ⟨rfl, HBZ.out⟩

end Go.Proofs.Ythmohjgdcjafkag

/- JournalTells: the walk. -/
namespace Go.Proofs.Ythmohjgdcjafkag.journalTells
open Go.RowKit Go.PlainAid Go.Lib

set_option maxRecDepth 100000

theorem app_cases (F : List ByteArray) (s : ByteArray) : (chkFl F ≠ 0 ∧ (appRes F s).2.2 = chkFl F ∧ (openRes F).2 = chkFl F ∧ (appRes F s).1.length = 0 ∧ (appRes F s).2.1.length = 0 ∧ (openRes F).1.length = 0) ∨
    (chkFl F = 0 ∧ ((openRes F).2 = 0 ∨ (openRes F).2 = 4 ∧ (openRes F).1.length = 0) ∧ (((appRes F s).2.2 = 0 ∧ 1 ≤ s.size ∧ s.size ≤ 800) ∨ ((appRes F s).1.length = 0 ∧ (appRes F s).2.1.length = 0 ∧ ((s.size = 0 ∧ (appRes F s).2.2 = 1) ∨ (800 < s.size ∧ (appRes F s).2.2 = 2) ∨ (1 ≤ s.size ∧ s.size ≤ 800 ∧ ((appRes F s).2.2 = 4 ∨ (appRes F s).2.2 = 8)))))) := by
  unfold appRes openRes
  by_cases h : chkFl F ≠ 0
  · rw [if_pos h, if_pos h]
    exact .inl ⟨h, rfl, rfl, rfl, rfl, rfl⟩
  · rw [if_neg h, if_neg h]
    refine .inr ⟨Decidable.not_not.1 h, ?_, ?_⟩
    · rcases lookB_err ⟨(joinM F).toArray⟩ with h1 | ⟨h1, h2⟩
      · exact .inl h1
      · exact .inr ⟨h1, by rw [h2]; rfl⟩
    · have hz := @placeRes_zero ⟨(joinM F).toArray⟩ s
      by_cases h1 : (placeRes ⟨(joinM F).toArray⟩ s).2 = 0
      · rw [if_neg (by omega)]
        exact .inl ⟨rfl, (hz h1).1, (hz h1).2.1⟩
      · rw [if_pos h1]
        refine .inr ⟨rfl, rfl, ?_⟩
        clear hz
        unfold placeRes at h1 ⊢
        by_cases a0 : s.size = 0
        · rw [if_pos a0]; exact .inl ⟨a0, rfl⟩
        rw [if_neg a0] at h1 ⊢
        by_cases a1 : 800 < s.size
        · rw [if_pos a1]; exact .inr (.inl ⟨a1, rfl⟩)
        rw [if_neg a1] at h1 ⊢
        refine .inr (.inr ⟨by omega, by omega, ?_⟩)
        by_cases a2 : (lookB ⟨(joinM F).toArray⟩).2.2 ≠ 0
        · rw [if_pos a2]
          rcases lookB_err ⟨(joinM F).toArray⟩ with h3 | ⟨h3, _⟩
          · exact absurd h3 a2
          · exact .inl h3
        rw [if_neg a2] at h1 ⊢
        by_cases a3 : (⟨(joinM F).toArray⟩ : ByteArray).size < (lookB ⟨(joinM F).toArray⟩).2.1 + (3 + s.size)
        · rw [if_pos a3]; exact .inr rfl
        · rw [if_neg a3] at h1; exact absurd rfl h1

set_option maxHeartbeats 16000000 in
theorem walk (F : List ByteArray) (c : Value) (s : ByteArray) (w : World) (hF : IsFl w.heap.size w c F) (hs : s.size ≤ 140737488351232) :
    Calls Try.prog 4 #[.agg #[c], .string s] w fun e w' => e = .returned (.bool true) ∧ Below w.heap.size w w' := by
  have HBG : Hid (∀ W, Calls Try.prog 5 #[] W fun e w' => e = .returned (.bool true) ∧ Below W.heap.size W w') := journalBegun_any
  have HAP : Hid (∀ v W, IsFl W.heap.size W v F → Calls Try.prog 10 #[.agg #[v], .string s] W fun e w' => (∃ ra rc da dc, e = .returned (.tuple #[.agg #[.slice ra (appRes F s).1.length rc], .slice da (appRes F s).2.1.length dc, .int .i64 (appRes F s).2.2])) ∧ Below W.heap.size W w') := fun v W h => by
    refine (append_any F v s W h (by omega)).mono ?_
    rintro e w' ⟨⟨r, d, rfl, h1, h2⟩, hb⟩
    obtain ⟨da, dc, rfl⟩ := own_form h2
    obtain ⟨⟨ra, rc, rfl, _, _⟩, _⟩ := id h1
    exact ⟨⟨ra, rc, da, dc, rfl⟩, hb⟩
  have HOP : Hid (∀ v W, IsFl W.heap.size W v F → Calls Try.prog 15 #[.agg #[v]] W fun e w' => (∃ ra rc, e = .returned (.tuple #[.slice ra (openRes F).1.length rc, .int .i64 (openRes F).2])) ∧ Below W.heap.size W w') := fun v W h => by
    refine (open_any F v W h).mono ?_
    rintro e w' ⟨⟨r, rfl, h1⟩, hb⟩
    obtain ⟨ra, rc, rfl⟩ := own_form h1
    exact ⟨⟨ra, rc, rfl⟩, hb⟩
  have HCF : Hid (∀ v W, IsFl W.heap.size W v F → Calls Try.prog 8 #[.agg #[v]] W fun e w' => e = .returned (.int .i64 (chkFl F)) ∧ Below W.heap.size W w') := fun v W h => rCheckFlash_any F v W h.1
  have KC : Hid _ := app_cases F s
  have KE : Hid (s.size ≠ 0 → s.toList.isEmpty = false) := fun h0 => by
    rw [ByteArray.toList_eq]
    cases hc : s.data.toList.isEmpty with
    | false => rfl
    | true => exact absurd (show s.data.size = 0 by rw [← Array.length_toList, List.isEmpty_iff.1 hc]; rfl) h0
  obtain ⟨⟨ad, cap, rfl, hmx, _⟩, _⟩ := id hF
  clear hs hmx
  generalize appRes F s = A at *
  generalize openRes F = O at *
  generalize chkFl F = E at *
  obtain ⟨G, D, ae⟩ := A
  obtain ⟨ts, oe⟩ := O
  dsimp only at *
  generalize F.length = nF at *
  generalize G.length = nG at *
  generalize D.length = nD at *
  generalize ts.length = nT at *
  have HB0 : Hid (Below w.heap.size w (w.alloc (.cells #[.slice ad nF cap] 26))) := (Below.refl _ _).alloc (Nat.le_refl _) _
  have Hf : Hid (CellsAt (w.alloc (.cells #[.slice ad nF cap] 26)) w.heap.size 26 #[.slice ad nF cap]) := CellsAt.new _ _ _
  have HF0 : Hid (IsFl (w.alloc (.cells #[.slice ad nF cap] 26)).heap.size (w.alloc (.cells #[.slice ad nF cap] 26)) (.slice ad nF cap) F) := (hF.below HB0.out).more HB0.out.size
  clear hF
  go_enter Try.func4, Try.ntmps4
  go_wp2_with fail
  generalize (w.alloc (.cells #[.slice ad nF cap] 26)) = w0 at *
  refine (HAP.out _ _ HF0.out).mono ?_
  rintro e wc1 ⟨⟨xa, xc, da, dc, rfl⟩, bb1⟩
  replace HB0 : Hid (Below w.heap.size w wc1) := HB0.out.trans (bb1.mono HB0.out.size)
  replace Hf : Hid (CellsAt wc1 (w.heap.size) 26 #[.slice ad nF cap]) := Hf.out.below bb1 Hf.out.lt
  replace HF0 : Hid (IsFl wc1.heap.size wc1 (.slice ad nF cap) F) := (HF0.out.below bb1).more bb1.size
  clear bb1
  clear HAP
  have pl_Hf_0 := Hf.out.cell 0
  simp at pl_Hf_0
  have pl_Hf_lt := Hf.out.lt
  replace HB0 : Hid (Below w.heap.size w (wc1.alloc (.cells #[.slice xa nG xc] 26))) := HB0.out.alloc HB0.out.size _
  replace Hf : Hid (CellsAt (wc1.alloc (.cells #[.slice xa nG xc] 26)) (w.heap.size) 26 #[.slice ad nF cap]) := Hf.out.kept (World.grownBy_alloc _ _ none) (by simp)
  replace HF0 : Hid (IsFl (wc1.alloc (.cells #[.slice xa nG xc] 26)).heap.size (wc1.alloc (.cells #[.slice xa nG xc] 26)) (.slice ad nF cap) F) := (HF0.out.below ((Below.refl _ _).alloc (Nat.le_refl _) _)).more (by simp)
  have Hx : Hid (CellsAt (wc1.alloc (.cells #[.slice xa nG xc] 26)) (wc1.heap.size) 26 #[.slice xa nG xc]) := by first | exact CellsAt.new _ _ _ | (have := CellsAt.new wc1 26 #[.slice xa nG xc]; simp only [World.size_alloc] at this; exact this)
  go_wp2_with fail
  clear pl_Hf_0 pl_Hf_lt
  generalize (wc1.alloc (.cells #[.slice xa nG xc] 26)) = w2 at *
  refine (HOP.out _ _ HF0.out).mono ?_
  rintro e wc3 ⟨⟨oa, oc, rfl⟩, bb3⟩
  replace HB0 : Hid (Below w.heap.size w wc3) := HB0.out.trans (bb3.mono HB0.out.size)
  replace Hf : Hid (CellsAt wc3 (w.heap.size) 26 #[.slice ad nF cap]) := Hf.out.below bb3 Hf.out.lt
  replace HF0 : Hid (IsFl wc3.heap.size wc3 (.slice ad nF cap) F) := (HF0.out.below bb3).more bb3.size
  replace Hx : Hid (CellsAt wc3 (wc1.heap.size) 26 #[.slice xa nG xc]) := Hx.out.below bb3 Hx.out.lt
  clear bb3
  clear HOP
  have pl_Hf_0 := Hf.out.cell 0
  simp at pl_Hf_0
  have pl_Hf_lt := Hf.out.lt
  go_wp2_with fail
  clear pl_Hf_0 pl_Hf_lt
  refine (HCF.out _ _ HF0.out).mono ?_
  rintro e wc4 ⟨rfl, bb4⟩
  replace HB0 : Hid (Below w.heap.size w wc4) := HB0.out.trans (bb4.mono HB0.out.size)
  replace Hf : Hid (CellsAt wc4 (w.heap.size) 26 #[.slice ad nF cap]) := Hf.out.below bb4 Hf.out.lt
  replace HF0 : Hid (IsFl wc4.heap.size wc4 (.slice ad nF cap) F) := (HF0.out.below bb4).more bb4.size
  replace Hx : Hid (CellsAt wc4 (wc1.heap.size) 26 #[.slice xa nG xc]) := Hx.out.below bb4 Hx.out.lt
  clear bb4
  clear HCF
  go_wp2_with fail
  refine (HBG.out _).mono ?_
  rintro e wc5 ⟨rfl, bb5⟩
  replace HB0 : Hid (Below w.heap.size w wc5) := HB0.out.trans (bb5.mono HB0.out.size)
  replace Hf : Hid (CellsAt wc5 (w.heap.size) 26 #[.slice ad nF cap]) := Hf.out.below bb5 Hf.out.lt
  replace HF0 : Hid (IsFl wc5.heap.size wc5 (.slice ad nF cap) F) := (HF0.out.below bb5).more bb5.size
  replace Hx : Hid (CellsAt wc5 (wc1.heap.size) 26 #[.slice xa nG xc]) := Hx.out.below bb5 Hx.out.lt
  clear bb5
  have HBZ := HB0
  clear HBG Hf HF0 HB0
  have pl_Hx_0 := Hx.out.cell 0
  simp at pl_Hx_0
  have pl_Hx_lt := Hx.out.lt
  rcases KC.out with ⟨h0, rfl, rfl, rfl, rfl, rfl⟩ | ⟨h0, h1, h2⟩
  · clear KC KE
    have h0' := bne_iff_ne.2 h0
    clear h0
    go_wp2
    go_ret
    exact ⟨rfl, HBZ.out⟩
  subst h0
  rcases h1 with rfl | ⟨rfl, rfl⟩ <;> rcases h2 with ⟨rfl, h3, h4⟩ | ⟨rfl, rfl, ⟨h3, rfl⟩ | ⟨h3, rfl⟩ | ⟨h3, h4, rfl | rfl⟩⟩
  · clear KC
    have ke := KE.out (by omega)
    have k8 : ¬ (800 : Int) < (s.size : Int) := by omega
    clear KE h3 h4
    go_wp2
    go_ret
    exact ⟨rfl, HBZ.out⟩
  · clear KC
    obtain rfl : s = ⟨#[]⟩ := ByteArray.ext (Array.eq_empty_of_size_eq_zero h3)
    clear KE h3
    go_wp2
    go_ret
    exact ⟨rfl, HBZ.out⟩
  · clear KC
    have ke := KE.out (by omega)
    have k8 : (800 : Int) < (s.size : Int) := by omega
    clear KE h3
    go_wp2
    go_ret
    exact ⟨rfl, HBZ.out⟩
  · clear KC
    have ke := KE.out (by omega)
    have k8 : ¬ (800 : Int) < (s.size : Int) := by omega
    clear KE h3 h4
    go_wp2
    go_ret
    exact ⟨rfl, HBZ.out⟩
  · clear KC
    have ke := KE.out (by omega)
    have k8 : ¬ (800 : Int) < (s.size : Int) := by omega
    clear KE h3 h4
    go_wp2
    go_ret
    exact ⟨rfl, HBZ.out⟩
  · clear KC
    have ke := KE.out (by omega)
    have k8 : ¬ (800 : Int) < (s.size : Int) := by omega
    clear KE h3 h4
    go_wp2
    go_ret
    exact ⟨rfl, HBZ.out⟩
  · clear KC
    obtain rfl : s = ⟨#[]⟩ := ByteArray.ext (Array.eq_empty_of_size_eq_zero h3)
    clear KE h3
    go_wp2
    go_ret
    exact ⟨rfl, HBZ.out⟩
  · clear KC
    have ke := KE.out (by omega)
    have k8 : (800 : Int) < (s.size : Int) := by omega
    clear KE h3
    go_wp2
    go_ret
    exact ⟨rfl, HBZ.out⟩
  · clear KC
    have ke := KE.out (by omega)
    have k8 : ¬ (800 : Int) < (s.size : Int) := by omega
    clear KE h3 h4
    go_wp2
    go_ret
    exact ⟨rfl, HBZ.out⟩
  · clear KC
    have ke := KE.out (by omega)
    have k8 : ¬ (800 : Int) < (s.size : Int) := by omega
    clear KE h3 h4
    go_wp2
    go_ret
    exact ⟨rfl, HBZ.out⟩

end Go.Proofs.Ythmohjgdcjafkag.journalTells

/- Arguments that came in: texts, numbers, rows, a patch. -/
namespace Go.Proofs.Ythmohjgdcjafkag
open Go.ChangeShapes Go.WideShapes Go.ChangeAt Go.RowKit Go.PlainAid Go.Deep

set_option maxRecDepth 100000

theorem list7 {α : Type} {l : List α} (h : l.length = 7) : ∃ a b c d e f g, l = [a, b, c, d, e, f, g] := by
  match l, h with
  | [a, b, c, d, e, f, g], _ => exact ⟨a, b, c, d, e, f, g, rfl⟩
theorem list4 {α : Type} {l : List α} (h : l.length = 4) : ∃ a b c d, l = [a, b, c, d] := by
  match l, h with
  | [a, b, c, d], _ => exact ⟨a, b, c, d, rfl⟩
theorem list2 {α : Type} {l : List α} (h : l.length = 2) : ∃ a b, l = [a, b] := by
  match l, h with
  | [a, b], _ => exact ⟨a, b, rfl⟩

section
variable {H : Type} {enc : TypeId × Value → H} {W : World} {spare : Nat → Bool} {held : Bool}

theorem row_of_trod {α : Type} [Inhabited α] {t e : TypeId} {sz fuel : Nat} {c : Value} {y : DataW H × List MemPlace} {cells : α → Nat → Value} {good : α → Prop} (ht : Try.prog.underlying t = some (.slice e)) (hsz : Try.prog.cellsOf e = sz) (h0 : 0 < sz)
    (conv : ∀ n cs z, cs.length = sz → DataW.trod enc Try.prog W 0 spare held n e cs = some z → ∃ x : α, (∀ i, i < sz → cs[i]? = some (cells x i)) ∧ good x)
    (h : DataW.trod enc Try.prog W 0 spare held fuel t [c] = some y) : ∃ l : List α, RowOf sz cells W.heap.size W c l ∧ ∀ x ∈ l, good x := by
  rcases open_slice ht h with ⟨hc, _⟩ | ⟨a, len, cap, m, n, D, Pl, hc, _, hl, hm, hmm, _, hx⟩
  · injection hc with hc
    subst hc
    exact ⟨[], ⟨none, 0, rfl, Nat.zero_le _, .inl rfl⟩, by simp⟩
  · injection hc with hc
    subst hc
    rw [hsz] at hx
    have hle : len ≤ m := by rw [hmm]; split <;> omega
    obtain ⟨X, hX⟩ := choose_lt (α := α) (n := len) (p := fun i x => (∀ j, j < sz → W.cell? (a.add (i * sz + j)) = some (cells x j)) ∧ good x) (fun i hi => by
      obtain ⟨cs', h1, h2⟩ := hx i (by omega)
      obtain ⟨_, hlen, hcell⟩ := World.cells?_some h1
      obtain ⟨x, hx1, hx2⟩ := conv n cs' _ hlen h2
      refine ⟨x, fun j hj => ?_, hx2⟩
      have h3 := hcell j hj
      rw [hx1 j hj] at h3
      have hadd : (a.add (i * sz)).add j = a.add (i * sz + j) ∨ W.cell? ((a.add (i * sz)).add j) = W.cell? (a.add (i * sz + j)) := by
        unfold Addr.add
        by_cases e1 : i * sz = 0
        · rw [if_pos e1, e1, Nat.zero_add]; exact .inl rfl
        · rw [if_neg e1]
          by_cases e2 : j = 0
          · rw [if_pos e2, e2, Nat.add_zero, if_neg e1]; exact .inl rfl
          · rw [if_neg e2, if_neg (by omega), Nat.add_assoc]; exact .inl rfl
      rcases hadd with hadd | hadd
      · rw [← hadd]; exact h3
      · rw [← hadd]; exact h3)
    refine ⟨(List.range len).map X, ⟨some a, cap, by simp, by simp; unfold maxLen at hm; omega, ?_⟩, ?_⟩
    · by_cases hz : len = 0
      · left
        subst hz
        rfl
      · right
        have hc0 := (hX 0 (by omega)).1 0 h0
        rw [Nat.zero_mul, Nat.zero_add] at hc0
        obtain ⟨b, off, spot⟩ := a
        have hsp : spot = none := by simpa [Addr.add] using World.cell?_spot hc0
        subst hsp
        refine ⟨b, off, rfl, ?_, fun j x hj i hi => ?_⟩
        · have := World.block_lt_of_cell? W _ hc0
          simpa [Addr.add] using this
        · have hjl : j < len := by
            have := (List.getElem?_eq_some_iff.1 hj).1
            simpa using this
          obtain rfl : X j = x := by
            rw [List.getElem?_map, List.getElem?_range hjl] at hj
            simpa using hj
          have h4 := (hX j hjl).1 i hi
          unfold Addr.add at h4
          by_cases e0 : j * sz + i = 0
          · rw [if_pos e0] at h4
            rw [Nat.add_assoc, e0]
            exact h4
          · rw [if_neg e0] at h4
            rw [Nat.add_assoc]
            exact h4
    · intro x hx
      obtain ⟨i, hi, rfl⟩ := List.mem_map.1 hx
      exact (hX i (by simpa using hi)).2

theorem str_of_trod {n : Nat} {c : Value} {y : DataW H × List MemPlace} (h : DataW.trod enc Try.prog W 0 spare held n 9 [c] = some y) : ∃ s : ByteArray, c = .string s ∧ s.size ≤ 9223372036854775807 := by
  obtain ⟨s, hc, _, hs⟩ := DataW.trod_string Try.underlying9 h
  injection hc with hc
  exact ⟨s, hc, hs⟩
theorem int_of_trod {n : Nat} {c : Value} {y : DataW H × List MemPlace} (h : DataW.trod enc Try.prog W 0 spare held n 3 [c] = some y) : ∃ k : Int, c = .int .i64 k := by
  obtain ⟨k, hc, _, _⟩ := DataW.trod_int Try.underlying3 h
  injection hc with hc
  exact ⟨k, hc⟩

end

end Go.Proofs.Ythmohjgdcjafkag
