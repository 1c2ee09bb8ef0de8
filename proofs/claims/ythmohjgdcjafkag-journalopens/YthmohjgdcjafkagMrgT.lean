/- Texts that are laid together. -/
import Derived.Test.YthmohjgdcjafkagMrgS
import Derived.Test.YthmohjgdcjafkagMrgN
import Derived.Test.YthmohjgdcjafkagMrgG

/- What must be in any case, of journals. -/
namespace Go.Proofs.Ythmohjgdcjafkag
open Go.RowKit Go.PlainAid Go.Lib

set_option maxRecDepth 100000

theorem look_err (s : ByteArray) : ∀ (k p : Nat), (lookFrom s k p).2.2 = 0 ∨ (lookFrom s k p).2.2 = 4 ∧ (lookFrom s k p).1 = []
  | 0, p => .inl rfl
  | k + 1, p => by
    unfold lookFrom
    by_cases h1 : allFF (s.extract p s.size) = true
    · rw [if_pos h1]; exact .inl rfl
    rw [if_neg h1]
    by_cases h2 : (entOf (s.extract p s.size)).2 ≠ 0
    · rw [if_pos h2]
      refine .inr ⟨?_, rfl⟩
      revert h2
      unfold entOf
      dsimp only
      repeat' split
      all_goals first | (intro; rfl) | (intro h; exact absurd rfl h)
    rw [if_neg h2]
    unfold comb
    rcases look_err s k (p + (entOf (s.extract p s.size)).1.1) with h | ⟨h, h'⟩
    · rw [if_neg (by rw [h]; decide)]; exact .inl rfl
    · rw [if_pos (by rw [h]; decide)]; exact .inr ⟨h, rfl⟩
theorem lookB_err (s : ByteArray) : (lookB s).2.2 = 0 ∨ (lookB s).2.2 = 4 ∧ (lookB s).1 = [] := by
  unfold lookB
  by_cases h : s.size < 384
  · rw [if_pos h]; exact .inr ⟨rfl, rfl⟩
  · rw [if_neg h, comb_nil]; exact look_err _ _ _
theorem look_new (n : Nat) (h1 : 3 ≤ n) (h2 : n ≤ 32) : lookB ⟨(joinM (newRes (n : Int))).toArray⟩ = ([], 0, 0) := by
  obtain ⟨e, hG⟩ := newRes_ff n (by omega) h2
  have hz : (⟨(joinM (newRes (n : Int))).toArray⟩ : ByteArray).size = n * 128 := by rw [size_of_join, joinM_length hG.2.2.2, hG.1]
  unfold lookB
  rw [if_neg (by omega), comb_nil]
  apply look_free
  rw [allFF_ext]
  intro j _ hj
  obtain ⟨b, hb⟩ : ∃ b, (joinM (newRes (n : Int)))[j]? = some b := ⟨_, List.getElem?_eq_getElem (by rw [size_of_join] at hj; exact hj)⟩
  rw [at8_some hb]
  have hm := List.mem_of_getElem? hb
  unfold joinM at hm
  obtain ⟨x, hx, hbx⟩ := List.mem_flatMap.1 hm
  rw [e] at hx
  rw [(List.mem_replicate.1 hx).2] at hbx
  unfold ffB at hbx
  simpa using hbx
theorem append_ok {n : Nat} {F : List ByteArray} (hG : GoodF n F) {s : ByteArray} (h0 : 1 ≤ s.size) (h8 : s.size ≤ 800) {recs : List ByteArray} {q : Nat} (h : lookB ⟨(joinM F).toArray⟩ = (recs, q, 0)) (hr : q + 3 + s.size ≤ n * 128) : appRes F s = (doneAll F (deedsOf q s), deedsOf q s, 0) := by
  have hz : (⟨(joinM F).toArray⟩ : ByteArray).size = n * 128 := by rw [size_of_join, joinM_length hG.2.2.2, hG.1]
  have hp : placeRes ⟨(joinM F).toArray⟩ s = (q, 0) := by
    unfold placeRes
    rw [if_neg (by omega), if_neg (by omega), h, if_neg (by simp), if_neg (by dsimp only; omega)]
  unfold appRes
  rw [if_neg (by rw [hG.chk]; decide), hp, if_neg (by simp)]
  have hd := (append_there hG h0 h8 h hr).2.2
  unfold doRes
  rw [if_pos hd]
theorem open_ok {n : Nat} {F : List ByteArray} (hG : GoodF n F) {recs : List ByteArray} {q : Nat} (h : lookB ⟨(joinM F).toArray⟩ = (recs, q, 0)) : openRes F = (recs, 0) := by
  unfold openRes
  rw [if_neg (by rw [hG.chk]; decide), h]
theorem fmt_ok (n : Nat) (h1 : 3 ≤ n) (h2 : n ≤ 32) : fmtRes (n : Int) = (newRes (n : Int), 0) := by
  unfold fmtRes
  rw [if_neg (by omega), if_pos (by omega)]

/-- What they lie on. -/
def jbS : ByteArray := ⟨#[115, 111, 109, 101, 32, 114, 101, 99, 111, 114, 100]⟩
def jbF : List ByteArray := newRes 3
def jbX : List ByteArray := doneAll jbF (deedsOf 0 jbS)
theorem jb1 : fmtRes 3 = (jbF, 0) := fmt_ok 3 (by decide) (by decide)
theorem jb2 : appRes jbF jbS = (jbX, deedsOf 0 jbS, 0) := append_ok (newRes_ff 3 (by decide) (by decide)).2 (by decide) (by decide) (look_new 3 (by decide) (by decide)) (by decide)
theorem jb3 : openRes jbX = ([jbS], 0) := by
  obtain ⟨g, h, _⟩ := append_there (newRes_ff 3 (by decide) (by decide)).2 (s := jbS) (by decide) (by decide) (look_new 3 (by decide) (by decide)) (by decide)
  exact open_ok g h
theorem jb4 : openRes jbF = ([], 0) := open_ok (newRes_ff 3 (by decide) (by decide)).2 (look_new 3 (by decide) (by decide))

set_option maxHeartbeats 8000000 in
theorem journalBegun_any (w : World) : Calls Try.prog 5 #[] w fun e w' => e = .returned (.bool true) ∧ Below w.heap.size w w' := by
  have HFM : Hid (∀ W, Calls Try.prog 7 #[.int .i64 3] W fun e w' => (∃ r, e = .returned (.tuple #[.agg #[r], .int .i64 0]) ∧ IsFl w'.heap.size w' r jbF) ∧ Below W.heap.size W w') := fun W => by
    have := format_any 3 W
    rw [jb1] at this
    exact this
  have HAP : Hid (∀ v W, IsFl W.heap.size W v jbF → Calls Try.prog 10 #[.agg #[v], .string ⟨#[115, 111, 109, 101, 32, 114, 101, 99, 111, 114, 100]⟩] W fun e w' => (∃ r d, e = .returned (.tuple #[.agg #[r], d, .int .i64 0]) ∧ IsFl w'.heap.size w' r jbX ∧ ∃ da dc, d = .slice da 15 dc) ∧ Below W.heap.size W w') := fun v W h => by
    have := append_any jbF v jbS W h (by decide)
    rw [jb2] at this
    refine this.mono ?_
    rintro e w' ⟨⟨r, d, rfl, h1, h2⟩, hb⟩
    obtain ⟨da, dc, rfl⟩ := own_form h2
    exact ⟨⟨r, _, rfl, h1, da, dc, by rw [show (deedsOf 0 jbS).length = 15 from deedsOf_length 0 jbS]⟩, hb⟩
  have HO1 : Hid (∀ v W, IsFl W.heap.size W v jbX → Calls Try.prog 15 #[.agg #[v]] W fun e w' => (∃ r, e = .returned (.tuple #[r, .int .i64 0]) ∧ RowOf 1 strCell w'.heap.size w' r [jbS]) ∧ Below W.heap.size W w') := fun v W h => by
    have := open_any jbX v W h
    rw [jb3] at this
    refine this.mono ?_
    rintro e w' ⟨⟨r, rfl, h1⟩, hb⟩
    exact ⟨⟨r, rfl, own_rows (C := strC) (fun _ => rfl) strC_at h1 (by simp)⟩, hb⟩
  have HO2 : Hid (∀ v W, IsFl W.heap.size W v jbF → Calls Try.prog 15 #[.agg #[v]] W fun e w' => (∃ ra rc, e = .returned (.tuple #[.slice ra 0 rc, .int .i64 0])) ∧ Below W.heap.size W w') := fun v W h => by
    have := open_any jbF v W h
    rw [jb4] at this
    refine this.mono ?_
    rintro e w' ⟨⟨r, rfl, h1⟩, hb⟩
    obtain ⟨ra, rc, rfl⟩ := own_form h1
    exact ⟨⟨ra, rc, rfl⟩, hb⟩
  have HST : Hid (∀ v v' W, RowOf 1 strCell W.heap.size W v [jbS] → RowOf 1 strCell W.heap.size W v' [jbS] → Calls Try.prog 16 #[v, v'] W fun e w' => e = .returned (.bool true) ∧ Below W.heap.size W w') := fun v v' W h1 h2 => by
    have := sameTexts_any [jbS] [jbS] v v' W h1 h2
    rw [sameB_self] at this
    exact this
  have HRW : Hid (∀ (W : World) n, n = W.heap.size → RowOf 1 strCell (W.alloc (.cells #[.string ⟨#[115, 111, 109, 101, 32, 114, 101, 99, 111, 114, 100]⟩] 9)).heap.size (W.alloc (.cells #[.string ⟨#[115, 111, 109, 101, 32, 114, 101, 99, 111, 114, 100]⟩] 9)) (.slice (some ⟨n, 0, none⟩) 1 1) [jbS]) := fun W n hn => by
    subst hn
    exact rowOf_cells (C := strC) (cells := strCell) (sz := 1) (fun _ => rfl) strC_at (CellsAt.new W 9 #[.string ⟨#[115, 111, 109, 101, 32, 114, 101, 99, 111, 114, 100]⟩]) [jbS] (show 1 ≤ 255 by decide) 1 rfl
  have hsz : jbF.length = 3 ∧ jbX.length = 3 := by
    obtain ⟨g, _⟩ := append_there (newRes_ff 3 (by decide) (by decide)).2 (s := jbS) (by decide) (by decide) (look_new 3 (by decide) (by decide)) (by decide)
    exact ⟨(newRes_ff 3 (by decide) (by decide)).2.1, g.1⟩
  obtain ⟨hl1, hl2⟩ := hsz
  generalize jbF = F at *
  generalize jbX = X at *
  generalize hdl : [jbS] = dl at *
  have HDL : Hid ((1 : Nat) = dl.length) := by rw [← hdl]; rfl
  clear hdl
  have HB0 : Hid (Below w.heap.size w w) := Below.refl _ _
  go_enter Try.func5, Try.ntmps5
  go_wp2_with fail
  refine (HFM.out _).mono ?_
  rintro e wc1 ⟨⟨r1, rfl, hr1⟩, bb1⟩
  replace HB0 : Hid (Below w.heap.size w wc1) := HB0.out.trans (bb1.mono HB0.out.size)
  clear bb1
  obtain ⟨⟨a1, c1, rfl, _, _⟩, _⟩ := id hr1
  rw [hl1] at hr1 ⊢
  have HF : Hid (IsFl wc1.heap.size wc1 (.slice a1 3 c1) F) := hr1
  clear hr1 HFM
  replace HB0 : Hid (Below w.heap.size w (wc1.alloc (.cells #[.slice a1 3 c1] 26))) := HB0.out.alloc HB0.out.size _
  replace HF : Hid (IsFl (wc1.alloc (.cells #[.slice a1 3 c1] 26)).heap.size (wc1.alloc (.cells #[.slice a1 3 c1] 26)) (.slice a1 3 c1) F) := (HF.out.below ((Below.refl _ _).alloc (Nat.le_refl _) _)).more (by simp)
  have H1 : Hid (CellsAt (wc1.alloc (.cells #[.slice a1 3 c1] 26)) (wc1.heap.size) 26 #[.slice a1 3 c1]) := by first | exact CellsAt.new _ _ _ | (have := CellsAt.new wc1 26 #[.slice a1 3 c1]; simp only [World.size_alloc] at this; exact this)
  go_wp2_with fail
  generalize (wc1.alloc (.cells #[.slice a1 3 c1] 26)) = w2 at *
  refine (HAP.out _ _ HF.out).mono ?_
  rintro e wc3 ⟨⟨r3, d3, rfl, hr3, da, dc, rfl⟩, bb3⟩
  replace HB0 : Hid (Below w.heap.size w wc3) := HB0.out.trans (bb3.mono HB0.out.size)
  replace HF : Hid (IsFl wc3.heap.size wc3 (.slice a1 3 c1) F) := (HF.out.below bb3).more bb3.size
  replace H1 : Hid (CellsAt wc3 (wc1.heap.size) 26 #[.slice a1 3 c1]) := H1.out.below bb3 H1.out.lt
  clear bb3
  obtain ⟨⟨a3, c3, rfl, _, _⟩, _⟩ := id hr3
  rw [hl2] at hr3 ⊢
  have HX : Hid (IsFl wc3.heap.size wc3 (.slice a3 3 c3) X) := hr3
  clear hr3 HAP
  have pl_H1_0 := H1.out.cell 0
  simp at pl_H1_0
  have pl_H1_lt := H1.out.lt
  replace HB0 : Hid (Below w.heap.size w (wc3.alloc (.cells #[.slice a3 3 c3] 26))) := HB0.out.alloc HB0.out.size _
  replace HF : Hid (IsFl (wc3.alloc (.cells #[.slice a3 3 c3] 26)).heap.size (wc3.alloc (.cells #[.slice a3 3 c3] 26)) (.slice a1 3 c1) F) := (HF.out.below ((Below.refl _ _).alloc (Nat.le_refl _) _)).more (by simp)
  replace H1 : Hid (CellsAt (wc3.alloc (.cells #[.slice a3 3 c3] 26)) (wc1.heap.size) 26 #[.slice a1 3 c1]) := H1.out.kept (World.grownBy_alloc _ _ none) (by simp)
  replace HX : Hid (IsFl (wc3.alloc (.cells #[.slice a3 3 c3] 26)).heap.size (wc3.alloc (.cells #[.slice a3 3 c3] 26)) (.slice a3 3 c3) X) := (HX.out.below ((Below.refl _ _).alloc (Nat.le_refl _) _)).more (by simp)
  have H3 : Hid (CellsAt (wc3.alloc (.cells #[.slice a3 3 c3] 26)) (wc3.heap.size) 26 #[.slice a3 3 c3]) := by first | exact CellsAt.new _ _ _ | (have := CellsAt.new wc3 26 #[.slice a3 3 c3]; simp only [World.size_alloc] at this; exact this)
  go_wp2_with fail
  clear pl_H1_0 pl_H1_lt
  generalize (wc3.alloc (.cells #[.slice a3 3 c3] 26)) = w4 at *
  refine (HO1.out _ _ HX.out).mono ?_
  rintro e wc5 ⟨⟨r6, rfl, hr6⟩, bb5⟩
  replace HB0 : Hid (Below w.heap.size w wc5) := HB0.out.trans (bb5.mono HB0.out.size)
  replace HF : Hid (IsFl wc5.heap.size wc5 (.slice a1 3 c1) F) := (HF.out.below bb5).more bb5.size
  replace H1 : Hid (CellsAt wc5 (wc1.heap.size) 26 #[.slice a1 3 c1]) := H1.out.below bb5 H1.out.lt
  replace HX : Hid (IsFl wc5.heap.size wc5 (.slice a3 3 c3) X) := (HX.out.below bb5).more bb5.size
  replace H3 : Hid (CellsAt wc5 (wc3.heap.size) 26 #[.slice a3 3 c3]) := H3.out.below bb5 H3.out.lt
  clear bb5
  obtain ⟨a6, c6, rfl, _, _⟩ := id hr6
  rw [← HDL.out] at hr6 ⊢
  have HR6 : Hid (RowOf 1 strCell wc5.heap.size wc5 (.slice a6 1 c6) dl) := hr6
  clear hr6 HO1
  have pl_H1_0 := H1.out.cell 0
  simp at pl_H1_0
  have pl_H1_lt := H1.out.lt
  go_wp2_with fail
  clear pl_H1_0 pl_H1_lt
  refine (HO2.out _ _ HF.out).mono ?_
  rintro e wc6 ⟨⟨ra, rc, rfl⟩, bb6⟩
  replace HB0 : Hid (Below w.heap.size w wc6) := HB0.out.trans (bb6.mono HB0.out.size)
  replace HF : Hid (IsFl wc6.heap.size wc6 (.slice a1 3 c1) F) := (HF.out.below bb6).more bb6.size
  replace H1 : Hid (CellsAt wc6 (wc1.heap.size) 26 #[.slice a1 3 c1]) := H1.out.below bb6 H1.out.lt
  replace HX : Hid (IsFl wc6.heap.size wc6 (.slice a3 3 c3) X) := (HX.out.below bb6).more bb6.size
  replace H3 : Hid (CellsAt wc6 (wc3.heap.size) 26 #[.slice a3 3 c3]) := H3.out.below bb6 H3.out.lt
  replace HR6 : Hid (RowOf 1 strCell wc6.heap.size wc6 (.slice a6 1 c6) dl) := (HR6.out.below bb6).more bb6.size
  clear bb6
  clear HO2
  replace HB0 : Hid (Below w.heap.size w (wc6.alloc (.cells #[.string ⟨#[115, 111, 109, 101, 32, 114, 101, 99, 111, 114, 100]⟩] 9))) := HB0.out.alloc HB0.out.size _
  replace HF : Hid (IsFl (wc6.alloc (.cells #[.string ⟨#[115, 111, 109, 101, 32, 114, 101, 99, 111, 114, 100]⟩] 9)).heap.size (wc6.alloc (.cells #[.string ⟨#[115, 111, 109, 101, 32, 114, 101, 99, 111, 114, 100]⟩] 9)) (.slice a1 3 c1) F) := (HF.out.below ((Below.refl _ _).alloc (Nat.le_refl _) _)).more (by simp)
  replace H1 : Hid (CellsAt (wc6.alloc (.cells #[.string ⟨#[115, 111, 109, 101, 32, 114, 101, 99, 111, 114, 100]⟩] 9)) (wc1.heap.size) 26 #[.slice a1 3 c1]) := H1.out.kept (World.grownBy_alloc _ _ none) (by simp)
  replace HX : Hid (IsFl (wc6.alloc (.cells #[.string ⟨#[115, 111, 109, 101, 32, 114, 101, 99, 111, 114, 100]⟩] 9)).heap.size (wc6.alloc (.cells #[.string ⟨#[115, 111, 109, 101, 32, 114, 101, 99, 111, 114, 100]⟩] 9)) (.slice a3 3 c3) X) := (HX.out.below ((Below.refl _ _).alloc (Nat.le_refl _) _)).more (by simp)
  replace H3 : Hid (CellsAt (wc6.alloc (.cells #[.string ⟨#[115, 111, 109, 101, 32, 114, 101, 99, 111, 114, 100]⟩] 9)) (wc3.heap.size) 26 #[.slice a3 3 c3]) := H3.out.kept (World.grownBy_alloc _ _ none) (by simp)
  replace HR6 : Hid (RowOf 1 strCell (wc6.alloc (.cells #[.string ⟨#[115, 111, 109, 101, 32, 114, 101, 99, 111, 114, 100]⟩] 9)).heap.size (wc6.alloc (.cells #[.string ⟨#[115, 111, 109, 101, 32, 114, 101, 99, 111, 114, 100]⟩] 9)) (.slice a6 1 c6) dl) := (HR6.out.below ((Below.refl _ _).alloc (Nat.le_refl _) _)).more (by simp)
  have HRB : Hid (RowOf 1 strCell (wc6.alloc (.cells #[.string ⟨#[115, 111, 109, 101, 32, 114, 101, 99, 111, 114, 100]⟩] 9)).heap.size (wc6.alloc (.cells #[.string ⟨#[115, 111, 109, 101, 32, 114, 101, 99, 111, 114, 100]⟩] 9)) (.slice (some ⟨wc6.heap.size, 0, none⟩) 1 1) dl) := HRW.out _ _ rfl
  go_wp2_with fail
  generalize (wc6.alloc (.cells #[.string ⟨#[115, 111, 109, 101, 32, 114, 101, 99, 111, 114, 100]⟩] 9)) = w6 at *
  refine (HST.out _ _ _ HR6.out HRB.out).mono ?_
  rintro e wc8 ⟨rfl, bb8⟩
  replace HB0 : Hid (Below w.heap.size w wc8) := HB0.out.trans (bb8.mono HB0.out.size)
  replace HF : Hid (IsFl wc8.heap.size wc8 (.slice a1 3 c1) F) := (HF.out.below bb8).more bb8.size
  replace H1 : Hid (CellsAt wc8 (wc1.heap.size) 26 #[.slice a1 3 c1]) := H1.out.below bb8 H1.out.lt
  replace HX : Hid (IsFl wc8.heap.size wc8 (.slice a3 3 c3) X) := (HX.out.below bb8).more bb8.size
  replace H3 : Hid (CellsAt wc8 (wc3.heap.size) 26 #[.slice a3 3 c3]) := H3.out.below bb8 H3.out.lt
  replace HR6 : Hid (RowOf 1 strCell wc8.heap.size wc8 (.slice a6 1 c6) dl) := (HR6.out.below bb8).more bb8.size
  replace HRB : Hid (RowOf 1 strCell wc8.heap.size wc8 (.slice (some ⟨wc6.heap.size, 0, none⟩) 1 1) dl) := (HRB.out.below bb8).more bb8.size
  clear bb8
  have HBZ := HB0
  clear HF H1 HX H3 HR6 HRB HST HRW
  go_wp2
  go_ret
  exact ⟨rfl, HBZ.out⟩

end Go.Proofs.Ythmohjgdcjafkag

/- Rows of one's own: rows of other types, and cells, lie apart from them. -/
namespace Go.Proofs.Ythmohjgdcjafkag
open Go.RowKit Go.PlainAid

theorem own_kind {W : World} {base : Nat} {e : TypeId} {size : Nat} {v : Value} {n : Nat} {xs : List Value} (h : W.ownsRow base e size v n xs) : ∀ k, v.ownBlock = some k → ∃ cur fr, W.heap[k]? = some (.cells cur e fr) := by
  intro k hk
  rcases h.2 with ⟨rfl, _⟩ | ⟨g, cap, cur, rfl, _, hc, _⟩
  · cases hk
  · simp [Value.ownBlock] at hk
    subst hk
    exact ⟨cur, _, hc⟩
theorem own_ne_own {W : World} {b1 b2 : Nat} {e1 e2 : TypeId} {s1 s2 : Nat} {v1 v2 : Value} {n1 n2 : Nat} {x1 x2 : List Value} (h1 : W.ownsRow b1 e1 s1 v1 n1 x1) (h2 : W.ownsRow b2 e2 s2 v2 n2 x2) (he : e1 ≠ e2) : v1.ownBlock = none ∨ v1.ownBlock ≠ v2.ownBlock := by
  cases hv : v1.ownBlock with
  | none => exact .inl rfl
  | some k =>
    refine .inr fun e => ?_
    obtain ⟨c1, f1, hc1⟩ := own_kind h1 k hv
    obtain ⟨c2, f2, hc2⟩ := own_kind h2 k e.symm
    rw [hc1] at hc2
    injection hc2 with hc2
    injection hc2 with _ h
    exact he h
theorem own_ne_cells {W : World} {b B : Nat} {e t : TypeId} {s : Nat} {v : Value} {n : Nat} {xs : List Value} {cs : Array Value} (h1 : W.ownsRow b e s v n xs) (hc : CellsAt W B t cs) (he : e ≠ t) : v.ownBlock ≠ some B := by
  intro hv
  obtain ⟨c1, f1, hc1⟩ := own_kind h1 B hv
  rw [show W.heap[B]? = _ from hc] at hc1
  injection hc1 with hc1
  injection hc1 with _ h
  exact he h.symm
theorem own_storeAt {W : World} {b B : Nat} {e t : TypeId} {s : Nat} {v : Value} {n : Nat} {xs : List Value} {cs : Array Value} (h : W.ownsRow b e s v n xs) (hc : CellsAt W B t cs) (he : e ≠ t) (i : Nat) (u : Value) : (W.setCell ⟨B, i, none⟩ u).ownsRow b e s v n xs :=
  h.kept (grown_set W B i u) (.inr (own_ne_cells h hc he))
theorem own_apart {v1 v2 : Value} (h : ∀ k, v1.ownBlock = some k → v2.ownBlock ≠ some k) : v2.ownBlock = none ∨ v2.ownBlock ≠ v1.ownBlock := by
  cases hv : v2.ownBlock with
  | none => exact .inl rfl
  | some k => exact .inr fun e => h k e.symm hv
/-- What a growth of another type's row leaves as it was. -/
theorem own_beside {W W' : World} {b1 b2 : Nat} {e1 e2 : TypeId} {s1 s2 : Nat} {v1 v2 : Value} {n1 n2 : Nat} {x1 x2 : List Value} (h1 : W.ownsRow b1 e1 s1 v1 n1 x1) (h2 : W.ownsRow b2 e2 s2 v2 n2 x2) (he : e1 ≠ e2) (hg : W.grownBy W' v2.ownBlock) : W'.ownsRow b1 e1 s1 v1 n1 x1 :=
  h1.kept hg (own_ne_own h1 h2 he)
theorem cells_beside {W W' : World} {b B : Nat} {e t : TypeId} {s : Nat} {v : Value} {n : Nat} {xs : List Value} {cs : Array Value} (hc : CellsAt W B t cs) (h : W.ownsRow b e s v n xs) (he : e ≠ t) (hg : W.grownBy W' v.ownBlock) : CellsAt W' B t cs :=
  hc.kept hg (fun e' => own_ne_cells h hc he e'.symm)
theorem own_down {W : World} {base b : Nat} {e : TypeId} {size : Nat} {v : Value} {n : Nat} {xs : List Value} (h : W.ownsRow base e size v n xs) (hb : b ≤ base) : W.ownsRow b e size v n xs :=
  ⟨h.1, h.2.imp id (fun ⟨g, cap, cur, h1, h2, h3⟩ => ⟨g, cap, cur, h1, Nat.le_trans hb h2, h3⟩)⟩

end Go.Proofs.Ythmohjgdcjafkag

/- Records that last, as data: what is written one behind the other; rows apart. -/
namespace Go.Proofs.Ythmohjgdcjafkag
open Go.RowKit Go.PlainAid Go.Lib

theorem chkDs_more (n : Nat) : ∀ (l r : List Deed) (e : Int), chkDs n e (l ++ r) = chkDs n (chkDs n e l) r
  | [], r, e => rfl
  | d :: l, r, e => by
    show (if e = 0 then chkDs n (chkDeed n d) (l ++ r) else e) = _
    by_cases h : e = 0
    · rw [if_pos h, chkDs_more n l r, show chkDs n e (d :: l) = chkDs n (chkDeed n d) l from if_pos h]
    · rw [if_neg h]
      show e = chkDs n (if e = 0 then _ else e) r
      rw [if_neg h, chkDs_wrong _ _ _ h]

/-- What is there behind all that was written. -/
def JInv (n : Nat) (F0 G : List ByteArray) (recs : List ByteArray) (D : List Deed) : Prop :=
  ∃ q, GoodF n F0 ∧ GoodF n G ∧ lookB ⟨(joinM G).toArray⟩ = (recs, q, 0) ∧ recs.length ≤ q ∧ D.length ≤ 2 * q ∧ chkDeeds F0 D = 0 ∧ doneAll F0 D = G
theorem JInv.start (n : Nat) (h1 : 3 ≤ n) (h2 : n ≤ 32) : JInv n (newRes (n : Int)) (newRes (n : Int)) [] [] :=
  have hG := (newRes_ff n (by omega) h2).2
  ⟨0, hG, hG, look_new n h1 h2, by simp, by simp, hG.chk, rfl⟩
theorem JInv.bounds {n : Nat} {F0 G recs : List ByteArray} {D : List Deed} (h : JInv n F0 G recs D) : recs.length ≤ 4096 ∧ D.length ≤ 8192 ∧ G.length = n ∧ n ≤ 32 := by
  obtain ⟨q, _, hG, hl, h1, h2, _⟩ := h
  have hq := (lookB_zero hl).2.2.2
  rw [size_of_join, joinM_length hG.2.2.2, hG.1] at hq
  have := hG.2.2.1
  exact ⟨by omega, by omega, hG.1, this⟩
theorem JInv.done {n : Nat} {F0 G recs : List ByteArray} {D : List Deed} (h : JInv n F0 G recs D) : doRes F0 D = G ∧ chkDeeds F0 D = 0 := by
  obtain ⟨q, _, _, _, _, _, h1, h2⟩ := h
  exact ⟨(if_pos h1).trans h2, h1⟩
theorem JInv.there {n : Nat} {F0 G recs : List ByteArray} {D : List Deed} (h : JInv n F0 G recs D) : openRes G = (recs, 0) := by
  obtain ⟨q, _, hG, hl, _⟩ := h
  exact open_ok hG hl
theorem JInv.next {n : Nat} {F0 G recs : List ByteArray} {D : List Deed} (h : JInv n F0 G recs D) (s : ByteArray) :
    (∃ l, appRes G s = (doneAll G l, l, 0) ∧ 1 ≤ l.length ∧ l.length ≤ 804 ∧ JInv n F0 (doneAll G l) (recs ++ [s]) (D ++ l)) ∨
    ((appRes G s).1 = [] ∧ (appRes G s).2.1 = [] ∧ ((s.size = 0 ∧ (appRes G s).2.2 = 1) ∨ (800 < s.size ∧ (appRes G s).2.2 = 2) ∨ (1 ≤ s.size ∧ s.size ≤ 800 ∧ (appRes G s).2.2 = 8))) := by
  obtain ⟨q, hF, hG, hl, h1, h2, h3, h4⟩ := h
  have hz : (⟨(joinM G).toArray⟩ : ByteArray).size = n * 128 := by rw [size_of_join, joinM_length hG.2.2.2, hG.1]
  by_cases a0 : s.size = 0
  · right
    unfold appRes placeRes
    rw [if_neg (by rw [hG.chk]; decide), if_pos a0, if_pos (by simp)]
    exact ⟨rfl, rfl, .inl ⟨a0, rfl⟩⟩
  by_cases a1 : 800 < s.size
  · right
    unfold appRes placeRes
    rw [if_neg (by rw [hG.chk]; decide), if_neg a0, if_pos a1, if_pos (by simp)]
    exact ⟨rfl, rfl, .inr (.inl ⟨a1, rfl⟩)⟩
  by_cases a2 : n * 128 < q + (3 + s.size)
  · right
    have hp : placeRes ⟨(joinM G).toArray⟩ s = (0, 8) := by
      unfold placeRes
      rw [if_neg a0, if_neg a1, hl, if_neg (by simp), if_pos (by dsimp only; omega)]
    unfold appRes
    rw [if_neg (by rw [hG.chk]; decide), hp, if_pos (by simp)]
    exact ⟨rfl, rfl, .inr (.inr ⟨by omega, by omega, rfl⟩)⟩
  · left
    obtain ⟨g1, g2, g3⟩ := append_there hG (s := s) (by omega) (by omega) hl (by omega)
    refine ⟨deedsOf q s, append_ok hG (by omega) (by omega) hl (by omega), by rw [deedsOf_length]; omega, by rw [deedsOf_length]; omega, q + 3 + s.size, hF, g1, g2, ?_, ?_, ?_, ?_⟩
    · rw [List.length_append, List.length_singleton]; omega
    · rw [List.length_append, deedsOf_length]; omega
    · unfold chkDeeds at h3 g3 ⊢
      rw [chkDs_more, h3]
      rw [hG.1, hG.chk] at g3
      rw [hF.1]
      exact g3
    · unfold doneAll at h4 ⊢
      rw [List.foldl_append, h4]

theorem own_some {W : World} {base : Nat} {e : TypeId} {size : Nat} {v : Value} {n : Nat} {xs : List Value} (h : W.ownsRow base e size v n xs) (hn : 1 ≤ n) : ∃ g cap, v = .slice (some ⟨g, 0, none⟩) n cap ∧ ∀ j u, xs[j]? = some u → W.cell? ((⟨g, 0, none⟩ : Addr).add j) = some u := by
  rcases h.2 with ⟨rfl, h0⟩ | ⟨g, cap, cur, rfl, _, hc, _⟩
  · omega
  · exact ⟨g, cap, rfl, h.cells rfl⟩

theorem deedC_one (l : List Deed) : ∀ u ∈ l.flatMap deedC, u.oneCell' = true := by
  intro u hu
  obtain ⟨d, _, hd⟩ := List.mem_flatMap.1 hu
  simp only [deedC, List.mem_cons, List.not_mem_nil, or_false] at hd
  rcases hd with rfl | rfl | rfl <;> rfl

end Go.Proofs.Ythmohjgdcjafkag
