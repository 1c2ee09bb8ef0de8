/- What must be in any case, of graphs. -/
import Derived.Test.YtaklbnabgcglhabGrB
namespace Go.Proofs.Ytaklbnabgcglhab
open Go.RowKit Go.PlainAid

set_option maxRecDepth 100000

theorem rowText (W : World) (l : List ByteArray) (hl : l.length ≤ 255) (n : Nat) (hn : n = l.length) : RowOf 1 strCell (W.alloc (.cells (l.flatMap strC).toArray 9)).heap.size (W.alloc (.cells (l.flatMap strC).toArray 9)) (.slice (some ⟨W.heap.size, 0, none⟩) n n) l := by
  subst hn
  exact rowOf_cells (C := strC) (cells := strCell) (sz := 1) (fun _ => rfl) strC_at (CellsAt.new W 9 _) l hl l.length rfl

set_option maxHeartbeats 4000000 in
theorem graphBegun_any (w : World) : Calls Try.prog 35 #[] w fun e w' => e = .returned (.bool true) ∧ Below w.heap.size w w' := by
  go_enter Try.func35, Try.ntmps35
  go_wp2_with fail
  refine (pair_any _).mono ?_
  rintro e w3 ⟨v3, l3, rfl, h3, p3, B3⟩
  have HF : Hid (Calls Try.prog 27 #[v3, .string ⟨#[97, 112, 112]⟩] w3 fun e w' => _) := needs_any l3 v3 appN w3 p3 (pair_fits h3)
  rw [h3, err_app] at HF
  obtain ⟨⟨a3, c3, rfl, _, _⟩, _⟩ := p3
  clear h3
  generalize l3.length = n3 at *
  go_wp2_with fail
  refine HF.out.mono ?_
  rintro e w4 ⟨⟨r4, ss, rfl, R4, hs⟩, b4⟩
  obtain rfl := come_app hs
  have B4 := B3.trans (b4.mono B3.size)
  clear HF b4 B3 hs
  obtain ⟨a4, c4, rfl, _⟩ := id R4
  go_wp2_with fail
  refine (pair_any _).mono ?_
  rintro e w5 ⟨v5, l5, rfl, h5, p5, b5⟩
  have B5 := B4.trans (b5.mono B4.size)
  have R5 := (R4.below b5).more b5.size
  have HF : Hid (Calls Try.prog 28 #[v5, .string ⟨#[108, 105, 98]⟩] w5 fun e w' => _) := users_any l5 v5 libN w5 p5 (pair_fits h5)
  rw [h5, err_lib] at HF
  obtain ⟨⟨a5, c5, rfl, _, _⟩, _⟩ := p5
  clear B4 b5 h5 R4
  generalize l5.length = n5 at *
  go_wp2_with fail
  refine HF.out.mono ?_
  rintro e w6 ⟨⟨r6, ss, rfl, U6, hs⟩, b6⟩
  obtain rfl := come_lib hs
  have B6 := B5.trans (b6.mono B5.size)
  have R6 := (R5.below b6).more b6.size
  clear HF b6 B5 R5 hs
  obtain ⟨a6, c6, rfl, _⟩ := id U6
  go_wp2_with fail
  refine (pair_any _).mono ?_
  rintro e w7 ⟨v7, l7, rfl, h7, p7, b7⟩
  have B7 := B6.trans (b7.mono B6.size)
  have R7 := (R6.below b7).more b7.size
  have U7 := (U6.below b7).more b7.size
  have HF : Hid (Calls Try.prog 29 #[v7] w7 fun e w' => _) := order_any l7 v7 w7 p7 (pair_fits h7)
  rw [h7, ord_pair] at HF
  obtain ⟨⟨a7, c7, rfl, _, _⟩, _⟩ := p7
  clear B6 b7 h7 R6 U6
  generalize l7.length = n7 at *
  go_wp2_with fail
  refine HF.out.mono ?_
  rintro e w8 ⟨⟨r8, rfl, O8, _⟩, b8⟩
  have B8 := B7.trans (b8.mono B7.size)
  have R8 := (R7.below b8).more b8.size
  have U8 := (U7.below b8).more b8.size
  clear HF b8 B7 R7 U7
  obtain ⟨a8, c8, rfl, _⟩ := id O8
  have T1 := rowText w8 [libN] (by decide) 1 rfl
  have b9 : Below w8.heap.size w8 (w8.alloc (.cells #[.string ⟨#[108, 105, 98]⟩] 9)) := (Below.refl _ _).alloc (Nat.le_refl _) _
  have HQ : Hid (Calls Try.prog 36 _ _ fun e w' => _) := sameTexts_yes _ _ _ _ ((R8.below b9).more b9.size) T1
  have HB9 : Hid (Below w8.heap.size w8 (w8.alloc (.cells #[.string ⟨#[108, 105, 98]⟩] 9))) := b9
  have HU8 : Hid (RowOf 1 strCell w8.heap.size w8 (.slice a6 [appN].length c6) [appN]) := U8
  have HO8 : Hid (RowOf 1 strCell w8.heap.size w8 (.slice a8 [libN, appN].length c8) [libN, appN]) := O8
  clear b9 R8 T1 U8 O8
  dsimp only [List.length_cons, List.length_nil] at *
  go_wp2_with fail
  refine HQ.out.mono ?_
  rintro e w9 ⟨rfl, b9⟩
  have B9 := B8.trans ((HB9.out.trans (b9.mono HB9.out.size)).mono B8.size)
  have U9 := ((HU8.out.below HB9.out).more HB9.out.size)
  have O9 := ((HO8.out.below HB9.out).more HB9.out.size)
  have U9 := (U9.below b9).more b9.size
  have O9 := (O9.below b9).more b9.size
  clear HQ HB9 b9 HU8 HO8 B8
  have T1 := rowText w9 [appN] (by decide) 1 rfl
  have b9 : Below w9.heap.size w9 (w9.alloc (.cells #[.string ⟨#[97, 112, 112]⟩] 9)) := (Below.refl _ _).alloc (Nat.le_refl _) _
  have HQ : Hid (Calls Try.prog 36 _ _ fun e w' => _) := sameTexts_yes _ _ _ _ ((U9.below b9).more b9.size) T1
  have HB9 : Hid (Below w9.heap.size w9 (w9.alloc (.cells #[.string ⟨#[97, 112, 112]⟩] 9))) := b9
  have HO9 : Hid (RowOf 1 strCell w9.heap.size w9 (.slice a8 2 c8) [libN, appN]) := O9
  clear b9 T1 U9 O9
  go_wp2_with fail
  refine HQ.out.mono ?_
  rintro e wa ⟨rfl, ba⟩
  have BA := B9.trans ((HB9.out.trans (ba.mono HB9.out.size)).mono B9.size)
  have OA := ((HO9.out.below HB9.out).more HB9.out.size)
  have OA := (OA.below ba).more ba.size
  clear HQ HB9 ba HO9 B9
  have T1 := rowText wa [libN, appN] (by decide) 2 rfl
  have bb : Below wa.heap.size wa (wa.alloc (.cells #[.string ⟨#[108, 105, 98]⟩, .string ⟨#[97, 112, 112]⟩] 9)) := (Below.refl _ _).alloc (Nat.le_refl _) _
  have HQ : Hid (Calls Try.prog 36 _ _ fun e w' => _) := sameTexts_yes _ _ _ _ ((OA.below bb).more bb.size) T1
  have HB9 : Hid (Below wa.heap.size wa (wa.alloc (.cells #[.string ⟨#[108, 105, 98]⟩, .string ⟨#[97, 112, 112]⟩] 9))) := bb
  clear bb T1 OA
  go_wp2_with fail
  refine HQ.out.mono ?_
  rintro e wb ⟨rfl, bb⟩
  have BB := BA.trans ((HB9.out.trans (bb.mono HB9.out.size)).mono BA.size)
  clear HQ HB9 bb BA
  go_wp2
  go_ret
  exact ⟨rfl, BB⟩

end Go.Proofs.Ytaklbnabgcglhab
