/- What must be in any case, of regions. -/
import Derived.Test.YtaklbnabgcglhacRegG
import Derived.Test.YtaklbnabgcglhacPairA
namespace Go.Proofs.Ytaklbnabgcglhac
open Go.RowKit Go.PlainAid

set_option maxRecDepth 100000

set_option maxHeartbeats 1000000 in
theorem sameRuns_yes (l : List (Int × Int)) (v v' : Value) (w : World) (h1 : RowOf 2 runCell w.heap.size w v l) (h2 : RowOf 2 runCell w.heap.size w v' l) :
    Calls Try.prog 24 #[v, v'] w fun e w' => e = .returned (.bool true) ∧ Below w.heap.size w w' := by
  obtain ⟨a, cap, rfl, hz, h1⟩ := h1
  obtain ⟨a', cap', rfl, _, h2⟩ := h2
  have hne : ((l.length : Int) != (l.length : Int)) = false := by simp
  go_enter Try.func24, Try.ntmps24
  go_wp2
  go_loopw [5] (fun i wr => ∃ (k : Nat), k ≤ l.length ∧ i = .int .i64 k ∧ Hid (∃ q, wr = w.drewN q)) (fun i _ => l.length - (intOf i).toNat)
  case atStart => exact ⟨0, Nat.zero_le _, rfl, (⟨0, rfl⟩ : ∃ q, w = w.drewN q)⟩
  case round =>
    obtain ⟨k, hk, rfl, HQ⟩ := hrel
    by_cases hlt : k < l.length
    · obtain ⟨p, hp⟩ : ∃ p, l[k]? = some p := ⟨_, List.getElem?_eq_getElem hlt⟩
      rcases h1 with h | ⟨b, off, rfl, hbn, hc⟩
      · subst h; simp at hlt
      rcases h2 with h | ⟨b', off', rfl, hbn', hc'⟩
      · subst h; simp at hlt
      have hcl : ∀ p, wr.cell? p = w.cell? p := fun p => by obtain ⟨q, hq⟩ := HQ.out; rw [hq]; simp
      have c0 := (hcl _).trans (hc k _ hp 0 (by omega))
      have c1 := (hcl _).trans (hc k _ hp 1 (by omega))
      have d0 := (hcl _).trans (hc' k _ hp 0 (by omega))
      have d1 := (hcl _).trans (hc' k _ hp 1 (by omega))
      obtain ⟨n, A⟩ := p
      dsimp only [runCell] at c0 c1 d0 d1
      rw [Nat.add_zero] at c0 d0
      clear hcl hc hc' hp
      go_wp2
      go_quiet (fail)
      go_wp2
      obtain ⟨q, hq⟩ := HQ.out
      exact ⟨⟨k + 1, by omega, by go_num, (⟨q + _, by rw [hq, World.drewN_drewN]⟩ : ∃ q, _ = w.drewN q)⟩, by simp [intOf]; omega⟩
    · go_wp2
      go_ret
      obtain ⟨q, hq⟩ := HQ.out
      exact ⟨rfl, by rw [hq]; exact below_drewN (Below.refl _ _) q⟩

theorem reg_pair : chkReg pairL = 0 := by kernel_rfl
theorem free_pair : freeRes pairL = [(0, 1), (2, 2), (5, 11)] := by kernel_rfl
theorem first_pair : firstRes pairL 2 = (2, 0) := by kernel_rfl
theorem sz_lib : szM libM = 1 := by kernel_rfl

set_option maxHeartbeats 4000000 in
theorem regionBegun_any (w : World) : Calls Try.prog 23 #[] w fun e w' => e = .returned (.bool true) ∧ Below w.heap.size w w' := by
  go_enter Try.func23, Try.ntmps23
  go_wp2_with fail
  refine (lib_any _).mono ?_
  rintro e w1 ⟨pe, ke, rfl, hL, b1⟩
  have HS : Hid (Calls Try.prog 15 _ w1 fun e w' => _) := size_any libM _ w1 hL fits_lib
  rw [chk_lib, if_pos rfl, sz_lib] at HS
  clear hL
  go_wp2_with fail
  refine HS.out.mono ?_
  rintro e w2 ⟨rfl, b2⟩
  have B2 := b1.trans (b2.mono b1.size)
  clear b1 b2 HS
  go_wp2_with fail
  refine (pair_any _).mono ?_
  rintro e w3 ⟨v3, l3, rfl, h3, p3, b3⟩
  have B3 := B2.trans (b3.mono B2.size)
  have HF : Hid (Calls Try.prog 16 #[v3] w3 fun e w' => _) := free_any l3 v3 w3 p3 (pair_fits h3)
  rw [h3, reg_pair, free_pair] at HF
  obtain ⟨⟨a3, c3, rfl, _, _⟩, _⟩ := p3
  clear B2 b3 h3
  generalize l3.length = n3 at *
  go_wp2_with fail
  refine HF.out.mono ?_
  rintro e w4 ⟨⟨r4, rfl, R4⟩, b4⟩
  have B4 := B3.trans (b4.mono B3.size)
  clear HF b4 B3
  obtain ⟨a4, c4, rfl, _⟩ := id R4
  go_wp2_with fail
  refine (pair_any _).mono ?_
  rintro e w5 ⟨v5, l5, rfl, h5, p5, b5⟩
  have B5 := B4.trans (b5.mono B4.size)
  have R5 := (R4.below b5).more b5.size
  have HF : Hid (Calls Try.prog 17 #[v5, .int .i64 2] w5 fun e w' => _) := first_any l5 v5 2 w5 p5 (pair_fits h5)
  rw [h5, first_pair] at HF
  obtain ⟨⟨a5, c5, rfl, _, _⟩, _⟩ := p5
  clear B4 b5 h5 R4
  generalize l5.length = n5 at *
  go_wp2_with fail
  refine HF.out.mono ?_
  rintro e w6 ⟨rfl, b6⟩
  have B6 := B5.trans (b6.mono B5.size)
  have R6 := (R5.below b6).more b6.size
  clear HF b6 B5 R5
  have B7 : Below w.heap.size w (w6.alloc (.cells #[.int .i64 0, .int .i64 1, .int .i64 2, .int .i64 2, .int .i64 5, .int .i64 11] 55)) := B6.alloc B6.size _
  have b7 : Below w6.heap.size w6 (w6.alloc (.cells #[.int .i64 0, .int .i64 1, .int .i64 2, .int .i64 2, .int .i64 5, .int .i64 11] 55)) := (Below.refl _ _).alloc (Nat.le_refl _) _
  have R7 : RowOf 2 runCell (w6.alloc (.cells #[.int .i64 0, .int .i64 1, .int .i64 2, .int .i64 2, .int .i64 5, .int .i64 11] 55)).heap.size (w6.alloc (.cells #[.int .i64 0, .int .i64 1, .int .i64 2, .int .i64 2, .int .i64 5, .int .i64 11] 55)) (.slice (some ⟨w6.heap.size, 0, none⟩) 3 3) [(0, 1), (2, 2), (5, 11)] :=
    rowOf_cells (C := runC) (cells := runCell) (sz := 2) (fun _ => rfl) runC_at (CellsAt.new w6 55 _) [(0, 1), (2, 2), (5, 11)] (show 3 ≤ 255 by decide) 3 rfl
  have HQ : Hid (Calls Try.prog 24 _ _ fun e w' => _) := sameRuns_yes _ _ _ _ ((R6.below b7).more b7.size) R7
  have HB7 : Hid (Below w.heap.size w (w6.alloc (.cells #[.int .i64 0, .int .i64 1, .int .i64 2, .int .i64 2, .int .i64 5, .int .i64 11] 55))) := B7
  clear b7 R7 R6 B7
  go_wp2_with fail
  refine HQ.out.mono ?_
  rintro e w8 ⟨rfl, b8⟩
  have B8 := HB7.out.trans (b8.mono HB7.out.size)
  clear HQ HB7 b8
  go_wp2
  go_ret
  exact ⟨rfl, B8⟩

end Go.Proofs.Ytaklbnabgcglhac
