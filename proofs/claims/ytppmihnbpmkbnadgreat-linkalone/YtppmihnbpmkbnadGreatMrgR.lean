/- Texts that are laid together. -/
import Derived.Test.YtppmihnbpmkbnadGreatMrgI
import Derived.Test.YtppmihnbpmkbnadGreatMrgQ
import Derived.Test.YtppmihnbpmkbnadGreatMrgO
import Derived.Test.YtppmihnbpmkbnadGreatMrgA

/- The contracts of the statements' kernel, pair, and of the document's SameInts. -/
namespace Go.Proofs.YtppmihnbpmkbnadGreat
open Go.RowKit Go.PlainAid

set_option maxRecDepth 100000

def kernK : Ker := ⟨0, 0, [⟨⟨#[107]⟩, 2⟩]⟩
theorem kern_fits : kernK.fits := by
  intro e he
  have : e = ⟨⟨#[107]⟩, 2⟩ := by simpa [kernK] using he
  subst this
  decide
set_option maxHeartbeats 1000000 in
theorem kernelFn_any (w : World) : Calls Tryz.prog 43 #[] w fun e w' => ∃ v, e = .returned v ∧ IsKer w'.heap.size w' v kernK ∧ Below w.heap.size w w' := by
  go_enter Tryz.func43, Tryz.ntmps43
  go_wp2
  (try simp only [Exit.inBlock, Exit.then])
  have hF : CellsAt ((w.alloc (.cells #[.int .i64 0, .int .i64 0, .slice (some ⟨w.heap.size + 1, 0, none⟩) 1 1] 24)).alloc (.cells #[.string ⟨#[107]⟩, .int .i64 2] 120)) w.heap.size 24 #[.int .i64 0, .int .i64 0, .slice (some ⟨w.heap.size + 1, 0, none⟩) 1 1] := CellsAt.kept (CellsAt.new w _ _) (World.grownBy_alloc _ _ none) (by simp)
  refine bodyPost_ret (results_cell_row rfl _ _ _ _ _ _ _ rfl hF Tryz.underlying24 rfl (by kernel_rfl)) rfl ?_
  refine ⟨_, rfl, ⟨_, rfl, ?_⟩, ((Below.refl _ _).alloc (Nat.le_refl _) _).alloc (by simp) _⟩
  have c := CellsAt.new (w.alloc (.cells #[.int .i64 0, .int .i64 0, .slice (some ⟨w.heap.size + 1, 0, none⟩) 1 1] 24)) 120 #[.string ⟨#[107]⟩, .int .i64 2]
  rw [World.size_alloc] at c
  exact rowOf_cells (C := expC) (cells := Exp.cell) (sz := 2) (fun _ => rfl) expC_at c kernK.exps (by decide) 1 rfl

set_option maxHeartbeats 1000000 in
theorem sameInts_yes (l : List Int) (v1 v2 : Value) (w : World) (h1 : RowOf 1 intCell w.heap.size w v1 l) (h2 : RowOf 1 intCell w.heap.size w v2 l) :
    Calls Tryz.prog 53 #[v1, v2] w fun e w' => e = .returned (.bool true) ∧ Below w.heap.size w w' := by
  obtain ⟨a1, c1, rfl, hl, h1⟩ := h1
  obtain ⟨a2, c2, rfl, _, h2⟩ := h2
  go_enter Tryz.func53, Tryz.ntmps53
  go_wp2
  go_loopw [5] (fun i wr => ∃ (k : Nat), k ≤ l.length ∧ i = .int .i64 k ∧ Below w.heap.size w wr) (fun i _ => l.length - (intOf i).toNat)
  case atStart => exact ⟨0, Nat.zero_le _, rfl, Below.refl _ _⟩
  case round =>
    obtain ⟨k, hk, rfl, B⟩ := hrel
    by_cases hlt : k < l.length
    · obtain ⟨x, hx⟩ : ∃ x, l[k]? = some x := ⟨_, List.getElem?_eq_getElem hlt⟩
      rcases h1 with h | ⟨b1, o1, rfl, hb1, hc1⟩
      · subst h; simp at hlt
      rcases h2 with h | ⟨b2, o2, rfl, hb2, hc2⟩
      · subst h; simp at hlt
      have d1 : wr.cell? ⟨b1, o1 + k, none⟩ = some (.int .i64 x) := by
        have := (B.cell (p := ⟨b1, o1 + k * 1 + 0, none⟩) hb1).trans (hc1 k _ hx 0 (by omega))
        rw [Nat.mul_one] at this
        exact this
      have d2 : wr.cell? ⟨b2, o2 + k, none⟩ = some (.int .i64 x) := by
        have := (B.cell (p := ⟨b2, o2 + k * 1 + 0, none⟩) hb2).trans (hc2 k _ hx 0 (by omega))
        rw [Nat.mul_one] at this
        exact this
      have hne : (x != x) = false := by simp
      clear hc1 hc2 hx
      go_wp2
      go_quiet (fail)
      all_goals go_wp2
      exact ⟨⟨k + 1, by omega, by go_num, below_drewN B _⟩, by simp [intOf]; omega⟩
    · obtain rfl : k = l.length := by omega
      go_wp2
      go_ret
      exact ⟨rfl, B⟩

end Go.Proofs.YtppmihnbpmkbnadGreat

/- What must be in any case, of who is meant. -/
namespace Go.Proofs.YtppmihnbpmkbnadGreat
open Go.RowKit Go.PlainAid

set_option maxRecDepth 100000

theorem find1 (vk : Value) (l : List PV) (v : Value) (w : World) (hl : l.map PV.plc = pairL) (hK : IsKer w.heap.size w vk kernK) (hP : IsPlcs w.heap.size w v l) :
    Calls Tryz.prog 51 #[vk, v, .agg #[.string ⟨#[108, 105, 98]⟩, .string ⟨#[102]⟩, .int .i64 1, .int .i64 1]] w fun e w' => e = .returned (.tuple #[.int .i64 4356, .int .i64 0]) ∧ Below w.heap.size w w' := by
  have := find_any kernK vk l v ⟨⟨#[108, 105, 98]⟩, ⟨#[102]⟩, 1, 1⟩ w hK kern_fits hP (pair_fits hl) ⟨by decide, by decide⟩
  rw [hl] at this
  have e : findRes kernK pairL ⟨⟨#[108, 105, 98]⟩, ⟨#[102]⟩, 1, 1⟩ = (4356, 0) := by kernel_rfl
  rw [e] at this
  exact this
theorem find2 (vk : Value) (l : List PV) (v : Value) (w : World) (hl : l.map PV.plc = pairL) (hK : IsKer w.heap.size w vk kernK) (hP : IsPlcs w.heap.size w v l) :
    Calls Tryz.prog 51 #[vk, v, .agg #[.string ⟨#[108, 105, 98]⟩, .string ⟨#[102]⟩, .int .i64 1, .int .i64 3]] w fun e w' => e = .returned (.tuple #[.int .i64 0, .int .i64 4]) ∧ Below w.heap.size w w' := by
  have := find_any kernK vk l v ⟨⟨#[108, 105, 98]⟩, ⟨#[102]⟩, 1, 3⟩ w hK kern_fits hP (pair_fits hl) ⟨by decide, by decide⟩
  rw [hl] at this
  have e : findRes kernK pairL ⟨⟨#[108, 105, 98]⟩, ⟨#[102]⟩, 1, 3⟩ = (0, 4) := by kernel_rfl
  rw [e] at this
  exact this
theorem all1 (vk : Value) (l : List PV) (v vm : Value) (w : World) (hl : l.map PV.plc = pairL) (hK : IsKer w.heap.size w vk kernK) (hP : IsPlcs w.heap.size w v l) (hM : IsMod w.heap.size w vm appM) :
    Calls Tryz.prog 27 #[vk, v, vm] w fun e w' => (∃ r, e = .returned (.tuple #[r, .int .i64 0]) ∧ RowOf 1 intCell w'.heap.size w' r [4356, 2]) ∧ Below w.heap.size w w' := by
  have := all_any kernK vk l v appM vm w hK kern_fits hP (pair_fits hl) hM fits_app
  rw [hl] at this
  have e : allRes kernK pairL appM = ([4356, 2], 0) := by kernel_rfl
  rw [e] at this
  exact this
theorem kernel1 (vk : Value) (w : World) (hK : IsKer w.heap.size w vk kernK) : Calls Tryz.prog 49 #[vk] w fun e w' => e = .returned (.int .i64 0) ∧ Below w.heap.size w w' := by
  have := kernel_any kernK vk w hK kern_fits
  have e : chkKer kernK = 0 := by kernel_rfl
  rwa [e] at this

set_option maxHeartbeats 4000000 in
theorem resolveBegun_any (w : World) : Calls Tryz.prog 22 #[] w fun e w' => e = .returned (.bool true) ∧ Below w.heap.size w w' := by
  go_enter Tryz.func22, Tryz.ntmps22
  go_wp2_with fail
  refine (kernelFn_any _).mono ?_
  rintro e w1 ⟨vk, rfl, hK, b1⟩
  go_wp2_with fail
  refine (pair_any _).mono ?_
  rintro e w2 ⟨v, l, rfl, hl, hP, b2⟩
  go_wp2_with fail
  refine (app_any _).mono ?_
  rintro e w3 ⟨vm, rfl, hM, b3⟩
  have b23 := b2.trans (b3.mono b2.size)
  have HK : Hid (IsKer w3.heap.size w3 vk kernK) := (hK.below b23).more b23.size
  have HP : Hid (IsPlcs w3.heap.size w3 v l) := (hP.below b3).more b3.size
  have HL : Hid (l.map PV.plc = pairL) := hl
  have B3 := b1.trans (b23.mono b1.size)
  obtain ⟨ve, vi, vp, rfl, hE, hI, hPt⟩ := hM
  obtain ⟨ai, ci, rfl, _, hI | ⟨b, off, rfl, hbn, hcells⟩⟩ := hI
  · exact absurd hI (by decide)
  have c0 : w3.cell? ⟨b, off, none⟩ = some (.string ⟨#[108, 105, 98]⟩) := hcells 0 ⟨⟨#[108, 105, 98]⟩, ⟨#[102]⟩, 1, 1⟩ rfl 0 (by omega)
  have c1 : w3.cell? ⟨b, off + 1, none⟩ = some (.string ⟨#[102]⟩) := hcells 0 ⟨⟨#[108, 105, 98]⟩, ⟨#[102]⟩, 1, 1⟩ rfl 1 (by omega)
  have c2 : w3.cell? ⟨b, off + 2, none⟩ = some (.int .i64 1) := hcells 0 ⟨⟨#[108, 105, 98]⟩, ⟨#[102]⟩, 1, 1⟩ rfl 2 (by omega)
  have c3 : w3.cell? ⟨b, off + 3, none⟩ = some (.int .i64 1) := hcells 0 ⟨⟨#[108, 105, 98]⟩, ⟨#[102]⟩, 1, 1⟩ rfl 3 (by omega)
  dsimp only [appM]
  have hfd : ∀ w : World, (Instr.field 39 (.agg #[.string ⟨#[97, 112, 112]⟩, .int .i64 0, .int .i64 0, .string ⟨#[46, 46, 46, 46, 46, 46, 46, 46]⟩, ve, .slice (some ⟨b, off, none⟩) 2 ci, vp]) 5).run Tryz.prog w = .ok (.slice (some ⟨b, off, none⟩) 2 ci) w := fun _ => by kernel_rfl
  clear hE hPt hcells hK hP hl b1 b2 b3 b23
  go_wp2_with fail
  refine (find1 vk l v _ HL.out HK.out HP.out).mono ?_
  rintro e w4 ⟨rfl, b4⟩
  have B4 := B3.trans (b4.mono B3.size)
  clear b4 c0 c1 c2 c3 HK HP HL B3 hfd
  go_wp2_with fail
  refine (kernelFn_any _).mono ?_
  rintro e w5 ⟨vk, rfl, hK, b5⟩
  go_wp2_with fail
  refine (pair_any _).mono ?_
  rintro e w6 ⟨v, l, rfl, hl, hP, b6⟩
  go_wp2_with fail
  refine (app_any _).mono ?_
  rintro e w7 ⟨vm, rfl, hM, b7⟩
  have b67 := b6.trans (b7.mono b6.size)
  have HK : Hid (IsKer w7.heap.size w7 vk kernK) := (hK.below b67).more b67.size
  have HP : Hid (IsPlcs w7.heap.size w7 v l) := (hP.below b7).more b7.size
  have HL : Hid (l.map PV.plc = pairL) := hl
  have HM : Hid (IsMod w7.heap.size w7 vm appM) := hM
  have B7 := B4.trans ((b5.trans (b67.mono b5.size)).mono B4.size)
  clear hK hP hl hM b5 b6 b7 b67 B4
  go_wp2_with fail
  refine (all1 vk l v vm _ HL.out HK.out HP.out HM.out).mono ?_
  rintro e w8 ⟨⟨r, rfl, hR⟩, b8⟩
  have B8 := B7.trans (b8.mono B7.size)
  have HR : Hid (RowOf 1 intCell w8.heap.size w8 r [4356, 2]) := hR
  clear b8 HK HP HL HM B7 hR
  go_wp2_with fail
  refine (kernelFn_any _).mono ?_
  rintro e w9 ⟨vk, rfl, hK, b9⟩
  go_wp2_with fail
  refine (pair_any _).mono ?_
  rintro e w10 ⟨v, l, rfl, hl, hP, b10⟩
  have HK : Hid (IsKer w10.heap.size w10 vk kernK) := (hK.below b10).more b10.size
  have HP : Hid (IsPlcs w10.heap.size w10 v l) := hP
  have HL : Hid (l.map PV.plc = pairL) := hl
  have b910 := b9.trans (b10.mono b9.size)
  have B10 := B8.trans (b910.mono B8.size)
  have HR10 : Hid (RowOf 1 intCell w10.heap.size w10 r [4356, 2]) := (HR.out.below b910).more b910.size
  clear hK hP hl b9 b10 b910 B8 HR
  go_wp2_with fail
  refine (find2 vk l v _ HL.out HK.out HP.out).mono ?_
  rintro e w11 ⟨rfl, b11⟩
  have B11 := B10.trans (b11.mono B10.size)
  have HR11 : Hid (RowOf 1 intCell w11.heap.size w11 r [4356, 2]) := (HR10.out.below b11).more b11.size
  clear b11 HK HP HL B10 HR10
  go_wp2_with fail
  refine (kernelFn_any _).mono ?_
  rintro e w12 ⟨vk, rfl, hK, b12⟩
  have HK : Hid (IsKer w12.heap.size w12 vk kernK) := hK
  have B12 := B11.trans (b12.mono B11.size)
  have HR12 : Hid (RowOf 1 intCell w12.heap.size w12 r [4356, 2]) := (HR11.out.below b12).more b12.size
  clear hK b12 HR11 B11
  go_wp2_with fail
  refine (kernel1 vk _ HK.out).mono ?_
  rintro e w13 ⟨rfl, b13⟩
  have B13 := B12.trans (b13.mono B12.size)
  have HR13 : Hid (RowOf 1 intCell w13.heap.size w13 r [4356, 2]) := (HR12.out.below b13).more b13.size
  clear b13 HR12 B12
  have HB14 : Hid (Below w13.heap.size w13 (w13.alloc (.cells #[.int .i64 4356, .int .i64 2] 3))) := (Below.refl _ _).alloc (Nat.le_refl _) _
  have HI14 : Hid (RowOf 1 intCell (w13.alloc (.cells #[.int .i64 4356, .int .i64 2] 3)).heap.size (w13.alloc (.cells #[.int .i64 4356, .int .i64 2] 3)) (.slice (some ⟨w13.heap.size, 0, none⟩) 2 2) [4356, 2]) :=
    rowOf_cells (C := intC) (cells := intCell) (sz := 1) (fun _ => rfl) intC_at (CellsAt.new w13 3 #[.int .i64 4356, .int .i64 2]) [4356, 2] (by decide) 2 rfl
  go_wp2_with fail
  refine (sameInts_yes [4356, 2] r _ _ ((HR13.out.below HB14.out).more HB14.out.size) HI14.out).mono ?_
  rintro e w15 ⟨rfl, b15⟩
  have B14 := B13.trans (HB14.out.mono B13.size)
  have B15 := B14.trans (b15.mono B14.size)
  go_wp2
  go_ret
  exact ⟨rfl, B15⟩

end Go.Proofs.YtppmihnbpmkbnadGreat

/- What must be in any case, of images. -/
namespace Go.Proofs.YtppmihnbpmkbnadGreat
open Go.RowKit Go.PlainAid

set_option maxRecDepth 100000

theorem lnB_i2 : (imageOf kernK pairL ⟨#[97, 112, 112]⟩).2 = 0 := by kernel_rfl
theorem lnB_is : (imageOf kernK pairL ⟨#[97, 112, 112]⟩).1.size = 64 := by kernel_rfl
theorem lnB_i9 : (imageOf kernK pairL ⟨#[97, 112, 112]⟩).1.extract 0 9 = ⟨#[5, 17, 0, 0, 223, 247, 255, 46, 255]⟩ := by kernel_rfl
theorem lnB_a2 : (areaOf kernK pairL).2 = 0 := by kernel_rfl
theorem lnB_as : (areaOf kernK pairL).1.size = 1024 := by kernel_rfl
theorem lnB_a64 : (areaOf kernK pairL).1.extract 64 128 = (imageOf kernK pairL ⟨#[97, 112, 112]⟩).1 := by kernel_rfl
theorem lnB_a256 : (areaOf kernK pairL).1.extract 256 265 = ⟨#[97, 98, 99, 100, 101, 102, 103, 104, 255]⟩ := by kernel_rfl

set_option maxHeartbeats 4000000 in
theorem linkBegun_any (w : World) : Calls Tryz.prog 15 #[] w fun e w' => e = .returned (.bool true) ∧ Below w.heap.size w w' := by
  obtain ⟨S, E, he⟩ : ∃ S E, imageOf kernK pairL ⟨#[97, 112, 112]⟩ = (S, E) := ⟨_, _, rfl⟩
  obtain ⟨T, F, hf⟩ : ∃ T F, areaOf kernK pairL = (T, F) := ⟨_, _, rfl⟩
  have i2 := lnB_i2
  have is := lnB_is
  have i9 := lnB_i9
  have a2 := lnB_a2
  have asz := lnB_as
  have a64 := lnB_a64
  have a256 := lnB_a256
  rw [he] at i2 is i9 a64
  rw [hf] at a2 asz a64 a256
  dsimp only at i2 is i9 a2 asz a64 a256
  subst i2 a2
  have HI : Hid (∀ vk l v W, l.map PV.plc = pairL → IsKer W.heap.size W vk kernK → IsPlcs W.heap.size W v l → Calls Tryz.prog 9 #[vk, v, .string ⟨#[97, 112, 112]⟩] W fun e w' => e = .returned (.tuple #[.string S, .int .i64 0]) ∧ Below W.heap.size W w') := fun vk l v W hl hK hP => by
    have := linkImage_any kernK vk l v ⟨#[97, 112, 112]⟩ W hK kern_fits hP (pair_fits hl)
    rw [hl, he] at this
    exact this
  have HA : Hid (∀ vk l v W, l.map PV.plc = pairL → IsKer W.heap.size W vk kernK → IsPlcs W.heap.size W v l → Calls Tryz.prog 10 #[vk, v] W fun e w' => e = .returned (.tuple #[.string T, .int .i64 0]) ∧ Below W.heap.size W w') := fun vk l v W hl hK hP => by
    have := linkArea_any kernK vk l v W hK kern_fits hP (pair_fits hl)
    rw [hl, hf] at this
    exact this
  clear he hf
  go_enter Tryz.func15, Tryz.ntmps15
  go_wp2_with fail
  refine (kernelFn_any _).mono ?_
  rintro e w1 ⟨vk, rfl, hK, b1⟩
  go_wp2_with fail
  refine (pair_any _).mono ?_
  rintro e w2 ⟨v, l, rfl, hl, hP, b2⟩
  have B2 := b1.trans (b2.mono b1.size)
  go_wp2_with fail
  refine (HI.out vk l v _ hl ((hK.below b2).more b2.size) hP).mono ?_
  rintro e w3 ⟨rfl, b3⟩
  have B3 := B2.trans (b3.mono B2.size)
  clear hK b1 hl hP b2 b3 B2 HI
  go_wp2_with fail
  refine (kernelFn_any _).mono ?_
  rintro e w4 ⟨vk2, rfl, hK, b1⟩
  go_wp2_with fail
  refine (pair_any _).mono ?_
  rintro e w5 ⟨v2, l2, rfl, hl, hP, b2⟩
  have B5 := B3.trans ((b1.trans (b2.mono b1.size)).mono B3.size)
  go_wp2_with fail
  refine (HA.out vk2 l2 v2 _ hl ((hK.below b2).more b2.size) hP).mono ?_
  rintro e w6 ⟨rfl, b3⟩
  have B6 := B5.trans (b3.mono B5.size)
  clear hK b1 hl hP b2 b3 B5 HA B3
  go_wp2
  go_ret
  exact ⟨rfl, B6⟩

end Go.Proofs.YtppmihnbpmkbnadGreat

/- Where images lie in the area, byte by byte, as data; and what an image does not hang on. -/
namespace Go.Proofs.YtppmihnbpmkbnadGreat
open Go.RowKit Go.PlainAid

theorem bt_app_left {a b : ByteArray} {i : Nat} (h : i < a.size) : bt (a ++ b) i = bt a i := by
  rw [bt_list, bt_list, bytes_app, List.getElem?_append_left (by rw [← size_list]; exact h)]
theorem bt_app_right {a b : ByteArray} {i : Nat} (h : a.size ≤ i) : bt (a ++ b) i = bt b (i - a.size) := by
  rw [bt_list, bt_list, bytes_app, List.getElem?_append_right (by rw [← size_list]; exact h), ← size_list]
theorem bt_blanks {n i : Nat} (h : i < n) : bt (blanks n) i = 255 := by
  rw [bt_list, blanks_list, List.getElem?_replicate, if_pos h]
  rfl
theorem bt_fill_left {s : ByteArray} {n i : Nat} (h : i < s.size) : bt (fillTo s n) i = bt s i := bt_app_left h
theorem bt_fill_right {s : ByteArray} {n i : Nat} (h : s.size ≤ i) (hn : i < n) : bt (fillTo s n) i = 255 := by
  unfold fillTo
  rw [bt_app_right h, bt_blanks (by omega)]

/-- Is a byte none of those that a patch is put into? -/
def clearOf (p : Pat) (i : Nat) : Prop := (i : Int) < p.pos ∨ p.pos + width p.kind ≤ i
theorem width_nonneg (k : Int) : 0 ≤ width k := by
  unfold width
  split
  · omega
  · split
    · omega
    · split <;> omega
theorem app_out {s : ByteArray} {p : Pat} {sym base : Int} (h : appErr s.size p sym base = 0) {i : Nat} (hi : clearOf p i) : bt (appStr s p sym base) i = bt s i := by
  have hw := width_nonneg p.kind
  have hp : 0 ≤ p.pos ∧ p.pos + width p.kind ≤ s.size := by
    have h' := h
    unfold appErr at h'
    split at h'
    · omega
    · split at h'
      · omega
      · rename_i _ hb
        simp only [Bool.not_eq_false, Bool.and_eq_true, betw_iff] at hb
        omega
  unfold appStr
  rw [if_pos h]
  unfold clearOf at hi
  exact bt_put_out _ _ _ _ _ (by omega) (by omega)
theorem patd_out {ads : List Int} {beg : Int} : ∀ {l : List Pat} {s : ByteArray}, (patd ads beg s l).2 = 0 → ∀ {i : Nat}, (∀ p ∈ l, clearOf p i) → bt (patd ads beg s l).1 i = bt s i
  | [], s, _, i, _ => rfl
  | p :: r, s, h, i, hi => by
    unfold patd at h ⊢
    by_cases h0 : appErr s.size p (symOf ads beg p) beg = 0
    · rw [if_neg (by omega)] at h ⊢
      rw [patd_out h (fun q hq => hi q (List.mem_cons_of_mem _ hq)), app_out h0 (hi p (by simp))]
    · rw [if_pos h0] at h
      exact absurd h h0
theorem img_byte {K : Ker} {L : List Plc} {p : Plc} (h : (imgRes K L p).2 = 0) : (imgRes K L p).1.size = 64 * szM p.mod ∧ p.mod.text.size ≤ 64 * szM p.mod ∧
    (∀ n, n < 64 * szM p.mod → p.mod.text.size ≤ n → bt (imgRes K L p).1 n = 255) ∧ (∀ n, n < p.mod.text.size → (∀ q ∈ p.mod.pats, clearOf q n) → bt (imgRes K L p).1 n = bt p.mod.text n) := by
  refine ⟨imgRes_size h, szM_le _, ?_⟩
  rcases imgRes_cases K L p with ⟨h1, e⟩ | ⟨h1, h2, e⟩ | ⟨h1, h2, e⟩
  · rw [e] at h; exact absurd h h1
  · rw [e] at h; exact absurd h h2
  · rw [e]
    have hs := patd_size h2
    refine ⟨fun n hn ht => bt_fill_right (by omega) hn, fun n hn hq => ?_⟩
    rw [bt_fill_left (by omega), patd_out h2 hq]

theorem area_byte {K : Ker} {L : List Plc} : ∀ (l : List Plc) (s : ByteArray) (e : Nat), okPl e l → s.size ≤ 64 * e → (areaFrom K L s l).2 = 0 →
    (areaFrom K L s l).1.size = 1024 ∧ (∀ i, i < s.size → bt (areaFrom K L s l).1 i = bt s i) ∧
    (∀ p ∈ l, (imgRes K L p).2 = 0 ∧ ∀ n, n < 64 * szM p.mod → bt (areaFrom K L s l).1 (64 * p.first.toNat + n) = bt (imgRes K L p).1 n) ∧
    (∀ i, s.size ≤ i → i < 1024 → (∀ p ∈ l, i < 64 * p.first.toNat ∨ 64 * p.first.toNat + 64 * szM p.mod ≤ i) → bt (areaFrom K L s l).1 i = 255)
  | [], s, e, hok, hs, h => by
    have he : (e : Int) ≤ 16 := hok
    have hn : areaFrom K L s [] = (fillTo s 1024, 0) := rfl
    rw [hn]
    exact ⟨fillTo_size (by omega), fun i hi => bt_fill_left hi, fun p hp => absurd hp (by simp), fun i h1 h2 _ => bt_fill_right h1 h2⟩
  | p :: r, s, e, hok, hs, h => by
    obtain ⟨p1, p2, p3, p4⟩ := hok
    have hst : areaFrom K L s (p :: r) = if (imgRes K L p).2 ≠ 0 then (⟨#[]⟩, (imgRes K L p).2) else areaFrom K L (fillTo s (64 * p.first.toNat) ++ (imgRes K L p).1) r := rfl
    by_cases h0 : (imgRes K L p).2 = 0
    · rw [if_neg (by omega)] at hst
      rw [hst] at h ⊢
      have hsz := imgRes_size h0
      have hfs : (fillTo s (64 * p.first.toNat)).size = 64 * p.first.toNat := fillTo_size (by omega)
      have hap : (fillTo s (64 * p.first.toNat) ++ (imgRes K L p).1).size = 64 * (p.first.toNat + szM p.mod) := by rw [ByteArray.size_append, hfs, hsz]; omega
      obtain ⟨g1, g2, g3, g4⟩ := area_byte r _ (p.first.toNat + szM p.mod) (by rw [show ((p.first.toNat + szM p.mod : Nat) : Int) = p.first + szM p.mod by omega]; exact p4) (by omega) h
      refine ⟨g1, fun i hi => ?_, fun q hq => ?_, fun i h1 h2 h3 => ?_⟩
      · rw [g2 i (by omega), bt_app_left (by omega), bt_fill_left hi]
      · rcases List.mem_cons.1 hq with rfl | hq
        · refine ⟨h0, fun n hn => ?_⟩
          rw [g2 _ (by omega), bt_app_right (by omega), hfs, Nat.add_sub_cancel_left]
        · exact g3 q hq
      · by_cases hi : i < 64 * (p.first.toNat + szM p.mod)
        · have := h3 p (by simp)
          rw [g2 i (by omega), bt_app_left (by omega), bt_fill_right h1 (by omega)]
        · exact g4 i (by omega) h2 (fun q hq => h3 q (List.mem_cons_of_mem _ hq))
    · rw [hst, if_pos h0] at h
      exact absurd h h0

theorem find_nodup : ∀ {L : List Plc}, (L.map (·.mod.name)).Nodup → ∀ {p : Plc}, p ∈ L → L.find? (fun q => q.mod.name == p.mod.name) = some p
  | [], _, p, hp => absurd hp (by simp)
  | x :: l, h, p, hp => by
    rw [List.map_cons, List.nodup_cons] at h
    rcases List.mem_cons.1 hp with rfl | hp
    · have hb : (p.mod.name == p.mod.name) = true := (Go.MapKept.bytes_beq _ _).2 rfl
      exact List.find?_cons_of_pos (p := fun q : Plc => q.mod.name == p.mod.name) hb
    · have hne : x.mod.name ≠ p.mod.name := fun e => h.1 (e ▸ List.mem_map.2 ⟨p, hp, rfl⟩)
      have hb : ¬ (x.mod.name == p.mod.name) = true := fun e => hne ((Go.MapKept.bytes_beq _ _).1 e)
      exact (List.find?_cons_of_neg (p := fun q : Plc => q.mod.name == p.mod.name) hb).trans (find_nodup h.2 hp)
/-- The image of one that is there. -/
theorem imageOf_at {K : Ker} {L : List Plc} (h : chkLink K L = 0) {p : Plc} (hp : p ∈ L) : imageOf K L p.mod.name = imgRes K L p := by
  have ht := twice_nodup L [] (by simp)
  rw [List.nil_append] at ht
  unfold imageOf
  rw [if_neg (by omega), find_nodup (ht.1 (chkLink_zero h).2.2) hp]
theorem areaOf_zero {K : Ker} {L : List Plc} (h : (areaOf K L).2 = 0) : chkLink K L = 0 ∧ areaOf K L = areaFrom K L ⟨#[]⟩ L ∧ (areaFrom K L ⟨#[]⟩ L).2 = 0 := by
  unfold areaOf at h ⊢
  by_cases h0 : chkLink K L = 0
  · rw [if_neg (by omega)] at h ⊢
    exact ⟨h0, rfl, h⟩
  · rw [if_pos h0] at h
    exact absurd h h0
theorem areaOf_bad {K : Ker} {L : List Plc} (h : (areaOf K L).2 ≠ 0) : (areaOf K L).1 = ⟨#[]⟩ := by
  have key : ∀ l s, (areaFrom K L s l).2 ≠ 0 → (areaFrom K L s l).1 = ⟨#[]⟩ := by
    intro l
    induction l with
    | nil => intro s h; exact absurd rfl h
    | cons p r ih =>
      intro s h
      have hst : areaFrom K L s (p :: r) = if (imgRes K L p).2 ≠ 0 then (⟨#[]⟩, (imgRes K L p).2) else areaFrom K L (fillTo s (64 * p.first.toNat) ++ (imgRes K L p).1) r := rfl
      rw [hst] at h ⊢
      by_cases h0 : (imgRes K L p).2 = 0
      · rw [if_neg (by omega)] at h ⊢
        exact ih _ h
      · rw [if_pos h0]
  unfold areaOf at h ⊢
  by_cases h0 : chkLink K L = 0
  · rw [if_neg (by omega)] at h ⊢
    exact key _ _ h
  · rw [if_pos h0]

/-- All that is asked of modules but for their texts' bytes. -/
def blurM (m : Mod) : Mod := ⟨m.name, m.major, m.minor, blanks m.text.size, m.exps, m.imps, m.pats⟩
def blur (p : Plc) : Plc := ⟨blurM p.mod, p.first⟩
theorem chkMod_blur (m : Mod) : chkMod (blurM m) = chkMod m := by
  unfold chkMod blurM
  dsimp only
  rw [blanks_size]
theorem szM_blur (m : Mod) : szM (blurM m) = szM m := by
  unfold szM blurM
  dsimp only
  rw [blanks_size]
theorem chkBy_blur {q : Plc → Int} (hq : ∀ p, q (blur p) = q p) : ∀ L : List Plc, chkBy q (L.map blur) = chkBy q L
  | [] => rfl
  | p :: l => by
    have hs : ∀ (p : Plc) l, chkBy q (p :: l) = if chkMod p.mod ≠ 0 then chkMod p.mod else if q p ≠ 0 then q p else chkBy q l := fun _ _ => rfl
    rw [List.map_cons, hs, hs, hq, chkBy_blur hq l]
    have hm : chkMod (blur p).mod = chkMod p.mod := chkMod_blur p.mod
    rw [hm]
theorem behind_blur : ∀ (L : List Plc) (e : Int), behind e (L.map blur) = behind e L
  | [], _ => rfl
  | p :: l, e => by
    have hs : ∀ (p : Plc) l e, behind e (p :: l) = (!decide (p.first < e) && behind (p.first + szM p.mod) l) := fun _ _ _ => rfl
    rw [List.map_cons, hs, hs, behind_blur l]
    show (!decide (p.first < e) && behind (p.first + szM (blurM p.mod)) l) = _
    rw [szM_blur]
theorem chkReg_blur (L : List Plc) : chkReg (L.map blur) = chkReg L := by
  unfold chkReg
  rw [chkBy_blur (fun p => by
    unfold outErr
    show (if p.first < 0 ∨ 16 - (szM (blurM p.mod) : Int) < p.first then (3 : Int) else 0) = _
    rw [szM_blur]) L, behind_blur, List.length_map]
theorem twice_blur : ∀ (L : List Plc) (met : List ByteArray), twiceFrom met (L.map blur) = twiceFrom met L
  | [], _ => rfl
  | p :: l, met => by
    have hs : ∀ (p : Plc) l met, twiceFrom met (p :: l) = ((met.any fun y => y == p.mod.name) || twiceFrom (met ++ [p.mod.name]) l) := fun _ _ _ => rfl
    rw [List.map_cons, hs, hs, twice_blur l]
    rfl
theorem chkLink_blur (K : Ker) (L : List Plc) : chkLink K (L.map blur) = chkLink K L := by
  unfold chkLink
  rw [chkReg_blur, twice_blur]
theorem chkFind_blur (K : Ker) (L : List Plc) : chkFind K (L.map blur) = chkFind K L := by
  unfold chkFind chkPlaced
  rw [chkPls_by, chkPls_by, chkBy_blur (fun _ => rfl) L, List.length_map]
theorem tgt_blur (K : Ker) (L : List Plc) (n : ByteArray) : tgtOf K (L.map blur) n = tgtOf K L n := by
  unfold tgtOf
  rw [List.find?_map]
  have : ((fun p : Plc => p.mod.name == n) ∘ blur) = fun p : Plc => p.mod.name == n := rfl
  rw [this]
  cases L.find? fun p : Plc => p.mod.name == n <;> rfl
theorem addr_blur (K : Ker) (L : List Plc) (i : Imp) : addrOf K (L.map blur) i = addrOf K L i := by
  unfold addrOf
  rw [tgt_blur]
theorem addrs_blur (K : Ker) (L : List Plc) : ∀ (is : List Imp) (acc : List Int), addrsFrom K (L.map blur) acc is = addrsFrom K L acc is
  | [], _ => rfl
  | i :: r, acc => by
    have hs : ∀ L, addrsFrom K L acc (i :: r) = if (addrOf K L i).2 ≠ 0 then ([], (addrOf K L i).2) else addrsFrom K L (acc ++ [(addrOf K L i).1]) r := fun _ => rfl
    rw [hs, hs, addr_blur, addrs_blur K L r]
theorem all_blur (K : Ker) (L : List Plc) (m : Mod) : allRes K (L.map blur) m = allRes K L m := by
  unfold allRes
  rw [chkFind_blur, addrs_blur]
theorem img_blur (K : Ker) (L : List Plc) (p : Plc) : imgRes K (L.map blur) p = imgRes K L p := by
  unfold imgRes
  rw [all_blur]
/-- Another text of the same size changes no image of another one. -/
theorem image_alone (K : Ker) {L L' : List Plc} (hb : L'.map blur = L.map blur) {p : Plc} (h1 : p ∈ L) (h2 : p ∈ L') : imageOf K L' p.mod.name = imageOf K L p.mod.name := by
  have hc : chkLink K L' = chkLink K L := by rw [← chkLink_blur, hb, chkLink_blur]
  by_cases h0 : chkLink K L = 0
  · rw [imageOf_at h0 h1, imageOf_at (hc.trans h0) h2, ← img_blur, hb, img_blur]
  · unfold imageOf
    rw [hc, if_pos h0, if_pos h0]

end Go.Proofs.YtppmihnbpmkbnadGreat
