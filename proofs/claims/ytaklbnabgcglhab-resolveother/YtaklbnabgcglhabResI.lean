/- What must be in any case, of who is meant. -/
import Derived.Test.YtaklbnabgcglhabResH
namespace Go.Proofs.Ytaklbnabgcglhab
open Go.RowKit Go.PlainAid

set_option maxRecDepth 100000

theorem find1 (vk : Value) (l : List PV) (v : Value) (w : World) (hl : l.map PV.plc = pairL) (hK : IsKer w.heap.size w vk kernK) (hP : IsPlcs w.heap.size w v l) :
    Calls Try.prog 16 #[vk, v, .agg #[.string ⟨#[108, 105, 98]⟩, .string ⟨#[102]⟩, .int .i64 1, .int .i64 1]] w fun e w' => e = .returned (.tuple #[.int .i64 4356, .int .i64 0]) ∧ Below w.heap.size w w' := by
  have := find_any kernK vk l v ⟨⟨#[108, 105, 98]⟩, ⟨#[102]⟩, 1, 1⟩ w hK kern_fits hP (pair_fits hl) ⟨by decide, by decide⟩
  rw [hl] at this
  have e : findRes kernK pairL ⟨⟨#[108, 105, 98]⟩, ⟨#[102]⟩, 1, 1⟩ = (4356, 0) := by kernel_rfl
  rw [e] at this
  exact this
theorem find2 (vk : Value) (l : List PV) (v : Value) (w : World) (hl : l.map PV.plc = pairL) (hK : IsKer w.heap.size w vk kernK) (hP : IsPlcs w.heap.size w v l) :
    Calls Try.prog 16 #[vk, v, .agg #[.string ⟨#[108, 105, 98]⟩, .string ⟨#[102]⟩, .int .i64 1, .int .i64 3]] w fun e w' => e = .returned (.tuple #[.int .i64 0, .int .i64 4]) ∧ Below w.heap.size w w' := by
  have := find_any kernK vk l v ⟨⟨#[108, 105, 98]⟩, ⟨#[102]⟩, 1, 3⟩ w hK kern_fits hP (pair_fits hl) ⟨by decide, by decide⟩
  rw [hl] at this
  have e : findRes kernK pairL ⟨⟨#[108, 105, 98]⟩, ⟨#[102]⟩, 1, 3⟩ = (0, 4) := by kernel_rfl
  rw [e] at this
  exact this
theorem all1 (vk : Value) (l : List PV) (v vm : Value) (w : World) (hl : l.map PV.plc = pairL) (hK : IsKer w.heap.size w vk kernK) (hP : IsPlcs w.heap.size w v l) (hM : IsMod w.heap.size w vm appM) :
    Calls Try.prog 17 #[vk, v, vm] w fun e w' => (∃ r, e = .returned (.tuple #[r, .int .i64 0]) ∧ RowOf 1 intCell w'.heap.size w' r [4356, 2]) ∧ Below w.heap.size w w' := by
  have := all_any kernK vk l v appM vm w hK kern_fits hP (pair_fits hl) hM fits_app
  rw [hl] at this
  have e : allRes kernK pairL appM = ([4356, 2], 0) := by kernel_rfl
  rw [e] at this
  exact this
theorem kernel1 (vk : Value) (w : World) (hK : IsKer w.heap.size w vk kernK) : Calls Try.prog 24 #[vk] w fun e w' => e = .returned (.int .i64 0) ∧ Below w.heap.size w w' := by
  have := kernel_any kernK vk w hK kern_fits
  have e : chkKer kernK = 0 := by kernel_rfl
  rwa [e] at this

set_option maxHeartbeats 4000000 in
theorem resolveBegun_any (w : World) : Calls Try.prog 23 #[] w fun e w' => e = .returned (.bool true) ∧ Below w.heap.size w w' := by
  go_enter Try.func23, Try.ntmps23
  go_wp2_with fail
  refine (kernelFn_any _).mono ?_
  rintro e w1 ⟨vk, rfl, hK, b1⟩
  go_wp2_with fail
  refine (pair_any _).mono ?_
  rintro e w2 ⟨v, l, rfl, hl, hP, b2⟩
  go_wp2_with fail
  refine (app_any _).mono ?_
  rintro e w3 ⟨vm, rfl, hM, b3⟩
  have b23 := b2.trans (b3.mono b2.size)
  have HK : Hid (IsKer w3.heap.size w3 vk kernK) := (hK.below b23).more b23.size
  have HP : Hid (IsPlcs w3.heap.size w3 v l) := (hP.below b3).more b3.size
  have HL : Hid (l.map PV.plc = pairL) := hl
  have B3 := b1.trans (b23.mono b1.size)
  obtain ⟨ve, vi, vp, rfl, hE, hI, hPt⟩ := hM
  obtain ⟨ai, ci, rfl, _, hI | ⟨b, off, rfl, hbn, hcells⟩⟩ := hI
  · exact absurd hI (by decide)
  have c0 : w3.cell? ⟨b, off, none⟩ = some (.string ⟨#[108, 105, 98]⟩) := hcells 0 ⟨⟨#[108, 105, 98]⟩, ⟨#[102]⟩, 1, 1⟩ rfl 0 (by omega)
  have c1 : w3.cell? ⟨b, off + 1, none⟩ = some (.string ⟨#[102]⟩) := hcells 0 ⟨⟨#[108, 105, 98]⟩, ⟨#[102]⟩, 1, 1⟩ rfl 1 (by omega)
  have c2 : w3.cell? ⟨b, off + 2, none⟩ = some (.int .i64 1) := hcells 0 ⟨⟨#[108, 105, 98]⟩, ⟨#[102]⟩, 1, 1⟩ rfl 2 (by omega)
  have c3 : w3.cell? ⟨b, off + 3, none⟩ = some (.int .i64 1) := hcells 0 ⟨⟨#[108, 105, 98]⟩, ⟨#[102]⟩, 1, 1⟩ rfl 3 (by omega)
  dsimp only [appM]
  have hfd : ∀ w : World, (Instr.field 44 (.agg #[.string ⟨#[97, 112, 112]⟩, .int .i64 0, .int .i64 0, .string ⟨#[46, 46, 46, 46, 46, 46, 46, 46]⟩, ve, .slice (some ⟨b, off, none⟩) 2 ci, vp]) 5).run Try.prog w = .ok (.slice (some ⟨b, off, none⟩) 2 ci) w := fun _ => by kernel_rfl
  clear hE hPt hcells hK hP hl b1 b2 b3 b23
  go_wp2_with fail
  refine (find1 vk l v _ HL.out HK.out HP.out).mono ?_
  rintro e w4 ⟨rfl, b4⟩
  have B4 := B3.trans (b4.mono B3.size)
  clear b4 c0 c1 c2 c3 HK HP HL B3 hfd
  go_wp2_with fail
  refine (kernelFn_any _).mono ?_
  rintro e w5 ⟨vk, rfl, hK, b5⟩
  go_wp2_with fail
  refine (pair_any _).mono ?_
  rintro e w6 ⟨v, l, rfl, hl, hP, b6⟩
  go_wp2_with fail
  refine (app_any _).mono ?_
  rintro e w7 ⟨vm, rfl, hM, b7⟩
  have b67 := b6.trans (b7.mono b6.size)
  have HK : Hid (IsKer w7.heap.size w7 vk kernK) := (hK.below b67).more b67.size
  have HP : Hid (IsPlcs w7.heap.size w7 v l) := (hP.below b7).more b7.size
  have HL : Hid (l.map PV.plc = pairL) := hl
  have HM : Hid (IsMod w7.heap.size w7 vm appM) := hM
  have B7 := B4.trans ((b5.trans (b67.mono b5.size)).mono B4.size)
  clear hK hP hl hM b5 b6 b7 b67 B4
  go_wp2_with fail
  refine (all1 vk l v vm _ HL.out HK.out HP.out HM.out).mono ?_
  rintro e w8 ⟨⟨r, rfl, hR⟩, b8⟩
  have B8 := B7.trans (b8.mono B7.size)
  have HR : Hid (RowOf 1 intCell w8.heap.size w8 r [4356, 2]) := hR
  clear b8 HK HP HL HM B7 hR
  go_wp2_with fail
  refine (kernelFn_any _).mono ?_
  rintro e w9 ⟨vk, rfl, hK, b9⟩
  go_wp2_with fail
  refine (pair_any _).mono ?_
  rintro e w10 ⟨v, l, rfl, hl, hP, b10⟩
  have HK : Hid (IsKer w10.heap.size w10 vk kernK) := (hK.below b10).more b10.size
  have HP : Hid (IsPlcs w10.heap.size w10 v l) := hP
  have HL : Hid (l.map PV.plc = pairL) := hl
  have b910 := b9.trans (b10.mono b9.size)
  have B10 := B8.trans (b910.mono B8.size)
  have HR10 : Hid (RowOf 1 intCell w10.heap.size w10 r [4356, 2]) := (HR.out.below b910).more b910.size
  clear hK hP hl b9 b10 b910 B8 HR
  go_wp2_with fail
  refine (find2 vk l v _ HL.out HK.out HP.out).mono ?_
  rintro e w11 ⟨rfl, b11⟩
  have B11 := B10.trans (b11.mono B10.size)
  have HR11 : Hid (RowOf 1 intCell w11.heap.size w11 r [4356, 2]) := (HR10.out.below b11).more b11.size
  clear b11 HK HP HL B10 HR10
  go_wp2_with fail
  refine (kernelFn_any _).mono ?_
  rintro e w12 ⟨vk, rfl, hK, b12⟩
  have HK : Hid (IsKer w12.heap.size w12 vk kernK) := hK
  have B12 := B11.trans (b12.mono B11.size)
  have HR12 : Hid (RowOf 1 intCell w12.heap.size w12 r [4356, 2]) := (HR11.out.below b12).more b12.size
  clear hK b12 HR11 B11
  go_wp2_with fail
  refine (kernel1 vk _ HK.out).mono ?_
  rintro e w13 ⟨rfl, b13⟩
  have B13 := B12.trans (b13.mono B12.size)
  have HR13 : Hid (RowOf 1 intCell w13.heap.size w13 r [4356, 2]) := (HR12.out.below b13).more b13.size
  clear b13 HR12 B12
  have HB14 : Hid (Below w13.heap.size w13 (w13.alloc (.cells #[.int .i64 4356, .int .i64 2] 3))) := (Below.refl _ _).alloc (Nat.le_refl _) _
  have HI14 : Hid (RowOf 1 intCell (w13.alloc (.cells #[.int .i64 4356, .int .i64 2] 3)).heap.size (w13.alloc (.cells #[.int .i64 4356, .int .i64 2] 3)) (.slice (some ⟨w13.heap.size, 0, none⟩) 2 2) [4356, 2]) :=
    rowOf_cells (C := intC) (cells := intCell) (sz := 1) (fun _ => rfl) intC_at (CellsAt.new w13 3 #[.int .i64 4356, .int .i64 2]) [4356, 2] (by decide) 2 rfl
  go_wp2_with fail
  refine (sameInts_yes [4356, 2] r _ _ ((HR13.out.below HB14.out).more HB14.out.size) HI14.out).mono ?_
  rintro e w15 ⟨rfl, b15⟩
  have B14 := B13.trans (HB14.out.mono B13.size)
  have B15 := B14.trans (b15.mono B14.size)
  go_wp2
  go_ret
  exact ⟨rfl, B15⟩

end Go.Proofs.Ytaklbnabgcglhab
