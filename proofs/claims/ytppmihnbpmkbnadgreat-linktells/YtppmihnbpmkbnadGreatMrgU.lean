/- Texts that are laid together. -/
import Derived.Test.YtppmihnbpmkbnadGreatMrgT
import Derived.Test.YtppmihnbpmkbnadGreatMrgQ
import Derived.Test.YtppmihnbpmkbnadGreatMrgB
import Derived.ProofKit
import Derived.OpenShut
import Derived.ShutString
import Derived.ChangeOld
import Derived.SizedLaws
import Derived.Below
import Derived.Carry
import Derived.Deep.Slices

/- What must be in any case, of who is meant. -/
namespace Go.Proofs.YtppmihnbpmkbnadGreat
open Go.RowKit Go.PlainAid

set_option maxRecDepth 100000

theorem find1 (vk : Value) (l : List PV) (v : Value) (w : World) (hl : l.map PV.plc = pairL) (hK : IsKer w.heap.size w vk kernK) (hP : IsPlcs w.heap.size w v l) :
    Calls Tryz.prog 51 #[vk, v, .agg #[.string ⟨#[108, 105, 98]⟩, .string ⟨#[102]⟩, .int .i64 1, .int .i64 1]] w fun e w' => e = .returned (.tuple #[.int .i64 4356, .int .i64 0]) ∧ Below w.heap.size w w' := by
  have := find_any kernK vk l v ⟨⟨#[108, 105, 98]⟩, ⟨#[102]⟩, 1, 1⟩ w hK kern_fits hP (pair_fits hl) ⟨by decide, by decide⟩
  rw [hl] at this
  have e : findRes kernK pairL ⟨⟨#[108, 105, 98]⟩, ⟨#[102]⟩, 1, 1⟩ = (4356, 0) := by kernel_rfl
  rw [e] at this
  exact this
theorem find2 (vk : Value) (l : List PV) (v : Value) (w : World) (hl : l.map PV.plc = pairL) (hK : IsKer w.heap.size w vk kernK) (hP : IsPlcs w.heap.size w v l) :
    Calls Tryz.prog 51 #[vk, v, .agg #[.string ⟨#[108, 105, 98]⟩, .string ⟨#[102]⟩, .int .i64 1, .int .i64 3]] w fun e w' => e = .returned (.tuple #[.int .i64 0, .int .i64 4]) ∧ Below w.heap.size w w' := by
  have := find_any kernK vk l v ⟨⟨#[108, 105, 98]⟩, ⟨#[102]⟩, 1, 3⟩ w hK kern_fits hP (pair_fits hl) ⟨by decide, by decide⟩
  rw [hl] at this
  have e : findRes kernK pairL ⟨⟨#[108, 105, 98]⟩, ⟨#[102]⟩, 1, 3⟩ = (0, 4) := by kernel_rfl
  rw [e] at this
  exact this
theorem all1 (vk : Value) (l : List PV) (v vm : Value) (w : World) (hl : l.map PV.plc = pairL) (hK : IsKer w.heap.size w vk kernK) (hP : IsPlcs w.heap.size w v l) (hM : IsMod w.heap.size w vm appM) :
    Calls Tryz.prog 27 #[vk, v, vm] w fun e w' => (∃ r, e = .returned (.tuple #[r, .int .i64 0]) ∧ RowOf 1 intCell w'.heap.size w' r [4356, 2]) ∧ Below w.heap.size w w' := by
  have := all_any kernK vk l v appM vm w hK kern_fits hP (pair_fits hl) hM fits_app
  rw [hl] at this
  have e : allRes kernK pairL appM = ([4356, 2], 0) := by kernel_rfl
  rw [e] at this
  exact this
theorem kernel1 (vk : Value) (w : World) (hK : IsKer w.heap.size w vk kernK) : Calls Tryz.prog 49 #[vk] w fun e w' => e = .returned (.int .i64 0) ∧ Below w.heap.size w w' := by
  have := kernel_any kernK vk w hK kern_fits
  have e : chkKer kernK = 0 := by kernel_rfl
  rwa [e] at this

set_option maxHeartbeats 4000000 in
theorem resolveBegun_any (w : World) : Calls Tryz.prog 22 #[] w fun e w' => e = .returned (.bool true) ∧ Below w.heap.size w w' := by
  go_enter Tryz.func22, Tryz.ntmps22
  go_wp2_with fail
  refine (kernelFn_any _).mono ?_
  rintro e w1 ⟨vk, rfl, hK, b1⟩
  go_wp2_with fail
  refine (pair_any _).mono ?_
  rintro e w2 ⟨v, l, rfl, hl, hP, b2⟩
  go_wp2_with fail
  refine (app_any _).mono ?_
  rintro e w3 ⟨vm, rfl, hM, b3⟩
  have b23 := b2.trans (b3.mono b2.size)
  have HK : Hid (IsKer w3.heap.size w3 vk kernK) := (hK.below b23).more b23.size
  have HP : Hid (IsPlcs w3.heap.size w3 v l) := (hP.below b3).more b3.size
  have HL : Hid (l.map PV.plc = pairL) := hl
  have B3 := b1.trans (b23.mono b1.size)
  obtain ⟨ve, vi, vp, rfl, hE, hI, hPt⟩ := hM
  obtain ⟨ai, ci, rfl, _, hI | ⟨b, off, rfl, hbn, hcells⟩⟩ := hI
  · exact absurd hI (by decide)
  have c0 : w3.cell? ⟨b, off, none⟩ = some (.string ⟨#[108, 105, 98]⟩) := hcells 0 ⟨⟨#[108, 105, 98]⟩, ⟨#[102]⟩, 1, 1⟩ rfl 0 (by omega)
  have c1 : w3.cell? ⟨b, off + 1, none⟩ = some (.string ⟨#[102]⟩) := hcells 0 ⟨⟨#[108, 105, 98]⟩, ⟨#[102]⟩, 1, 1⟩ rfl 1 (by omega)
  have c2 : w3.cell? ⟨b, off + 2, none⟩ = some (.int .i64 1) := hcells 0 ⟨⟨#[108, 105, 98]⟩, ⟨#[102]⟩, 1, 1⟩ rfl 2 (by omega)
  have c3 : w3.cell? ⟨b, off + 3, none⟩ = some (.int .i64 1) := hcells 0 ⟨⟨#[108, 105, 98]⟩, ⟨#[102]⟩, 1, 1⟩ rfl 3 (by omega)
  dsimp only [appM]
  have hfd : ∀ w : World, (Instr.field 39 (.agg #[.string ⟨#[97, 112, 112]⟩, .int .i64 0, .int .i64 0, .string ⟨#[46, 46, 46, 46, 46, 46, 46, 46]⟩, ve, .slice (some ⟨b, off, none⟩) 2 ci, vp]) 5).run Tryz.prog w = .ok (.slice (some ⟨b, off, none⟩) 2 ci) w := fun _ => by kernel_rfl
  clear hE hPt hcells hK hP hl b1 b2 b3 b23
  go_wp2_with fail
  refine (find1 vk l v _ HL.out HK.out HP.out).mono ?_
  rintro e w4 ⟨rfl, b4⟩
  have B4 := B3.trans (b4.mono B3.size)
  clear b4 c0 c1 c2 c3 HK HP HL B3 hfd
  go_wp2_with fail
  refine (kernelFn_any _).mono ?_
  rintro e w5 ⟨vk, rfl, hK, b5⟩
  go_wp2_with fail
  refine (pair_any _).mono ?_
  rintro e w6 ⟨v, l, rfl, hl, hP, b6⟩
  go_wp2_with fail
  refine (app_any _).mono ?_
  rintro e w7 ⟨vm, rfl, hM, b7⟩
  have b67 := b6.trans (b7.mono b6.size)
  have HK : Hid (IsKer w7.heap.size w7 vk kernK) := (hK.below b67).more b67.size
  have HP : Hid (IsPlcs w7.heap.size w7 v l) := (hP.below b7).more b7.size
  have HL : Hid (l.map PV.plc = pairL) := hl
  have HM : Hid (IsMod w7.heap.size w7 vm appM) := hM
  have B7 := B4.trans ((b5.trans (b67.mono b5.size)).mono B4.size)
  clear hK hP hl hM b5 b6 b7 b67 B4
  go_wp2_with fail
  refine (all1 vk l v vm _ HL.out HK.out HP.out HM.out).mono ?_
  rintro e w8 ⟨⟨r, rfl, hR⟩, b8⟩
  have B8 := B7.trans (b8.mono B7.size)
  have HR : Hid (RowOf 1 intCell w8.heap.size w8 r [4356, 2]) := hR
  clear b8 HK HP HL HM B7 hR
  go_wp2_with fail
  refine (kernelFn_any _).mono ?_
  rintro e w9 ⟨vk, rfl, hK, b9⟩
  go_wp2_with fail
  refine (pair_any _).mono ?_
  rintro e w10 ⟨v, l, rfl, hl, hP, b10⟩
  have HK : Hid (IsKer w10.heap.size w10 vk kernK) := (hK.below b10).more b10.size
  have HP : Hid (IsPlcs w10.heap.size w10 v l) := hP
  have HL : Hid (l.map PV.plc = pairL) := hl
  have b910 := b9.trans (b10.mono b9.size)
  have B10 := B8.trans (b910.mono B8.size)
  have HR10 : Hid (RowOf 1 intCell w10.heap.size w10 r [4356, 2]) := (HR.out.below b910).more b910.size
  clear hK hP hl b9 b10 b910 B8 HR
  go_wp2_with fail
  refine (find2 vk l v _ HL.out HK.out HP.out).mono ?_
  rintro e w11 ⟨rfl, b11⟩
  have B11 := B10.trans (b11.mono B10.size)
  have HR11 : Hid (RowOf 1 intCell w11.heap.size w11 r [4356, 2]) := (HR10.out.below b11).more b11.size
  clear b11 HK HP HL B10 HR10
  go_wp2_with fail
  refine (kernelFn_any _).mono ?_
  rintro e w12 ⟨vk, rfl, hK, b12⟩
  have HK : Hid (IsKer w12.heap.size w12 vk kernK) := hK
  have B12 := B11.trans (b12.mono B11.size)
  have HR12 : Hid (RowOf 1 intCell w12.heap.size w12 r [4356, 2]) := (HR11.out.below b12).more b12.size
  clear hK b12 HR11 B11
  go_wp2_with fail
  refine (kernel1 vk _ HK.out).mono ?_
  rintro e w13 ⟨rfl, b13⟩
  have B13 := B12.trans (b13.mono B12.size)
  have HR13 : Hid (RowOf 1 intCell w13.heap.size w13 r [4356, 2]) := (HR12.out.below b13).more b13.size
  clear b13 HR12 B12
  have HB14 : Hid (Below w13.heap.size w13 (w13.alloc (.cells #[.int .i64 4356, .int .i64 2] 3))) := (Below.refl _ _).alloc (Nat.le_refl _) _
  have HI14 : Hid (RowOf 1 intCell (w13.alloc (.cells #[.int .i64 4356, .int .i64 2] 3)).heap.size (w13.alloc (.cells #[.int .i64 4356, .int .i64 2] 3)) (.slice (some ⟨w13.heap.size, 0, none⟩) 2 2) [4356, 2]) :=
    rowOf_cells (C := intC) (cells := intCell) (sz := 1) (fun _ => rfl) intC_at (CellsAt.new w13 3 #[.int .i64 4356, .int .i64 2]) [4356, 2] (by decide) 2 rfl
  go_wp2_with fail
  refine (sameInts_yes [4356, 2] r _ _ ((HR13.out.below HB14.out).more HB14.out.size) HI14.out).mono ?_
  rintro e w15 ⟨rfl, b15⟩
  have B14 := B13.trans (HB14.out.mono B13.size)
  have B15 := B14.trans (b15.mono B14.size)
  go_wp2
  go_ret
  exact ⟨rfl, B15⟩

end Go.Proofs.YtppmihnbpmkbnadGreat

/- What must be in any case, of images. -/
namespace Go.Proofs.YtppmihnbpmkbnadGreat
open Go.RowKit Go.PlainAid

set_option maxRecDepth 100000

theorem lnB_i2 : (imageOf kernK pairL ⟨#[97, 112, 112]⟩).2 = 0 := by kernel_rfl
theorem lnB_is : (imageOf kernK pairL ⟨#[97, 112, 112]⟩).1.size = 64 := by kernel_rfl
theorem lnB_i9 : (imageOf kernK pairL ⟨#[97, 112, 112]⟩).1.extract 0 9 = ⟨#[5, 17, 0, 0, 223, 247, 255, 46, 255]⟩ := by kernel_rfl
theorem lnB_a2 : (areaOf kernK pairL).2 = 0 := by kernel_rfl
theorem lnB_as : (areaOf kernK pairL).1.size = 1024 := by kernel_rfl
theorem lnB_a64 : (areaOf kernK pairL).1.extract 64 128 = (imageOf kernK pairL ⟨#[97, 112, 112]⟩).1 := by kernel_rfl
theorem lnB_a256 : (areaOf kernK pairL).1.extract 256 265 = ⟨#[97, 98, 99, 100, 101, 102, 103, 104, 255]⟩ := by kernel_rfl

set_option maxHeartbeats 4000000 in
theorem linkBegun_any (w : World) : Calls Tryz.prog 15 #[] w fun e w' => e = .returned (.bool true) ∧ Below w.heap.size w w' := by
  obtain ⟨S, E, he⟩ : ∃ S E, imageOf kernK pairL ⟨#[97, 112, 112]⟩ = (S, E) := ⟨_, _, rfl⟩
  obtain ⟨T, F, hf⟩ : ∃ T F, areaOf kernK pairL = (T, F) := ⟨_, _, rfl⟩
  have i2 := lnB_i2
  have is := lnB_is
  have i9 := lnB_i9
  have a2 := lnB_a2
  have asz := lnB_as
  have a64 := lnB_a64
  have a256 := lnB_a256
  rw [he] at i2 is i9 a64
  rw [hf] at a2 asz a64 a256
  dsimp only at i2 is i9 a2 asz a64 a256
  subst i2 a2
  have HI : Hid (∀ vk l v W, l.map PV.plc = pairL → IsKer W.heap.size W vk kernK → IsPlcs W.heap.size W v l → Calls Tryz.prog 9 #[vk, v, .string ⟨#[97, 112, 112]⟩] W fun e w' => e = .returned (.tuple #[.string S, .int .i64 0]) ∧ Below W.heap.size W w') := fun vk l v W hl hK hP => by
    have := linkImage_any kernK vk l v ⟨#[97, 112, 112]⟩ W hK kern_fits hP (pair_fits hl)
    rw [hl, he] at this
    exact this
  have HA : Hid (∀ vk l v W, l.map PV.plc = pairL → IsKer W.heap.size W vk kernK → IsPlcs W.heap.size W v l → Calls Tryz.prog 10 #[vk, v] W fun e w' => e = .returned (.tuple #[.string T, .int .i64 0]) ∧ Below W.heap.size W w') := fun vk l v W hl hK hP => by
    have := linkArea_any kernK vk l v W hK kern_fits hP (pair_fits hl)
    rw [hl, hf] at this
    exact this
  clear he hf
  go_enter Tryz.func15, Tryz.ntmps15
  go_wp2_with fail
  refine (kernelFn_any _).mono ?_
  rintro e w1 ⟨vk, rfl, hK, b1⟩
  go_wp2_with fail
  refine (pair_any _).mono ?_
  rintro e w2 ⟨v, l, rfl, hl, hP, b2⟩
  have B2 := b1.trans (b2.mono b1.size)
  go_wp2_with fail
  refine (HI.out vk l v _ hl ((hK.below b2).more b2.size) hP).mono ?_
  rintro e w3 ⟨rfl, b3⟩
  have B3 := B2.trans (b3.mono B2.size)
  clear hK b1 hl hP b2 b3 B2 HI
  go_wp2_with fail
  refine (kernelFn_any _).mono ?_
  rintro e w4 ⟨vk2, rfl, hK, b1⟩
  go_wp2_with fail
  refine (pair_any _).mono ?_
  rintro e w5 ⟨v2, l2, rfl, hl, hP, b2⟩
  have B5 := B3.trans ((b1.trans (b2.mono b1.size)).mono B3.size)
  go_wp2_with fail
  refine (HA.out vk2 l2 v2 _ hl ((hK.below b2).more b2.size) hP).mono ?_
  rintro e w6 ⟨rfl, b3⟩
  have B6 := B5.trans (b3.mono B5.size)
  clear hK b1 hl hP b2 b3 B5 HA B3
  go_wp2
  go_ret
  exact ⟨rfl, B6⟩

end Go.Proofs.YtppmihnbpmkbnadGreat

/- The walk of the law LinkTells: it returns true. -/
namespace Go.Proofs.YtppmihnbpmkbnadGreat.linkTells
open Go.RowKit Go.PlainAid

set_option maxRecDepth 100000

theorem key_of (K : Ker) (l : List PV) (name : ByteArray) :
    (chkLink K (l.map PV.plc) ≠ 0 ∧ imageOf K (l.map PV.plc) name = (⟨#[]⟩, chkLink K (l.map PV.plc)) ∧ areaOf K (l.map PV.plc) = (⟨#[]⟩, chkLink K (l.map PV.plc))) ∨
    (chkLink K (l.map PV.plc) = 0 ∧ areaOf K (l.map PV.plc) = areaFrom K (l.map PV.plc) ⟨#[]⟩ (l.map PV.plc) ∧ idxFrom (fun x : PV => x.mod.name == name) 0 l = -1 ∧ imageOf K (l.map PV.plc) name = (⟨#[]⟩, 5)) ∨
    (chkLink K (l.map PV.plc) = 0 ∧ areaOf K (l.map PV.plc) = areaFrom K (l.map PV.plc) ⟨#[]⟩ (l.map PV.plc) ∧ ∃ (j : Nat) (x : PV), l[j]? = some x ∧ idxFrom (fun x : PV => x.mod.name == name) 0 l = (j : Int) ∧ imageOf K (l.map PV.plc) name = imgRes K (l.map PV.plc) x.plc) := by
  by_cases h : chkLink K (l.map PV.plc) = 0
  · have hi : imageOf K (l.map PV.plc) name = match (l.map PV.plc).find? fun p => p.mod.name == name with
      | none => (⟨#[]⟩, 5)
      | some p => imgRes K (l.map PV.plc) p := by unfold imageOf; rw [if_neg (by omega)]; rfl
    have ha : areaOf K (l.map PV.plc) = areaFrom K (l.map PV.plc) ⟨#[]⟩ (l.map PV.plc) := by unfold areaOf; rw [if_neg (by omega)]
    rw [find_plc] at hi
    rcases idx_find (fun x : PV => x.mod.name == name) l 0 with ⟨h1, h2⟩ | ⟨j, x, h1, h2, h3⟩
    · rw [h1] at hi
      exact .inr (.inl ⟨h, ha, h2, hi⟩)
    · rw [h1] at hi
      exact .inr (.inr ⟨h, ha, j, x, h2, by simpa using h3, hi⟩)
  · refine .inl ⟨h, ?_, ?_⟩
    · unfold imageOf; rw [if_pos h]
    · unfold areaOf; rw [if_pos h]

set_option maxHeartbeats 8000000 in
theorem walk (K : Ker) (vk : Value) (l : List PV) (v : Value) (name : ByteArray) (w : World) (hK : IsKer w.heap.size w vk K) (hf : K.fits) (hrow : IsPlcs w.heap.size w v l) (hfit : ∀ x ∈ l, x.mod.fits) (_ : name.size ≤ 140737488351232) :
    Calls Tryz.prog 3 #[vk, v, .string name] w fun e w' => e = .returned (.bool true) ∧ Below w.heap.size w w' := by
  have HI : Hid (∀ W, Below w.heap.size w W → Calls Tryz.prog 9 #[vk, v, .string name] W fun e w' => e = .returned (.tuple #[.string (imageOf K (l.map PV.plc) name).1, .int .i64 (imageOf K (l.map PV.plc) name).2]) ∧ Below W.heap.size W w') := fun W hb => linkImage_any K vk l v name W ((hK.below hb).more hb.size) hf ((hrow.below hb).more hb.size) hfit
  have HA : Hid (∀ W, Below w.heap.size w W → Calls Tryz.prog 10 #[vk, v] W fun e w' => e = .returned (.tuple #[.string (areaOf K (l.map PV.plc)).1, .int .i64 (areaOf K (l.map PV.plc)).2]) ∧ Below W.heap.size W w') := fun W hb => linkArea_any K vk l v W ((hK.below hb).more hb.size) hf ((hrow.below hb).more hb.size) hfit
  have HC : Hid (∀ W, Below w.heap.size w W → Calls Tryz.prog 11 #[vk, v] W fun e w' => e = .returned (.int .i64 (chkLink K (l.map PV.plc))) ∧ Below W.heap.size W w') := fun W hb => checkLink_any K vk l v W ((hK.below hb).more hb.size) hf ((hrow.below hb).more hb.size) hfit
  have HP : Hid (∀ W, Below w.heap.size w W → Calls Tryz.prog 12 #[v, .string name] W fun e w' => e = .returned (.int .i64 (idxFrom (fun x : PV => x.mod.name == name) 0 l)) ∧ Below W.heap.size W w') := fun W hb => placeOf_any l v name W ((hrow.1.below hb).more hb.size)
  have HM : Hid (chkLink K (l.map PV.plc) = 0 → ∀ (j : Nat) (x : PV), l[j]? = some x → ∀ W, Below w.heap.size w W → Calls Tryz.prog 13 #[vk, v, .int .i64 j] W fun e w' => e = .returned (.tuple #[.string (imgRes K (l.map PV.plc) x.plc).1, .int .i64 (imgRes K (l.map PV.plc) x.plc).2]) ∧ Below W.heap.size W w') := fun h0 j x hx W hb => rfImage_any K vk l v j x W ((hK.below hb).more hb.size) ((hrow.below hb).more hb.size) h0 hx
  have HR : Hid (chkLink K (l.map PV.plc) = 0 → ∀ W, Below w.heap.size w W → Calls Tryz.prog 14 #[vk, v] W fun e w' => e = .returned (.tuple #[.string (areaFrom K (l.map PV.plc) ⟨#[]⟩ (l.map PV.plc)).1, .int .i64 (areaFrom K (l.map PV.plc) ⟨#[]⟩ (l.map PV.plc)).2]) ∧ Below W.heap.size W w') := fun h0 W hb => rfArea_any K vk l v W ((hK.below hb).more hb.size) ((hrow.below hb).more hb.size) h0
  have key := key_of K l name
  obtain ⟨vke, rfl, hE⟩ := hK
  obtain ⟨qe, je, rfl, _, _⟩ := hE
  obtain ⟨⟨a, cap, rfl, _, _⟩, _⟩ := hrow
  clear hf hfit
  generalize imageOf K (l.map PV.plc) name = IM at *
  generalize areaOf K (l.map PV.plc) = AR at *
  generalize areaFrom K (l.map PV.plc) ⟨#[]⟩ (l.map PV.plc) = AF at *
  generalize chkLink K (l.map PV.plc) = cl at *
  generalize imgRes K (l.map PV.plc) = IR at *
  generalize idxFrom (fun x : PV => x.mod.name == name) 0 l = ix at *
  obtain ⟨ma, mi, ks⟩ := K
  dsimp only at *
  generalize ks.length = lk at *
  generalize l.length = ll at *
  obtain ⟨is, ie⟩ := IM
  obtain ⟨az, ae⟩ := AR
  dsimp only at *
  have BB : Below w.heap.size w (w.alloc (.cells #[.int .i64 ma, .int .i64 mi, .slice qe lk je] 24)) := (Below.refl _ _).alloc (Nat.le_refl _) _
  have KB : CellsAt (w.alloc (.cells #[.int .i64 ma, .int .i64 mi, .slice qe lk je] 24)) w.heap.size 24 #[.int .i64 ma, .int .i64 mi, .slice qe lk je] := CellsAt.new w 24 #[.int .i64 ma, .int .i64 mi, .slice qe lk je]
  go_enter Tryz.func3, Tryz.ntmps3
  go_wp2_with fail
  refine (HI.out _ BB).mono ?_
  rintro e w1 ⟨rfl, b1⟩
  replace KB := KB.below b1 KB.lt
  replace BB := BB.trans (b1.mono BB.size)
  clear b1 HI
  have k0 := KB.cell 0
  have k1 := KB.cell 1
  have k2 := KB.cell 2
  have hk := KB.lt
  simp at k0 k1 k2
  go_wp2_with fail
  refine (HA.out _ BB).mono ?_
  rintro e w2 ⟨rfl, b1⟩
  replace KB := KB.below b1 KB.lt
  replace BB := BB.trans (b1.mono BB.size)
  clear b1 HA k0 k1 k2 hk
  have k0 := KB.cell 0
  have k1 := KB.cell 1
  have k2 := KB.cell 2
  have hk := KB.lt
  simp at k0 k1 k2
  go_wp2_with fail
  refine (HC.out _ BB).mono ?_
  rintro e w3 ⟨rfl, b1⟩
  replace KB := KB.below b1 KB.lt
  replace BB := BB.trans (b1.mono BB.size)
  clear b1 HC k0 k1 k2 hk
  have k0 := KB.cell 0
  have k1 := KB.cell 1
  have k2 := KB.cell 2
  have hk := KB.lt
  simp at k0 k1 k2
  rcases key with ⟨h0, he1, he2⟩ | ⟨rfl, rfl, rfl, he⟩ | ⟨rfl, rfl, j, x, hx, rfl, he⟩
  · obtain ⟨rfl, rfl⟩ := Prod.mk.inj he1
    obtain ⟨rfl, rfl⟩ := Prod.mk.inj he2
    have h0' : (ae == 0) = false := by simpa using h0
    clear h0 he1 he2 HP HM HR
    go_wp2_with fail
    refine (linkBegun_any _).mono ?_
    rintro e w4 ⟨rfl, b1⟩
    replace BB := BB.trans (b1.mono BB.size)
    clear b1 KB k0 k1 k2 hk
    go_wp2
    go_ret
    exact ⟨by first | rfl | simp, BB⟩
  · obtain ⟨rfl, rfl⟩ := Prod.mk.inj he
    have HRR : Hid (∀ W, Below w.heap.size w W → Calls Tryz.prog 14 #[.agg #[.int .i64 ma, .int .i64 mi, .slice qe lk je], .slice a ll cap] W fun e w' => e = .returned (.tuple #[.string az, .int .i64 ae]) ∧ Below W.heap.size W w') := HR.out (by first | rfl | trivial)
    clear he HM HR
    go_wp2_with fail
    refine (HP.out _ BB).mono ?_
    rintro e w4 ⟨rfl, b1⟩
    replace KB := KB.below b1 KB.lt
    replace BB := BB.trans (b1.mono BB.size)
    clear b1 HP k0 k1 k2 hk
    have k0 := KB.cell 0
    have k1 := KB.cell 1
    have k2 := KB.cell 2
    have hk := KB.lt
    simp at k0 k1 k2
    go_wp2_with fail
    refine (HRR.out _ BB).mono ?_
    rintro e w5 ⟨rfl, b1⟩
    replace BB := BB.trans (b1.mono BB.size)
    clear b1 HRR k0 k1 k2 hk KB
    go_wp2_with fail
    refine (linkBegun_any _).mono ?_
    rintro e w6 ⟨rfl, b1⟩
    replace BB := BB.trans (b1.mono BB.size)
    clear b1
    go_wp2
    go_ret
    exact ⟨by first | rfl | simp, BB⟩
  · have HRR : Hid (∀ W, Below w.heap.size w W → Calls Tryz.prog 14 #[.agg #[.int .i64 ma, .int .i64 mi, .slice qe lk je], .slice a ll cap] W fun e w' => e = .returned (.tuple #[.string az, .int .i64 ae]) ∧ Below W.heap.size W w') := HR.out (by first | rfl | trivial)
    have HMM : Hid (∀ W, Below w.heap.size w W → Calls Tryz.prog 13 #[.agg #[.int .i64 ma, .int .i64 mi, .slice qe lk je], .slice a ll cap, .int .i64 j] W fun e w' => e = .returned (.tuple #[.string is, .int .i64 ie]) ∧ Below W.heap.size W w') := fun W hb => by
      have := HM.out (by first | rfl | trivial) j x hx W hb
      rw [← he] at this
      exact this
    have hj0 : ¬ ((j : Int) < 0) := by omega
    clear he HM HR hx
    go_wp2_with fail
    refine (HP.out _ BB).mono ?_
    rintro e w4 ⟨rfl, b1⟩
    replace KB := KB.below b1 KB.lt
    replace BB := BB.trans (b1.mono BB.size)
    clear b1 HP k0 k1 k2 hk
    have k0 := KB.cell 0
    have k1 := KB.cell 1
    have k2 := KB.cell 2
    have hk := KB.lt
    simp at k0 k1 k2
    go_wp2_with fail
    refine (HMM.out _ BB).mono ?_
    rintro e w5 ⟨rfl, b1⟩
    replace KB := KB.below b1 KB.lt
    replace BB := BB.trans (b1.mono BB.size)
    clear b1 HMM k0 k1 k2 hk
    have k0 := KB.cell 0
    have k1 := KB.cell 1
    have k2 := KB.cell 2
    have hk := KB.lt
    simp at k0 k1 k2
    go_wp2_with fail
    refine (HRR.out _ BB).mono ?_
    rintro e w6 ⟨rfl, b1⟩
    replace BB := BB.trans (b1.mono BB.size)
    clear b1 HRR k0 k1 k2 hk KB
    go_wp2_with fail
    refine (linkBegun_any _).mono ?_
    rintro e w7 ⟨rfl, b1⟩
    replace BB := BB.trans (b1.mono BB.size)
    clear b1
    go_wp2
    go_ret
    exact ⟨by first | rfl | simp, BB⟩

end Go.Proofs.YtppmihnbpmkbnadGreat.linkTells

/- Arguments that came in: texts, numbers, rows, a patch. -/
namespace Go.Proofs.YtppmihnbpmkbnadGreat
open Go.ChangeShapes Go.WideShapes Go.ChangeAt Go.RowKit Go.PlainAid Go.Deep

set_option maxRecDepth 100000

theorem list7 {α : Type} {l : List α} (h : l.length = 7) : ∃ a b c d e f g, l = [a, b, c, d, e, f, g] := by
  match l, h with
  | [a, b, c, d, e, f, g], _ => exact ⟨a, b, c, d, e, f, g, rfl⟩
theorem list4 {α : Type} {l : List α} (h : l.length = 4) : ∃ a b c d, l = [a, b, c, d] := by
  match l, h with
  | [a, b, c, d], _ => exact ⟨a, b, c, d, rfl⟩
theorem list2 {α : Type} {l : List α} (h : l.length = 2) : ∃ a b, l = [a, b] := by
  match l, h with
  | [a, b], _ => exact ⟨a, b, rfl⟩

section
variable {H : Type} {enc : TypeId × Value → H} {W : World} {spare : Nat → Bool} {held : Bool}

theorem row_of_trod {α : Type} [Inhabited α] {t e : TypeId} {sz fuel : Nat} {c : Value} {y : DataW H × List MemPlace} {cells : α → Nat → Value} {good : α → Prop} (ht : Tryz.prog.underlying t = some (.slice e)) (hsz : Tryz.prog.cellsOf e = sz) (h0 : 0 < sz)
    (conv : ∀ n cs z, cs.length = sz → DataW.trod enc Tryz.prog W 0 spare held n e cs = some z → ∃ x : α, (∀ i, i < sz → cs[i]? = some (cells x i)) ∧ good x)
    (h : DataW.trod enc Tryz.prog W 0 spare held fuel t [c] = some y) : ∃ l : List α, RowOf sz cells W.heap.size W c l ∧ ∀ x ∈ l, good x := by
  rcases open_slice ht h with ⟨hc, _⟩ | ⟨a, len, cap, m, n, D, Pl, hc, _, hl, hm, hmm, _, hx⟩
  · injection hc with hc
    subst hc
    exact ⟨[], ⟨none, 0, rfl, Nat.zero_le _, .inl rfl⟩, by simp⟩
  · injection hc with hc
    subst hc
    rw [hsz] at hx
    have hle : len ≤ m := by rw [hmm]; split <;> omega
    obtain ⟨X, hX⟩ := choose_lt (α := α) (n := len) (p := fun i x => (∀ j, j < sz → W.cell? (a.add (i * sz + j)) = some (cells x j)) ∧ good x) (fun i hi => by
      obtain ⟨cs', h1, h2⟩ := hx i (by omega)
      obtain ⟨_, hlen, hcell⟩ := World.cells?_some h1
      obtain ⟨x, hx1, hx2⟩ := conv n cs' _ hlen h2
      refine ⟨x, fun j hj => ?_, hx2⟩
      have h3 := hcell j hj
      rw [hx1 j hj] at h3
      have hadd : (a.add (i * sz)).add j = a.add (i * sz + j) ∨ W.cell? ((a.add (i * sz)).add j) = W.cell? (a.add (i * sz + j)) := by
        unfold Addr.add
        by_cases e1 : i * sz = 0
        · rw [if_pos e1, e1, Nat.zero_add]; exact .inl rfl
        · rw [if_neg e1]
          by_cases e2 : j = 0
          · rw [if_pos e2, e2, Nat.add_zero, if_neg e1]; exact .inl rfl
          · rw [if_neg e2, if_neg (by omega), Nat.add_assoc]; exact .inl rfl
      rcases hadd with hadd | hadd
      · rw [← hadd]; exact h3
      · rw [← hadd]; exact h3)
    refine ⟨(List.range len).map X, ⟨some a, cap, by simp, by simp; unfold maxLen at hm; omega, ?_⟩, ?_⟩
    · by_cases hz : len = 0
      · left
        subst hz
        rfl
      · right
        have hc0 := (hX 0 (by omega)).1 0 h0
        rw [Nat.zero_mul, Nat.zero_add] at hc0
        obtain ⟨b, off, spot⟩ := a
        have hsp : spot = none := by simpa [Addr.add] using World.cell?_spot hc0
        subst hsp
        refine ⟨b, off, rfl, ?_, fun j x hj i hi => ?_⟩
        · have := World.block_lt_of_cell? W _ hc0
          simpa [Addr.add] using this
        · have hjl : j < len := by
            have := (List.getElem?_eq_some_iff.1 hj).1
            simpa using this
          obtain rfl : X j = x := by
            rw [List.getElem?_map, List.getElem?_range hjl] at hj
            simpa using hj
          have h4 := (hX j hjl).1 i hi
          unfold Addr.add at h4
          by_cases e0 : j * sz + i = 0
          · rw [if_pos e0] at h4
            rw [Nat.add_assoc, e0]
            exact h4
          · rw [if_neg e0] at h4
            rw [Nat.add_assoc]
            exact h4
    · intro x hx
      obtain ⟨i, hi, rfl⟩ := List.mem_map.1 hx
      exact (hX i (by simpa using hi)).2

theorem str_of_trod {n : Nat} {c : Value} {y : DataW H × List MemPlace} (h : DataW.trod enc Tryz.prog W 0 spare held n 9 [c] = some y) : ∃ s : ByteArray, c = .string s ∧ s.size ≤ 9223372036854775807 := by
  obtain ⟨s, hc, _, hs⟩ := DataW.trod_string Tryz.underlying9 h
  injection hc with hc
  exact ⟨s, hc, hs⟩
theorem int_of_trod {n : Nat} {c : Value} {y : DataW H × List MemPlace} (h : DataW.trod enc Tryz.prog W 0 spare held n 3 [c] = some y) : ∃ k : Int, c = .int .i64 k := by
  obtain ⟨k, hc, _, _⟩ := DataW.trod_int Tryz.underlying3 h
  injection hc with hc
  exact ⟨k, hc⟩

theorem exp_of_trod (n : Nat) (cs : List Value) (z : DataW H × List MemPlace) (hl : cs.length = 2) (h : DataW.trod enc Tryz.prog W 0 spare held n 120 cs = some z) : ∃ x : Exp, (∀ i, i < 2 → cs[i]? = some (Exp.cell x i)) ∧ x.name.size ≤ 9223372036854775807 := by
  obtain ⟨xs, m, _, _, _, hlen, hf⟩ := DataW.trod_struct Tryz.underlying120 h
  obtain ⟨x0, x1, rfl⟩ := list2 hlen
  obtain ⟨c0, c1, rfl⟩ := list2 hl
  obtain ⟨s, rfl, hs⟩ := str_of_trod (hf 0 _ rfl)
  obtain ⟨k, rfl⟩ := int_of_trod (hf 1 _ rfl)
  refine ⟨⟨s, k⟩, fun i hi => ?_, hs⟩
  have : i = 0 ∨ i = 1 := by omega
  rcases this with rfl | rfl <;> rfl
theorem imp_of_trod (n : Nat) (cs : List Value) (z : DataW H × List MemPlace) (hl : cs.length = 4) (h : DataW.trod enc Tryz.prog W 0 spare held n 84 cs = some z) : ∃ x : Imp, (∀ i, i < 4 → cs[i]? = some (Imp.cell x i)) ∧ x.fits := by
  obtain ⟨xs, m, _, _, _, hlen, hf⟩ := DataW.trod_struct Tryz.underlying84 h
  obtain ⟨x0, x1, x2, x3, rfl⟩ := list4 hlen
  obtain ⟨c0, c1, c2, c3, rfl⟩ := list4 hl
  obtain ⟨s, rfl, hs⟩ := str_of_trod (hf 0 _ rfl)
  obtain ⟨t, rfl, ht⟩ := str_of_trod (hf 1 _ rfl)
  obtain ⟨k, rfl⟩ := int_of_trod (hf 2 _ rfl)
  obtain ⟨j, rfl⟩ := int_of_trod (hf 3 _ rfl)
  refine ⟨⟨s, t, k, j⟩, fun i hi => ?_, ⟨hs, ht⟩⟩
  have : i = 0 ∨ i = 1 ∨ i = 2 ∨ i = 3 := by omega
  rcases this with rfl | rfl | rfl | rfl <;> rfl
theorem pat_of_trod (n : Nat) (cs : List Value) (z : DataW H × List MemPlace) (hl : cs.length = 4) (h : DataW.trod enc Tryz.prog W 0 spare held n 43 cs = some z) : ∃ x : Pat, (∀ i, i < 4 → cs[i]? = some (Pat.cell x i)) ∧ True := by
  obtain ⟨xs, m, _, _, _, hlen, hf⟩ := DataW.trod_struct Tryz.underlying43 h
  obtain ⟨x0, x1, x2, x3, rfl⟩ := list4 hlen
  obtain ⟨c0, c1, c2, c3, rfl⟩ := list4 hl
  obtain ⟨a, rfl⟩ := int_of_trod (hf 0 _ rfl)
  obtain ⟨b, rfl⟩ := int_of_trod (hf 1 _ rfl)
  obtain ⟨k, rfl⟩ := int_of_trod (hf 2 _ rfl)
  obtain ⟨j, rfl⟩ := int_of_trod (hf 3 _ rfl)
  refine ⟨⟨a, b, k, j⟩, fun i hi => ?_, trivial⟩
  have : i = 0 ∨ i = 1 ∨ i = 2 ∨ i = 3 := by omega
  rcases this with rfl | rfl | rfl | rfl <;> rfl

theorem open_patch {v : Value} {d : DataW H} {ps : List MemPlace} {base : Nat} (hv : Value.okWide Tryz.prog W .any base 43 v) (h : DataW.Trod enc Tryz.prog W 0 spare held 43 v d ps) : ∃ p : Pat, v = .agg #[.int .i64 p.kind, .int .i64 p.pos, .int .i64 p.sym, .int .i64 p.add] := by
  obtain ⟨cs, rfl, hcs⟩ := okWide_struct Tryz.underlying43 hv
  obtain ⟨fuel, hf⟩ := h
  obtain ⟨xs, m, _, _, hl, hlen, hf⟩ := DataW.trod_struct Tryz.underlying43 hf
  have hc4 : Tryz.prog.cellsOf 43 = 4 := by kernel_rfl
  obtain ⟨x0, x1, x2, x3, rfl⟩ := list4 hlen
  rw [hc4] at hl
  obtain ⟨c0, c1, c2, c3, hcl⟩ := list4 hl
  have hcs' : cs.toList = [c0, c1, c2, c3] := hcl
  have hcA : cs = #[c0, c1, c2, c3] := by rw [← Array.toArray_toList (xs := cs), hcs']
  subst hcA
  have f0 := hf 0 _ rfl
  have f1 := hf 1 _ rfl
  have f2 := hf 2 _ rfl
  have f3 := hf 3 _ rfl
  obtain ⟨a, rfl⟩ := int_of_trod f0
  obtain ⟨b, rfl⟩ := int_of_trod f1
  obtain ⟨c, rfl⟩ := int_of_trod f2
  obtain ⟨e, rfl⟩ := int_of_trod f3
  exact ⟨⟨a, b, c, e⟩, rfl⟩
end

end Go.Proofs.YtppmihnbpmkbnadGreat
