/- Texts that are laid together. -/
import Derived.Test.YthmohjgdcjafkaeGreatMrgM
import Derived.Test.YthmohjgdcjafkaeGreatMrgN
import Derived.Test.YthmohjgdcjafkaeGreatMrgS
import Derived.Test.YthmohjgdcjafkaeGreatMrgT
import Derived.BigQuiet
import Derived.Test.YthmohjgdcjafkaeGreatMrgB
import Derived.ProofKit
import Derived.OpenShut
import Derived.ShutString
import Derived.ChangeOld
import Derived.SizedLaws
import Derived.Below
import Derived.Carry
import Derived.Deep.Slices
import Derived.Test.YthmohjgdcjafkaeGreatMrgC
import Derived.Test.YthmohjgdcjafkaeGreatMrgD

/- What must be in any case, of regions. -/
namespace Go.Proofs.YthmohjgdcjafkaeGreat
open Go.RowKit Go.PlainAid

set_option maxRecDepth 100000

set_option maxHeartbeats 1000000 in
theorem sameRuns_yes (l : List (Int × Int)) (v v' : Value) (w : World) (h1 : RowOf 2 runCell w.heap.size w v l) (h2 : RowOf 2 runCell w.heap.size w v' l) :
    Calls Tryz.prog 65 #[v, v'] w fun e w' => e = .returned (.bool true) ∧ Below w.heap.size w w' := by
  obtain ⟨a, cap, rfl, hz, h1⟩ := h1
  obtain ⟨a', cap', rfl, _, h2⟩ := h2
  have hne : ((l.length : Int) != (l.length : Int)) = false := by simp
  go_enter Tryz.func65, Tryz.ntmps65
  go_wp2
  go_loopw [5] (fun i wr => ∃ (k : Nat), k ≤ l.length ∧ i = .int .i64 k ∧ Hid (∃ q, wr = w.drewN q)) (fun i _ => l.length - (intOf i).toNat)
  case atStart => exact ⟨0, Nat.zero_le _, rfl, (⟨0, rfl⟩ : ∃ q, w = w.drewN q)⟩
  case round =>
    obtain ⟨k, hk, rfl, HQ⟩ := hrel
    by_cases hlt : k < l.length
    · obtain ⟨p, hp⟩ : ∃ p, l[k]? = some p := ⟨_, List.getElem?_eq_getElem hlt⟩
      rcases h1 with h | ⟨b, off, rfl, hbn, hc⟩
      · subst h; simp at hlt
      rcases h2 with h | ⟨b', off', rfl, hbn', hc'⟩
      · subst h; simp at hlt
      have hcl : ∀ p, wr.cell? p = w.cell? p := fun p => by obtain ⟨q, hq⟩ := HQ.out; rw [hq]; simp
      have c0 := (hcl _).trans (hc k _ hp 0 (by omega))
      have c1 := (hcl _).trans (hc k _ hp 1 (by omega))
      have d0 := (hcl _).trans (hc' k _ hp 0 (by omega))
      have d1 := (hcl _).trans (hc' k _ hp 1 (by omega))
      obtain ⟨n, A⟩ := p
      dsimp only [runCell] at c0 c1 d0 d1
      rw [Nat.add_zero] at c0 d0
      clear hcl hc hc' hp
      go_wp2
      go_quiet (fail)
      go_wp2
      obtain ⟨q, hq⟩ := HQ.out
      exact ⟨⟨k + 1, by omega, by go_num, (⟨q + _, by rw [hq, World.drewN_drewN]⟩ : ∃ q, _ = w.drewN q)⟩, by simp [intOf]; omega⟩
    · go_wp2
      go_ret
      obtain ⟨q, hq⟩ := HQ.out
      exact ⟨rfl, by rw [hq]; exact below_drewN (Below.refl _ _) q⟩

theorem reg_pair : chkReg pairL = 0 := by kernel_rfl
theorem free_pair : freeRes pairL = [(0, 1), (2, 2), (5, 11)] := by kernel_rfl
theorem first_pair : firstRes pairL 2 = (2, 0) := by kernel_rfl
theorem sz_lib : szM libM = 1 := by kernel_rfl

set_option maxHeartbeats 4000000 in
theorem regionBegun_any (w : World) : Calls Tryz.prog 27 #[] w fun e w' => e = .returned (.bool true) ∧ Below w.heap.size w w' := by
  go_enter Tryz.func27, Tryz.ntmps27
  go_wp2_with fail
  refine (lib_any _).mono ?_
  rintro e w1 ⟨pe, ke, rfl, hL, b1⟩
  have HS : Hid (Calls Tryz.prog 32 _ w1 fun e w' => _) := size_any libM _ w1 hL fits_lib
  rw [chk_lib, if_pos rfl, sz_lib] at HS
  clear hL
  go_wp2_with fail
  refine HS.out.mono ?_
  rintro e w2 ⟨rfl, b2⟩
  have B2 := b1.trans (b2.mono b1.size)
  clear b1 b2 HS
  go_wp2_with fail
  refine (pair_any _).mono ?_
  rintro e w3 ⟨v3, l3, rfl, h3, p3, b3⟩
  have B3 := B2.trans (b3.mono B2.size)
  have HF : Hid (Calls Tryz.prog 29 #[v3] w3 fun e w' => _) := free_any l3 v3 w3 p3 (pair_fits h3)
  rw [h3, reg_pair, free_pair] at HF
  obtain ⟨⟨a3, c3, rfl, _, _⟩, _⟩ := p3
  clear B2 b3 h3
  generalize l3.length = n3 at *
  go_wp2_with fail
  refine HF.out.mono ?_
  rintro e w4 ⟨⟨r4, rfl, R4⟩, b4⟩
  have B4 := B3.trans (b4.mono B3.size)
  clear HF b4 B3
  obtain ⟨a4, c4, rfl, _⟩ := id R4
  go_wp2_with fail
  refine (pair_any _).mono ?_
  rintro e w5 ⟨v5, l5, rfl, h5, p5, b5⟩
  have B5 := B4.trans (b5.mono B4.size)
  have R5 := (R4.below b5).more b5.size
  have HF : Hid (Calls Tryz.prog 34 #[v5, .int .i64 2] w5 fun e w' => _) := first_any l5 v5 2 w5 p5 (pair_fits h5)
  rw [h5, first_pair] at HF
  obtain ⟨⟨a5, c5, rfl, _, _⟩, _⟩ := p5
  clear B4 b5 h5 R4
  generalize l5.length = n5 at *
  go_wp2_with fail
  refine HF.out.mono ?_
  rintro e w6 ⟨rfl, b6⟩
  have B6 := B5.trans (b6.mono B5.size)
  have R6 := (R5.below b6).more b6.size
  clear HF b6 B5 R5
  have B7 : Below w.heap.size w (w6.alloc (.cells #[.int .i64 0, .int .i64 1, .int .i64 2, .int .i64 2, .int .i64 5, .int .i64 11] 59)) := B6.alloc B6.size _
  have b7 : Below w6.heap.size w6 (w6.alloc (.cells #[.int .i64 0, .int .i64 1, .int .i64 2, .int .i64 2, .int .i64 5, .int .i64 11] 59)) := (Below.refl _ _).alloc (Nat.le_refl _) _
  have R7 : RowOf 2 runCell (w6.alloc (.cells #[.int .i64 0, .int .i64 1, .int .i64 2, .int .i64 2, .int .i64 5, .int .i64 11] 59)).heap.size (w6.alloc (.cells #[.int .i64 0, .int .i64 1, .int .i64 2, .int .i64 2, .int .i64 5, .int .i64 11] 59)) (.slice (some ⟨w6.heap.size, 0, none⟩) 3 3) [(0, 1), (2, 2), (5, 11)] :=
    rowOf_cells (C := runC) (cells := runCell) (sz := 2) (fun _ => rfl) runC_at (CellsAt.new w6 59 _) [(0, 1), (2, 2), (5, 11)] (show 3 ≤ 255 by decide) 3 rfl
  have HQ : Hid (Calls Tryz.prog 65 _ _ fun e w' => _) := sameRuns_yes _ _ _ _ ((R6.below b7).more b7.size) R7
  have HB7 : Hid (Below w.heap.size w (w6.alloc (.cells #[.int .i64 0, .int .i64 1, .int .i64 2, .int .i64 2, .int .i64 5, .int .i64 11] 59))) := B7
  clear b7 R7 R6 B7
  go_wp2_with fail
  refine HQ.out.mono ?_
  rintro e w8 ⟨rfl, b8⟩
  have B8 := HB7.out.trans (b8.mono HB7.out.size)
  clear HQ HB7 b8
  go_wp2
  go_ret
  exact ⟨rfl, B8⟩

end Go.Proofs.YthmohjgdcjafkaeGreat

/- The walk of the law CompactSteps: it returns true. Printed by gencs.py. -/
namespace Go.Proofs.YthmohjgdcjafkaeGreat.compactSteps
open Go.RowKit Go.PlainAid Go.Lib Go.Sort Go.BigFrame

set_option maxRecDepth 100000


set_option maxHeartbeats 16000000 in
theorem walkE (K : Ker) (l : List PV) (v : Value) (w : World) (h : IsReg w.heap.size w v K l) (hf : K.fits) (hfit : ∀ x ∈ l, x.mod.fits) (h0 : ¬ chkRg K (l.map PV.plc) = 0) :
    Calls Tryz.prog 8 #[v] w fun e w' => e = .returned (.bool true) ∧ Below w.heap.size w w' := by
  obtain ⟨cr, hcr⟩ : ∃ cr, chkRg K (l.map PV.plc) = cr := ⟨_, rfl⟩
  have hne : cr ≠ 0 := by rw [← hcr]; exact h0
  have HPK : Hid (∀ W, Below w.heap.size w W → Calls Tryz.prog 22 #[v] W fun e w' => (∃ q j b c, e = .returned (.tuple #[.agg #[.int .i64 0, .int .i64 0, .slice q 0 j, .slice b 0 c], .int .i64 0, .int .i64 cr])) ∧ Below W.heap.size W w') := fun W hb => by
    refine (compPack_any K l v W ((h.below hb).more hb.size) hf hfit).mono ?_
    rintro e w' ⟨⟨v', l', rfl, hp, _, ho⟩, hb⟩
    have hi := packAns_reg hp ho
    have ha : packAns K (l.map PV.plc) = ((emptyK, []), 0, cr) := by
      unfold packAns
      rw [if_neg h0, hcr]
    rw [ha] at hp hi ⊢
    obtain rfl : l' = [] := List.map_eq_nil_iff.1 hp
    obtain ⟨q, j, b, c, rfl⟩ := hi.shape0
    exact ⟨⟨q, j, b, c, rfl⟩, hb⟩
  obtain ⟨qe, je, a, cap, rfl⟩ := h.shape0
  clear h hf hfit h0 hcr
  have hcz : (cr != 0) = true := by simpa using hne
  generalize K.exps.length = lk at *
  have HB0 : Hid (Below w.heap.size w w) := Below.refl _ _
  go_enter Tryz.func8, Tryz.ntmps8
  have ba : Below w.heap.size w (w.alloc (.cells #[.int .i64 K.major, .int .i64 K.minor, .slice qe lk je, .slice a l.length cap] 27)) := (Below.refl _ _).alloc (Nat.le_refl _) _
  have HB1 : Hid (Below w.heap.size w (w.alloc (.cells #[.int .i64 K.major, .int .i64 K.minor, .slice qe lk je, .slice a l.length cap] 27))) := HB0.out.trans (ba.mono HB0.out.size)
  clear HB0
  clear ba
  have HC2_g1 : Hid (CellsAt (w.alloc (.cells #[.int .i64 K.major, .int .i64 K.minor, .slice qe lk je, .slice a l.length cap] 27)) w.heap.size 27 #[.int .i64 K.major, .int .i64 K.minor, .slice qe lk je, .slice a l.length cap]) := CellsAt.new _ _ _
  go_wp2_with fail
  refine (compactBegun_any _).mono ?_
  generalize (w.alloc (.cells #[.int .i64 K.major, .int .i64 K.minor, .slice qe lk je, .slice a l.length cap] 27)) = w1 at *
  rintro e w2 ⟨rfl, b2⟩
  have HB3 : Hid (Below w.heap.size w w2) := HB1.out.trans (b2.mono HB1.out.size)
  have HC3_g1 : Hid (CellsAt w2 w.heap.size 27 #[.int .i64 K.major, .int .i64 K.minor, .slice qe lk je, .slice a l.length cap]) := HC2_g1.out.below b2 HC2_g1.out.lt
  clear HB1 HC2_g1
  clear b2
  go_wp2_with fail
  refine (registryBegun_any _).mono ?_
  rintro e w3 ⟨rfl, b3⟩
  have HB4 : Hid (Below w.heap.size w w3) := HB3.out.trans (b3.mono HB3.out.size)
  have HC4_g1 : Hid (CellsAt w3 w.heap.size 27 #[.int .i64 K.major, .int .i64 K.minor, .slice qe lk je, .slice a l.length cap]) := HC3_g1.out.below b3 HC3_g1.out.lt
  clear HB3 HC3_g1
  clear b3
  go_wp2_with fail
  refine (regionBegun_any _).mono ?_
  rintro e w4 ⟨rfl, b4⟩
  have HB5 : Hid (Below w.heap.size w w4) := HB4.out.trans (b4.mono HB4.out.size)
  have HC5_g1 : Hid (CellsAt w4 w.heap.size 27 #[.int .i64 K.major, .int .i64 K.minor, .slice qe lk je, .slice a l.length cap]) := HC4_g1.out.below b4 HC4_g1.out.lt
  clear HB4 HC4_g1
  clear b4
  have rg10 := CellsAt.cell HC5_g1.out 0
  have rg11 := CellsAt.cell HC5_g1.out 1
  have rg12 := CellsAt.cell HC5_g1.out 2
  have rg13 := CellsAt.cell HC5_g1.out 3
  have rg1l := CellsAt.lt HC5_g1.out
  simp at rg10 rg11 rg12 rg13
  go_wp2_with fail
  clear rg10 rg11 rg12 rg13 rg1l
  refine (HPK.out _ HB5.out).mono ?_
  rintro e w5 ⟨⟨q, j, b, c, rfl⟩, b5⟩
  have HB6 : Hid (Below w.heap.size w w5) := HB5.out.trans (b5.mono HB5.out.size)
  have HC6_g1 : Hid (CellsAt w5 w.heap.size 27 #[.int .i64 K.major, .int .i64 K.minor, .slice qe lk je, .slice a l.length cap]) := HC5_g1.out.below b5 HC5_g1.out.lt
  clear HB5 HC5_g1
  clear b5 HPK
  have ba : Below w5.heap.size w5 (w5.alloc (.cells #[.int .i64 0, .int .i64 0, .slice q 0 j, .slice b 0 c] 27)) := (Below.refl _ _).alloc (Nat.le_refl _) _
  have og_g1_g3 : w.heap.size < w5.heap.size := CellsAt.lt HC6_g1.out
  have HB7 : Hid (Below w.heap.size w (w5.alloc (.cells #[.int .i64 0, .int .i64 0, .slice q 0 j, .slice b 0 c] 27))) := HB6.out.trans (ba.mono HB6.out.size)
  have HC7_g1 : Hid (CellsAt (w5.alloc (.cells #[.int .i64 0, .int .i64 0, .slice q 0 j, .slice b 0 c] 27)) w.heap.size 27 #[.int .i64 K.major, .int .i64 K.minor, .slice qe lk je, .slice a l.length cap]) := HC6_g1.out.below ba HC6_g1.out.lt
  clear HB6 HC6_g1
  clear ba
  have HC8_g3 : Hid (CellsAt (w5.alloc (.cells #[.int .i64 0, .int .i64 0, .slice q 0 j, .slice b 0 c] 27)) w5.heap.size 27 #[.int .i64 0, .int .i64 0, .slice q 0 j, .slice b 0 c]) := CellsAt.new _ _ _
  go_upto_region 4 with fail
  generalize (w5.alloc (.cells #[.int .i64 0, .int .i64 0, .slice q 0 j, .slice b 0 c] 27)) = w6 at *
  generalize w5.heap.size = g3 at *
  have rg30 := CellsAt.cell HC8_g3.out 0
  have rg31 := CellsAt.cell HC8_g3.out 1
  have rg32 := CellsAt.cell HC8_g3.out 2
  have rg33 := CellsAt.cell HC8_g3.out 3
  have rg3l := CellsAt.lt HC8_g3.out
  simp at rg30 rg31 rg32 rg33
  go_wp2
  go_ret
  exact ⟨rfl, HB7.out⟩

set_option maxHeartbeats 16000000 in
theorem walk0 (K : Ker) (l : List PV) (v : Value) (w : World) (h : IsReg w.heap.size w v K l) (hf : K.fits) (hfit : ∀ x ∈ l, x.mod.fits) (h0 : chkRg K (l.map PV.plc) = 0) :
    Calls Tryz.prog 8 #[v] w fun e w' => e = .returned (.bool true) ∧ Below w.heap.size w w' := by
  obtain ⟨PL, hpl⟩ : ∃ PL, packFrom 0 (l.map PV.plc) = PL := ⟨_, rfl⟩
  obtain ⟨nn, hnn⟩ : ∃ nn, offFrom 0 (l.map PV.plc) = nn := ⟨_, rfl⟩
  have HNN : Hid (offFrom 0 (l.map PV.plc) = nn) := hnn
  have HPL : Hid (packFrom 0 (l.map PV.plc) = PL) := hpl
  have H0 : Hid (chkRg K (l.map PV.plc) = 0) := h0
  have HF0 : Hid (∀ x ∈ l, x.mod.fits) := hfit
  have hnl : nn ≤ l.length := by have := off_len (l.map PV.plc) 0; rw [List.length_map, hnn] at this; exact this
  have hll : l.length ≤ 255 := (rg_lens h0).2.1
  have HPK : Hid (∀ W, Below w.heap.size w W → Calls Tryz.prog 22 #[v] W fun e w' => (∃ (v' : Value) (l' : List PV), e = .returned (.tuple #[v', .int .i64 (nn : Int), .int .i64 0]) ∧ l'.map PV.plc = PL ∧ (∀ x ∈ l', x.mod.fits) ∧ IsReg w'.heap.size w' v' K l') ∧ Below W.heap.size W w') := fun W hb => by
    refine (compPack_any K l v W ((h.below hb).more hb.size) hf hfit).mono ?_
    rintro e w' ⟨⟨v', l', rfl, hp, hff, ho⟩, hb⟩
    have hi := packAns_reg hp ho
    have ha : packAns K (l.map PV.plc) = ((K, PL), nn, 0) := by
      unfold packAns
      rw [if_pos h0, hpl, hnn]
    rw [ha] at hp hi ⊢
    exact ⟨⟨v', l', rfl, hp, hff, hi⟩, hb⟩
  have HST : Hid (∀ (l1 : List PV) v1 W, (∀ x ∈ l1, x.mod.fits) → chkRg K (l1.map PV.plc) = 0 → IsReg W.heap.size W v1 K l1 → Calls Tryz.prog 24 #[v1] W fun e w' => (∃ (v' : Value) (l' : List PV), e = .returned (.tuple #[v', .bool (stepRes (l1.map PV.plc)).2, .int .i64 0]) ∧ l'.map PV.plc = (stepRes (l1.map PV.plc)).1 ∧ (∀ x ∈ l', x.mod.fits) ∧ IsReg w'.heap.size w' v' K l') ∧ Below W.heap.size W w') := fun l1 v1 W hff hc hr => by
    refine (compStep_any K l1 v1 W hr hf hff).mono ?_
    rintro e w' ⟨⟨v', l', rfl, hp, hff', ho⟩, hb⟩
    have hi := stepAns_reg hp ho
    have ha : stepAns K (l1.map PV.plc) = ((K, (stepRes (l1.map PV.plc)).1), (stepRes (l1.map PV.plc)).2, 0) := by
      unfold stepAns
      rw [if_pos hc]
    rw [ha] at hp hi ⊢
    exact ⟨⟨v', l', rfl, hp, hff', hi⟩, hb⟩
  have HCH : Hid (∀ (l1 : List PV) v1 W, (∀ x ∈ l1, x.mod.fits) → chkRg K (l1.map PV.plc) = 0 → IsReg W.heap.size W v1 K l1 → Calls Tryz.prog 19 #[v1] W fun e w' => e = .returned (.int .i64 0) ∧ Below W.heap.size W w') := fun l1 v1 W hff hc hr => by
    have := regCheck_any K l1 v1 W hr hf hff
    rw [hc] at this
    exact this
  have HR0 : Hid (IsReg w.heap.size w v K l) := h
  obtain ⟨qe, je, a, cap, rfl⟩ := h.shape0
  clear h hf hfit h0 hpl hnn
  generalize hlk : K.exps.length = lk at *
  have HLK : Hid (K.exps.length = lk) := hlk
  clear hlk
  have HB0 : Hid (Below w.heap.size w w) := Below.refl _ _
  go_enter Tryz.func8, Tryz.ntmps8
  have ba : Below w.heap.size w (w.alloc (.cells #[.int .i64 K.major, .int .i64 K.minor, .slice qe lk je, .slice a l.length cap] 27)) := (Below.refl _ _).alloc (Nat.le_refl _) _
  have HB1 : Hid (Below w.heap.size w (w.alloc (.cells #[.int .i64 K.major, .int .i64 K.minor, .slice qe lk je, .slice a l.length cap] 27))) := HB0.out.trans (ba.mono HB0.out.size)
  have HR1_g1 : Hid (IsReg (w.alloc (.cells #[.int .i64 K.major, .int .i64 K.minor, .slice qe lk je, .slice a l.length cap] 27)).heap.size (w.alloc (.cells #[.int .i64 K.major, .int .i64 K.minor, .slice qe lk je, .slice a l.length cap] 27)) (.agg #[.int .i64 K.major, .int .i64 K.minor, .slice qe lk je, .slice a l.length cap]) K l) := (HR0.out.below ba).more ba.size
  clear HB0 HR0
  clear ba
  have HC2_g1 : Hid (CellsAt (w.alloc (.cells #[.int .i64 K.major, .int .i64 K.minor, .slice qe lk je, .slice a l.length cap] 27)) w.heap.size 27 #[.int .i64 K.major, .int .i64 K.minor, .slice qe lk je, .slice a l.length cap]) := CellsAt.new _ _ _
  go_wp2_with fail
  refine (compactBegun_any _).mono ?_
  generalize (w.alloc (.cells #[.int .i64 K.major, .int .i64 K.minor, .slice qe lk je, .slice a l.length cap] 27)) = w1 at *
  rintro e w2 ⟨rfl, b2⟩
  have HB3 : Hid (Below w.heap.size w w2) := HB1.out.trans (b2.mono HB1.out.size)
  have HC3_g1 : Hid (CellsAt w2 w.heap.size 27 #[.int .i64 K.major, .int .i64 K.minor, .slice qe lk je, .slice a l.length cap]) := HC2_g1.out.below b2 HC2_g1.out.lt
  have HR3_g1 : Hid (IsReg w2.heap.size w2 (.agg #[.int .i64 K.major, .int .i64 K.minor, .slice qe lk je, .slice a l.length cap]) K l) := (HR1_g1.out.below b2).more b2.size
  clear HB1 HC2_g1 HR1_g1
  clear b2
  go_wp2_with fail
  refine (registryBegun_any _).mono ?_
  rintro e w3 ⟨rfl, b3⟩
  have HB4 : Hid (Below w.heap.size w w3) := HB3.out.trans (b3.mono HB3.out.size)
  have HC4_g1 : Hid (CellsAt w3 w.heap.size 27 #[.int .i64 K.major, .int .i64 K.minor, .slice qe lk je, .slice a l.length cap]) := HC3_g1.out.below b3 HC3_g1.out.lt
  have HR4_g1 : Hid (IsReg w3.heap.size w3 (.agg #[.int .i64 K.major, .int .i64 K.minor, .slice qe lk je, .slice a l.length cap]) K l) := (HR3_g1.out.below b3).more b3.size
  clear HB3 HC3_g1 HR3_g1
  clear b3
  go_wp2_with fail
  refine (regionBegun_any _).mono ?_
  rintro e w4 ⟨rfl, b4⟩
  have HB5 : Hid (Below w.heap.size w w4) := HB4.out.trans (b4.mono HB4.out.size)
  have HC5_g1 : Hid (CellsAt w4 w.heap.size 27 #[.int .i64 K.major, .int .i64 K.minor, .slice qe lk je, .slice a l.length cap]) := HC4_g1.out.below b4 HC4_g1.out.lt
  have HR5_g1 : Hid (IsReg w4.heap.size w4 (.agg #[.int .i64 K.major, .int .i64 K.minor, .slice qe lk je, .slice a l.length cap]) K l) := (HR4_g1.out.below b4).more b4.size
  clear HB4 HC4_g1 HR4_g1
  clear b4
  have rg10 := CellsAt.cell HC5_g1.out 0
  have rg11 := CellsAt.cell HC5_g1.out 1
  have rg12 := CellsAt.cell HC5_g1.out 2
  have rg13 := CellsAt.cell HC5_g1.out 3
  have rg1l := CellsAt.lt HC5_g1.out
  simp at rg10 rg11 rg12 rg13
  go_wp2_with fail
  clear rg10 rg11 rg12 rg13 rg1l
  refine (HPK.out _ HB5.out).mono ?_
  rintro e w5 ⟨⟨vg3, lg3, rfl, hpg3, hfg3, hig3⟩, bg3⟩
  have HB6 : Hid (Below w.heap.size w w5) := HB5.out.trans (bg3.mono HB5.out.size)
  have HC6_g1 : Hid (CellsAt w5 w.heap.size 27 #[.int .i64 K.major, .int .i64 K.minor, .slice qe lk je, .slice a l.length cap]) := HC5_g1.out.below bg3 HC5_g1.out.lt
  have HR6_g1 : Hid (IsReg w5.heap.size w5 (.agg #[.int .i64 K.major, .int .i64 K.minor, .slice qe lk je, .slice a l.length cap]) K l) := (HR5_g1.out.below bg3).more bg3.size
  clear HB5 HC5_g1 HR5_g1
  obtain ⟨qg3, jg3, ag3, cg3, rfl⟩ := hig3.shape0
  rw [HLK.out] at hig3 ⊢
  have HR7_g3 : Hid (IsReg w5.heap.size w5 (.agg #[.int .i64 K.major, .int .i64 K.minor, .slice qg3 lk jg3, .slice ag3 lg3.length cg3]) K lg3) := hig3
  have HPg3 : Hid (lg3.map PV.plc = PL) := hpg3
  have HFg3 : Hid (∀ x ∈ lg3, x.mod.fits) := hfg3
  clear bg3 hig3 hpg3 hfg3
  clear HPK
  have ba : Below w5.heap.size w5 (w5.alloc (.cells #[.int .i64 K.major, .int .i64 K.minor, .slice qg3 lk jg3, .slice ag3 lg3.length cg3] 27)) := (Below.refl _ _).alloc (Nat.le_refl _) _
  have og_g1_g3 : w.heap.size < w5.heap.size := CellsAt.lt HC6_g1.out
  have HB8 : Hid (Below w.heap.size w (w5.alloc (.cells #[.int .i64 K.major, .int .i64 K.minor, .slice qg3 lk jg3, .slice ag3 lg3.length cg3] 27))) := HB6.out.trans (ba.mono HB6.out.size)
  have HC8_g1 : Hid (CellsAt (w5.alloc (.cells #[.int .i64 K.major, .int .i64 K.minor, .slice qg3 lk jg3, .slice ag3 lg3.length cg3] 27)) w.heap.size 27 #[.int .i64 K.major, .int .i64 K.minor, .slice qe lk je, .slice a l.length cap]) := HC6_g1.out.below ba HC6_g1.out.lt
  have HR8_g1 : Hid (IsReg (w5.alloc (.cells #[.int .i64 K.major, .int .i64 K.minor, .slice qg3 lk jg3, .slice ag3 lg3.length cg3] 27)).heap.size (w5.alloc (.cells #[.int .i64 K.major, .int .i64 K.minor, .slice qg3 lk jg3, .slice ag3 lg3.length cg3] 27)) (.agg #[.int .i64 K.major, .int .i64 K.minor, .slice qe lk je, .slice a l.length cap]) K l) := (HR6_g1.out.below ba).more ba.size
  have HR8_g3 : Hid (IsReg (w5.alloc (.cells #[.int .i64 K.major, .int .i64 K.minor, .slice qg3 lk jg3, .slice ag3 lg3.length cg3] 27)).heap.size (w5.alloc (.cells #[.int .i64 K.major, .int .i64 K.minor, .slice qg3 lk jg3, .slice ag3 lg3.length cg3] 27)) (.agg #[.int .i64 K.major, .int .i64 K.minor, .slice qg3 lk jg3, .slice ag3 lg3.length cg3]) K lg3) := (HR7_g3.out.below ba).more ba.size
  clear HB6 HC6_g1 HR6_g1 HR7_g3
  clear ba
  have HC9_g3 : Hid (CellsAt (w5.alloc (.cells #[.int .i64 K.major, .int .i64 K.minor, .slice qg3 lk jg3, .slice ag3 lg3.length cg3] 27)) w5.heap.size 27 #[.int .i64 K.major, .int .i64 K.minor, .slice qg3 lk jg3, .slice ag3 lg3.length cg3]) := CellsAt.new _ _ _
  go_upto_region 4 with fail
  generalize (w5.alloc (.cells #[.int .i64 K.major, .int .i64 K.minor, .slice qg3 lk jg3, .slice ag3 lg3.length cg3] 27)) = w6 at *
  generalize w5.heap.size = g3 at *
  have rg10 := CellsAt.cell HC8_g1.out 0
  have rg11 := CellsAt.cell HC8_g1.out 1
  have rg12 := CellsAt.cell HC8_g1.out 2
  have rg13 := CellsAt.cell HC8_g1.out 3
  have rg1l := CellsAt.lt HC8_g1.out
  simp at rg10 rg11 rg12 rg13
  have hnk : ¬ ((l.length : Int) < (nn : Int)) := by omega
  go_wp2_with fail
  clear rg10 rg11 rg12 rg13 rg1l
  go_loopg [6] nn (fun gk s6 wr => ∃ (l1 : List PV) (n : Nat) (q : Option Addr) (j : Nat) (b : Option Addr) (c : Nat), s6 = .int .i64 n ∧ Hid (gk = nn - n) ∧ n ≤ nn ∧ Hid (offFrom 0 (l1.map PV.plc) = nn - n) ∧ Hid (packFrom 0 (l1.map PV.plc) = PL) ∧ Hid (chkRg K (l1.map PV.plc) = 0) ∧ Hid (∀ x ∈ l1, x.mod.fits) ∧ Hid (CellsAt wr w.heap.size 27 #[.int .i64 K.major, .int .i64 K.minor, .slice q lk j, .slice b l1.length c]) ∧ Hid (IsReg wr.heap.size wr (.agg #[.int .i64 K.major, .int .i64 K.minor, .slice q lk j, .slice b l1.length c]) K l1) ∧ Hid (CellsAt wr g3 27 #[.int .i64 K.major, .int .i64 K.minor, .slice qg3 lk jg3, .slice ag3 lg3.length cg3]) ∧ Hid (IsReg wr.heap.size wr (.agg #[.int .i64 K.major, .int .i64 K.minor, .slice qg3 lk jg3, .slice ag3 lg3.length cg3]) K lg3) ∧ Hid (Below w.heap.size w wr))
  case atStart => exact ⟨l, 0, qe, je, a, cap, rfl, (rfl : _ = _), Nat.zero_le _, HNN, HPL, H0, HF0, HC8_g1, HR8_g1, HC9_g3, HR8_g3, HB8⟩
  case round =>
    obtain ⟨l1, n, q, j, b, c, rfl, HGK, hn, HOF, HPK, HCK, HF1, HC_g1, HR_g1, HC_g3, HR_g3, HB_0⟩ := hrel
    clear HC8_g1 HR8_g1 HC9_g3 HR8_g3 HB8 HNN HPL H0 HF0 hnk
    by_cases hlt : n < nn
    · obtain ⟨L', hs⟩ : ∃ L', stepFrom 0 (l1.map PV.plc) = some L' := off_step (by rw [HOF.out]; omega)
      have hsr : stepRes (l1.map PV.plc) = (L', true) := by unfold stepRes; rw [hs]
      obtain ⟨n1, n2, n3⟩ := step_some hs
      have HSS : Hid (stepFrom 0 (l1.map PV.plc) = some L') := hs
      have HOK : Hid (okPl 0 (l1.map PV.plc)) := (chkReg_zero.1 (rg_lens HCK.out).2.2.2).2.2
      have HC2 : Hid (chkRg K L' = 0) := step_right HCK.out hs
      have HP2 : Hid (packFrom 0 L' = PL) := n1.trans HPK.out
      have HO2 : Hid (offFrom 0 (l1.map PV.plc) = offFrom 0 L' + 1) := n2
      have hl2 : L'.length = l1.length := by simpa using congrArg List.length n3
      have HL2 : Hid (L'.length = l1.length) := hl2
      clear hl2
      have hl1 : l1.length ≤ 255 := (rg_lens HCK.out).2.1
      have rg10 := CellsAt.cell HC_g1.out 0
      have rg11 := CellsAt.cell HC_g1.out 1
      have rg12 := CellsAt.cell HC_g1.out 2
      have rg13 := CellsAt.cell HC_g1.out 3
      have rg1l := CellsAt.lt HC_g1.out
      simp at rg10 rg11 rg12 rg13
      have hnl2 : ((n : Int) < (nn : Int)) := by omega
      clear hs n1 n2 n3
      go_wp2_with fail
      clear rg10 rg11 rg12 rg13 rg1l
      refine (HST.out l1 _ _ HF1.out HCK.out HR_g1.out).mono ?_
      rw [hsr]
      rintro e w7 ⟨⟨vg7, lg7, rfl, hpg7, hfg7, hig7⟩, bg7⟩
      dsimp only at hpg7
      clear hsr
      have HB10 : Hid (Below w.heap.size w w7) := HB_0.out.trans (bg7.mono HB_0.out.size)
      have HC10_g1 : Hid (CellsAt w7 w.heap.size 27 #[.int .i64 K.major, .int .i64 K.minor, .slice q lk j, .slice b l1.length c]) := HC_g1.out.below bg7 HC_g1.out.lt
      have HC10_g3 : Hid (CellsAt w7 g3 27 #[.int .i64 K.major, .int .i64 K.minor, .slice qg3 lk jg3, .slice ag3 lg3.length cg3]) := HC_g3.out.below bg7 HC_g3.out.lt
      have HR10_g1 : Hid (IsReg w7.heap.size w7 (.agg #[.int .i64 K.major, .int .i64 K.minor, .slice q lk j, .slice b l1.length c]) K l1) := (HR_g1.out.below bg7).more bg7.size
      have HR10_g3 : Hid (IsReg w7.heap.size w7 (.agg #[.int .i64 K.major, .int .i64 K.minor, .slice qg3 lk jg3, .slice ag3 lg3.length cg3]) K lg3) := (HR_g3.out.below bg7).more bg7.size
      clear HB_0 HC_g1 HC_g3 HR_g1 HR_g3
      obtain ⟨qg7, jg7, ag7, cg7, rfl⟩ := hig7.shape0
      have hln7 : lg7.length = l1.length := by rw [← HL2.out, ← hpg7]; simp
      rw [HLK.out, hln7] at hig7 ⊢
      have HR9_g7 : Hid (IsReg w7.heap.size w7 (.agg #[.int .i64 K.major, .int .i64 K.minor, .slice qg7 lk jg7, .slice ag7 l1.length cg7]) K lg7) := hig7
      have HP7 : Hid (lg7.map PV.plc = L') := hpg7
      have HF7 : Hid (∀ x ∈ lg7, x.mod.fits) := hfg7
      have HLN7 : Hid (lg7.length = l1.length) := hln7
      clear bg7 hig7 hpg7 hfg7 hln7
      have ba : Below w7.heap.size w7 (w7.alloc (.cells #[.int .i64 K.major, .int .i64 K.minor, .slice qg7 lk jg7, .slice ag7 l1.length cg7] 27)) := (Below.refl _ _).alloc (Nat.le_refl _) _
      have og_g1_g7 : w.heap.size < w7.heap.size := CellsAt.lt HC10_g1.out
      have og_g3_g7 : g3 < w7.heap.size := CellsAt.lt HC10_g3.out
      have HB11 : Hid (Below w.heap.size w (w7.alloc (.cells #[.int .i64 K.major, .int .i64 K.minor, .slice qg7 lk jg7, .slice ag7 l1.length cg7] 27))) := HB10.out.trans (ba.mono HB10.out.size)
      have HC11_g1 : Hid (CellsAt (w7.alloc (.cells #[.int .i64 K.major, .int .i64 K.minor, .slice qg7 lk jg7, .slice ag7 l1.length cg7] 27)) w.heap.size 27 #[.int .i64 K.major, .int .i64 K.minor, .slice q lk j, .slice b l1.length c]) := HC10_g1.out.below ba HC10_g1.out.lt
      have HC11_g3 : Hid (CellsAt (w7.alloc (.cells #[.int .i64 K.major, .int .i64 K.minor, .slice qg7 lk jg7, .slice ag7 l1.length cg7] 27)) g3 27 #[.int .i64 K.major, .int .i64 K.minor, .slice qg3 lk jg3, .slice ag3 lg3.length cg3]) := HC10_g3.out.below ba HC10_g3.out.lt
      have HR11_g1 : Hid (IsReg (w7.alloc (.cells #[.int .i64 K.major, .int .i64 K.minor, .slice qg7 lk jg7, .slice ag7 l1.length cg7] 27)).heap.size (w7.alloc (.cells #[.int .i64 K.major, .int .i64 K.minor, .slice qg7 lk jg7, .slice ag7 l1.length cg7] 27)) (.agg #[.int .i64 K.major, .int .i64 K.minor, .slice q lk j, .slice b l1.length c]) K l1) := (HR10_g1.out.below ba).more ba.size
      have HR11_g3 : Hid (IsReg (w7.alloc (.cells #[.int .i64 K.major, .int .i64 K.minor, .slice qg7 lk jg7, .slice ag7 l1.length cg7] 27)).heap.size (w7.alloc (.cells #[.int .i64 K.major, .int .i64 K.minor, .slice qg7 lk jg7, .slice ag7 l1.length cg7] 27)) (.agg #[.int .i64 K.major, .int .i64 K.minor, .slice qg3 lk jg3, .slice ag3 lg3.length cg3]) K lg3) := (HR10_g3.out.below ba).more ba.size
      have HR11_g7 : Hid (IsReg (w7.alloc (.cells #[.int .i64 K.major, .int .i64 K.minor, .slice qg7 lk jg7, .slice ag7 l1.length cg7] 27)).heap.size (w7.alloc (.cells #[.int .i64 K.major, .int .i64 K.minor, .slice qg7 lk jg7, .slice ag7 l1.length cg7] 27)) (.agg #[.int .i64 K.major, .int .i64 K.minor, .slice qg7 lk jg7, .slice ag7 l1.length cg7]) K lg7) := (HR9_g7.out.below ba).more ba.size
      clear HB10 HC10_g1 HC10_g3 HR10_g1 HR10_g3 HR9_g7
      clear ba
      have HC12_g7 : Hid (CellsAt (w7.alloc (.cells #[.int .i64 K.major, .int .i64 K.minor, .slice qg7 lk jg7, .slice ag7 l1.length cg7] 27)) w7.heap.size 27 #[.int .i64 K.major, .int .i64 K.minor, .slice qg7 lk jg7, .slice ag7 l1.length cg7]) := CellsAt.new _ _ _
      dsimp only
      go_upto_region 12 with fail
      generalize (w7.alloc (.cells #[.int .i64 K.major, .int .i64 K.minor, .slice qg7 lk jg7, .slice ag7 l1.length cg7] 27)) = w8 at *
      generalize w7.heap.size = g7 at *
      have rg70 := CellsAt.cell HC12_g7.out 0
      have rg71 := CellsAt.cell HC12_g7.out 1
      have rg72 := CellsAt.cell HC12_g7.out 2
      have rg73 := CellsAt.cell HC12_g7.out 3
      have rg7l := CellsAt.lt HC12_g7.out
      simp at rg70 rg71 rg72 rg73
      go_wp2_with fail
      clear rg70 rg71 rg72 rg73 rg7l
      refine (HCH.out lg7 _ _ HF7.out (by rw [HP7.out]; exact HC2.out) HR11_g7.out).mono ?_
      rintro e w9 ⟨rfl, b9⟩
      have HB13 : Hid (Below w.heap.size w w9) := HB11.out.trans (b9.mono HB11.out.size)
      have HC13_g1 : Hid (CellsAt w9 w.heap.size 27 #[.int .i64 K.major, .int .i64 K.minor, .slice q lk j, .slice b l1.length c]) := HC11_g1.out.below b9 HC11_g1.out.lt
      have HC13_g3 : Hid (CellsAt w9 g3 27 #[.int .i64 K.major, .int .i64 K.minor, .slice qg3 lk jg3, .slice ag3 lg3.length cg3]) := HC11_g3.out.below b9 HC11_g3.out.lt
      have HC13_g7 : Hid (CellsAt w9 g7 27 #[.int .i64 K.major, .int .i64 K.minor, .slice qg7 lk jg7, .slice ag7 l1.length cg7]) := HC12_g7.out.below b9 HC12_g7.out.lt
      have HR13_g1 : Hid (IsReg w9.heap.size w9 (.agg #[.int .i64 K.major, .int .i64 K.minor, .slice q lk j, .slice b l1.length c]) K l1) := (HR11_g1.out.below b9).more b9.size
      have HR13_g3 : Hid (IsReg w9.heap.size w9 (.agg #[.int .i64 K.major, .int .i64 K.minor, .slice qg3 lk jg3, .slice ag3 lg3.length cg3]) K lg3) := (HR11_g3.out.below b9).more b9.size
      have HR13_g7 : Hid (IsReg w9.heap.size w9 (.agg #[.int .i64 K.major, .int .i64 K.minor, .slice qg7 lk jg7, .slice ag7 l1.length cg7]) K lg7) := (HR11_g7.out.below b9).more b9.size
      clear HB11 HC11_g1 HC11_g3 HC12_g7 HR11_g1 HR11_g3 HR11_g7
      clear b9
      have rg10 := CellsAt.cell HC13_g1.out 0
      have rg11 := CellsAt.cell HC13_g1.out 1
      have rg12 := CellsAt.cell HC13_g1.out 2
      have rg13 := CellsAt.cell HC13_g1.out 3
      have rg1l := CellsAt.lt HC13_g1.out
      simp at rg10 rg11 rg12 rg13
      have rg70 := CellsAt.cell HC13_g7.out 0
      have rg71 := CellsAt.cell HC13_g7.out 1
      have rg72 := CellsAt.cell HC13_g7.out 2
      have rg73 := CellsAt.cell HC13_g7.out 3
      have rg7l := CellsAt.lt HC13_g7.out
      simp at rg70 rg71 rg72 rg73
      go_wp2_with fail
      clear rg10 rg11 rg12 rg13 rg1l
      clear rg70 rg71 rg72 rg73 rg7l
      go_loopg [10] l1.length (fun gk s10 wr => ∃ (k : Nat), s10 = .int .i64 k ∧ Hid (gk = l1.length - k) ∧ k ≤ l1.length ∧ Hid (CellsAt wr w.heap.size 27 #[.int .i64 K.major, .int .i64 K.minor, .slice q lk j, .slice b l1.length c]) ∧ Hid (CellsAt wr g3 27 #[.int .i64 K.major, .int .i64 K.minor, .slice qg3 lk jg3, .slice ag3 lg3.length cg3]) ∧ Hid (CellsAt wr g7 27 #[.int .i64 K.major, .int .i64 K.minor, .slice qg7 lk jg7, .slice ag7 l1.length cg7]) ∧ Hid (IsReg wr.heap.size wr (.agg #[.int .i64 K.major, .int .i64 K.minor, .slice q lk j, .slice b l1.length c]) K l1) ∧ Hid (IsReg wr.heap.size wr (.agg #[.int .i64 K.major, .int .i64 K.minor, .slice qg3 lk jg3, .slice ag3 lg3.length cg3]) K lg3) ∧ Hid (IsReg wr.heap.size wr (.agg #[.int .i64 K.major, .int .i64 K.minor, .slice qg7 lk jg7, .slice ag7 l1.length cg7]) K lg7) ∧ Hid (Below w.heap.size w wr))
      case atStart => exact ⟨0, rfl, (rfl : _ = _), Nat.zero_le _, HC13_g1, HC13_g3, HC13_g7, HR13_g1, HR13_g3, HR13_g7, HB13⟩
      case round =>
        obtain ⟨k, rfl, HGK2, hk, HD_g1, HD_g3, HD_g7, HS_g1, HS_g3, HS_g7, HBk⟩ := hrel
        clear HC13_g1 HC13_g3 HC13_g7 HR13_g1 HR13_g3 HR13_g7 HB13
        by_cases hkl : k < l1.length
        · obtain ⟨x, hx⟩ : ∃ x, l1[k]? = some x := ⟨_, List.getElem?_eq_getElem hkl⟩
          obtain ⟨y, hy⟩ : ∃ y, lg7[k]? = some y := ⟨_, List.getElem?_eq_getElem (by rw [HLN7.out]; exact hkl)⟩
          obtain ⟨hmod, hfst⟩ := step_less_pv HOK.out HSS.out HP7.out hx hy
          have hRx := HS_g1.out
          have hRy := HS_g7.out
          obtain ⟨_, _, ex, _, ⟨⟨_, _, e8, _, hrx⟩, hax⟩⟩ := hRx
          obtain ⟨_, _, ey, _, ⟨⟨_, _, e9, _, hry⟩, hay⟩⟩ := hRy
          injection ex with ex; simp at ex; obtain ⟨-, rfl⟩ := ex; replace e8 := congrArg (fun v => match v with | .slice z _ _ => z | _ => none) e8; dsimp only at e8; subst e8
          injection ey with ey; simp at ey; obtain ⟨-, rfl⟩ := ey; replace e9 := congrArg (fun v => match v with | .slice z _ _ => z | _ => none) e9; dsimp only at e9; subst e9
          rcases hrx with h | ⟨bx, ox, rfl, hbx, hcx⟩
          · subst h; simp at hkl
          rcases hry with h | ⟨by', oy, rfl, hby, hcy⟩
          · subst h; simp at hy
          have px := hax x (List.mem_of_getElem? hx)
          have py := hay y (List.mem_of_getElem? hy)
          have HS : Hid (∀ d os, Calls Tryz.prog 28 #[y.modV, x.modV] (grow (redrawn wr d) os) fun e w' => e = .returned (.bool true) ∧ Below (grow (redrawn wr d) os).heap.size (grow (redrawn wr d) os) w') := fun d os => by
            have hb := below_regrown wr d os
            have q1 := ((py.below hb).more hb.size).isMod
            have q2 := ((px.below hb).more hb.size).isMod
            rw [hmod] at q1
            exact sameModule_yes x.mod _ _ _ q1 q2
          have c0 := hcx k x hx 0 (by omega)
          have c1 := hcx k x hx 1 (by omega)
          have c2 := hcx k x hx 2 (by omega)
          have c3 := hcx k x hx 3 (by omega)
          have c4 := hcx k x hx 4 (by omega)
          have c5 := hcx k x hx 5 (by omega)
          have c6 := hcx k x hx 6 (by omega)
          have c7 := hcx k x hx 7 (by omega)
          have d0 := hcy k y hy 0 (by omega)
          have d1 := hcy k y hy 1 (by omega)
          have d2 := hcy k y hy 2 (by omega)
          have d3 := hcy k y hy 3 (by omega)
          have d4 := hcy k y hy 4 (by omega)
          have d5 := hcy k y hy 5 (by omega)
          have d6 := hcy k y hy 6 (by omega)
          have d7 := hcy k y hy 7 (by omega)
          obtain ⟨⟨pe, ke, e4, _⟩, ⟨pi, ki, e5, _⟩, ⟨pp, kp, e6, _⟩⟩ := px
          obtain ⟨⟨pe', ke', e4', _⟩, ⟨pi', ki', e5', _⟩, ⟨pp', kp', e6', _⟩⟩ := py
          have hgt : ¬ (x.first < y.first) := by omega
          obtain ⟨⟨N, xa, xi, T, es, is, ps⟩, ve, vi, vp, fi⟩ := x
          obtain ⟨⟨N', xa', xi', T', es', is', ps'⟩, ve', vi', vp', fi'⟩ := y
          dsimp only at e4 e5 e6 e4' e5' e6' hgt
          subst e4 e5 e6 e4' e5' e6'
          dsimp only [PV.cell] at c0 c1 c2 c3 c4 c5 c6 c7 d0 d1 d2 d3 d4 d5 d6 d7
          dsimp only [PV.modV] at HS
          rw [Nat.add_zero] at c0 d0
          clear hcx hcy hx hy hax hay hmod hfst
          generalize es.length = le at *
          generalize is.length = li at *
          generalize ps.length = lp at *
          generalize es'.length = le' at *
          generalize is'.length = li' at *
          generalize ps'.length = lp' at *
          have rg10 := CellsAt.cell HD_g1.out 0
          have rg11 := CellsAt.cell HD_g1.out 1
          have rg12 := CellsAt.cell HD_g1.out 2
          have rg13 := CellsAt.cell HD_g1.out 3
          have rg1l := CellsAt.lt HD_g1.out
          simp at rg10 rg11 rg12 rg13
          have rg70 := CellsAt.cell HD_g7.out 0
          have rg71 := CellsAt.cell HD_g7.out 1
          have rg72 := CellsAt.cell HD_g7.out 2
          have rg73 := CellsAt.cell HD_g7.out 3
          have rg7l := CellsAt.lt HD_g7.out
          simp at rg70 rg71 rg72 rg73
          have t0 := cell_regrown c0
          have t1 := cell_regrown c1
          have t2 := cell_regrown c2
          have t3 := cell_regrown c3
          have t4 := cell_regrown c4
          have t5 := cell_regrown c5
          have t6 := cell_regrown c6
          have t7 := cell_regrown c7
          have s0 := cell_regrown d0
          have s1 := cell_regrown d1
          have s2 := cell_regrown d2
          have s3 := cell_regrown d3
          have s4 := cell_regrown d4
          have s5 := cell_regrown d5
          have s6 := cell_regrown d6
          have s7 := cell_regrown d7
          have xg10 := cell_regrown rg10
          have xg11 := cell_regrown rg11
          have xg12 := cell_regrown rg12
          have xg13 := cell_regrown rg13
          have xg70 := cell_regrown rg70
          have xg71 := cell_regrown rg71
          have xg72 := cell_regrown rg72
          have xg73 := cell_regrown rg73
          clear c0 c1 c2 c3 c4 c5 c6 c7 d0 d1 d2 d3 d4 d5 d6 d7
          have hgd : decide (fi < fi') = false := by simp; omega
          have hkl' : (k : Int) < (l1.length : Int) := by omega
          go_wp2_with fail
          clear rg10 rg11 rg12 rg13 rg1l
          clear rg70 rg71 rg72 rg73 rg7l
          refine wp_region_quiet_below (by kernel_rfl) (by kernel_rfl) ?_
          repeat (quiet_step ((go_at_call 28; go_must (exact Calls.regrown_of (HS.out _ _)))))
          refine wpQuiet_nil ?_
          intro wz hw'
          obtain ⟨⟨dq, osq⟩, hw''⟩ := hw'
          have B5 := below_regrown wr dq osq
          rw [← hw''] at B5
          clear hw'' t0 t1 t2 t3 t4 t5 t6 t7 s0 s1 s2 s3 s4 s5 s6 s7 HS xg10 xg11 xg12 xg13 xg70 xg71 xg72 xg73
          have HB14 : Hid (Below w.heap.size w wz) := HBk.out.trans (B5.mono HBk.out.size)
          have HC14_g1 : Hid (CellsAt wz w.heap.size 27 #[.int .i64 K.major, .int .i64 K.minor, .slice q lk j, .slice (some ⟨bx, ox, none⟩) l1.length c]) := HD_g1.out.below B5 HD_g1.out.lt
          have HC14_g3 : Hid (CellsAt wz g3 27 #[.int .i64 K.major, .int .i64 K.minor, .slice qg3 lk jg3, .slice ag3 lg3.length cg3]) := HD_g3.out.below B5 HD_g3.out.lt
          have HC14_g7 : Hid (CellsAt wz g7 27 #[.int .i64 K.major, .int .i64 K.minor, .slice qg7 lk jg7, .slice (some ⟨by', oy, none⟩) l1.length cg7]) := HD_g7.out.below B5 HD_g7.out.lt
          have HR14_g1 : Hid (IsReg wz.heap.size wz (.agg #[.int .i64 K.major, .int .i64 K.minor, .slice q lk j, .slice (some ⟨bx, ox, none⟩) l1.length c]) K l1) := (HS_g1.out.below B5).more B5.size
          have HR14_g3 : Hid (IsReg wz.heap.size wz (.agg #[.int .i64 K.major, .int .i64 K.minor, .slice qg3 lk jg3, .slice ag3 lg3.length cg3]) K lg3) := (HS_g3.out.below B5).more B5.size
          have HR14_g7 : Hid (IsReg wz.heap.size wz (.agg #[.int .i64 K.major, .int .i64 K.minor, .slice qg7 lk jg7, .slice (some ⟨by', oy, none⟩) l1.length cg7]) K lg7) := (HS_g7.out.below B5).more B5.size
          clear HBk HD_g1 HD_g3 HD_g7 HS_g1 HS_g3 HS_g7
          clear B5
          go_wp2_with fail
          go_roundg (l1.length - (k + 1))
          case measure =>
            have := HGK2.out
            omega
          case rel => exact ⟨k + 1, by go_num, (rfl : _ = _), by omega, HC14_g1, HC14_g3, HC14_g7, HR14_g1, HR14_g3, HR14_g7, HB14⟩
        · have rg70 := CellsAt.cell HD_g7.out 0
          have rg71 := CellsAt.cell HD_g7.out 1
          have rg72 := CellsAt.cell HD_g7.out 2
          have rg73 := CellsAt.cell HD_g7.out 3
          have rg7l := CellsAt.lt HD_g7.out
          simp at rg70 rg71 rg72 rg73
          have rg10 := CellsAt.cell HD_g1.out 0
          have rg11 := CellsAt.cell HD_g1.out 1
          have rg12 := CellsAt.cell HD_g1.out 2
          have rg13 := CellsAt.cell HD_g1.out 3
          have fg10 := CellsAt.frozen HD_g1.out 0
          have fg11 := CellsAt.frozen HD_g1.out 1
          have fg12 := CellsAt.frozen HD_g1.out 2
          have fg13 := CellsAt.frozen HD_g1.out 3
          have rg1l := CellsAt.lt HD_g1.out
          simp at rg10 rg11 rg12 rg13
          go_wp2_with fail
          clear rg70 rg71 rg72 rg73 rg7l
          clear rg10 rg11 rg12 rg13 rg1l fg10 fg11 fg12 fg13
          have hG := sets4_grown wr w.heap.size (.int .i64 K.major) (.int .i64 K.minor) (.slice qg7 lk jg7) (.slice ag7 l1.length cg7)
          have KB : Hid (Below w.heap.size w ((((wr.setCell ⟨w.heap.size, 0, none⟩ (.int .i64 K.major)).setCell ⟨w.heap.size, 1, none⟩ (.int .i64 K.minor)).setCell ⟨w.heap.size, 2, none⟩ (.slice qg7 lk jg7)).setCell ⟨w.heap.size, 3, none⟩ (.slice ag7 l1.length cg7))) := HBk.out.grown hG HBk.out.size (fun q hq => by obtain rfl := Option.some.inj hq; omega)
          have KS3 : Hid (IsReg ((((wr.setCell ⟨w.heap.size, 0, none⟩ (.int .i64 K.major)).setCell ⟨w.heap.size, 1, none⟩ (.int .i64 K.minor)).setCell ⟨w.heap.size, 2, none⟩ (.slice qg7 lk jg7)).setCell ⟨w.heap.size, 3, none⟩ (.slice ag7 l1.length cg7)).heap.size ((((wr.setCell ⟨w.heap.size, 0, none⟩ (.int .i64 K.major)).setCell ⟨w.heap.size, 1, none⟩ (.int .i64 K.minor)).setCell ⟨w.heap.size, 2, none⟩ (.slice qg7 lk jg7)).setCell ⟨w.heap.size, 3, none⟩ (.slice ag7 l1.length cg7)) (.agg #[.int .i64 K.major, .int .i64 K.minor, .slice qg3 lk jg3, .slice ag3 lg3.length cg3]) K lg3) := (HS_g3.out.apart4 hG (Nat.le_refl _) HD_g1.out).more hG.size
          have KS7 : Hid (IsReg ((((wr.setCell ⟨w.heap.size, 0, none⟩ (.int .i64 K.major)).setCell ⟨w.heap.size, 1, none⟩ (.int .i64 K.minor)).setCell ⟨w.heap.size, 2, none⟩ (.slice qg7 lk jg7)).setCell ⟨w.heap.size, 3, none⟩ (.slice ag7 l1.length cg7)).heap.size ((((wr.setCell ⟨w.heap.size, 0, none⟩ (.int .i64 K.major)).setCell ⟨w.heap.size, 1, none⟩ (.int .i64 K.minor)).setCell ⟨w.heap.size, 2, none⟩ (.slice qg7 lk jg7)).setCell ⟨w.heap.size, 3, none⟩ (.slice ag7 l1.length cg7)) (.agg #[.int .i64 K.major, .int .i64 K.minor, .slice qg7 lk jg7, .slice ag7 lg7.length cg7]) K lg7) := by
            rw [HLN7.out]
            exact (HS_g7.out.apart4 hG (Nat.le_refl _) HD_g1.out).more hG.size
          have KC1 : Hid (CellsAt ((((wr.setCell ⟨w.heap.size, 0, none⟩ (.int .i64 K.major)).setCell ⟨w.heap.size, 1, none⟩ (.int .i64 K.minor)).setCell ⟨w.heap.size, 2, none⟩ (.slice qg7 lk jg7)).setCell ⟨w.heap.size, 3, none⟩ (.slice ag7 l1.length cg7)) w.heap.size 27 #[.int .i64 K.major, .int .i64 K.minor, .slice qg7 lk jg7, .slice ag7 lg7.length cg7]) := by
            rw [HLN7.out]
            exact sets4 HD_g1.out _ _ _ _
          have KC3 : Hid (CellsAt ((((wr.setCell ⟨w.heap.size, 0, none⟩ (.int .i64 K.major)).setCell ⟨w.heap.size, 1, none⟩ (.int .i64 K.minor)).setCell ⟨w.heap.size, 2, none⟩ (.slice qg7 lk jg7)).setCell ⟨w.heap.size, 3, none⟩ (.slice ag7 l1.length cg7)) g3 27 #[.int .i64 K.major, .int .i64 K.minor, .slice qg3 lk jg3, .slice ag3 lg3.length cg3]) := HD_g3.out.kept hG (by intro e; have := Option.some.inj e; omega)
          clear hG
          go_roundg (nn - (n + 1))
          case measure =>
            have := HGK.out
            omega
          case rel => exact ⟨lg7, n + 1, qg7, jg7, ag7, cg7, by go_num, (rfl : _ = _), by omega, (by have h1 := HOF.out; have h2 := HO2.out; show offFrom _ _ = _; rw [HP7.out]; omega), (by show packFrom _ _ = _; rw [HP7.out]; exact HP2.out), (by show chkRg _ _ = _; rw [HP7.out]; exact HC2.out), HF7, KC1, KS7, KC3, KS3, KB⟩
    · have ho : offFrom 0 (l1.map PV.plc) = 0 := by have := HOF.out; omega
      have hs : stepFrom 0 (l1.map PV.plc) = none := by
        cases hs : stepFrom 0 (l1.map PV.plc) with
        | none => rfl
        | some L' => have := (step_some hs).2.1; omega
      have hsr : stepRes (l1.map PV.plc) = (l1.map PV.plc, false) := by unfold stepRes; rw [hs]
      have hpk := (step_none hs).1
      have hll3 : lg3.map PV.plc = l1.map PV.plc := HPg3.out.trans (HPK.out.symm.trans hpk)
      have HLL : Hid (l1.map PV.plc = lg3.map PV.plc) := hll3.symm
      have h0 : chkReg (l1.map PV.plc) = 0 := (rg_lens HCK.out).2.2.2
      have HRN : Hid (freeRes (l1.map PV.plc) = [] ∨ ∃ a, freeRes (l1.map PV.plc) = [(a, 16 - a)]) := by unfold freeRes; rw [if_pos h0]; exact runs_packed _ _ hs
      have HFR : Hid (∀ W, IsReg W.heap.size W (.agg #[.int .i64 K.major, .int .i64 K.minor, .slice qg3 lk jg3, .slice ag3 lg3.length cg3]) K lg3 → Calls Tryz.prog 29 #[.slice ag3 lg3.length cg3] W fun e w' => (∃ r, e = .returned (.tuple #[r, .int .i64 0]) ∧ RowOf 2 runCell w'.heap.size w' r (freeRes (l1.map PV.plc))) ∧ Below W.heap.size W w') := fun W hr => by
        obtain ⟨_, _, ex, _, hpp⟩ := hr
        injection ex with ex; simp at ex; obtain ⟨-, rfl⟩ := ex
        have := free_any lg3 _ W hpp HFg3.out
        rw [hll3, h0] at this
        exact this
      have hnl3 : ¬ ((n : Int) < (nn : Int)) := by omega
      clear ho hs hpk hll3 h0
      have rg10 := CellsAt.cell HC_g1.out 0
      have rg11 := CellsAt.cell HC_g1.out 1
      have rg12 := CellsAt.cell HC_g1.out 2
      have rg13 := CellsAt.cell HC_g1.out 3
      have rg1l := CellsAt.lt HC_g1.out
      simp at rg10 rg11 rg12 rg13
      go_wp2_with fail
      clear rg10 rg11 rg12 rg13 rg1l
      refine (HST.out l1 _ _ HF1.out HCK.out HR_g1.out).mono ?_
      rw [hsr]
      rintro e w7 ⟨⟨vg11, lg11, rfl, hpg11, hfg11, hig11⟩, b11⟩
      clear hsr hpg11 hfg11
      have HB15 : Hid (Below w.heap.size w w7) := HB_0.out.trans (b11.mono HB_0.out.size)
      have HC15_g1 : Hid (CellsAt w7 w.heap.size 27 #[.int .i64 K.major, .int .i64 K.minor, .slice q lk j, .slice b l1.length c]) := HC_g1.out.below b11 HC_g1.out.lt
      have HC15_g3 : Hid (CellsAt w7 g3 27 #[.int .i64 K.major, .int .i64 K.minor, .slice qg3 lk jg3, .slice ag3 lg3.length cg3]) := HC_g3.out.below b11 HC_g3.out.lt
      have HR15_g1 : Hid (IsReg w7.heap.size w7 (.agg #[.int .i64 K.major, .int .i64 K.minor, .slice q lk j, .slice b l1.length c]) K l1) := (HR_g1.out.below b11).more b11.size
      have HR15_g3 : Hid (IsReg w7.heap.size w7 (.agg #[.int .i64 K.major, .int .i64 K.minor, .slice qg3 lk jg3, .slice ag3 lg3.length cg3]) K lg3) := (HR_g3.out.below b11).more b11.size
      clear HB_0 HC_g1 HC_g3 HR_g1 HR_g3
      obtain ⟨q11, j11, a11, c11, rfl⟩ := hig11.shape0
      clear hig11 b11
      rw [HLK.out]
      have ba : Below w7.heap.size w7 (w7.alloc (.cells #[.int .i64 K.major, .int .i64 K.minor, .slice q11 lk j11, .slice a11 lg11.length c11] 27)) := (Below.refl _ _).alloc (Nat.le_refl _) _
      have og_g1_g11 : w.heap.size < w7.heap.size := CellsAt.lt HC15_g1.out
      have og_g3_g11 : g3 < w7.heap.size := CellsAt.lt HC15_g3.out
      have HB16 : Hid (Below w.heap.size w (w7.alloc (.cells #[.int .i64 K.major, .int .i64 K.minor, .slice q11 lk j11, .slice a11 lg11.length c11] 27))) := HB15.out.trans (ba.mono HB15.out.size)
      have HC16_g1 : Hid (CellsAt (w7.alloc (.cells #[.int .i64 K.major, .int .i64 K.minor, .slice q11 lk j11, .slice a11 lg11.length c11] 27)) w.heap.size 27 #[.int .i64 K.major, .int .i64 K.minor, .slice q lk j, .slice b l1.length c]) := HC15_g1.out.below ba HC15_g1.out.lt
      have HC16_g3 : Hid (CellsAt (w7.alloc (.cells #[.int .i64 K.major, .int .i64 K.minor, .slice q11 lk j11, .slice a11 lg11.length c11] 27)) g3 27 #[.int .i64 K.major, .int .i64 K.minor, .slice qg3 lk jg3, .slice ag3 lg3.length cg3]) := HC15_g3.out.below ba HC15_g3.out.lt
      have HR16_g1 : Hid (IsReg (w7.alloc (.cells #[.int .i64 K.major, .int .i64 K.minor, .slice q11 lk j11, .slice a11 lg11.length c11] 27)).heap.size (w7.alloc (.cells #[.int .i64 K.major, .int .i64 K.minor, .slice q11 lk j11, .slice a11 lg11.length c11] 27)) (.agg #[.int .i64 K.major, .int .i64 K.minor, .slice q lk j, .slice b l1.length c]) K l1) := (HR15_g1.out.below ba).more ba.size
      have HR16_g3 : Hid (IsReg (w7.alloc (.cells #[.int .i64 K.major, .int .i64 K.minor, .slice q11 lk j11, .slice a11 lg11.length c11] 27)).heap.size (w7.alloc (.cells #[.int .i64 K.major, .int .i64 K.minor, .slice q11 lk j11, .slice a11 lg11.length c11] 27)) (.agg #[.int .i64 K.major, .int .i64 K.minor, .slice qg3 lk jg3, .slice ag3 lg3.length cg3]) K lg3) := (HR15_g3.out.below ba).more ba.size
      clear HB15 HC15_g1 HC15_g3 HR15_g1 HR15_g3
      clear ba
      have HC17_g11 : Hid (CellsAt (w7.alloc (.cells #[.int .i64 K.major, .int .i64 K.minor, .slice q11 lk j11, .slice a11 lg11.length c11] 27)) w7.heap.size 27 #[.int .i64 K.major, .int .i64 K.minor, .slice q11 lk j11, .slice a11 lg11.length c11]) := CellsAt.new _ _ _
      dsimp only
      go_upto_region 21 with fail
      generalize (w7.alloc (.cells #[.int .i64 K.major, .int .i64 K.minor, .slice q11 lk j11, .slice a11 lg11.length c11] 27)) = w8 at *
      generalize w7.heap.size = g11 at *
      have rg30 := CellsAt.cell HC16_g3.out 0
      have rg31 := CellsAt.cell HC16_g3.out 1
      have rg32 := CellsAt.cell HC16_g3.out 2
      have rg33 := CellsAt.cell HC16_g3.out 3
      have rg3l := CellsAt.lt HC16_g3.out
      simp at rg30 rg31 rg32 rg33
      go_wp2_with fail
      clear rg30 rg31 rg32 rg33 rg3l
      refine (HFR.out _ HR16_g3.out).mono ?_
      rintro e w9 ⟨⟨fr, rfl, hfr⟩, b9⟩
      have HB18 : Hid (Below w.heap.size w w9) := HB16.out.trans (b9.mono HB16.out.size)
      have HC18_g1 : Hid (CellsAt w9 w.heap.size 27 #[.int .i64 K.major, .int .i64 K.minor, .slice q lk j, .slice b l1.length c]) := HC16_g1.out.below b9 HC16_g1.out.lt
      have HC18_g3 : Hid (CellsAt w9 g3 27 #[.int .i64 K.major, .int .i64 K.minor, .slice qg3 lk jg3, .slice ag3 lg3.length cg3]) := HC16_g3.out.below b9 HC16_g3.out.lt
      have HC18_g11 : Hid (CellsAt w9 g11 27 #[.int .i64 K.major, .int .i64 K.minor, .slice q11 lk j11, .slice a11 lg11.length c11]) := HC17_g11.out.below b9 HC17_g11.out.lt
      have HR18_g1 : Hid (IsReg w9.heap.size w9 (.agg #[.int .i64 K.major, .int .i64 K.minor, .slice q lk j, .slice b l1.length c]) K l1) := (HR16_g1.out.below b9).more b9.size
      have HR18_g3 : Hid (IsReg w9.heap.size w9 (.agg #[.int .i64 K.major, .int .i64 K.minor, .slice qg3 lk jg3, .slice ag3 lg3.length cg3]) K lg3) := (HR16_g3.out.below b9).more b9.size
      clear HB16 HC16_g1 HC16_g3 HC17_g11 HR16_g1 HR16_g3
      clear b9 HFR
      have HS : Hid (∀ d os, Calls Tryz.prog 21 #[.agg #[.int .i64 K.major, .int .i64 K.minor, .slice q lk j, .slice b l1.length c], .agg #[.int .i64 K.major, .int .i64 K.minor, .slice qg3 lk jg3, .slice ag3 lg3.length cg3]] (grow (redrawn w9 d) os) fun e w' => e = .returned (.bool true) ∧ Below (grow (redrawn w9 d) os).heap.size (grow (redrawn w9 d) os) w') := fun d os => by
        have hb := below_regrown w9 d os
        exact sameReg_yes K l1 lg3 _ _ _ ((HR18_g1.out.below hb).more hb.size) ((HR18_g3.out.below hb).more hb.size) HLL.out
      have rg10 := CellsAt.cell HC18_g1.out 0
      have rg11 := CellsAt.cell HC18_g1.out 1
      have rg12 := CellsAt.cell HC18_g1.out 2
      have rg13 := CellsAt.cell HC18_g1.out 3
      have rg1l := CellsAt.lt HC18_g1.out
      simp at rg10 rg11 rg12 rg13
      have rg30 := CellsAt.cell HC18_g3.out 0
      have rg31 := CellsAt.cell HC18_g3.out 1
      have rg32 := CellsAt.cell HC18_g3.out 2
      have rg33 := CellsAt.cell HC18_g3.out 3
      have rg3l := CellsAt.lt HC18_g3.out
      simp at rg30 rg31 rg32 rg33
      have xg10 := cell_regrown rg10
      have xg11 := cell_regrown rg11
      have xg12 := cell_regrown rg12
      have xg13 := cell_regrown rg13
      have xg30 := cell_regrown rg30
      have xg31 := cell_regrown rg31
      have xg32 := cell_regrown rg32
      have xg33 := cell_regrown rg33
      clear rg10 rg11 rg12 rg13 rg1l
      clear rg30 rg31 rg32 rg33 rg3l
      have hrn := HRN.out
      rcases hrn with hrn | ⟨fz, hrn⟩
      · rw [hrn] at hfr
        obtain ⟨fa, fc, rfl, _, _⟩ := hfr
        dsimp only [List.length_nil]
        clear hrn HRN
        go_wp2_with fail
        refine wp_region_quiet_below (by kernel_rfl) (by kernel_rfl) ?_
        repeat (go_big_quiet_step ((go_at_call 21; go_must (exact Calls.regrown_of (HS.out _ _)))))
        refine wpQuiet_nil ?_
        intro wz hw'
        obtain ⟨⟨dq, osq⟩, hw''⟩ := hw'
        have B5 := below_regrown w9 dq osq
        rw [← hw''] at B5
        have B6 := HB18.out.trans (B5.mono HB18.out.size)
        clear hw''
        go_wp2
        go_ret
        exact ⟨rfl, B6⟩
      · rw [hrn] at hfr
        obtain ⟨fa, fc, rfl, _, hcc⟩ := hfr
        rcases hcc with h | ⟨bf, of, rfl, _, hcc⟩
        · cases h
        have y0 := cell_regrown (hcc 0 _ rfl 0 (by omega))
        have y1 := cell_regrown (hcc 0 _ rfl 1 (by omega))
        dsimp only [runCell] at y0 y1
        obtain ⟨m, hm⟩ : ∃ m, m = 16 - fz := ⟨_, rfl⟩
        rw [← hm] at y0 y1
        have hw : wrap64 (fz + m) = 16 := by unfold wrap64; omega
        have hw2 : IntKind.i64.wrap (fz + m) = 16 := by rw [IntKind.wrap_i64]; omega
        simp at y0 y1
        clear hcc hm
        dsimp only [List.length_cons, List.length_nil]
        clear hrn HRN
        go_wp2_with fail
        refine wp_region_quiet_below (by kernel_rfl) (by kernel_rfl) ?_
        repeat (go_big_quiet_step ((go_at_call 21; go_must (exact Calls.regrown_of (HS.out _ _)))))
        refine wpQuiet_nil ?_
        intro wz hw'
        obtain ⟨⟨dq, osq⟩, hw''⟩ := hw'
        have B5 := below_regrown w9 dq osq
        rw [← hw''] at B5
        have B6 := HB18.out.trans (B5.mono HB18.out.size)
        clear hw''
        go_wp2
        go_ret
        exact ⟨rfl, B6⟩

theorem walk (K : Ker) (l : List PV) (v : Value) (w : World) (h : IsReg w.heap.size w v K l) (hf : K.fits) (hfit : ∀ x ∈ l, x.mod.fits) :
    Calls Tryz.prog 8 #[v] w fun e w' => e = .returned (.bool true) ∧ Below w.heap.size w w' := by
  by_cases h0 : chkRg K (l.map PV.plc) = 0
  · exact walk0 K l v w h hf hfit h0
  · exact walkE K l v w h hf hfit h0

end Go.Proofs.YthmohjgdcjafkaeGreat.compactSteps

/- Arguments that came in: texts, numbers, rows, a patch. -/
namespace Go.Proofs.YthmohjgdcjafkaeGreat
open Go.ChangeShapes Go.WideShapes Go.ChangeAt Go.RowKit Go.PlainAid Go.Deep

set_option maxRecDepth 100000

theorem list7 {α : Type} {l : List α} (h : l.length = 7) : ∃ a b c d e f g, l = [a, b, c, d, e, f, g] := by
  match l, h with
  | [a, b, c, d, e, f, g], _ => exact ⟨a, b, c, d, e, f, g, rfl⟩
theorem list4 {α : Type} {l : List α} (h : l.length = 4) : ∃ a b c d, l = [a, b, c, d] := by
  match l, h with
  | [a, b, c, d], _ => exact ⟨a, b, c, d, rfl⟩
theorem list2 {α : Type} {l : List α} (h : l.length = 2) : ∃ a b, l = [a, b] := by
  match l, h with
  | [a, b], _ => exact ⟨a, b, rfl⟩

section
variable {H : Type} {enc : TypeId × Value → H} {W : World} {spare : Nat → Bool} {held : Bool}

theorem row_of_trod {α : Type} [Inhabited α] {t e : TypeId} {sz fuel : Nat} {c : Value} {y : DataW H × List MemPlace} {cells : α → Nat → Value} {good : α → Prop} (ht : Tryz.prog.underlying t = some (.slice e)) (hsz : Tryz.prog.cellsOf e = sz) (h0 : 0 < sz)
    (conv : ∀ n cs z, cs.length = sz → DataW.trod enc Tryz.prog W 0 spare held n e cs = some z → ∃ x : α, (∀ i, i < sz → cs[i]? = some (cells x i)) ∧ good x)
    (h : DataW.trod enc Tryz.prog W 0 spare held fuel t [c] = some y) : ∃ l : List α, RowOf sz cells W.heap.size W c l ∧ ∀ x ∈ l, good x := by
  rcases open_slice ht h with ⟨hc, _⟩ | ⟨a, len, cap, m, n, D, Pl, hc, _, hl, hm, hmm, _, hx⟩
  · injection hc with hc
    subst hc
    exact ⟨[], ⟨none, 0, rfl, Nat.zero_le _, .inl rfl⟩, by simp⟩
  · injection hc with hc
    subst hc
    rw [hsz] at hx
    have hle : len ≤ m := by rw [hmm]; split <;> omega
    obtain ⟨X, hX⟩ := choose_lt (α := α) (n := len) (p := fun i x => (∀ j, j < sz → W.cell? (a.add (i * sz + j)) = some (cells x j)) ∧ good x) (fun i hi => by
      obtain ⟨cs', h1, h2⟩ := hx i (by omega)
      obtain ⟨_, hlen, hcell⟩ := World.cells?_some h1
      obtain ⟨x, hx1, hx2⟩ := conv n cs' _ hlen h2
      refine ⟨x, fun j hj => ?_, hx2⟩
      have h3 := hcell j hj
      rw [hx1 j hj] at h3
      have hadd : (a.add (i * sz)).add j = a.add (i * sz + j) ∨ W.cell? ((a.add (i * sz)).add j) = W.cell? (a.add (i * sz + j)) := by
        unfold Addr.add
        by_cases e1 : i * sz = 0
        · rw [if_pos e1, e1, Nat.zero_add]; exact .inl rfl
        · rw [if_neg e1]
          by_cases e2 : j = 0
          · rw [if_pos e2, e2, Nat.add_zero, if_neg e1]; exact .inl rfl
          · rw [if_neg e2, if_neg (by omega), Nat.add_assoc]; exact .inl rfl
      rcases hadd with hadd | hadd
      · rw [← hadd]; exact h3
      · rw [← hadd]; exact h3)
    refine ⟨(List.range len).map X, ⟨some a, cap, by simp, by simp; unfold maxLen at hm; omega, ?_⟩, ?_⟩
    · by_cases hz : len = 0
      · left
        subst hz
        rfl
      · right
        have hc0 := (hX 0 (by omega)).1 0 h0
        rw [Nat.zero_mul, Nat.zero_add] at hc0
        obtain ⟨b, off, spot⟩ := a
        have hsp : spot = none := by simpa [Addr.add] using World.cell?_spot hc0
        subst hsp
        refine ⟨b, off, rfl, ?_, fun j x hj i hi => ?_⟩
        · have := World.block_lt_of_cell? W _ hc0
          simpa [Addr.add] using this
        · have hjl : j < len := by
            have := (List.getElem?_eq_some_iff.1 hj).1
            simpa using this
          obtain rfl : X j = x := by
            rw [List.getElem?_map, List.getElem?_range hjl] at hj
            simpa using hj
          have h4 := (hX j hjl).1 i hi
          unfold Addr.add at h4
          by_cases e0 : j * sz + i = 0
          · rw [if_pos e0] at h4
            rw [Nat.add_assoc, e0]
            exact h4
          · rw [if_neg e0] at h4
            rw [Nat.add_assoc]
            exact h4
    · intro x hx
      obtain ⟨i, hi, rfl⟩ := List.mem_map.1 hx
      exact (hX i (by simpa using hi)).2

theorem str_of_trod {n : Nat} {c : Value} {y : DataW H × List MemPlace} (h : DataW.trod enc Tryz.prog W 0 spare held n 9 [c] = some y) : ∃ s : ByteArray, c = .string s ∧ s.size ≤ 9223372036854775807 := by
  obtain ⟨s, hc, _, hs⟩ := DataW.trod_string Tryz.underlying9 h
  injection hc with hc
  exact ⟨s, hc, hs⟩
theorem int_of_trod {n : Nat} {c : Value} {y : DataW H × List MemPlace} (h : DataW.trod enc Tryz.prog W 0 spare held n 3 [c] = some y) : ∃ k : Int, c = .int .i64 k := by
  obtain ⟨k, hc, _, _⟩ := DataW.trod_int Tryz.underlying3 h
  injection hc with hc
  exact ⟨k, hc⟩

theorem exp_of_trod (n : Nat) (cs : List Value) (z : DataW H × List MemPlace) (hl : cs.length = 2) (h : DataW.trod enc Tryz.prog W 0 spare held n 128 cs = some z) : ∃ x : Exp, (∀ i, i < 2 → cs[i]? = some (Exp.cell x i)) ∧ x.name.size ≤ 9223372036854775807 := by
  obtain ⟨xs, m, _, _, _, hlen, hf⟩ := DataW.trod_struct Tryz.underlying128 h
  obtain ⟨x0, x1, rfl⟩ := list2 hlen
  obtain ⟨c0, c1, rfl⟩ := list2 hl
  obtain ⟨s, rfl, hs⟩ := str_of_trod (hf 0 _ rfl)
  obtain ⟨k, rfl⟩ := int_of_trod (hf 1 _ rfl)
  refine ⟨⟨s, k⟩, fun i hi => ?_, hs⟩
  have : i = 0 ∨ i = 1 := by omega
  rcases this with rfl | rfl <;> rfl
theorem imp_of_trod (n : Nat) (cs : List Value) (z : DataW H × List MemPlace) (hl : cs.length = 4) (h : DataW.trod enc Tryz.prog W 0 spare held n 100 cs = some z) : ∃ x : Imp, (∀ i, i < 4 → cs[i]? = some (Imp.cell x i)) ∧ x.fits := by
  obtain ⟨xs, m, _, _, _, hlen, hf⟩ := DataW.trod_struct Tryz.underlying100 h
  obtain ⟨x0, x1, x2, x3, rfl⟩ := list4 hlen
  obtain ⟨c0, c1, c2, c3, rfl⟩ := list4 hl
  obtain ⟨s, rfl, hs⟩ := str_of_trod (hf 0 _ rfl)
  obtain ⟨t, rfl, ht⟩ := str_of_trod (hf 1 _ rfl)
  obtain ⟨k, rfl⟩ := int_of_trod (hf 2 _ rfl)
  obtain ⟨j, rfl⟩ := int_of_trod (hf 3 _ rfl)
  refine ⟨⟨s, t, k, j⟩, fun i hi => ?_, ⟨hs, ht⟩⟩
  have : i = 0 ∨ i = 1 ∨ i = 2 ∨ i = 3 := by omega
  rcases this with rfl | rfl | rfl | rfl <;> rfl
theorem pat_of_trod (n : Nat) (cs : List Value) (z : DataW H × List MemPlace) (hl : cs.length = 4) (h : DataW.trod enc Tryz.prog W 0 spare held n 102 cs = some z) : ∃ x : Pat, (∀ i, i < 4 → cs[i]? = some (Pat.cell x i)) ∧ True := by
  obtain ⟨xs, m, _, _, _, hlen, hf⟩ := DataW.trod_struct Tryz.underlying102 h
  obtain ⟨x0, x1, x2, x3, rfl⟩ := list4 hlen
  obtain ⟨c0, c1, c2, c3, rfl⟩ := list4 hl
  obtain ⟨a, rfl⟩ := int_of_trod (hf 0 _ rfl)
  obtain ⟨b, rfl⟩ := int_of_trod (hf 1 _ rfl)
  obtain ⟨k, rfl⟩ := int_of_trod (hf 2 _ rfl)
  obtain ⟨j, rfl⟩ := int_of_trod (hf 3 _ rfl)
  refine ⟨⟨a, b, k, j⟩, fun i hi => ?_, trivial⟩
  have : i = 0 ∨ i = 1 ∨ i = 2 ∨ i = 3 := by omega
  rcases this with rfl | rfl | rfl | rfl <;> rfl

theorem open_patch {v : Value} {d : DataW H} {ps : List MemPlace} {base : Nat} (hv : Value.okWide Tryz.prog W .any base 102 v) (h : DataW.Trod enc Tryz.prog W 0 spare held 102 v d ps) : ∃ p : Pat, v = .agg #[.int .i64 p.kind, .int .i64 p.pos, .int .i64 p.sym, .int .i64 p.add] := by
  obtain ⟨cs, rfl, hcs⟩ := okWide_struct Tryz.underlying102 hv
  obtain ⟨fuel, hf⟩ := h
  obtain ⟨xs, m, _, _, hl, hlen, hf⟩ := DataW.trod_struct Tryz.underlying102 hf
  have hc4 : Tryz.prog.cellsOf 102 = 4 := by kernel_rfl
  obtain ⟨x0, x1, x2, x3, rfl⟩ := list4 hlen
  rw [hc4] at hl
  obtain ⟨c0, c1, c2, c3, hcl⟩ := list4 hl
  have hcs' : cs.toList = [c0, c1, c2, c3] := hcl
  have hcA : cs = #[c0, c1, c2, c3] := by rw [← Array.toArray_toList (xs := cs), hcs']
  subst hcA
  have f0 := hf 0 _ rfl
  have f1 := hf 1 _ rfl
  have f2 := hf 2 _ rfl
  have f3 := hf 3 _ rfl
  obtain ⟨a, rfl⟩ := int_of_trod f0
  obtain ⟨b, rfl⟩ := int_of_trod f1
  obtain ⟨c, rfl⟩ := int_of_trod f2
  obtain ⟨e, rfl⟩ := int_of_trod f3
  exact ⟨⟨a, b, c, e⟩, rfl⟩
end

end Go.Proofs.YthmohjgdcjafkaeGreat

/- A module that came in. -/
namespace Go.Proofs.YthmohjgdcjafkaeGreat
open Go.ChangeShapes Go.WideShapes Go.ChangeAt Go.RowKit Go.PlainAid Go.Deep

set_option maxRecDepth 100000

section
variable {H : Type} {enc : TypeId × Value → H} {W : World} {spare : Nat → Bool} {held : Bool}

theorem open_module {v : Value} {d : DataW H} {ps : List MemPlace} {base : Nat} (hv : Value.okWide Tryz.prog W .any base 31 v) (h : DataW.Trod enc Tryz.prog W 0 spare held 31 v d ps) : ∃ M, IsMod W.heap.size W v M ∧ M.fits := by
  obtain ⟨cs, rfl, hcs⟩ := okWide_struct Tryz.underlying31 hv
  obtain ⟨fuel, hf⟩ := h
  obtain ⟨xs, m, _, _, hl, hlen, hf⟩ := DataW.trod_struct Tryz.underlying31 hf
  have hc7 : Tryz.prog.cellsOf 31 = 7 := by kernel_rfl
  obtain ⟨x0, x1, x2, x3, x4, x5, x6, rfl⟩ := list7 hlen
  rw [hc7] at hl
  obtain ⟨c0, c1, c2, c3, c4, c5, c6, hcl⟩ := list7 hl
  have hcs' : cs.toList = [c0, c1, c2, c3, c4, c5, c6] := hcl
  have hcA : cs = #[c0, c1, c2, c3, c4, c5, c6] := by rw [← Array.toArray_toList (xs := cs), hcs']
  subst hcA
  have f0 := hf 0 _ rfl
  have f1 := hf 1 _ rfl
  have f2 := hf 2 _ rfl
  have f3 := hf 3 _ rfl
  have f4 := hf 4 _ rfl
  have f5 := hf 5 _ rfl
  have f6 := hf 6 _ rfl
  obtain ⟨N, rfl, hN⟩ := str_of_trod f0
  obtain ⟨a, rfl⟩ := int_of_trod f1
  obtain ⟨b, rfl⟩ := int_of_trod f2
  obtain ⟨T, rfl, hT⟩ := str_of_trod f3
  have _ : Inhabited Exp := ⟨⟨⟨#[]⟩, 0⟩⟩
  have _ : Inhabited Imp := ⟨⟨⟨#[]⟩, ⟨#[]⟩, 0, 0⟩⟩
  have _ : Inhabited Pat := ⟨⟨0, 0, 0, 0⟩⟩
  obtain ⟨es, hE, gE⟩ := row_of_trod (cells := Exp.cell) Tryz.underlying22 (sz := 2) (by kernel_rfl) (by decide) exp_of_trod f4
  obtain ⟨is, hI, gI⟩ := row_of_trod (cells := Imp.cell) Tryz.underlying28 (sz := 4) (by kernel_rfl) (by decide) imp_of_trod f5
  obtain ⟨ps, hP, _⟩ := row_of_trod (cells := Pat.cell) Tryz.underlying29 (sz := 4) (by kernel_rfl) (by decide) pat_of_trod f6
  exact ⟨⟨N, a, b, T, es, is, ps⟩, ⟨c4, c5, c6, rfl, hE, hI, hP⟩, hN, hT, gE, gI⟩
end

end Go.Proofs.YthmohjgdcjafkaeGreat

/- Placed modules and imports that came in. -/
namespace Go.Proofs.YthmohjgdcjafkaeGreat
open Go.ChangeShapes Go.WideShapes Go.ChangeAt Go.RowKit Go.PlainAid Go.Deep

set_option maxRecDepth 100000

theorem list3 {α : Type} {l : List α} (h : l.length = 3) : ∃ a b c, l = [a, b, c] := by
  match l, h with
  | [a, b, c], _ => exact ⟨a, b, c, rfl⟩
theorem list8 {α : Type} {l : List α} (h : l.length = 8) : ∃ a b c d e f g k, l = [a, b, c, d, e, f, g, k] := by
  match l, h with
  | [a, b, c, d, e, f, g, k], _ => exact ⟨a, b, c, d, e, f, g, k, rfl⟩

section
variable {H : Type} {enc : TypeId × Value → H} {W : World} {spare : Nat → Bool} {held : Bool}

theorem mod_of_trod (n : Nat) (c0 c1 c2 c3 c4 c5 c6 : Value) (z : DataW H × List MemPlace) (h : DataW.trod enc Tryz.prog W 0 spare held n 31 [c0, c1, c2, c3, c4, c5, c6] = some z) :
    ∃ M : Mod, c0 = .string M.name ∧ c1 = .int .i64 M.major ∧ c2 = .int .i64 M.minor ∧ c3 = .string M.text ∧ RowOf 2 Exp.cell W.heap.size W c4 M.exps ∧ RowOf 4 Imp.cell W.heap.size W c5 M.imps ∧ RowOf 4 Pat.cell W.heap.size W c6 M.pats ∧ M.fits := by
  obtain ⟨xs, m, _, _, _, hlen, hf⟩ := DataW.trod_struct Tryz.underlying31 h
  obtain ⟨x0, x1, x2, x3, x4, x5, x6, rfl⟩ := list7 hlen
  have f0 := hf 0 _ rfl
  have f1 := hf 1 _ rfl
  have f2 := hf 2 _ rfl
  have f3 := hf 3 _ rfl
  have f4 := hf 4 _ rfl
  have f5 := hf 5 _ rfl
  have f6 := hf 6 _ rfl
  obtain ⟨N, rfl, hN⟩ := str_of_trod f0
  obtain ⟨a, rfl⟩ := int_of_trod f1
  obtain ⟨b, rfl⟩ := int_of_trod f2
  obtain ⟨T, rfl, hT⟩ := str_of_trod f3
  have _ : Inhabited Exp := ⟨⟨⟨#[]⟩, 0⟩⟩
  have _ : Inhabited Imp := ⟨⟨⟨#[]⟩, ⟨#[]⟩, 0, 0⟩⟩
  have _ : Inhabited Pat := ⟨⟨0, 0, 0, 0⟩⟩
  obtain ⟨es, hE, gE⟩ := row_of_trod (cells := Exp.cell) Tryz.underlying22 (sz := 2) (by kernel_rfl) (by decide) exp_of_trod f4
  obtain ⟨is, hI, gI⟩ := row_of_trod (cells := Imp.cell) Tryz.underlying28 (sz := 4) (by kernel_rfl) (by decide) imp_of_trod f5
  obtain ⟨ps, hP, _⟩ := row_of_trod (cells := Pat.cell) Tryz.underlying29 (sz := 4) (by kernel_rfl) (by decide) pat_of_trod f6
  exact ⟨⟨N, a, b, T, es, is, ps⟩, rfl, rfl, rfl, rfl, hE, hI, hP, hN, hT, gE, gI⟩

theorem plc_of_trod (n : Nat) (cs : List Value) (z : DataW H × List MemPlace) (hl : cs.length = 8) (h : DataW.trod enc Tryz.prog W 0 spare held n 54 cs = some z) : ∃ x : PV, (∀ i, i < 8 → cs[i]? = some (PV.cell x i)) ∧ (PlcAt W.heap.size W x ∧ x.mod.fits) := by
  obtain ⟨xs, m, _, _, _, hlen, hf⟩ := DataW.trod_struct Tryz.underlying54 h
  obtain ⟨x0, x1, rfl⟩ := list2 hlen
  obtain ⟨c0, c1, c2, c3, c4, c5, c6, c7, rfl⟩ := list8 hl
  have h7 : Tryz.prog.cellsOf 31 = 7 := by kernel_rfl
  have f0 : DataW.trod enc Tryz.prog W 0 spare held m 31 (([c0, c1, c2, c3, c4, c5, c6, c7].drop 0).take (Tryz.prog.cellsOf 31)) = some x0 := hf 0 _ rfl
  rw [h7] at f0
  obtain ⟨M, rfl, rfl, rfl, rfl, hE, hI, hP, hF⟩ := mod_of_trod m c0 c1 c2 c3 c4 c5 c6 x0 f0
  obtain ⟨k, rfl⟩ := int_of_trod (hf 1 _ rfl)
  refine ⟨⟨M, c4, c5, c6, k⟩, fun i hi => ?_, ⟨hE, hI, hP⟩, hF⟩
  have : i = 0 ∨ i = 1 ∨ i = 2 ∨ i = 3 ∨ i = 4 ∨ i = 5 ∨ i = 6 ∨ i = 7 := by omega
  rcases this with rfl | rfl | rfl | rfl | rfl | rfl | rfl | rfl <;> rfl

theorem open_import {v : Value} {d : DataW H} {ps : List MemPlace} {base : Nat} (hv : Value.okWide Tryz.prog W .any base 100 v) (h : DataW.Trod enc Tryz.prog W 0 spare held 100 v d ps) : ∃ i : Imp, v = .agg #[.string i.mod, .string i.name, .int .i64 i.major, .int .i64 i.minor] ∧ i.fits := by
  obtain ⟨cs, rfl, hcs⟩ := okWide_struct Tryz.underlying100 hv
  obtain ⟨fuel, hf⟩ := h
  obtain ⟨xs, m, _, _, hl, hlen, hf⟩ := DataW.trod_struct Tryz.underlying100 hf
  have hc4 : Tryz.prog.cellsOf 100 = 4 := by kernel_rfl
  obtain ⟨x0, x1, x2, x3, rfl⟩ := list4 hlen
  rw [hc4] at hl
  obtain ⟨c0, c1, c2, c3, hcl⟩ := list4 hl
  have hcs' : cs.toList = [c0, c1, c2, c3] := hcl
  have hcA : cs = #[c0, c1, c2, c3] := by rw [← Array.toArray_toList (xs := cs), hcs']
  subst hcA
  obtain ⟨s, rfl, hs⟩ := str_of_trod (hf 0 _ rfl)
  obtain ⟨t, rfl, ht⟩ := str_of_trod (hf 1 _ rfl)
  obtain ⟨a, rfl⟩ := int_of_trod (hf 2 _ rfl)
  obtain ⟨b, rfl⟩ := int_of_trod (hf 3 _ rfl)
  exact ⟨⟨s, t, a, b⟩, rfl, hs, ht⟩

theorem open_plc {v : Value} {d : DataW H} {ps : List MemPlace} {base : Nat} (hv : Value.okWide Tryz.prog W .any base 54 v) (h : DataW.Trod enc Tryz.prog W 0 spare held 54 v d ps) : ∃ x : PV, v = x.val ∧ PlcAt W.heap.size W x ∧ x.mod.fits := by
  obtain ⟨cs, rfl, hcs⟩ := okWide_struct Tryz.underlying54 hv
  obtain ⟨fuel, hf⟩ := h
  have hl := (DataW.trod_struct Tryz.underlying54 hf)
  obtain ⟨_, _, _, _, hl, _, _⟩ := hl
  have hc8 : Tryz.prog.cellsOf 54 = 8 := by kernel_rfl
  rw [hc8] at hl
  obtain ⟨x, hx, g1, g2⟩ := plc_of_trod _ _ _ hl hf
  obtain ⟨c0, c1, c2, c3, c4, c5, c6, c7, hcl⟩ := list8 hl
  have hcs' : cs.toList = [c0, c1, c2, c3, c4, c5, c6, c7] := hcl
  have hcA : cs = #[c0, c1, c2, c3, c4, c5, c6, c7] := by rw [← Array.toArray_toList (xs := cs), hcs']
  subst hcA
  have e0 : c0 = _ := Option.some.inj (hx 0 (by omega))
  have e1 : c1 = _ := Option.some.inj (hx 1 (by omega))
  have e2 : c2 = _ := Option.some.inj (hx 2 (by omega))
  have e3 : c3 = _ := Option.some.inj (hx 3 (by omega))
  have e4 : c4 = _ := Option.some.inj (hx 4 (by omega))
  have e5 : c5 = _ := Option.some.inj (hx 5 (by omega))
  have e6 : c6 = _ := Option.some.inj (hx 6 (by omega))
  have e7 : c7 = _ := Option.some.inj (hx 7 (by omega))
  subst e0 e1 e2 e3 e4 e5 e6 e7
  exact ⟨x, rfl, g1, g2⟩

theorem open_placed {v : Value} {d : DataW H} {ps : List MemPlace} {base : Nat} (hv : Value.okWide Tryz.prog W .any base 25 v) (h : DataW.Trod enc Tryz.prog W 0 spare held 25 v d ps) : ∃ l : List PV, IsPlcs W.heap.size W v l ∧ ∀ x ∈ l, x.mod.fits := by
  obtain ⟨a, ln, cp, rfl⟩ := okWide_slice Tryz.underlying25 hv
  obtain ⟨fuel, hf⟩ := h
  have _ : Inhabited PV := ⟨⟨⟨⟨#[]⟩, 0, 0, ⟨#[]⟩, [], [], []⟩, .slice none 0 0, .slice none 0 0, .slice none 0 0, 0⟩⟩
  obtain ⟨l, hL, gL⟩ := row_of_trod (α := PV) (cells := PV.cell) (good := fun x => PlcAt W.heap.size W x ∧ x.mod.fits) (c := .slice a ln cp) Tryz.underlying25 (sz := 8) (by kernel_rfl) (by decide) plc_of_trod hf
  exact ⟨l, ⟨hL, fun x hx => (gL x hx).1⟩, fun x hx => (gL x hx).2⟩
end

end Go.Proofs.YthmohjgdcjafkaeGreat
