/- Texts that are laid together. -/
import Derived.Test.YthmohjgdcjafkaeGreatMrgS
import Derived.Test.YthmohjgdcjafkaeGreatMrgB
import Derived.ProofKit
import Derived.OpenShut
import Derived.ShutString
import Derived.ChangeOld
import Derived.SizedLaws
import Derived.Below
import Derived.Carry
import Derived.Deep.Slices
import Derived.Test.YthmohjgdcjafkaeGreatMrgC
import Derived.Test.YthmohjgdcjafkaeGreatMrgD

/- The walk of the law CompactTwice: it returns true. Printed by gencw.py. -/
namespace Go.Proofs.YthmohjgdcjafkaeGreat.compactTwice
open Go.RowKit Go.PlainAid Go.Lib

set_option maxRecDepth 100000

set_option maxHeartbeats 16000000 in
theorem walk0 (K : Ker) (l : List PV) (v : Value) (w : World) (h : IsReg w.heap.size w v K l) (hf : K.fits) (hfit : ∀ x ∈ l, x.mod.fits) (h0 : chkRg K (l.map PV.plc) = 0) :
    Calls Tryz.prog 6 #[v] w fun e w' => e = .returned (.bool true) ∧ Below w.heap.size w w' := by
  obtain ⟨PL, hpl⟩ : ∃ PL, packFrom 0 (l.map PV.plc) = PL := ⟨_, rfl⟩
  obtain ⟨nn, hnn⟩ : ∃ nn, offFrom 0 (l.map PV.plc) = nn := ⟨_, rfl⟩
  have hc : chkRg K PL = 0 := by rw [← hpl]; exact chk_pack _ _ rfl h0
  have hpp : packFrom 0 PL = PL := by rw [← hpl]; exact pack_pack _ _
  have hop : offFrom 0 PL = 0 := by rw [← hpl]; exact off_pack _ _
  have hsp : stepRes PL = (PL, false) := by rw [← hpl]; exact step_pack _
  have HPK : Hid (∀ W, Below w.heap.size w W → Calls Tryz.prog 22 #[v] W fun e w' => (∃ (v' : Value) (l' : List PV), e = .returned (.tuple #[v', .int .i64 (nn : Int), .int .i64 0]) ∧ l'.map PV.plc = PL ∧ (∀ x ∈ l', x.mod.fits) ∧ IsReg w'.heap.size w' v' K l') ∧ Below W.heap.size W w') := fun W hb => by
    refine (compPack_any K l v W ((h.below hb).more hb.size) hf hfit).mono ?_
    rintro e w' ⟨⟨v', l', rfl, hp, hff, ho⟩, hb⟩
    have hi := packAns_reg hp ho
    have ha : packAns K (l.map PV.plc) = ((K, PL), nn, 0) := by
      unfold packAns
      rw [if_pos h0, hpl, hnn]
    rw [ha] at hp hi ⊢
    exact ⟨⟨v', l', rfl, hp, hff, hi⟩, hb⟩
  have HPP : Hid (∀ (l1 : List PV) v1 W, (∀ x ∈ l1, x.mod.fits) → l1.map PV.plc = PL → IsReg W.heap.size W v1 K l1 → Calls Tryz.prog 22 #[v1] W fun e w' => (∃ (v' : Value) (l' : List PV), e = .returned (.tuple #[v', .int .i64 0, .int .i64 0]) ∧ l'.map PV.plc = PL ∧ IsReg w'.heap.size w' v' K l') ∧ Below W.heap.size W w') := fun l1 v1 W hff hl hr => by
    refine (compPack_any K l1 v1 W hr hf hff).mono ?_
    rintro e w' ⟨⟨v', l', rfl, hp, _, ho⟩, hb⟩
    have hi := packAns_reg hp ho
    have ha : packAns K (l1.map PV.plc) = ((K, PL), 0, 0) := by
      unfold packAns
      rw [hl, if_pos hc, hpp, hop]
    rw [ha] at hp hi ⊢
    exact ⟨⟨v', l', rfl, hp, hi⟩, hb⟩
  have HSP : Hid (∀ (l1 : List PV) v1 W, (∀ x ∈ l1, x.mod.fits) → l1.map PV.plc = PL → IsReg W.heap.size W v1 K l1 → Calls Tryz.prog 24 #[v1] W fun e w' => (∃ (v' : Value) (l' : List PV), e = .returned (.tuple #[v', .bool false, .int .i64 0]) ∧ l'.map PV.plc = PL ∧ IsReg w'.heap.size w' v' K l') ∧ Below W.heap.size W w') := fun l1 v1 W hff hl hr => by
    refine (compStep_any K l1 v1 W hr hf hff).mono ?_
    rintro e w' ⟨⟨v', l', rfl, hp, _, ho⟩, hb⟩
    have hi := stepAns_reg hp ho
    have ha : stepAns K (l1.map PV.plc) = ((K, PL), false, 0) := by
      unfold stepAns
      rw [hl, if_pos hc, hsp]
    rw [ha] at hp hi ⊢
    exact ⟨⟨v', l', rfl, hp, hi⟩, hb⟩
  obtain ⟨qe, je, a, cap, rfl⟩ := h.shape0
  clear h hf hfit h0 hpl hnn hc hpp hop hsp
  generalize hlk : K.exps.length = lk at *
  have HLK : Hid (K.exps.length = lk) := hlk
  clear hlk
  have HB0 : Hid (Below w.heap.size w w) := Below.refl _ _
  go_enter Tryz.func6, Tryz.ntmps6
  have ba : Below w.heap.size w (w.alloc (.cells #[.int .i64 K.major, .int .i64 K.minor, .slice qe lk je, .slice a l.length cap] 27)) := (Below.refl _ _).alloc (Nat.le_refl _) _
  have HB1 : Hid (Below w.heap.size w (w.alloc (.cells #[.int .i64 K.major, .int .i64 K.minor, .slice qe lk je, .slice a l.length cap] 27))) := HB0.out.trans (ba.mono HB0.out.size)
  clear HB0
  clear ba
  have HC2_g1 : Hid (CellsAt (w.alloc (.cells #[.int .i64 K.major, .int .i64 K.minor, .slice qe lk je, .slice a l.length cap] 27)) w.heap.size 27 #[.int .i64 K.major, .int .i64 K.minor, .slice qe lk je, .slice a l.length cap]) := CellsAt.new _ _ _
  go_wp2_with fail
  refine (HPK.out _ HB1.out).mono ?_
  generalize (w.alloc (.cells #[.int .i64 K.major, .int .i64 K.minor, .slice qe lk je, .slice a l.length cap] 27)) = w1 at *
  rintro e w2 ⟨⟨vg3, lg3, rfl, hpg3, hfg3, hig3⟩, bg3⟩
  have HB3 : Hid (Below w.heap.size w w2) := HB1.out.trans (bg3.mono HB1.out.size)
  have HC3_g1 : Hid (CellsAt w2 w.heap.size 27 #[.int .i64 K.major, .int .i64 K.minor, .slice qe lk je, .slice a l.length cap]) := HC2_g1.out.below bg3 HC2_g1.out.lt
  clear HB1 HC2_g1
  obtain ⟨qg3, jg3, ag3, cg3, rfl⟩ := hig3.shape0
  rw [HLK.out] at hig3 ⊢
  have HR4_g3 : Hid (IsReg w2.heap.size w2 (.agg #[.int .i64 K.major, .int .i64 K.minor, .slice qg3 lk jg3, .slice ag3 lg3.length cg3]) K lg3) := hig3
  have HPg3 : Hid (lg3.map PV.plc = PL) := hpg3
  have HFg3 : Hid (∀ x ∈ lg3, x.mod.fits) := hfg3
  clear hfg3
  clear bg3 hig3 hpg3
  clear HPK
  have ba : Below w2.heap.size w2 (w2.alloc (.cells #[.int .i64 K.major, .int .i64 K.minor, .slice qg3 lk jg3, .slice ag3 lg3.length cg3] 27)) := (Below.refl _ _).alloc (Nat.le_refl _) _
  have og_g1_g3 : w.heap.size < w2.heap.size := CellsAt.lt HC3_g1.out
  have HB5 : Hid (Below w.heap.size w (w2.alloc (.cells #[.int .i64 K.major, .int .i64 K.minor, .slice qg3 lk jg3, .slice ag3 lg3.length cg3] 27))) := HB3.out.trans (ba.mono HB3.out.size)
  have HC5_g1 : Hid (CellsAt (w2.alloc (.cells #[.int .i64 K.major, .int .i64 K.minor, .slice qg3 lk jg3, .slice ag3 lg3.length cg3] 27)) w.heap.size 27 #[.int .i64 K.major, .int .i64 K.minor, .slice qe lk je, .slice a l.length cap]) := HC3_g1.out.below ba HC3_g1.out.lt
  have HR5_g3 : Hid (IsReg (w2.alloc (.cells #[.int .i64 K.major, .int .i64 K.minor, .slice qg3 lk jg3, .slice ag3 lg3.length cg3] 27)).heap.size (w2.alloc (.cells #[.int .i64 K.major, .int .i64 K.minor, .slice qg3 lk jg3, .slice ag3 lg3.length cg3] 27)) (.agg #[.int .i64 K.major, .int .i64 K.minor, .slice qg3 lk jg3, .slice ag3 lg3.length cg3]) K lg3) := (HR4_g3.out.below ba).more ba.size
  clear HB3 HC3_g1 HR4_g3
  clear ba
  have HC6_g3 : Hid (CellsAt (w2.alloc (.cells #[.int .i64 K.major, .int .i64 K.minor, .slice qg3 lk jg3, .slice ag3 lg3.length cg3] 27)) w2.heap.size 27 #[.int .i64 K.major, .int .i64 K.minor, .slice qg3 lk jg3, .slice ag3 lg3.length cg3]) := CellsAt.new _ _ _
  go_wp2_with fail
  refine (compactBegun_any _).mono ?_
  generalize (w2.alloc (.cells #[.int .i64 K.major, .int .i64 K.minor, .slice qg3 lk jg3, .slice ag3 lg3.length cg3] 27)) = w3 at *
  generalize w2.heap.size = g3 at *
  rintro e w4 ⟨rfl, b4⟩
  have HB7 : Hid (Below w.heap.size w w4) := HB5.out.trans (b4.mono HB5.out.size)
  have HC7_g1 : Hid (CellsAt w4 w.heap.size 27 #[.int .i64 K.major, .int .i64 K.minor, .slice qe lk je, .slice a l.length cap]) := HC5_g1.out.below b4 HC5_g1.out.lt
  have HC7_g3 : Hid (CellsAt w4 g3 27 #[.int .i64 K.major, .int .i64 K.minor, .slice qg3 lk jg3, .slice ag3 lg3.length cg3]) := HC6_g3.out.below b4 HC6_g3.out.lt
  have HR7_g3 : Hid (IsReg w4.heap.size w4 (.agg #[.int .i64 K.major, .int .i64 K.minor, .slice qg3 lk jg3, .slice ag3 lg3.length cg3]) K lg3) := (HR5_g3.out.below b4).more b4.size
  clear HB5 HC5_g1 HC6_g3 HR5_g3
  clear b4
  have rg30 := CellsAt.cell HC7_g3.out 0
  have rg31 := CellsAt.cell HC7_g3.out 1
  have rg32 := CellsAt.cell HC7_g3.out 2
  have rg33 := CellsAt.cell HC7_g3.out 3
  have rg3l := CellsAt.lt HC7_g3.out
  simp at rg30 rg31 rg32 rg33
  go_wp2_with fail
  clear rg30 rg31 rg32 rg33 rg3l
  refine (HPP.out lg3 _ _ HFg3.out HPg3.out HR7_g3.out).mono ?_
  rintro e w5 ⟨⟨vg6, lg6, rfl, hpg6, hig6⟩, bg6⟩
  have HB8 : Hid (Below w.heap.size w w5) := HB7.out.trans (bg6.mono HB7.out.size)
  have HC8_g1 : Hid (CellsAt w5 w.heap.size 27 #[.int .i64 K.major, .int .i64 K.minor, .slice qe lk je, .slice a l.length cap]) := HC7_g1.out.below bg6 HC7_g1.out.lt
  have HC8_g3 : Hid (CellsAt w5 g3 27 #[.int .i64 K.major, .int .i64 K.minor, .slice qg3 lk jg3, .slice ag3 lg3.length cg3]) := HC7_g3.out.below bg6 HC7_g3.out.lt
  have HR8_g3 : Hid (IsReg w5.heap.size w5 (.agg #[.int .i64 K.major, .int .i64 K.minor, .slice qg3 lk jg3, .slice ag3 lg3.length cg3]) K lg3) := (HR7_g3.out.below bg6).more bg6.size
  clear HB7 HC7_g1 HC7_g3 HR7_g3
  obtain ⟨qg6, jg6, ag6, cg6, rfl⟩ := hig6.shape0
  rw [HLK.out] at hig6 ⊢
  have HR9_g6 : Hid (IsReg w5.heap.size w5 (.agg #[.int .i64 K.major, .int .i64 K.minor, .slice qg6 lk jg6, .slice ag6 lg6.length cg6]) K lg6) := hig6
  have HPg6 : Hid (lg6.map PV.plc = PL) := hpg6
  clear bg6 hig6 hpg6
  clear HPP
  have ba : Below w5.heap.size w5 (w5.alloc (.cells #[.int .i64 K.major, .int .i64 K.minor, .slice qg6 lk jg6, .slice ag6 lg6.length cg6] 27)) := (Below.refl _ _).alloc (Nat.le_refl _) _
  have og_g1_g6 : w.heap.size < w5.heap.size := CellsAt.lt HC8_g1.out
  have og_g3_g6 : g3 < w5.heap.size := CellsAt.lt HC8_g3.out
  have HB10 : Hid (Below w.heap.size w (w5.alloc (.cells #[.int .i64 K.major, .int .i64 K.minor, .slice qg6 lk jg6, .slice ag6 lg6.length cg6] 27))) := HB8.out.trans (ba.mono HB8.out.size)
  have HC10_g1 : Hid (CellsAt (w5.alloc (.cells #[.int .i64 K.major, .int .i64 K.minor, .slice qg6 lk jg6, .slice ag6 lg6.length cg6] 27)) w.heap.size 27 #[.int .i64 K.major, .int .i64 K.minor, .slice qe lk je, .slice a l.length cap]) := HC8_g1.out.below ba HC8_g1.out.lt
  have HC10_g3 : Hid (CellsAt (w5.alloc (.cells #[.int .i64 K.major, .int .i64 K.minor, .slice qg6 lk jg6, .slice ag6 lg6.length cg6] 27)) g3 27 #[.int .i64 K.major, .int .i64 K.minor, .slice qg3 lk jg3, .slice ag3 lg3.length cg3]) := HC8_g3.out.below ba HC8_g3.out.lt
  have HR10_g3 : Hid (IsReg (w5.alloc (.cells #[.int .i64 K.major, .int .i64 K.minor, .slice qg6 lk jg6, .slice ag6 lg6.length cg6] 27)).heap.size (w5.alloc (.cells #[.int .i64 K.major, .int .i64 K.minor, .slice qg6 lk jg6, .slice ag6 lg6.length cg6] 27)) (.agg #[.int .i64 K.major, .int .i64 K.minor, .slice qg3 lk jg3, .slice ag3 lg3.length cg3]) K lg3) := (HR8_g3.out.below ba).more ba.size
  have HR10_g6 : Hid (IsReg (w5.alloc (.cells #[.int .i64 K.major, .int .i64 K.minor, .slice qg6 lk jg6, .slice ag6 lg6.length cg6] 27)).heap.size (w5.alloc (.cells #[.int .i64 K.major, .int .i64 K.minor, .slice qg6 lk jg6, .slice ag6 lg6.length cg6] 27)) (.agg #[.int .i64 K.major, .int .i64 K.minor, .slice qg6 lk jg6, .slice ag6 lg6.length cg6]) K lg6) := (HR9_g6.out.below ba).more ba.size
  clear HB8 HC8_g1 HC8_g3 HR8_g3 HR9_g6
  clear ba
  have HC11_g6 : Hid (CellsAt (w5.alloc (.cells #[.int .i64 K.major, .int .i64 K.minor, .slice qg6 lk jg6, .slice ag6 lg6.length cg6] 27)) w5.heap.size 27 #[.int .i64 K.major, .int .i64 K.minor, .slice qg6 lk jg6, .slice ag6 lg6.length cg6]) := CellsAt.new _ _ _
  have rg30 := CellsAt.cell HC10_g3.out 0
  have rg31 := CellsAt.cell HC10_g3.out 1
  have rg32 := CellsAt.cell HC10_g3.out 2
  have rg33 := CellsAt.cell HC10_g3.out 3
  have rg3l := CellsAt.lt HC10_g3.out
  simp at rg30 rg31 rg32 rg33
  go_wp2_with fail
  clear rg30 rg31 rg32 rg33 rg3l
  refine (HSP.out lg3 _ _ HFg3.out HPg3.out HR10_g3.out).mono ?_
  generalize (w5.alloc (.cells #[.int .i64 K.major, .int .i64 K.minor, .slice qg6 lk jg6, .slice ag6 lg6.length cg6] 27)) = w6 at *
  generalize w5.heap.size = g6 at *
  rintro e w7 ⟨⟨vg9, lg9, rfl, hpg9, hig9⟩, bg9⟩
  have HB12 : Hid (Below w.heap.size w w7) := HB10.out.trans (bg9.mono HB10.out.size)
  have HC12_g1 : Hid (CellsAt w7 w.heap.size 27 #[.int .i64 K.major, .int .i64 K.minor, .slice qe lk je, .slice a l.length cap]) := HC10_g1.out.below bg9 HC10_g1.out.lt
  have HC12_g3 : Hid (CellsAt w7 g3 27 #[.int .i64 K.major, .int .i64 K.minor, .slice qg3 lk jg3, .slice ag3 lg3.length cg3]) := HC10_g3.out.below bg9 HC10_g3.out.lt
  have HC12_g6 : Hid (CellsAt w7 g6 27 #[.int .i64 K.major, .int .i64 K.minor, .slice qg6 lk jg6, .slice ag6 lg6.length cg6]) := HC11_g6.out.below bg9 HC11_g6.out.lt
  have HR12_g3 : Hid (IsReg w7.heap.size w7 (.agg #[.int .i64 K.major, .int .i64 K.minor, .slice qg3 lk jg3, .slice ag3 lg3.length cg3]) K lg3) := (HR10_g3.out.below bg9).more bg9.size
  have HR12_g6 : Hid (IsReg w7.heap.size w7 (.agg #[.int .i64 K.major, .int .i64 K.minor, .slice qg6 lk jg6, .slice ag6 lg6.length cg6]) K lg6) := (HR10_g6.out.below bg9).more bg9.size
  clear HB10 HC10_g1 HC10_g3 HC11_g6 HR10_g3 HR10_g6
  obtain ⟨qg9, jg9, ag9, cg9, rfl⟩ := hig9.shape0
  rw [HLK.out] at hig9 ⊢
  have HR13_g9 : Hid (IsReg w7.heap.size w7 (.agg #[.int .i64 K.major, .int .i64 K.minor, .slice qg9 lk jg9, .slice ag9 lg9.length cg9]) K lg9) := hig9
  have HPg9 : Hid (lg9.map PV.plc = PL) := hpg9
  clear bg9 hig9 hpg9
  clear HSP
  have ba : Below w7.heap.size w7 (w7.alloc (.cells #[.int .i64 K.major, .int .i64 K.minor, .slice qg9 lk jg9, .slice ag9 lg9.length cg9] 27)) := (Below.refl _ _).alloc (Nat.le_refl _) _
  have og_g1_g9 : w.heap.size < w7.heap.size := CellsAt.lt HC12_g1.out
  have og_g3_g9 : g3 < w7.heap.size := CellsAt.lt HC12_g3.out
  have og_g6_g9 : g6 < w7.heap.size := CellsAt.lt HC12_g6.out
  have HB14 : Hid (Below w.heap.size w (w7.alloc (.cells #[.int .i64 K.major, .int .i64 K.minor, .slice qg9 lk jg9, .slice ag9 lg9.length cg9] 27))) := HB12.out.trans (ba.mono HB12.out.size)
  have HC14_g1 : Hid (CellsAt (w7.alloc (.cells #[.int .i64 K.major, .int .i64 K.minor, .slice qg9 lk jg9, .slice ag9 lg9.length cg9] 27)) w.heap.size 27 #[.int .i64 K.major, .int .i64 K.minor, .slice qe lk je, .slice a l.length cap]) := HC12_g1.out.below ba HC12_g1.out.lt
  have HC14_g3 : Hid (CellsAt (w7.alloc (.cells #[.int .i64 K.major, .int .i64 K.minor, .slice qg9 lk jg9, .slice ag9 lg9.length cg9] 27)) g3 27 #[.int .i64 K.major, .int .i64 K.minor, .slice qg3 lk jg3, .slice ag3 lg3.length cg3]) := HC12_g3.out.below ba HC12_g3.out.lt
  have HC14_g6 : Hid (CellsAt (w7.alloc (.cells #[.int .i64 K.major, .int .i64 K.minor, .slice qg9 lk jg9, .slice ag9 lg9.length cg9] 27)) g6 27 #[.int .i64 K.major, .int .i64 K.minor, .slice qg6 lk jg6, .slice ag6 lg6.length cg6]) := HC12_g6.out.below ba HC12_g6.out.lt
  have HR14_g3 : Hid (IsReg (w7.alloc (.cells #[.int .i64 K.major, .int .i64 K.minor, .slice qg9 lk jg9, .slice ag9 lg9.length cg9] 27)).heap.size (w7.alloc (.cells #[.int .i64 K.major, .int .i64 K.minor, .slice qg9 lk jg9, .slice ag9 lg9.length cg9] 27)) (.agg #[.int .i64 K.major, .int .i64 K.minor, .slice qg3 lk jg3, .slice ag3 lg3.length cg3]) K lg3) := (HR12_g3.out.below ba).more ba.size
  have HR14_g6 : Hid (IsReg (w7.alloc (.cells #[.int .i64 K.major, .int .i64 K.minor, .slice qg9 lk jg9, .slice ag9 lg9.length cg9] 27)).heap.size (w7.alloc (.cells #[.int .i64 K.major, .int .i64 K.minor, .slice qg9 lk jg9, .slice ag9 lg9.length cg9] 27)) (.agg #[.int .i64 K.major, .int .i64 K.minor, .slice qg6 lk jg6, .slice ag6 lg6.length cg6]) K lg6) := (HR12_g6.out.below ba).more ba.size
  have HR14_g9 : Hid (IsReg (w7.alloc (.cells #[.int .i64 K.major, .int .i64 K.minor, .slice qg9 lk jg9, .slice ag9 lg9.length cg9] 27)).heap.size (w7.alloc (.cells #[.int .i64 K.major, .int .i64 K.minor, .slice qg9 lk jg9, .slice ag9 lg9.length cg9] 27)) (.agg #[.int .i64 K.major, .int .i64 K.minor, .slice qg9 lk jg9, .slice ag9 lg9.length cg9]) K lg9) := (HR13_g9.out.below ba).more ba.size
  clear HB12 HC12_g1 HC12_g3 HC12_g6 HR12_g3 HR12_g6 HR13_g9
  clear ba
  have HC15_g9 : Hid (CellsAt (w7.alloc (.cells #[.int .i64 K.major, .int .i64 K.minor, .slice qg9 lk jg9, .slice ag9 lg9.length cg9] 27)) w7.heap.size 27 #[.int .i64 K.major, .int .i64 K.minor, .slice qg9 lk jg9, .slice ag9 lg9.length cg9]) := CellsAt.new _ _ _
  go_upto_region 8 with fail
  generalize (w7.alloc (.cells #[.int .i64 K.major, .int .i64 K.minor, .slice qg9 lk jg9, .slice ag9 lg9.length cg9] 27)) = w8 at *
  generalize w7.heap.size = g9 at *
  have rg30 := CellsAt.cell HC14_g3.out 0
  have rg31 := CellsAt.cell HC14_g3.out 1
  have rg32 := CellsAt.cell HC14_g3.out 2
  have rg33 := CellsAt.cell HC14_g3.out 3
  have rg3l := CellsAt.lt HC14_g3.out
  simp at rg30 rg31 rg32 rg33
  have rg60 := CellsAt.cell HC14_g6.out 0
  have rg61 := CellsAt.cell HC14_g6.out 1
  have rg62 := CellsAt.cell HC14_g6.out 2
  have rg63 := CellsAt.cell HC14_g6.out 3
  have rg6l := CellsAt.lt HC14_g6.out
  simp at rg60 rg61 rg62 rg63
  go_wp2_with fail
  clear rg30 rg31 rg32 rg33 rg3l
  clear rg60 rg61 rg62 rg63 rg6l
  refine (sameReg_yes K lg3 lg6 _ _ _ HR14_g3.out HR14_g6.out (HPg3.out.trans HPg6.out.symm)).mono ?_
  rintro e w9 ⟨rfl, bz⟩
  have HB16 : Hid (Below w.heap.size w w9) := HB14.out.trans (bz.mono HB14.out.size)
  have HC16_g1 : Hid (CellsAt w9 w.heap.size 27 #[.int .i64 K.major, .int .i64 K.minor, .slice qe lk je, .slice a l.length cap]) := HC14_g1.out.below bz HC14_g1.out.lt
  have HC16_g3 : Hid (CellsAt w9 g3 27 #[.int .i64 K.major, .int .i64 K.minor, .slice qg3 lk jg3, .slice ag3 lg3.length cg3]) := HC14_g3.out.below bz HC14_g3.out.lt
  have HC16_g6 : Hid (CellsAt w9 g6 27 #[.int .i64 K.major, .int .i64 K.minor, .slice qg6 lk jg6, .slice ag6 lg6.length cg6]) := HC14_g6.out.below bz HC14_g6.out.lt
  have HC16_g9 : Hid (CellsAt w9 g9 27 #[.int .i64 K.major, .int .i64 K.minor, .slice qg9 lk jg9, .slice ag9 lg9.length cg9]) := HC15_g9.out.below bz HC15_g9.out.lt
  have HR16_g3 : Hid (IsReg w9.heap.size w9 (.agg #[.int .i64 K.major, .int .i64 K.minor, .slice qg3 lk jg3, .slice ag3 lg3.length cg3]) K lg3) := (HR14_g3.out.below bz).more bz.size
  have HR16_g6 : Hid (IsReg w9.heap.size w9 (.agg #[.int .i64 K.major, .int .i64 K.minor, .slice qg6 lk jg6, .slice ag6 lg6.length cg6]) K lg6) := (HR14_g6.out.below bz).more bz.size
  have HR16_g9 : Hid (IsReg w9.heap.size w9 (.agg #[.int .i64 K.major, .int .i64 K.minor, .slice qg9 lk jg9, .slice ag9 lg9.length cg9]) K lg9) := (HR14_g9.out.below bz).more bz.size
  clear HB14 HC14_g1 HC14_g3 HC14_g6 HC15_g9 HR14_g3 HR14_g6 HR14_g9
  clear bz
  have rg30 := CellsAt.cell HC16_g3.out 0
  have rg31 := CellsAt.cell HC16_g3.out 1
  have rg32 := CellsAt.cell HC16_g3.out 2
  have rg33 := CellsAt.cell HC16_g3.out 3
  have rg3l := CellsAt.lt HC16_g3.out
  simp at rg30 rg31 rg32 rg33
  have rg90 := CellsAt.cell HC16_g9.out 0
  have rg91 := CellsAt.cell HC16_g9.out 1
  have rg92 := CellsAt.cell HC16_g9.out 2
  have rg93 := CellsAt.cell HC16_g9.out 3
  have rg9l := CellsAt.lt HC16_g9.out
  simp at rg90 rg91 rg92 rg93
  go_wp2_with fail
  clear rg30 rg31 rg32 rg33 rg3l
  clear rg90 rg91 rg92 rg93 rg9l
  refine (sameReg_yes K lg3 lg9 _ _ _ HR16_g3.out HR16_g9.out (HPg3.out.trans HPg9.out.symm)).mono ?_
  rintro e w10 ⟨rfl, bz⟩
  have HB17 : Hid (Below w.heap.size w w10) := HB16.out.trans (bz.mono HB16.out.size)
  have HC17_g1 : Hid (CellsAt w10 w.heap.size 27 #[.int .i64 K.major, .int .i64 K.minor, .slice qe lk je, .slice a l.length cap]) := HC16_g1.out.below bz HC16_g1.out.lt
  have HC17_g3 : Hid (CellsAt w10 g3 27 #[.int .i64 K.major, .int .i64 K.minor, .slice qg3 lk jg3, .slice ag3 lg3.length cg3]) := HC16_g3.out.below bz HC16_g3.out.lt
  have HC17_g6 : Hid (CellsAt w10 g6 27 #[.int .i64 K.major, .int .i64 K.minor, .slice qg6 lk jg6, .slice ag6 lg6.length cg6]) := HC16_g6.out.below bz HC16_g6.out.lt
  have HC17_g9 : Hid (CellsAt w10 g9 27 #[.int .i64 K.major, .int .i64 K.minor, .slice qg9 lk jg9, .slice ag9 lg9.length cg9]) := HC16_g9.out.below bz HC16_g9.out.lt
  have HR17_g3 : Hid (IsReg w10.heap.size w10 (.agg #[.int .i64 K.major, .int .i64 K.minor, .slice qg3 lk jg3, .slice ag3 lg3.length cg3]) K lg3) := (HR16_g3.out.below bz).more bz.size
  have HR17_g6 : Hid (IsReg w10.heap.size w10 (.agg #[.int .i64 K.major, .int .i64 K.minor, .slice qg6 lk jg6, .slice ag6 lg6.length cg6]) K lg6) := (HR16_g6.out.below bz).more bz.size
  have HR17_g9 : Hid (IsReg w10.heap.size w10 (.agg #[.int .i64 K.major, .int .i64 K.minor, .slice qg9 lk jg9, .slice ag9 lg9.length cg9]) K lg9) := (HR16_g9.out.below bz).more bz.size
  clear HB16 HC16_g1 HC16_g3 HC16_g6 HC16_g9 HR16_g3 HR16_g6 HR16_g9
  clear bz
  go_wp2
  go_ret
  exact ⟨rfl, HB17.out⟩

set_option maxHeartbeats 16000000 in
theorem walkE (K : Ker) (l : List PV) (v : Value) (w : World) (h : IsReg w.heap.size w v K l) (hf : K.fits) (hfit : ∀ x ∈ l, x.mod.fits) (h0 : ¬ chkRg K (l.map PV.plc) = 0) :
    Calls Tryz.prog 6 #[v] w fun e w' => e = .returned (.bool true) ∧ Below w.heap.size w w' := by
  obtain ⟨cr, hcr⟩ : ∃ cr, chkRg K (l.map PV.plc) = cr := ⟨_, rfl⟩
  have hne : cr ≠ 0 := by rw [← hcr]; exact h0
  have HPK : Hid (∀ W, Below w.heap.size w W → Calls Tryz.prog 22 #[v] W fun e w' => (∃ q j b c, e = .returned (.tuple #[.agg #[.int .i64 0, .int .i64 0, .slice q 0 j, .slice b 0 c], .int .i64 0, .int .i64 cr])) ∧ Below W.heap.size W w') := fun W hb => by
    refine (compPack_any K l v W ((h.below hb).more hb.size) hf hfit).mono ?_
    rintro e w' ⟨⟨v', l', rfl, hp, _, ho⟩, hb⟩
    have hi := packAns_reg hp ho
    have ha : packAns K (l.map PV.plc) = ((emptyK, []), 0, cr) := by
      unfold packAns
      rw [if_neg h0, hcr]
    rw [ha] at hp hi ⊢
    obtain rfl : l' = [] := List.map_eq_nil_iff.1 hp
    obtain ⟨q, j, b, c, rfl⟩ := hi.shape0
    exact ⟨⟨q, j, b, c, rfl⟩, hb⟩
  obtain ⟨qe, je, a, cap, rfl⟩ := h.shape0
  clear h hf hfit h0 hcr
  have hcz : (cr != 0) = true := by simpa using hne
  generalize K.exps.length = lk at *
  have HB0 : Hid (Below w.heap.size w w) := Below.refl _ _
  go_enter Tryz.func6, Tryz.ntmps6
  have ba : Below w.heap.size w (w.alloc (.cells #[.int .i64 K.major, .int .i64 K.minor, .slice qe lk je, .slice a l.length cap] 27)) := (Below.refl _ _).alloc (Nat.le_refl _) _
  have HB1 : Hid (Below w.heap.size w (w.alloc (.cells #[.int .i64 K.major, .int .i64 K.minor, .slice qe lk je, .slice a l.length cap] 27))) := HB0.out.trans (ba.mono HB0.out.size)
  clear HB0
  clear ba
  have HC2_g1 : Hid (CellsAt (w.alloc (.cells #[.int .i64 K.major, .int .i64 K.minor, .slice qe lk je, .slice a l.length cap] 27)) w.heap.size 27 #[.int .i64 K.major, .int .i64 K.minor, .slice qe lk je, .slice a l.length cap]) := CellsAt.new _ _ _
  go_wp2_with fail
  refine (HPK.out _ HB1.out).mono ?_
  generalize (w.alloc (.cells #[.int .i64 K.major, .int .i64 K.minor, .slice qe lk je, .slice a l.length cap] 27)) = w1 at *
  rintro e w2 ⟨⟨q, j, b, c, rfl⟩, b2⟩
  have HB3 : Hid (Below w.heap.size w w2) := HB1.out.trans (b2.mono HB1.out.size)
  have HC3_g1 : Hid (CellsAt w2 w.heap.size 27 #[.int .i64 K.major, .int .i64 K.minor, .slice qe lk je, .slice a l.length cap]) := HC2_g1.out.below b2 HC2_g1.out.lt
  clear HB1 HC2_g1
  clear b2 HPK
  have ba : Below w2.heap.size w2 (w2.alloc (.cells #[.int .i64 0, .int .i64 0, .slice q 0 j, .slice b 0 c] 27)) := (Below.refl _ _).alloc (Nat.le_refl _) _
  have og_g1_g3 : w.heap.size < w2.heap.size := CellsAt.lt HC3_g1.out
  have HB4 : Hid (Below w.heap.size w (w2.alloc (.cells #[.int .i64 0, .int .i64 0, .slice q 0 j, .slice b 0 c] 27))) := HB3.out.trans (ba.mono HB3.out.size)
  have HC4_g1 : Hid (CellsAt (w2.alloc (.cells #[.int .i64 0, .int .i64 0, .slice q 0 j, .slice b 0 c] 27)) w.heap.size 27 #[.int .i64 K.major, .int .i64 K.minor, .slice qe lk je, .slice a l.length cap]) := HC3_g1.out.below ba HC3_g1.out.lt
  clear HB3 HC3_g1
  clear ba
  have HC5_g3 : Hid (CellsAt (w2.alloc (.cells #[.int .i64 0, .int .i64 0, .slice q 0 j, .slice b 0 c] 27)) w2.heap.size 27 #[.int .i64 0, .int .i64 0, .slice q 0 j, .slice b 0 c]) := CellsAt.new _ _ _
  go_wp2_with fail
  refine (compactBegun_any _).mono ?_
  generalize (w2.alloc (.cells #[.int .i64 0, .int .i64 0, .slice q 0 j, .slice b 0 c] 27)) = w3 at *
  generalize w2.heap.size = g3 at *
  rintro e w4 ⟨rfl, b4⟩
  have HB6 : Hid (Below w.heap.size w w4) := HB4.out.trans (b4.mono HB4.out.size)
  have HC6_g1 : Hid (CellsAt w4 w.heap.size 27 #[.int .i64 K.major, .int .i64 K.minor, .slice qe lk je, .slice a l.length cap]) := HC4_g1.out.below b4 HC4_g1.out.lt
  have HC6_g3 : Hid (CellsAt w4 g3 27 #[.int .i64 0, .int .i64 0, .slice q 0 j, .slice b 0 c]) := HC5_g3.out.below b4 HC5_g3.out.lt
  clear HB4 HC4_g1 HC5_g3
  clear b4
  go_wp2
  go_ret
  exact ⟨rfl, HB6.out⟩

theorem walk (K : Ker) (l : List PV) (v : Value) (w : World) (h : IsReg w.heap.size w v K l) (hf : K.fits) (hfit : ∀ x ∈ l, x.mod.fits) :
    Calls Tryz.prog 6 #[v] w fun e w' => e = .returned (.bool true) ∧ Below w.heap.size w w' := by
  by_cases h0 : chkRg K (l.map PV.plc) = 0
  · exact walk0 K l v w h hf hfit h0
  · exact walkE K l v w h hf hfit h0

end Go.Proofs.YthmohjgdcjafkaeGreat.compactTwice

/- Arguments that came in: texts, numbers, rows, a patch. -/
namespace Go.Proofs.YthmohjgdcjafkaeGreat
open Go.ChangeShapes Go.WideShapes Go.ChangeAt Go.RowKit Go.PlainAid Go.Deep

set_option maxRecDepth 100000

theorem list7 {α : Type} {l : List α} (h : l.length = 7) : ∃ a b c d e f g, l = [a, b, c, d, e, f, g] := by
  match l, h with
  | [a, b, c, d, e, f, g], _ => exact ⟨a, b, c, d, e, f, g, rfl⟩
theorem list4 {α : Type} {l : List α} (h : l.length = 4) : ∃ a b c d, l = [a, b, c, d] := by
  match l, h with
  | [a, b, c, d], _ => exact ⟨a, b, c, d, rfl⟩
theorem list2 {α : Type} {l : List α} (h : l.length = 2) : ∃ a b, l = [a, b] := by
  match l, h with
  | [a, b], _ => exact ⟨a, b, rfl⟩

section
variable {H : Type} {enc : TypeId × Value → H} {W : World} {spare : Nat → Bool} {held : Bool}

theorem row_of_trod {α : Type} [Inhabited α] {t e : TypeId} {sz fuel : Nat} {c : Value} {y : DataW H × List MemPlace} {cells : α → Nat → Value} {good : α → Prop} (ht : Tryz.prog.underlying t = some (.slice e)) (hsz : Tryz.prog.cellsOf e = sz) (h0 : 0 < sz)
    (conv : ∀ n cs z, cs.length = sz → DataW.trod enc Tryz.prog W 0 spare held n e cs = some z → ∃ x : α, (∀ i, i < sz → cs[i]? = some (cells x i)) ∧ good x)
    (h : DataW.trod enc Tryz.prog W 0 spare held fuel t [c] = some y) : ∃ l : List α, RowOf sz cells W.heap.size W c l ∧ ∀ x ∈ l, good x := by
  rcases open_slice ht h with ⟨hc, _⟩ | ⟨a, len, cap, m, n, D, Pl, hc, _, hl, hm, hmm, _, hx⟩
  · injection hc with hc
    subst hc
    exact ⟨[], ⟨none, 0, rfl, Nat.zero_le _, .inl rfl⟩, by simp⟩
  · injection hc with hc
    subst hc
    rw [hsz] at hx
    have hle : len ≤ m := by rw [hmm]; split <;> omega
    obtain ⟨X, hX⟩ := choose_lt (α := α) (n := len) (p := fun i x => (∀ j, j < sz → W.cell? (a.add (i * sz + j)) = some (cells x j)) ∧ good x) (fun i hi => by
      obtain ⟨cs', h1, h2⟩ := hx i (by omega)
      obtain ⟨_, hlen, hcell⟩ := World.cells?_some h1
      obtain ⟨x, hx1, hx2⟩ := conv n cs' _ hlen h2
      refine ⟨x, fun j hj => ?_, hx2⟩
      have h3 := hcell j hj
      rw [hx1 j hj] at h3
      have hadd : (a.add (i * sz)).add j = a.add (i * sz + j) ∨ W.cell? ((a.add (i * sz)).add j) = W.cell? (a.add (i * sz + j)) := by
        unfold Addr.add
        by_cases e1 : i * sz = 0
        · rw [if_pos e1, e1, Nat.zero_add]; exact .inl rfl
        · rw [if_neg e1]
          by_cases e2 : j = 0
          · rw [if_pos e2, e2, Nat.add_zero, if_neg e1]; exact .inl rfl
          · rw [if_neg e2, if_neg (by omega), Nat.add_assoc]; exact .inl rfl
      rcases hadd with hadd | hadd
      · rw [← hadd]; exact h3
      · rw [← hadd]; exact h3)
    refine ⟨(List.range len).map X, ⟨some a, cap, by simp, by simp; unfold maxLen at hm; omega, ?_⟩, ?_⟩
    · by_cases hz : len = 0
      · left
        subst hz
        rfl
      · right
        have hc0 := (hX 0 (by omega)).1 0 h0
        rw [Nat.zero_mul, Nat.zero_add] at hc0
        obtain ⟨b, off, spot⟩ := a
        have hsp : spot = none := by simpa [Addr.add] using World.cell?_spot hc0
        subst hsp
        refine ⟨b, off, rfl, ?_, fun j x hj i hi => ?_⟩
        · have := World.block_lt_of_cell? W _ hc0
          simpa [Addr.add] using this
        · have hjl : j < len := by
            have := (List.getElem?_eq_some_iff.1 hj).1
            simpa using this
          obtain rfl : X j = x := by
            rw [List.getElem?_map, List.getElem?_range hjl] at hj
            simpa using hj
          have h4 := (hX j hjl).1 i hi
          unfold Addr.add at h4
          by_cases e0 : j * sz + i = 0
          · rw [if_pos e0] at h4
            rw [Nat.add_assoc, e0]
            exact h4
          · rw [if_neg e0] at h4
            rw [Nat.add_assoc]
            exact h4
    · intro x hx
      obtain ⟨i, hi, rfl⟩ := List.mem_map.1 hx
      exact (hX i (by simpa using hi)).2

theorem str_of_trod {n : Nat} {c : Value} {y : DataW H × List MemPlace} (h : DataW.trod enc Tryz.prog W 0 spare held n 9 [c] = some y) : ∃ s : ByteArray, c = .string s ∧ s.size ≤ 9223372036854775807 := by
  obtain ⟨s, hc, _, hs⟩ := DataW.trod_string Tryz.underlying9 h
  injection hc with hc
  exact ⟨s, hc, hs⟩
theorem int_of_trod {n : Nat} {c : Value} {y : DataW H × List MemPlace} (h : DataW.trod enc Tryz.prog W 0 spare held n 3 [c] = some y) : ∃ k : Int, c = .int .i64 k := by
  obtain ⟨k, hc, _, _⟩ := DataW.trod_int Tryz.underlying3 h
  injection hc with hc
  exact ⟨k, hc⟩

theorem exp_of_trod (n : Nat) (cs : List Value) (z : DataW H × List MemPlace) (hl : cs.length = 2) (h : DataW.trod enc Tryz.prog W 0 spare held n 128 cs = some z) : ∃ x : Exp, (∀ i, i < 2 → cs[i]? = some (Exp.cell x i)) ∧ x.name.size ≤ 9223372036854775807 := by
  obtain ⟨xs, m, _, _, _, hlen, hf⟩ := DataW.trod_struct Tryz.underlying128 h
  obtain ⟨x0, x1, rfl⟩ := list2 hlen
  obtain ⟨c0, c1, rfl⟩ := list2 hl
  obtain ⟨s, rfl, hs⟩ := str_of_trod (hf 0 _ rfl)
  obtain ⟨k, rfl⟩ := int_of_trod (hf 1 _ rfl)
  refine ⟨⟨s, k⟩, fun i hi => ?_, hs⟩
  have : i = 0 ∨ i = 1 := by omega
  rcases this with rfl | rfl <;> rfl
theorem imp_of_trod (n : Nat) (cs : List Value) (z : DataW H × List MemPlace) (hl : cs.length = 4) (h : DataW.trod enc Tryz.prog W 0 spare held n 100 cs = some z) : ∃ x : Imp, (∀ i, i < 4 → cs[i]? = some (Imp.cell x i)) ∧ x.fits := by
  obtain ⟨xs, m, _, _, _, hlen, hf⟩ := DataW.trod_struct Tryz.underlying100 h
  obtain ⟨x0, x1, x2, x3, rfl⟩ := list4 hlen
  obtain ⟨c0, c1, c2, c3, rfl⟩ := list4 hl
  obtain ⟨s, rfl, hs⟩ := str_of_trod (hf 0 _ rfl)
  obtain ⟨t, rfl, ht⟩ := str_of_trod (hf 1 _ rfl)
  obtain ⟨k, rfl⟩ := int_of_trod (hf 2 _ rfl)
  obtain ⟨j, rfl⟩ := int_of_trod (hf 3 _ rfl)
  refine ⟨⟨s, t, k, j⟩, fun i hi => ?_, ⟨hs, ht⟩⟩
  have : i = 0 ∨ i = 1 ∨ i = 2 ∨ i = 3 := by omega
  rcases this with rfl | rfl | rfl | rfl <;> rfl
theorem pat_of_trod (n : Nat) (cs : List Value) (z : DataW H × List MemPlace) (hl : cs.length = 4) (h : DataW.trod enc Tryz.prog W 0 spare held n 102 cs = some z) : ∃ x : Pat, (∀ i, i < 4 → cs[i]? = some (Pat.cell x i)) ∧ True := by
  obtain ⟨xs, m, _, _, _, hlen, hf⟩ := DataW.trod_struct Tryz.underlying102 h
  obtain ⟨x0, x1, x2, x3, rfl⟩ := list4 hlen
  obtain ⟨c0, c1, c2, c3, rfl⟩ := list4 hl
  obtain ⟨a, rfl⟩ := int_of_trod (hf 0 _ rfl)
  obtain ⟨b, rfl⟩ := int_of_trod (hf 1 _ rfl)
  obtain ⟨k, rfl⟩ := int_of_trod (hf 2 _ rfl)
  obtain ⟨j, rfl⟩ := int_of_trod (hf 3 _ rfl)
  refine ⟨⟨a, b, k, j⟩, fun i hi => ?_, trivial⟩
  have : i = 0 ∨ i = 1 ∨ i = 2 ∨ i = 3 := by omega
  rcases this with rfl | rfl | rfl | rfl <;> rfl

theorem open_patch {v : Value} {d : DataW H} {ps : List MemPlace} {base : Nat} (hv : Value.okWide Tryz.prog W .any base 102 v) (h : DataW.Trod enc Tryz.prog W 0 spare held 102 v d ps) : ∃ p : Pat, v = .agg #[.int .i64 p.kind, .int .i64 p.pos, .int .i64 p.sym, .int .i64 p.add] := by
  obtain ⟨cs, rfl, hcs⟩ := okWide_struct Tryz.underlying102 hv
  obtain ⟨fuel, hf⟩ := h
  obtain ⟨xs, m, _, _, hl, hlen, hf⟩ := DataW.trod_struct Tryz.underlying102 hf
  have hc4 : Tryz.prog.cellsOf 102 = 4 := by kernel_rfl
  obtain ⟨x0, x1, x2, x3, rfl⟩ := list4 hlen
  rw [hc4] at hl
  obtain ⟨c0, c1, c2, c3, hcl⟩ := list4 hl
  have hcs' : cs.toList = [c0, c1, c2, c3] := hcl
  have hcA : cs = #[c0, c1, c2, c3] := by rw [← Array.toArray_toList (xs := cs), hcs']
  subst hcA
  have f0 := hf 0 _ rfl
  have f1 := hf 1 _ rfl
  have f2 := hf 2 _ rfl
  have f3 := hf 3 _ rfl
  obtain ⟨a, rfl⟩ := int_of_trod f0
  obtain ⟨b, rfl⟩ := int_of_trod f1
  obtain ⟨c, rfl⟩ := int_of_trod f2
  obtain ⟨e, rfl⟩ := int_of_trod f3
  exact ⟨⟨a, b, c, e⟩, rfl⟩
end

end Go.Proofs.YthmohjgdcjafkaeGreat

/- A module that came in. -/
namespace Go.Proofs.YthmohjgdcjafkaeGreat
open Go.ChangeShapes Go.WideShapes Go.ChangeAt Go.RowKit Go.PlainAid Go.Deep

set_option maxRecDepth 100000

section
variable {H : Type} {enc : TypeId × Value → H} {W : World} {spare : Nat → Bool} {held : Bool}

theorem open_module {v : Value} {d : DataW H} {ps : List MemPlace} {base : Nat} (hv : Value.okWide Tryz.prog W .any base 31 v) (h : DataW.Trod enc Tryz.prog W 0 spare held 31 v d ps) : ∃ M, IsMod W.heap.size W v M ∧ M.fits := by
  obtain ⟨cs, rfl, hcs⟩ := okWide_struct Tryz.underlying31 hv
  obtain ⟨fuel, hf⟩ := h
  obtain ⟨xs, m, _, _, hl, hlen, hf⟩ := DataW.trod_struct Tryz.underlying31 hf
  have hc7 : Tryz.prog.cellsOf 31 = 7 := by kernel_rfl
  obtain ⟨x0, x1, x2, x3, x4, x5, x6, rfl⟩ := list7 hlen
  rw [hc7] at hl
  obtain ⟨c0, c1, c2, c3, c4, c5, c6, hcl⟩ := list7 hl
  have hcs' : cs.toList = [c0, c1, c2, c3, c4, c5, c6] := hcl
  have hcA : cs = #[c0, c1, c2, c3, c4, c5, c6] := by rw [← Array.toArray_toList (xs := cs), hcs']
  subst hcA
  have f0 := hf 0 _ rfl
  have f1 := hf 1 _ rfl
  have f2 := hf 2 _ rfl
  have f3 := hf 3 _ rfl
  have f4 := hf 4 _ rfl
  have f5 := hf 5 _ rfl
  have f6 := hf 6 _ rfl
  obtain ⟨N, rfl, hN⟩ := str_of_trod f0
  obtain ⟨a, rfl⟩ := int_of_trod f1
  obtain ⟨b, rfl⟩ := int_of_trod f2
  obtain ⟨T, rfl, hT⟩ := str_of_trod f3
  have _ : Inhabited Exp := ⟨⟨⟨#[]⟩, 0⟩⟩
  have _ : Inhabited Imp := ⟨⟨⟨#[]⟩, ⟨#[]⟩, 0, 0⟩⟩
  have _ : Inhabited Pat := ⟨⟨0, 0, 0, 0⟩⟩
  obtain ⟨es, hE, gE⟩ := row_of_trod (cells := Exp.cell) Tryz.underlying22 (sz := 2) (by kernel_rfl) (by decide) exp_of_trod f4
  obtain ⟨is, hI, gI⟩ := row_of_trod (cells := Imp.cell) Tryz.underlying28 (sz := 4) (by kernel_rfl) (by decide) imp_of_trod f5
  obtain ⟨ps, hP, _⟩ := row_of_trod (cells := Pat.cell) Tryz.underlying29 (sz := 4) (by kernel_rfl) (by decide) pat_of_trod f6
  exact ⟨⟨N, a, b, T, es, is, ps⟩, ⟨c4, c5, c6, rfl, hE, hI, hP⟩, hN, hT, gE, gI⟩
end

end Go.Proofs.YthmohjgdcjafkaeGreat

/- Placed modules and imports that came in. -/
namespace Go.Proofs.YthmohjgdcjafkaeGreat
open Go.ChangeShapes Go.WideShapes Go.ChangeAt Go.RowKit Go.PlainAid Go.Deep

set_option maxRecDepth 100000

theorem list3 {α : Type} {l : List α} (h : l.length = 3) : ∃ a b c, l = [a, b, c] := by
  match l, h with
  | [a, b, c], _ => exact ⟨a, b, c, rfl⟩
theorem list8 {α : Type} {l : List α} (h : l.length = 8) : ∃ a b c d e f g k, l = [a, b, c, d, e, f, g, k] := by
  match l, h with
  | [a, b, c, d, e, f, g, k], _ => exact ⟨a, b, c, d, e, f, g, k, rfl⟩

section
variable {H : Type} {enc : TypeId × Value → H} {W : World} {spare : Nat → Bool} {held : Bool}

theorem mod_of_trod (n : Nat) (c0 c1 c2 c3 c4 c5 c6 : Value) (z : DataW H × List MemPlace) (h : DataW.trod enc Tryz.prog W 0 spare held n 31 [c0, c1, c2, c3, c4, c5, c6] = some z) :
    ∃ M : Mod, c0 = .string M.name ∧ c1 = .int .i64 M.major ∧ c2 = .int .i64 M.minor ∧ c3 = .string M.text ∧ RowOf 2 Exp.cell W.heap.size W c4 M.exps ∧ RowOf 4 Imp.cell W.heap.size W c5 M.imps ∧ RowOf 4 Pat.cell W.heap.size W c6 M.pats ∧ M.fits := by
  obtain ⟨xs, m, _, _, _, hlen, hf⟩ := DataW.trod_struct Tryz.underlying31 h
  obtain ⟨x0, x1, x2, x3, x4, x5, x6, rfl⟩ := list7 hlen
  have f0 := hf 0 _ rfl
  have f1 := hf 1 _ rfl
  have f2 := hf 2 _ rfl
  have f3 := hf 3 _ rfl
  have f4 := hf 4 _ rfl
  have f5 := hf 5 _ rfl
  have f6 := hf 6 _ rfl
  obtain ⟨N, rfl, hN⟩ := str_of_trod f0
  obtain ⟨a, rfl⟩ := int_of_trod f1
  obtain ⟨b, rfl⟩ := int_of_trod f2
  obtain ⟨T, rfl, hT⟩ := str_of_trod f3
  have _ : Inhabited Exp := ⟨⟨⟨#[]⟩, 0⟩⟩
  have _ : Inhabited Imp := ⟨⟨⟨#[]⟩, ⟨#[]⟩, 0, 0⟩⟩
  have _ : Inhabited Pat := ⟨⟨0, 0, 0, 0⟩⟩
  obtain ⟨es, hE, gE⟩ := row_of_trod (cells := Exp.cell) Tryz.underlying22 (sz := 2) (by kernel_rfl) (by decide) exp_of_trod f4
  obtain ⟨is, hI, gI⟩ := row_of_trod (cells := Imp.cell) Tryz.underlying28 (sz := 4) (by kernel_rfl) (by decide) imp_of_trod f5
  obtain ⟨ps, hP, _⟩ := row_of_trod (cells := Pat.cell) Tryz.underlying29 (sz := 4) (by kernel_rfl) (by decide) pat_of_trod f6
  exact ⟨⟨N, a, b, T, es, is, ps⟩, rfl, rfl, rfl, rfl, hE, hI, hP, hN, hT, gE, gI⟩

theorem plc_of_trod (n : Nat) (cs : List Value) (z : DataW H × List MemPlace) (hl : cs.length = 8) (h : DataW.trod enc Tryz.prog W 0 spare held n 54 cs = some z) : ∃ x : PV, (∀ i, i < 8 → cs[i]? = some (PV.cell x i)) ∧ (PlcAt W.heap.size W x ∧ x.mod.fits) := by
  obtain ⟨xs, m, _, _, _, hlen, hf⟩ := DataW.trod_struct Tryz.underlying54 h
  obtain ⟨x0, x1, rfl⟩ := list2 hlen
  obtain ⟨c0, c1, c2, c3, c4, c5, c6, c7, rfl⟩ := list8 hl
  have h7 : Tryz.prog.cellsOf 31 = 7 := by kernel_rfl
  have f0 : DataW.trod enc Tryz.prog W 0 spare held m 31 (([c0, c1, c2, c3, c4, c5, c6, c7].drop 0).take (Tryz.prog.cellsOf 31)) = some x0 := hf 0 _ rfl
  rw [h7] at f0
  obtain ⟨M, rfl, rfl, rfl, rfl, hE, hI, hP, hF⟩ := mod_of_trod m c0 c1 c2 c3 c4 c5 c6 x0 f0
  obtain ⟨k, rfl⟩ := int_of_trod (hf 1 _ rfl)
  refine ⟨⟨M, c4, c5, c6, k⟩, fun i hi => ?_, ⟨hE, hI, hP⟩, hF⟩
  have : i = 0 ∨ i = 1 ∨ i = 2 ∨ i = 3 ∨ i = 4 ∨ i = 5 ∨ i = 6 ∨ i = 7 := by omega
  rcases this with rfl | rfl | rfl | rfl | rfl | rfl | rfl | rfl <;> rfl

theorem open_import {v : Value} {d : DataW H} {ps : List MemPlace} {base : Nat} (hv : Value.okWide Tryz.prog W .any base 100 v) (h : DataW.Trod enc Tryz.prog W 0 spare held 100 v d ps) : ∃ i : Imp, v = .agg #[.string i.mod, .string i.name, .int .i64 i.major, .int .i64 i.minor] ∧ i.fits := by
  obtain ⟨cs, rfl, hcs⟩ := okWide_struct Tryz.underlying100 hv
  obtain ⟨fuel, hf⟩ := h
  obtain ⟨xs, m, _, _, hl, hlen, hf⟩ := DataW.trod_struct Tryz.underlying100 hf
  have hc4 : Tryz.prog.cellsOf 100 = 4 := by kernel_rfl
  obtain ⟨x0, x1, x2, x3, rfl⟩ := list4 hlen
  rw [hc4] at hl
  obtain ⟨c0, c1, c2, c3, hcl⟩ := list4 hl
  have hcs' : cs.toList = [c0, c1, c2, c3] := hcl
  have hcA : cs = #[c0, c1, c2, c3] := by rw [← Array.toArray_toList (xs := cs), hcs']
  subst hcA
  obtain ⟨s, rfl, hs⟩ := str_of_trod (hf 0 _ rfl)
  obtain ⟨t, rfl, ht⟩ := str_of_trod (hf 1 _ rfl)
  obtain ⟨a, rfl⟩ := int_of_trod (hf 2 _ rfl)
  obtain ⟨b, rfl⟩ := int_of_trod (hf 3 _ rfl)
  exact ⟨⟨s, t, a, b⟩, rfl, hs, ht⟩

theorem open_plc {v : Value} {d : DataW H} {ps : List MemPlace} {base : Nat} (hv : Value.okWide Tryz.prog W .any base 54 v) (h : DataW.Trod enc Tryz.prog W 0 spare held 54 v d ps) : ∃ x : PV, v = x.val ∧ PlcAt W.heap.size W x ∧ x.mod.fits := by
  obtain ⟨cs, rfl, hcs⟩ := okWide_struct Tryz.underlying54 hv
  obtain ⟨fuel, hf⟩ := h
  have hl := (DataW.trod_struct Tryz.underlying54 hf)
  obtain ⟨_, _, _, _, hl, _, _⟩ := hl
  have hc8 : Tryz.prog.cellsOf 54 = 8 := by kernel_rfl
  rw [hc8] at hl
  obtain ⟨x, hx, g1, g2⟩ := plc_of_trod _ _ _ hl hf
  obtain ⟨c0, c1, c2, c3, c4, c5, c6, c7, hcl⟩ := list8 hl
  have hcs' : cs.toList = [c0, c1, c2, c3, c4, c5, c6, c7] := hcl
  have hcA : cs = #[c0, c1, c2, c3, c4, c5, c6, c7] := by rw [← Array.toArray_toList (xs := cs), hcs']
  subst hcA
  have e0 : c0 = _ := Option.some.inj (hx 0 (by omega))
  have e1 : c1 = _ := Option.some.inj (hx 1 (by omega))
  have e2 : c2 = _ := Option.some.inj (hx 2 (by omega))
  have e3 : c3 = _ := Option.some.inj (hx 3 (by omega))
  have e4 : c4 = _ := Option.some.inj (hx 4 (by omega))
  have e5 : c5 = _ := Option.some.inj (hx 5 (by omega))
  have e6 : c6 = _ := Option.some.inj (hx 6 (by omega))
  have e7 : c7 = _ := Option.some.inj (hx 7 (by omega))
  subst e0 e1 e2 e3 e4 e5 e6 e7
  exact ⟨x, rfl, g1, g2⟩

theorem open_placed {v : Value} {d : DataW H} {ps : List MemPlace} {base : Nat} (hv : Value.okWide Tryz.prog W .any base 25 v) (h : DataW.Trod enc Tryz.prog W 0 spare held 25 v d ps) : ∃ l : List PV, IsPlcs W.heap.size W v l ∧ ∀ x ∈ l, x.mod.fits := by
  obtain ⟨a, ln, cp, rfl⟩ := okWide_slice Tryz.underlying25 hv
  obtain ⟨fuel, hf⟩ := h
  have _ : Inhabited PV := ⟨⟨⟨⟨#[]⟩, 0, 0, ⟨#[]⟩, [], [], []⟩, .slice none 0 0, .slice none 0 0, .slice none 0 0, 0⟩⟩
  obtain ⟨l, hL, gL⟩ := row_of_trod (α := PV) (cells := PV.cell) (good := fun x => PlcAt W.heap.size W x ∧ x.mod.fits) (c := .slice a ln cp) Tryz.underlying25 (sz := 8) (by kernel_rfl) (by decide) plc_of_trod hf
  exact ⟨l, ⟨hL, fun x hx => (gL x hx).1⟩, fun x hx => (gL x hx).2⟩
end

end Go.Proofs.YthmohjgdcjafkaeGreat

/- Kernels that came in. -/
namespace Go.Proofs.YthmohjgdcjafkaeGreat
open Go.ChangeShapes Go.WideShapes Go.ChangeAt Go.RowKit Go.PlainAid Go.Deep

set_option maxRecDepth 100000

section
variable {H : Type} {enc : TypeId × Value → H} {W : World} {spare : Nat → Bool} {held : Bool}

theorem open_kernel {v : Value} {d : DataW H} {ps : List MemPlace} {base : Nat} (hv : Value.okWide Tryz.prog W .any base 24 v) (h : DataW.Trod enc Tryz.prog W 0 spare held 24 v d ps) : ∃ K, IsKer W.heap.size W v K ∧ K.fits := by
  obtain ⟨cs, rfl, hcs⟩ := okWide_struct Tryz.underlying24 hv
  obtain ⟨fuel, hf⟩ := h
  obtain ⟨xs, m, _, _, hl, hlen, hf⟩ := DataW.trod_struct Tryz.underlying24 hf
  have hc3 : Tryz.prog.cellsOf 24 = 3 := by kernel_rfl
  obtain ⟨x0, x1, x2, rfl⟩ := list3 hlen
  rw [hc3] at hl
  obtain ⟨c0, c1, c2, hcl⟩ := list3 hl
  have hcs' : cs.toList = [c0, c1, c2] := hcl
  have hcA : cs = #[c0, c1, c2] := by rw [← Array.toArray_toList (xs := cs), hcs']
  subst hcA
  have f0 := hf 0 _ rfl
  have f1 := hf 1 _ rfl
  have f2 := hf 2 _ rfl
  obtain ⟨a, rfl⟩ := int_of_trod f0
  obtain ⟨b, rfl⟩ := int_of_trod f1
  have _ : Inhabited Exp := ⟨⟨⟨#[]⟩, 0⟩⟩
  obtain ⟨es, hE, gE⟩ := row_of_trod (cells := Exp.cell) Tryz.underlying22 (sz := 2) (by kernel_rfl) (by decide) exp_of_trod f2
  exact ⟨⟨a, b, es⟩, ⟨c2, rfl, hE⟩, gE⟩

end

end Go.Proofs.YthmohjgdcjafkaeGreat
