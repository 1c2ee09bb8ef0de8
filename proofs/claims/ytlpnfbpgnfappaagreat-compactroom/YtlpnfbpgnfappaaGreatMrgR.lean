/- Texts that are laid together. -/
import Derived.Test.YtlpnfbpgnfappaaGreatMrgQ
import Derived.Test.YtlpnfbpgnfappaaGreatMrgC
import Derived.Lib.QuietBelow
import Derived.Test.YtlpnfbpgnfappaaGreatMrgO

/- The contracts of package plan's Install, Remove and Upgrade. Printed by genplk.py. -/
namespace Go.Proofs.YtlpnfbpgnfappaaGreat
open Go.RowKit Go.PlainAid Go.Lib

set_option maxRecDepth 100000

set_option maxHeartbeats 16000000 in
theorem plInstall_any (K : Ker) (l : List PV) (v : Value) (M : Mod) (vm : Value) (w : World) (hreg : IsReg w.heap.size w v K l) (hf : K.fits) (hfit : ∀ x ∈ l, x.mod.fits) (hm : IsMod w.heap.size w vm M) (hmf : M.fits) :
    Calls Tryz.prog 6 #[v, vm] w fun e w' => (∃ (v' : Value) (l' : List PV), e = .returned (.tuple #[v', .int .i64 (planRes K (l.map PV.plc) (instDo (l.map PV.plc) M)).2]) ∧ l'.map PV.plc = (planRes K (l.map PV.plc) (instDo (l.map PV.plc) M)).1.2 ∧ (∀ x ∈ l', x.mod.fits) ∧ OwnsReg w.heap.size w' v' (planRes K (l.map PV.plc) (instDo (l.map PV.plc) M)).1.1 l') ∧ Below w.heap.size w w' := by
  have HR0 : Hid (IsReg w.heap.size w v K l) := hreg
  obtain ⟨ve, vl, rfl, hE, hL⟩ := hreg
  obtain ⟨qe, je, rfl, -, -⟩ := hE
  obtain ⟨⟨a, cap, rfl, -, -⟩, -⟩ := hL
  generalize hlk : K.exps.length = lk at *
  have HM0 : Hid (IsMod w.heap.size w vm M) := hm
  obtain ⟨vxe, vxi, vxp, rfl, hxE, hxI, hxP⟩ := hm
  obtain ⟨pe, ke, e4, -⟩ := hxE
  obtain ⟨pi, ki, e5, -⟩ := hxI
  obtain ⟨pp, kp, e6, -⟩ := hxP
  subst e4 e5 e6
  have hB1 : Below w.heap.size w (((w.alloc (.cells #[.int .i64 K.major, .int .i64 K.minor, .slice qe lk je, .slice a l.length cap] 27)).alloc (.cells #[.string M.name, .int .i64 M.major, .int .i64 M.minor, .string M.text, .slice pe M.exps.length ke, .slice pi M.imps.length ki, .slice pp M.pats.length kp] 31)).alloc (.cells #[.int .i64 0, .int .i64 0, .slice none 0 0, .slice none 0 0] 27)) := (((Below.refl _ _).alloc (Nat.le_refl _) _).alloc (by simp) _).alloc (by simp; omega) _
  have hC1 : CellsAt (((w.alloc (.cells #[.int .i64 K.major, .int .i64 K.minor, .slice qe lk je, .slice a l.length cap] 27)).alloc (.cells #[.string M.name, .int .i64 M.major, .int .i64 M.minor, .string M.text, .slice pe M.exps.length ke, .slice pi M.imps.length ki, .slice pp M.pats.length kp] 31)).alloc (.cells #[.int .i64 0, .int .i64 0, .slice none 0 0, .slice none 0 0] 27)) w.heap.size 27 #[.int .i64 K.major, .int .i64 K.minor, .slice qe lk je, .slice a l.length cap] := ((CellsAt.new w 27 #[.int .i64 K.major, .int .i64 K.minor, .slice qe lk je, .slice a l.length cap]).kept (World.grownBy_alloc _ _ none) (by simp)).kept (World.grownBy_alloc _ _ none) (by simp)
  have hD1 : CellsAt (((w.alloc (.cells #[.int .i64 K.major, .int .i64 K.minor, .slice qe lk je, .slice a l.length cap] 27)).alloc (.cells #[.string M.name, .int .i64 M.major, .int .i64 M.minor, .string M.text, .slice pe M.exps.length ke, .slice pi M.imps.length ki, .slice pp M.pats.length kp] 31)).alloc (.cells #[.int .i64 0, .int .i64 0, .slice none 0 0, .slice none 0 0] 27)) (w.heap.size + 1) 31 #[.string M.name, .int .i64 M.major, .int .i64 M.minor, .string M.text, .slice pe M.exps.length ke, .slice pi M.imps.length ki, .slice pp M.pats.length kp] := by
    have := (CellsAt.new (w.alloc (.cells #[.int .i64 K.major, .int .i64 K.minor, .slice qe lk je, .slice a l.length cap] 27)) 31 #[.string M.name, .int .i64 M.major, .int .i64 M.minor, .string M.text, .slice pe M.exps.length ke, .slice pi M.imps.length ki, .slice pp M.pats.length kp]).kept (World.grownBy_alloc _ (.cells #[.int .i64 0, .int .i64 0, .slice none 0 0, .slice none 0 0] 27) none) (by simp)
    rw [World.size_alloc] at this
    exact this
  have hZ1 : CellsAt (((w.alloc (.cells #[.int .i64 K.major, .int .i64 K.minor, .slice qe lk je, .slice a l.length cap] 27)).alloc (.cells #[.string M.name, .int .i64 M.major, .int .i64 M.minor, .string M.text, .slice pe M.exps.length ke, .slice pi M.imps.length ki, .slice pp M.pats.length kp] 31)).alloc (.cells #[.int .i64 0, .int .i64 0, .slice none 0 0, .slice none 0 0] 27)) (w.heap.size + 2) 27 #[.int .i64 0, .int .i64 0, .slice none 0 0, .slice none 0 0] := by
    have := CellsAt.new ((w.alloc (.cells #[.int .i64 K.major, .int .i64 K.minor, .slice qe lk je, .slice a l.length cap] 27)).alloc (.cells #[.string M.name, .int .i64 M.major, .int .i64 M.minor, .string M.text, .slice pe M.exps.length ke, .slice pi M.imps.length ki, .slice pp M.pats.length kp] 31)) 27 #[.int .i64 0, .int .i64 0, .slice none 0 0, .slice none 0 0]
    rw [World.size_alloc, World.size_alloc] at this
    exact this
  have hs1 : ((((w.alloc (.cells #[.int .i64 K.major, .int .i64 K.minor, .slice qe lk je, .slice a l.length cap] 27)).alloc (.cells #[.string M.name, .int .i64 M.major, .int .i64 M.minor, .string M.text, .slice pe M.exps.length ke, .slice pi M.imps.length ki, .slice pp M.pats.length kp] 31)).alloc (.cells #[.int .i64 0, .int .i64 0, .slice none 0 0, .slice none 0 0] 27))).heap.size = w.heap.size + 3 := by simp
  obtain ⟨PR, hPR⟩ : ∃ PR, PR = planRes K (l.map PV.plc) (instDo (l.map PV.plc) M) := ⟨_, rfl⟩
  rw [← hPR]
  have HPK : Hid (Calls Tryz.prog 36 #[.agg #[.int .i64 K.major, .int .i64 K.minor, .slice qe lk je, .slice a l.length cap], .func (.func 37) #[] #[.pointer (some ⟨w.heap.size + 1, 0, none⟩)]] (((w.alloc (.cells #[.int .i64 K.major, .int .i64 K.minor, .slice qe lk je, .slice a l.length cap] 27)).alloc (.cells #[.string M.name, .int .i64 M.major, .int .i64 M.minor, .string M.text, .slice pe M.exps.length ke, .slice pi M.imps.length ki, .slice pp M.pats.length kp] 31)).alloc (.cells #[.int .i64 0, .int .i64 0, .slice none 0 0, .slice none 0 0] 27)) fun e w' => (∃ (v' : Value) (l' : List PV), e = .returned (.tuple #[v', .int .i64 PR.2]) ∧ l'.map PV.plc = PR.1.2 ∧ (∀ x ∈ l', x.mod.fits) ∧ OwnsReg (w.heap.size + 3) w' v' PR.1.1 l') ∧ Below (w.heap.size + 3) (((w.alloc (.cells #[.int .i64 K.major, .int .i64 K.minor, .slice qe lk je, .slice a l.length cap] 27)).alloc (.cells #[.string M.name, .int .i64 M.major, .int .i64 M.minor, .string M.text, .slice pe M.exps.length ke, .slice pi M.imps.length ki, .slice pp M.pats.length kp] 31)).alloc (.cells #[.int .i64 0, .int .i64 0, .slice none 0 0, .slice none 0 0] 27)) w') := by
    have h := planned_any K l (.agg #[.int .i64 K.major, .int .i64 K.minor, .slice qe lk je, .slice a l.length cap]) (((w.alloc (.cells #[.int .i64 K.major, .int .i64 K.minor, .slice qe lk je, .slice a l.length cap] 27)).alloc (.cells #[.string M.name, .int .i64 M.major, .int .i64 M.minor, .string M.text, .slice pe M.exps.length ke, .slice pi M.imps.length ki, .slice pp M.pats.length kp] 31)).alloc (.cells #[.int .i64 0, .int .i64 0, .slice none 0 0, .slice none 0 0] 27)) ((HR0.out.below hB1).more hB1.size) hf hfit 37 (.pointer (some ⟨w.heap.size + 1, 0, none⟩)) (fun W x => enters_of Tryz.func37 (by kernel_rfl) rfl _ W) (instDo (l.map PV.plc) M) (fun h0 W Bp ve vl l0 hb hbp hp hpl hf0 hl0 h8 => by
      rw [hs1] at hbp hp ⊢
      have h0' : chkRg K (l0.map PV.plc) = 0 := by rw [hpl]; exact h0
      have hb0 := CellsAt.below hD1 hb (by rw [hs1]; omega)
      rw [← hpl]
      have hm1 := ((HM0.out.below hB1).more hB1.size).below hb
      rw [hs1] at hm1
      have hsz : w.heap.size + 3 ≤ W.heap.size := by have := hb.size; rw [hs1] at this; exact this
      exact plInst1_any (w.heap.size + 3) Bp (w.heap.size + 1) K ve vl l0 M _ _ W hp hl0 h8 hf0 (rg_lens h0').2.2.2 hbp rfl hb0 (hm1.more hsz) hmf)
    rw [hs1, ← hPR] at h
    exact h
  obtain ⟨⟨AK, AL⟩, ae⟩ := PR
  dsimp only at *
  clear hPR
  have HB1 : Hid (Below w.heap.size w (((w.alloc (.cells #[.int .i64 K.major, .int .i64 K.minor, .slice qe lk je, .slice a l.length cap] 27)).alloc (.cells #[.string M.name, .int .i64 M.major, .int .i64 M.minor, .string M.text, .slice pe M.exps.length ke, .slice pi M.imps.length ki, .slice pp M.pats.length kp] 31)).alloc (.cells #[.int .i64 0, .int .i64 0, .slice none 0 0, .slice none 0 0] 27))) := hB1
  have HZ1 : Hid (CellsAt (((w.alloc (.cells #[.int .i64 K.major, .int .i64 K.minor, .slice qe lk je, .slice a l.length cap] 27)).alloc (.cells #[.string M.name, .int .i64 M.major, .int .i64 M.minor, .string M.text, .slice pe M.exps.length ke, .slice pi M.imps.length ki, .slice pp M.pats.length kp] 31)).alloc (.cells #[.int .i64 0, .int .i64 0, .slice none 0 0, .slice none 0 0] 27)) (w.heap.size + 2) 27 #[.int .i64 0, .int .i64 0, .slice none 0 0, .slice none 0 0]) := hZ1
  have c0 := CellsAt.cell hC1 0
  have c1 := CellsAt.cell hC1 1
  have c2 := CellsAt.cell hC1 2
  have c3 := CellsAt.cell hC1 3
  have lc := CellsAt.lt hC1
  clear hB1 hC1 hD1 hZ1 HR0 hf hfit HM0 hmf
  go_enter Tryz.func6, Tryz.ntmps6
  go_wp2_with fail
  refine HPK.out.mono ?_
  clear c0 c1 c2 c3 lc
  generalize (((w.alloc (.cells #[.int .i64 K.major, .int .i64 K.minor, .slice qe lk je, .slice a l.length cap] 27)).alloc (.cells #[.string M.name, .int .i64 M.major, .int .i64 M.minor, .string M.text, .slice pe M.exps.length ke, .slice pi M.imps.length ki, .slice pp M.pats.length kp] 31)).alloc (.cells #[.int .i64 0, .int .i64 0, .slice none 0 0, .slice none 0 0] 27)) = w1 at *
  rintro e w2 ⟨⟨v', l', rfl, hpl, hft, ho⟩, hb⟩
  have HO2 : Hid (OwnsReg (w.heap.size + 3) w2 v' AK l') := ho
  have HB2 : Hid (Below w.heap.size w w2) := HB1.out.trans (hb.mono (by omega))
  have HZ2 : Hid (CellsAt w2 (w.heap.size + 2) 27 #[.int .i64 0, .int .i64 0, .slice none 0 0, .slice none 0 0]) := CellsAt.below HZ1.out hb (by omega)
  have HPL : Hid (l'.map PV.plc = AL) := hpl
  have HFT : Hid (∀ x ∈ l', x.mod.fits) := hft
  obtain ⟨ve2, vl2, rfl, oe, ol, -⟩ := ho
  obtain ⟨ea, ec, rfl⟩ := own_form oe
  obtain ⟨pa, pc, rfl⟩ := own_form ol
  generalize hak : AK.exps.length = ak at *
  have z0 := CellsAt.cell HZ2.out 0
  have z1 := CellsAt.cell HZ2.out 1
  have z2 := CellsAt.cell HZ2.out 2
  have z3 := CellsAt.cell HZ2.out 3
  have f0 := CellsAt.frozen HZ2.out 0
  have f1 := CellsAt.frozen HZ2.out 1
  have f2 := CellsAt.frozen HZ2.out 2
  have f3 := CellsAt.frozen HZ2.out 3
  have lz := CellsAt.lt HZ2.out
  simp at z0 z1 z2 z3
  clear HPK HB1 HZ1 hb hpl hft oe ol hs1
  go_wp2
  have hZ9 := sets4 HZ2.out (.int .i64 AK.major) (.int .i64 AK.minor) (.slice ea ak ec) (.slice pa l'.length pc)
  have hG9 := sets4_grown w2 (w.heap.size + 2) (.int .i64 AK.major) (.int .i64 AK.minor) (.slice ea ak ec) (.slice pa l'.length pc)
  refine bodyPost_ret (results_cell_tmp_row rfl _ _ _ _ _ _ _ rfl hZ9 Tryz.underlying27 rfl (by kernel_rfl)) rfl ?_
  exact ⟨⟨_, l', rfl, HPL.out, HFT.out, (HO2.out.beCell HZ2.out (by decide) (by decide) (by decide) (by decide) hG9).lower (b := w.heap.size) (by omega)⟩, HB2.out.grown hG9 HB2.out.size (fun q hq => by obtain rfl := Option.some.inj hq; omega)⟩

set_option maxHeartbeats 16000000 in
theorem plRemove_any (K : Ker) (l : List PV) (v : Value) (name : ByteArray) (w : World) (hreg : IsReg w.heap.size w v K l) (hf : K.fits) (hfit : ∀ x ∈ l, x.mod.fits) :
    Calls Tryz.prog 7 #[v, .string name] w fun e w' => (∃ (v' : Value) (l' : List PV), e = .returned (.tuple #[v', .int .i64 (planRes K (l.map PV.plc) (remDo (l.map PV.plc) name)).2]) ∧ l'.map PV.plc = (planRes K (l.map PV.plc) (remDo (l.map PV.plc) name)).1.2 ∧ (∀ x ∈ l', x.mod.fits) ∧ OwnsReg w.heap.size w' v' (planRes K (l.map PV.plc) (remDo (l.map PV.plc) name)).1.1 l') ∧ Below w.heap.size w w' := by
  have HR0 : Hid (IsReg w.heap.size w v K l) := hreg
  obtain ⟨ve, vl, rfl, hE, hL⟩ := hreg
  obtain ⟨qe, je, rfl, -, -⟩ := hE
  obtain ⟨⟨a, cap, rfl, -, -⟩, -⟩ := hL
  generalize hlk : K.exps.length = lk at *
  have hB1 : Below w.heap.size w (((w.alloc (.cells #[.int .i64 K.major, .int .i64 K.minor, .slice qe lk je, .slice a l.length cap] 27)).alloc (.cells #[.string name] 9)).alloc (.cells #[.int .i64 0, .int .i64 0, .slice none 0 0, .slice none 0 0] 27)) := (((Below.refl _ _).alloc (Nat.le_refl _) _).alloc (by simp) _).alloc (by simp; omega) _
  have hC1 : CellsAt (((w.alloc (.cells #[.int .i64 K.major, .int .i64 K.minor, .slice qe lk je, .slice a l.length cap] 27)).alloc (.cells #[.string name] 9)).alloc (.cells #[.int .i64 0, .int .i64 0, .slice none 0 0, .slice none 0 0] 27)) w.heap.size 27 #[.int .i64 K.major, .int .i64 K.minor, .slice qe lk je, .slice a l.length cap] := ((CellsAt.new w 27 #[.int .i64 K.major, .int .i64 K.minor, .slice qe lk je, .slice a l.length cap]).kept (World.grownBy_alloc _ _ none) (by simp)).kept (World.grownBy_alloc _ _ none) (by simp)
  have hD1 : CellsAt (((w.alloc (.cells #[.int .i64 K.major, .int .i64 K.minor, .slice qe lk je, .slice a l.length cap] 27)).alloc (.cells #[.string name] 9)).alloc (.cells #[.int .i64 0, .int .i64 0, .slice none 0 0, .slice none 0 0] 27)) (w.heap.size + 1) 9 #[.string name] := by
    have := (CellsAt.new (w.alloc (.cells #[.int .i64 K.major, .int .i64 K.minor, .slice qe lk je, .slice a l.length cap] 27)) 9 #[.string name]).kept (World.grownBy_alloc _ (.cells #[.int .i64 0, .int .i64 0, .slice none 0 0, .slice none 0 0] 27) none) (by simp)
    rw [World.size_alloc] at this
    exact this
  have hZ1 : CellsAt (((w.alloc (.cells #[.int .i64 K.major, .int .i64 K.minor, .slice qe lk je, .slice a l.length cap] 27)).alloc (.cells #[.string name] 9)).alloc (.cells #[.int .i64 0, .int .i64 0, .slice none 0 0, .slice none 0 0] 27)) (w.heap.size + 2) 27 #[.int .i64 0, .int .i64 0, .slice none 0 0, .slice none 0 0] := by
    have := CellsAt.new ((w.alloc (.cells #[.int .i64 K.major, .int .i64 K.minor, .slice qe lk je, .slice a l.length cap] 27)).alloc (.cells #[.string name] 9)) 27 #[.int .i64 0, .int .i64 0, .slice none 0 0, .slice none 0 0]
    rw [World.size_alloc, World.size_alloc] at this
    exact this
  have hs1 : ((((w.alloc (.cells #[.int .i64 K.major, .int .i64 K.minor, .slice qe lk je, .slice a l.length cap] 27)).alloc (.cells #[.string name] 9)).alloc (.cells #[.int .i64 0, .int .i64 0, .slice none 0 0, .slice none 0 0] 27))).heap.size = w.heap.size + 3 := by simp
  obtain ⟨PR, hPR⟩ : ∃ PR, PR = planRes K (l.map PV.plc) (remDo (l.map PV.plc) name) := ⟨_, rfl⟩
  rw [← hPR]
  have HPK : Hid (Calls Tryz.prog 36 #[.agg #[.int .i64 K.major, .int .i64 K.minor, .slice qe lk je, .slice a l.length cap], .func (.func 41) #[] #[.pointer (some ⟨w.heap.size + 1, 0, none⟩)]] (((w.alloc (.cells #[.int .i64 K.major, .int .i64 K.minor, .slice qe lk je, .slice a l.length cap] 27)).alloc (.cells #[.string name] 9)).alloc (.cells #[.int .i64 0, .int .i64 0, .slice none 0 0, .slice none 0 0] 27)) fun e w' => (∃ (v' : Value) (l' : List PV), e = .returned (.tuple #[v', .int .i64 PR.2]) ∧ l'.map PV.plc = PR.1.2 ∧ (∀ x ∈ l', x.mod.fits) ∧ OwnsReg (w.heap.size + 3) w' v' PR.1.1 l') ∧ Below (w.heap.size + 3) (((w.alloc (.cells #[.int .i64 K.major, .int .i64 K.minor, .slice qe lk je, .slice a l.length cap] 27)).alloc (.cells #[.string name] 9)).alloc (.cells #[.int .i64 0, .int .i64 0, .slice none 0 0, .slice none 0 0] 27)) w') := by
    have h := planned_any K l (.agg #[.int .i64 K.major, .int .i64 K.minor, .slice qe lk je, .slice a l.length cap]) (((w.alloc (.cells #[.int .i64 K.major, .int .i64 K.minor, .slice qe lk je, .slice a l.length cap] 27)).alloc (.cells #[.string name] 9)).alloc (.cells #[.int .i64 0, .int .i64 0, .slice none 0 0, .slice none 0 0] 27)) ((HR0.out.below hB1).more hB1.size) hf hfit 41 (.pointer (some ⟨w.heap.size + 1, 0, none⟩)) (fun W x => enters_of Tryz.func41 (by kernel_rfl) rfl _ W) (remDo (l.map PV.plc) name) (fun h0 W Bp ve vl l0 hb hbp hp hpl hf0 hl0 h8 => by
      rw [hs1] at hbp hp ⊢
      have h0' : chkRg K (l0.map PV.plc) = 0 := by rw [hpl]; exact h0
      have hb0 := CellsAt.below hD1 hb (by rw [hs1]; omega)
      rw [← hpl]
      exact plRem1_any (w.heap.size + 3) Bp (w.heap.size + 1) K ve vl l0 name W hp hl0 hf0 (rg_graph h0') hbp hb0)
    rw [hs1, ← hPR] at h
    exact h
  obtain ⟨⟨AK, AL⟩, ae⟩ := PR
  dsimp only at *
  clear hPR
  have HB1 : Hid (Below w.heap.size w (((w.alloc (.cells #[.int .i64 K.major, .int .i64 K.minor, .slice qe lk je, .slice a l.length cap] 27)).alloc (.cells #[.string name] 9)).alloc (.cells #[.int .i64 0, .int .i64 0, .slice none 0 0, .slice none 0 0] 27))) := hB1
  have HZ1 : Hid (CellsAt (((w.alloc (.cells #[.int .i64 K.major, .int .i64 K.minor, .slice qe lk je, .slice a l.length cap] 27)).alloc (.cells #[.string name] 9)).alloc (.cells #[.int .i64 0, .int .i64 0, .slice none 0 0, .slice none 0 0] 27)) (w.heap.size + 2) 27 #[.int .i64 0, .int .i64 0, .slice none 0 0, .slice none 0 0]) := hZ1
  have c0 := CellsAt.cell hC1 0
  have c1 := CellsAt.cell hC1 1
  have c2 := CellsAt.cell hC1 2
  have c3 := CellsAt.cell hC1 3
  have lc := CellsAt.lt hC1
  clear hB1 hC1 hD1 hZ1 HR0 hf hfit
  go_enter Tryz.func7, Tryz.ntmps7
  go_wp2_with fail
  refine HPK.out.mono ?_
  clear c0 c1 c2 c3 lc
  generalize (((w.alloc (.cells #[.int .i64 K.major, .int .i64 K.minor, .slice qe lk je, .slice a l.length cap] 27)).alloc (.cells #[.string name] 9)).alloc (.cells #[.int .i64 0, .int .i64 0, .slice none 0 0, .slice none 0 0] 27)) = w1 at *
  rintro e w2 ⟨⟨v', l', rfl, hpl, hft, ho⟩, hb⟩
  have HO2 : Hid (OwnsReg (w.heap.size + 3) w2 v' AK l') := ho
  have HB2 : Hid (Below w.heap.size w w2) := HB1.out.trans (hb.mono (by omega))
  have HZ2 : Hid (CellsAt w2 (w.heap.size + 2) 27 #[.int .i64 0, .int .i64 0, .slice none 0 0, .slice none 0 0]) := CellsAt.below HZ1.out hb (by omega)
  have HPL : Hid (l'.map PV.plc = AL) := hpl
  have HFT : Hid (∀ x ∈ l', x.mod.fits) := hft
  obtain ⟨ve2, vl2, rfl, oe, ol, -⟩ := ho
  obtain ⟨ea, ec, rfl⟩ := own_form oe
  obtain ⟨pa, pc, rfl⟩ := own_form ol
  generalize hak : AK.exps.length = ak at *
  have z0 := CellsAt.cell HZ2.out 0
  have z1 := CellsAt.cell HZ2.out 1
  have z2 := CellsAt.cell HZ2.out 2
  have z3 := CellsAt.cell HZ2.out 3
  have f0 := CellsAt.frozen HZ2.out 0
  have f1 := CellsAt.frozen HZ2.out 1
  have f2 := CellsAt.frozen HZ2.out 2
  have f3 := CellsAt.frozen HZ2.out 3
  have lz := CellsAt.lt HZ2.out
  simp at z0 z1 z2 z3
  clear HPK HB1 HZ1 hb hpl hft oe ol hs1
  go_wp2
  have hZ9 := sets4 HZ2.out (.int .i64 AK.major) (.int .i64 AK.minor) (.slice ea ak ec) (.slice pa l'.length pc)
  have hG9 := sets4_grown w2 (w.heap.size + 2) (.int .i64 AK.major) (.int .i64 AK.minor) (.slice ea ak ec) (.slice pa l'.length pc)
  refine bodyPost_ret (results_cell_tmp_row rfl _ _ _ _ _ _ _ rfl hZ9 Tryz.underlying27 rfl (by kernel_rfl)) rfl ?_
  exact ⟨⟨_, l', rfl, HPL.out, HFT.out, (HO2.out.beCell HZ2.out (by decide) (by decide) (by decide) (by decide) hG9).lower (b := w.heap.size) (by omega)⟩, HB2.out.grown hG9 HB2.out.size (fun q hq => by obtain rfl := Option.some.inj hq; omega)⟩

set_option maxHeartbeats 16000000 in
theorem plUpgrade_any (K : Ker) (l : List PV) (v : Value) (M : Mod) (vm : Value) (w : World) (hreg : IsReg w.heap.size w v K l) (hf : K.fits) (hfit : ∀ x ∈ l, x.mod.fits) (hm : IsMod w.heap.size w vm M) (hmf : M.fits) :
    Calls Tryz.prog 8 #[v, vm] w fun e w' => (∃ (v' : Value) (l' : List PV), e = .returned (.tuple #[v', .int .i64 (planRes K (l.map PV.plc) (upDo (l.map PV.plc) M)).2]) ∧ l'.map PV.plc = (planRes K (l.map PV.plc) (upDo (l.map PV.plc) M)).1.2 ∧ (∀ x ∈ l', x.mod.fits) ∧ OwnsReg w.heap.size w' v' (planRes K (l.map PV.plc) (upDo (l.map PV.plc) M)).1.1 l') ∧ Below w.heap.size w w' := by
  have HR0 : Hid (IsReg w.heap.size w v K l) := hreg
  obtain ⟨ve, vl, rfl, hE, hL⟩ := hreg
  obtain ⟨qe, je, rfl, -, -⟩ := hE
  obtain ⟨⟨a, cap, rfl, -, -⟩, -⟩ := hL
  generalize hlk : K.exps.length = lk at *
  have HM0 : Hid (IsMod w.heap.size w vm M) := hm
  obtain ⟨vxe, vxi, vxp, rfl, hxE, hxI, hxP⟩ := hm
  obtain ⟨pe, ke, e4, -⟩ := hxE
  obtain ⟨pi, ki, e5, -⟩ := hxI
  obtain ⟨pp, kp, e6, -⟩ := hxP
  subst e4 e5 e6
  have hB1 : Below w.heap.size w (((w.alloc (.cells #[.int .i64 K.major, .int .i64 K.minor, .slice qe lk je, .slice a l.length cap] 27)).alloc (.cells #[.string M.name, .int .i64 M.major, .int .i64 M.minor, .string M.text, .slice pe M.exps.length ke, .slice pi M.imps.length ki, .slice pp M.pats.length kp] 31)).alloc (.cells #[.int .i64 0, .int .i64 0, .slice none 0 0, .slice none 0 0] 27)) := (((Below.refl _ _).alloc (Nat.le_refl _) _).alloc (by simp) _).alloc (by simp; omega) _
  have hC1 : CellsAt (((w.alloc (.cells #[.int .i64 K.major, .int .i64 K.minor, .slice qe lk je, .slice a l.length cap] 27)).alloc (.cells #[.string M.name, .int .i64 M.major, .int .i64 M.minor, .string M.text, .slice pe M.exps.length ke, .slice pi M.imps.length ki, .slice pp M.pats.length kp] 31)).alloc (.cells #[.int .i64 0, .int .i64 0, .slice none 0 0, .slice none 0 0] 27)) w.heap.size 27 #[.int .i64 K.major, .int .i64 K.minor, .slice qe lk je, .slice a l.length cap] := ((CellsAt.new w 27 #[.int .i64 K.major, .int .i64 K.minor, .slice qe lk je, .slice a l.length cap]).kept (World.grownBy_alloc _ _ none) (by simp)).kept (World.grownBy_alloc _ _ none) (by simp)
  have hD1 : CellsAt (((w.alloc (.cells #[.int .i64 K.major, .int .i64 K.minor, .slice qe lk je, .slice a l.length cap] 27)).alloc (.cells #[.string M.name, .int .i64 M.major, .int .i64 M.minor, .string M.text, .slice pe M.exps.length ke, .slice pi M.imps.length ki, .slice pp M.pats.length kp] 31)).alloc (.cells #[.int .i64 0, .int .i64 0, .slice none 0 0, .slice none 0 0] 27)) (w.heap.size + 1) 31 #[.string M.name, .int .i64 M.major, .int .i64 M.minor, .string M.text, .slice pe M.exps.length ke, .slice pi M.imps.length ki, .slice pp M.pats.length kp] := by
    have := (CellsAt.new (w.alloc (.cells #[.int .i64 K.major, .int .i64 K.minor, .slice qe lk je, .slice a l.length cap] 27)) 31 #[.string M.name, .int .i64 M.major, .int .i64 M.minor, .string M.text, .slice pe M.exps.length ke, .slice pi M.imps.length ki, .slice pp M.pats.length kp]).kept (World.grownBy_alloc _ (.cells #[.int .i64 0, .int .i64 0, .slice none 0 0, .slice none 0 0] 27) none) (by simp)
    rw [World.size_alloc] at this
    exact this
  have hZ1 : CellsAt (((w.alloc (.cells #[.int .i64 K.major, .int .i64 K.minor, .slice qe lk je, .slice a l.length cap] 27)).alloc (.cells #[.string M.name, .int .i64 M.major, .int .i64 M.minor, .string M.text, .slice pe M.exps.length ke, .slice pi M.imps.length ki, .slice pp M.pats.length kp] 31)).alloc (.cells #[.int .i64 0, .int .i64 0, .slice none 0 0, .slice none 0 0] 27)) (w.heap.size + 2) 27 #[.int .i64 0, .int .i64 0, .slice none 0 0, .slice none 0 0] := by
    have := CellsAt.new ((w.alloc (.cells #[.int .i64 K.major, .int .i64 K.minor, .slice qe lk je, .slice a l.length cap] 27)).alloc (.cells #[.string M.name, .int .i64 M.major, .int .i64 M.minor, .string M.text, .slice pe M.exps.length ke, .slice pi M.imps.length ki, .slice pp M.pats.length kp] 31)) 27 #[.int .i64 0, .int .i64 0, .slice none 0 0, .slice none 0 0]
    rw [World.size_alloc, World.size_alloc] at this
    exact this
  have hs1 : ((((w.alloc (.cells #[.int .i64 K.major, .int .i64 K.minor, .slice qe lk je, .slice a l.length cap] 27)).alloc (.cells #[.string M.name, .int .i64 M.major, .int .i64 M.minor, .string M.text, .slice pe M.exps.length ke, .slice pi M.imps.length ki, .slice pp M.pats.length kp] 31)).alloc (.cells #[.int .i64 0, .int .i64 0, .slice none 0 0, .slice none 0 0] 27))).heap.size = w.heap.size + 3 := by simp
  obtain ⟨PR, hPR⟩ : ∃ PR, PR = planRes K (l.map PV.plc) (upDo (l.map PV.plc) M) := ⟨_, rfl⟩
  rw [← hPR]
  have HPK : Hid (Calls Tryz.prog 36 #[.agg #[.int .i64 K.major, .int .i64 K.minor, .slice qe lk je, .slice a l.length cap], .func (.func 44) #[] #[.pointer (some ⟨w.heap.size + 1, 0, none⟩)]] (((w.alloc (.cells #[.int .i64 K.major, .int .i64 K.minor, .slice qe lk je, .slice a l.length cap] 27)).alloc (.cells #[.string M.name, .int .i64 M.major, .int .i64 M.minor, .string M.text, .slice pe M.exps.length ke, .slice pi M.imps.length ki, .slice pp M.pats.length kp] 31)).alloc (.cells #[.int .i64 0, .int .i64 0, .slice none 0 0, .slice none 0 0] 27)) fun e w' => (∃ (v' : Value) (l' : List PV), e = .returned (.tuple #[v', .int .i64 PR.2]) ∧ l'.map PV.plc = PR.1.2 ∧ (∀ x ∈ l', x.mod.fits) ∧ OwnsReg (w.heap.size + 3) w' v' PR.1.1 l') ∧ Below (w.heap.size + 3) (((w.alloc (.cells #[.int .i64 K.major, .int .i64 K.minor, .slice qe lk je, .slice a l.length cap] 27)).alloc (.cells #[.string M.name, .int .i64 M.major, .int .i64 M.minor, .string M.text, .slice pe M.exps.length ke, .slice pi M.imps.length ki, .slice pp M.pats.length kp] 31)).alloc (.cells #[.int .i64 0, .int .i64 0, .slice none 0 0, .slice none 0 0] 27)) w') := by
    have h := planned_any K l (.agg #[.int .i64 K.major, .int .i64 K.minor, .slice qe lk je, .slice a l.length cap]) (((w.alloc (.cells #[.int .i64 K.major, .int .i64 K.minor, .slice qe lk je, .slice a l.length cap] 27)).alloc (.cells #[.string M.name, .int .i64 M.major, .int .i64 M.minor, .string M.text, .slice pe M.exps.length ke, .slice pi M.imps.length ki, .slice pp M.pats.length kp] 31)).alloc (.cells #[.int .i64 0, .int .i64 0, .slice none 0 0, .slice none 0 0] 27)) ((HR0.out.below hB1).more hB1.size) hf hfit 44 (.pointer (some ⟨w.heap.size + 1, 0, none⟩)) (fun W x => enters_of Tryz.func44 (by kernel_rfl) rfl _ W) (upDo (l.map PV.plc) M) (fun h0 W Bp ve vl l0 hb hbp hp hpl hf0 hl0 h8 => by
      rw [hs1] at hbp hp ⊢
      have h0' : chkRg K (l0.map PV.plc) = 0 := by rw [hpl]; exact h0
      have hb0 := CellsAt.below hD1 hb (by rw [hs1]; omega)
      rw [← hpl]
      have hm1 := ((HM0.out.below hB1).more hB1.size).below hb
      rw [hs1] at hm1
      have hsz : w.heap.size + 3 ≤ W.heap.size := by have := hb.size; rw [hs1] at this; exact this
      exact plUp1_any (w.heap.size + 3) Bp (w.heap.size + 1) K ve vl l0 M _ _ W hp hl0 hf0 (rg_lens h0').2.2.2 hbp rfl hb0 (by omega) hm1 hmf)
    rw [hs1, ← hPR] at h
    exact h
  obtain ⟨⟨AK, AL⟩, ae⟩ := PR
  dsimp only at *
  clear hPR
  have HB1 : Hid (Below w.heap.size w (((w.alloc (.cells #[.int .i64 K.major, .int .i64 K.minor, .slice qe lk je, .slice a l.length cap] 27)).alloc (.cells #[.string M.name, .int .i64 M.major, .int .i64 M.minor, .string M.text, .slice pe M.exps.length ke, .slice pi M.imps.length ki, .slice pp M.pats.length kp] 31)).alloc (.cells #[.int .i64 0, .int .i64 0, .slice none 0 0, .slice none 0 0] 27))) := hB1
  have HZ1 : Hid (CellsAt (((w.alloc (.cells #[.int .i64 K.major, .int .i64 K.minor, .slice qe lk je, .slice a l.length cap] 27)).alloc (.cells #[.string M.name, .int .i64 M.major, .int .i64 M.minor, .string M.text, .slice pe M.exps.length ke, .slice pi M.imps.length ki, .slice pp M.pats.length kp] 31)).alloc (.cells #[.int .i64 0, .int .i64 0, .slice none 0 0, .slice none 0 0] 27)) (w.heap.size + 2) 27 #[.int .i64 0, .int .i64 0, .slice none 0 0, .slice none 0 0]) := hZ1
  have c0 := CellsAt.cell hC1 0
  have c1 := CellsAt.cell hC1 1
  have c2 := CellsAt.cell hC1 2
  have c3 := CellsAt.cell hC1 3
  have lc := CellsAt.lt hC1
  clear hB1 hC1 hD1 hZ1 HR0 hf hfit HM0 hmf
  go_enter Tryz.func8, Tryz.ntmps8
  go_wp2_with fail
  refine HPK.out.mono ?_
  clear c0 c1 c2 c3 lc
  generalize (((w.alloc (.cells #[.int .i64 K.major, .int .i64 K.minor, .slice qe lk je, .slice a l.length cap] 27)).alloc (.cells #[.string M.name, .int .i64 M.major, .int .i64 M.minor, .string M.text, .slice pe M.exps.length ke, .slice pi M.imps.length ki, .slice pp M.pats.length kp] 31)).alloc (.cells #[.int .i64 0, .int .i64 0, .slice none 0 0, .slice none 0 0] 27)) = w1 at *
  rintro e w2 ⟨⟨v', l', rfl, hpl, hft, ho⟩, hb⟩
  have HO2 : Hid (OwnsReg (w.heap.size + 3) w2 v' AK l') := ho
  have HB2 : Hid (Below w.heap.size w w2) := HB1.out.trans (hb.mono (by omega))
  have HZ2 : Hid (CellsAt w2 (w.heap.size + 2) 27 #[.int .i64 0, .int .i64 0, .slice none 0 0, .slice none 0 0]) := CellsAt.below HZ1.out hb (by omega)
  have HPL : Hid (l'.map PV.plc = AL) := hpl
  have HFT : Hid (∀ x ∈ l', x.mod.fits) := hft
  obtain ⟨ve2, vl2, rfl, oe, ol, -⟩ := ho
  obtain ⟨ea, ec, rfl⟩ := own_form oe
  obtain ⟨pa, pc, rfl⟩ := own_form ol
  generalize hak : AK.exps.length = ak at *
  have z0 := CellsAt.cell HZ2.out 0
  have z1 := CellsAt.cell HZ2.out 1
  have z2 := CellsAt.cell HZ2.out 2
  have z3 := CellsAt.cell HZ2.out 3
  have f0 := CellsAt.frozen HZ2.out 0
  have f1 := CellsAt.frozen HZ2.out 1
  have f2 := CellsAt.frozen HZ2.out 2
  have f3 := CellsAt.frozen HZ2.out 3
  have lz := CellsAt.lt HZ2.out
  simp at z0 z1 z2 z3
  clear HPK HB1 HZ1 hb hpl hft oe ol hs1
  go_wp2
  have hZ9 := sets4 HZ2.out (.int .i64 AK.major) (.int .i64 AK.minor) (.slice ea ak ec) (.slice pa l'.length pc)
  have hG9 := sets4_grown w2 (w.heap.size + 2) (.int .i64 AK.major) (.int .i64 AK.minor) (.slice ea ak ec) (.slice pa l'.length pc)
  refine bodyPost_ret (results_cell_tmp_row rfl _ _ _ _ _ _ _ rfl hZ9 Tryz.underlying27 rfl (by kernel_rfl)) rfl ?_
  exact ⟨⟨_, l', rfl, HPL.out, HFT.out, (HO2.out.beCell HZ2.out (by decide) (by decide) (by decide) (by decide) hG9).lower (b := w.heap.size) (by omega)⟩, HB2.out.grown hG9 HB2.out.size (fun q hq => by obtain rfl := Option.some.inj hq; omega)⟩

end Go.Proofs.YtlpnfbpgnfappaaGreat

/- The contracts of the document's SameExports and SameModule: where both are the same. -/
namespace Go.Proofs.YtlpnfbpgnfappaaGreat
open Go.RowKit Go.PlainAid

set_option maxHeartbeats 1000000 in
theorem sameExports_yes (l : List Exp) (v v' : Value) (w : World) (h1 : RowOf 2 Exp.cell w.heap.size w v l) (h2 : RowOf 2 Exp.cell w.heap.size w v' l) :
    Calls Tryz.prog 76 #[v, v'] w fun e w' => e = .returned (.bool true) ∧ ∃ q, w' = w.drewN q := by
  obtain ⟨a, cap, rfl, hz, h1⟩ := h1
  obtain ⟨a', cap', rfl, _, h2⟩ := h2
  have hne : ((l.length : Int) != (l.length : Int)) = false := by simp
  go_enter Tryz.func76, Tryz.ntmps76
  go_wp2
  go_loopw [5] (fun i wr => ∃ (k : Nat), k ≤ l.length ∧ i = .int .i64 k ∧ Hid (∃ q, wr = w.drewN q)) (fun i _ => l.length - (intOf i).toNat)
  case atStart => exact ⟨0, Nat.zero_le _, rfl, (⟨0, rfl⟩ : ∃ q, w = w.drewN q)⟩
  case round =>
    obtain ⟨k, hk, rfl, HQ⟩ := hrel
    by_cases hlt : k < l.length
    · obtain ⟨p, hp⟩ : ∃ p, l[k]? = some p := ⟨_, List.getElem?_eq_getElem hlt⟩
      rcases h1 with h | ⟨b, off, rfl, hbn, hc⟩
      · subst h; simp at hlt
      rcases h2 with h | ⟨b', off', rfl, hbn', hc'⟩
      · subst h; simp at hlt
      have hcl : ∀ p, wr.cell? p = w.cell? p := fun p => by obtain ⟨q, hq⟩ := HQ.out; rw [hq]; simp
      have c0 := (hcl _).trans (hc k _ hp 0 (by omega))
      have c1 := (hcl _).trans (hc k _ hp 1 (by omega))
      have d0 := (hcl _).trans (hc' k _ hp 0 (by omega))
      have d1 := (hcl _).trans (hc' k _ hp 1 (by omega))
      obtain ⟨n, A⟩ := p
      dsimp only [Exp.cell] at c0 c1 d0 d1
      rw [Nat.add_zero] at c0 d0
      clear hcl hc hc' hp
      go_wp2
      go_quiet (fail)
      go_wp2
      obtain ⟨q, hq⟩ := HQ.out
      exact ⟨⟨k + 1, by omega, by go_num, (⟨q + _, by rw [hq, World.drewN_drewN]⟩ : ∃ q, _ = w.drewN q)⟩, by simp [intOf]; omega⟩
    · go_wp2
      go_ret
      exact ⟨rfl, HQ.out⟩

set_option maxRecDepth 100000 in
set_option maxHeartbeats 2000000 in
theorem sameModule_yes (M : Mod) (v v' : Value) (w : World) (h : IsMod w.heap.size w v M) (h' : IsMod w.heap.size w v' M) :
    Calls Tryz.prog 27 #[v, v'] w fun e w' => e = .returned (.bool true) ∧ Below w.heap.size w w' := by
  obtain ⟨ve, vi, vp, rfl, hE, hI, hP⟩ := h
  obtain ⟨ve', vi', vp', rfl, hE', hI', hP'⟩ := h'
  obtain ⟨N, a, b, T, es, is, ps⟩ := M
  dsimp only at *
  have HE : Hid (∀ w', Below w.heap.size w w' → Calls Tryz.prog 76 #[ve, ve'] w' fun e w'' => e = .returned (.bool true) ∧ ∃ q, w'' = w'.drewN q) :=
    fun w' hb => sameExports_yes es ve ve' w' ((hE.below hb).more hb.size) ((hE'.below hb).more hb.size)
  obtain ⟨pe, ke, rfl, _, _⟩ := hE
  obtain ⟨pe', ke', rfl, _, _⟩ := hE'
  have HI : Hid (RowOf 4 Imp.cell w.heap.size w vi is) := hI
  have HI' : Hid (RowOf 4 Imp.cell w.heap.size w vi' is) := hI'
  have HP : Hid (RowOf 4 Pat.cell w.heap.size w vp ps) := hP
  have HP' : Hid (RowOf 4 Pat.cell w.heap.size w vp' ps) := hP'
  obtain ⟨pi, ki, rfl, _, _⟩ := hI
  obtain ⟨pi', ki', rfl, _, _⟩ := hI'
  obtain ⟨pp, kp, rfl, _, _⟩ := hP
  obtain ⟨pp', kp', rfl, _, _⟩ := hP'
  have n1 : ((is.length : Int) != (is.length : Int)) = false := by simp
  have n2 : ((ps.length : Int) != (ps.length : Int)) = false := by simp
  have HW : Hid (Below w.heap.size w ((w.alloc (.cells #[.string N, .int .i64 a, .int .i64 b, .string T, .slice pe es.length ke, .slice pi is.length ki, .slice pp ps.length kp] 31)).alloc (.cells #[.string N, .int .i64 a, .int .i64 b, .string T, .slice pe' es.length ke', .slice pi' is.length ki', .slice pp' ps.length kp'] 31))) :=
    ((Below.refl _ _).alloc (Nat.le_refl _) _).alloc (by simp) _
  go_enter Tryz.func27, Tryz.ntmps27
  go_wp2_with fail
  refine (HE.out _ HW.out).mono ?_
  rintro e w1 ⟨rfl, q, hq⟩
  have B1 : Below w.heap.size w w1 := by rw [hq]; exact below_drewN HW.out q
  have hcl : ∀ p, w1.cell? p = ((w.alloc (.cells #[.string N, .int .i64 a, .int .i64 b, .string T, .slice pe es.length ke, .slice pi is.length ki, .slice pp ps.length kp] 31)).alloc (.cells #[.string N, .int .i64 a, .int .i64 b, .string T, .slice pe' es.length ke', .slice pi' is.length ki', .slice pp' ps.length kp'] 31)).cell? p := fun p => by rw [hq]; simp
  have d5 := hcl ⟨w.heap.size, 5, none⟩
  have d6 := hcl ⟨w.heap.size, 6, none⟩
  have f5 := hcl ⟨w.heap.size + 1, 5, none⟩
  have f6 := hcl ⟨w.heap.size + 1, 6, none⟩
  have hz1 : w.heap.size + 1 < w1.heap.size := by rw [hq]; simp
  simp at d5 d6 f5 f6
  obtain ⟨_, _, e0, _, hI⟩ := (HI.out.below B1).more B1.size
  obtain ⟨_, _, e1, _, hI'⟩ := (HI'.out.below B1).more B1.size
  obtain ⟨_, _, e2, _, hP⟩ := (HP.out.below B1).more B1.size
  obtain ⟨_, _, e3, _, hP'⟩ := (HP'.out.below B1).more B1.size
  cases e0; cases e1; cases e2; cases e3
  clear hcl hq HE HI HI' HP HP' HW
  go_wp2
  go_loopw [5] (fun i wr => ∃ (k : Nat), k ≤ is.length ∧ i = .int .i64 k ∧ Below w1.heap.size w1 wr) (fun i _ => is.length - (intOf i).toNat)
  case atStart => exact ⟨0, Nat.zero_le _, rfl, Below.refl _ _⟩
  case round =>
    obtain ⟨k, hk, rfl, B⟩ := hrel
    have x5 := (B.cell (p := ⟨w.heap.size, 5, none⟩) (by simp; omega)).trans d5
    have y5 := (B.cell (p := ⟨w.heap.size + 1, 5, none⟩) (by simp; omega)).trans f5
    by_cases hlt : k < is.length
    · obtain ⟨p, hp⟩ : ∃ p, is[k]? = some p := ⟨_, List.getElem?_eq_getElem hlt⟩
      rcases hI with h | ⟨bb, off, rfl, hbn, hc⟩
      · subst h; simp at hlt
      rcases hI' with h | ⟨bb', off', rfl, hbn', hc'⟩
      · subst h; simp at hlt
      have c0 := (B.cell (p := ⟨bb, off + k * 4 + 0, none⟩) hbn).trans (hc k _ hp 0 (by omega))
      have c1 := (B.cell (p := ⟨bb, off + k * 4 + 1, none⟩) hbn).trans (hc k _ hp 1 (by omega))
      have c2 := (B.cell (p := ⟨bb, off + k * 4 + 2, none⟩) hbn).trans (hc k _ hp 2 (by omega))
      have c3 := (B.cell (p := ⟨bb, off + k * 4 + 3, none⟩) hbn).trans (hc k _ hp 3 (by omega))
      have g0 := (B.cell (p := ⟨bb', off' + k * 4 + 0, none⟩) hbn').trans (hc' k _ hp 0 (by omega))
      have g1 := (B.cell (p := ⟨bb', off' + k * 4 + 1, none⟩) hbn').trans (hc' k _ hp 1 (by omega))
      have g2 := (B.cell (p := ⟨bb', off' + k * 4 + 2, none⟩) hbn').trans (hc' k _ hp 2 (by omega))
      have g3 := (B.cell (p := ⟨bb', off' + k * 4 + 3, none⟩) hbn').trans (hc' k _ hp 3 (by omega))
      obtain ⟨m, n, va, vb⟩ := p
      dsimp only [Imp.cell] at c0 c1 c2 c3 g0 g1 g2 g3
      rw [Nat.add_zero] at c0 g0
      clear hc hc' hp hP hP' d6 f6
      go_wp2
      go_quiet (fail)
      go_wp2
      exact ⟨⟨k + 1, by omega, by go_num, below_drewN B _⟩, by simp [intOf]; omega⟩
    · clear hI hI'
      go_wp2
      go_loopw [6] (fun i wr2 => ∃ (k : Nat), k ≤ ps.length ∧ i = .int .i64 k ∧ Below w1.heap.size w1 wr2) (fun i _ => ps.length - (intOf i).toNat)
      case atStart => exact ⟨0, Nat.zero_le _, rfl, B⟩
      case round =>
        obtain ⟨j, hj, rfl, B2⟩ := hrel
        have x6 := (B2.cell (p := ⟨w.heap.size, 6, none⟩) (by simp; omega)).trans d6
        have y6 := (B2.cell (p := ⟨w.heap.size + 1, 6, none⟩) (by simp; omega)).trans f6
        by_cases hlt2 : j < ps.length
        · obtain ⟨p, hp⟩ : ∃ p, ps[j]? = some p := ⟨_, List.getElem?_eq_getElem hlt2⟩
          rcases hP with h | ⟨bb, off, rfl, hbn, hc⟩
          · subst h; simp at hlt2
          rcases hP' with h | ⟨bb', off', rfl, hbn', hc'⟩
          · subst h; simp at hlt2
          have c0 := (B2.cell (p := ⟨bb, off + j * 4 + 0, none⟩) hbn).trans (hc j _ hp 0 (by omega))
          have c1 := (B2.cell (p := ⟨bb, off + j * 4 + 1, none⟩) hbn).trans (hc j _ hp 1 (by omega))
          have c2 := (B2.cell (p := ⟨bb, off + j * 4 + 2, none⟩) hbn).trans (hc j _ hp 2 (by omega))
          have c3 := (B2.cell (p := ⟨bb, off + j * 4 + 3, none⟩) hbn).trans (hc j _ hp 3 (by omega))
          have g0 := (B2.cell (p := ⟨bb', off' + j * 4 + 0, none⟩) hbn').trans (hc' j _ hp 0 (by omega))
          have g1 := (B2.cell (p := ⟨bb', off' + j * 4 + 1, none⟩) hbn').trans (hc' j _ hp 1 (by omega))
          have g2 := (B2.cell (p := ⟨bb', off' + j * 4 + 2, none⟩) hbn').trans (hc' j _ hp 2 (by omega))
          have g3 := (B2.cell (p := ⟨bb', off' + j * 4 + 3, none⟩) hbn').trans (hc' j _ hp 3 (by omega))
          obtain ⟨K, A, S, D⟩ := p
          dsimp only [Pat.cell] at c0 c1 c2 c3 g0 g1 g2 g3
          rw [Nat.add_zero] at c0 g0
          clear hc hc' hp
          go_wp2
          go_quiet (fail)
          go_wp2
          exact ⟨⟨j + 1, by omega, by go_num, below_drewN B2 _⟩, by simp [intOf]; omega⟩
        · clear hP hP'
          go_wp2
          go_ret
          exact ⟨rfl, B1.trans (B2.mono B1.size)⟩

end Go.Proofs.YtlpnfbpgnfappaaGreat

/- The contracts of the document's SamePlaced and SameRegistry, where both are alike. -/
namespace Go.Proofs.YtlpnfbpgnfappaaGreat
open Go.RowKit Go.PlainAid Go.Lib Go.Sort

set_option maxRecDepth 100000

theorem plc_at {l l' : List PV} (h : l.map PV.plc = l'.map PV.plc) {k : Nat} {x : PV} (hx : l[k]? = some x) : ∃ y, l'[k]? = some y ∧ x.mod = y.mod ∧ x.first = y.first := by
  have h1 : (l.map PV.plc)[k]? = some x.plc := by rw [List.getElem?_map, hx]; rfl
  rw [h, List.getElem?_map] at h1
  cases hy : l'[k]? with
  | none => rw [hy] at h1; cases h1
  | some y =>
    rw [hy] at h1
    have h2 : y.plc = x.plc := by simpa using h1
    unfold PV.plc at h2
    injection h2 with h3 h4
    exact ⟨y, rfl, h3.symm, h4.symm⟩

set_option maxHeartbeats 8000000 in
theorem samePlaced_yes (l l' : List PV) (v v' : Value) (w : World) (h1 : IsPlcs w.heap.size w v l) (h2 : IsPlcs w.heap.size w v' l') (he : l.map PV.plc = l'.map PV.plc) :
    Calls Tryz.prog 77 #[v, v'] w fun e w' => e = .returned (.bool true) ∧ Below w.heap.size w w' := by
  have hln : l.length = l'.length := by have := congrArg List.length he; simpa using this
  obtain ⟨⟨a, cap, rfl, hmax, hrow⟩, hat⟩ := h1
  obtain ⟨⟨a', cap', rfl, hmax', hrow'⟩, hat'⟩ := h2
  rw [← hln]
  clear hln hmax'
  have hne : ((l.length : Int) != (l.length : Int)) = false := by simp
  go_enter Tryz.func77, Tryz.ntmps77
  go_wp2
  go_loopg [5] l.length (fun gk i wr => ∃ (k : Nat), Hid (gk = l.length - k) ∧ k ≤ l.length ∧ i = .int .i64 k ∧ Hid (Below w.heap.size w wr))
  case atStart => exact ⟨0, (rfl : l.length = l.length - 0), Nat.zero_le _, rfl, Below.refl _ _⟩
  case round =>
    obtain ⟨k, HGK, hk, rfl, HB⟩ := hrel
    have B := HB.out
    clear HB
    by_cases hlt : k < l.length
    · obtain ⟨x, hx⟩ : ∃ x, l[k]? = some x := ⟨_, List.getElem?_eq_getElem hlt⟩
      obtain ⟨y, hy, hmod, hfst⟩ := plc_at he hx
      rcases hrow with h | ⟨b, off, rfl, hbn, hcells⟩
      · subst h; simp at hlt
      rcases hrow' with h | ⟨b', off', rfl, hbn', hcells'⟩
      · subst h; simp at hy
      have px := ((hat x (List.mem_of_getElem? hx)).below B).more B.size
      have py := ((hat' y (List.mem_of_getElem? hy)).below B).more B.size
      have HS : Hid (∀ d os, Calls Tryz.prog 27 #[x.modV, y.modV] (grow (redrawn wr d) os) fun e w' => e = .returned (.bool true) ∧ Below (grow (redrawn wr d) os).heap.size (grow (redrawn wr d) os) w') := fun d os => by
        have hb := below_regrown wr d os
        have q1 := ((px.below hb).more hb.size).isMod
        have q2 := ((py.below hb).more hb.size).isMod
        rw [hmod] at q1
        exact sameModule_yes y.mod _ _ _ q1 q2
      have c0 := (B.cell (p := ⟨b, off + k * 8 + 0, none⟩) hbn).trans (hcells k x hx 0 (by omega))
      have c1 := (B.cell (p := ⟨b, off + k * 8 + 1, none⟩) hbn).trans (hcells k x hx 1 (by omega))
      have c2 := (B.cell (p := ⟨b, off + k * 8 + 2, none⟩) hbn).trans (hcells k x hx 2 (by omega))
      have c3 := (B.cell (p := ⟨b, off + k * 8 + 3, none⟩) hbn).trans (hcells k x hx 3 (by omega))
      have c4 := (B.cell (p := ⟨b, off + k * 8 + 4, none⟩) hbn).trans (hcells k x hx 4 (by omega))
      have c5 := (B.cell (p := ⟨b, off + k * 8 + 5, none⟩) hbn).trans (hcells k x hx 5 (by omega))
      have c6 := (B.cell (p := ⟨b, off + k * 8 + 6, none⟩) hbn).trans (hcells k x hx 6 (by omega))
      have c7 := (B.cell (p := ⟨b, off + k * 8 + 7, none⟩) hbn).trans (hcells k x hx 7 (by omega))
      have d0 := (B.cell (p := ⟨b', off' + k * 8 + 0, none⟩) hbn').trans (hcells' k y hy 0 (by omega))
      have d1 := (B.cell (p := ⟨b', off' + k * 8 + 1, none⟩) hbn').trans (hcells' k y hy 1 (by omega))
      have d2 := (B.cell (p := ⟨b', off' + k * 8 + 2, none⟩) hbn').trans (hcells' k y hy 2 (by omega))
      have d3 := (B.cell (p := ⟨b', off' + k * 8 + 3, none⟩) hbn').trans (hcells' k y hy 3 (by omega))
      have d4 := (B.cell (p := ⟨b', off' + k * 8 + 4, none⟩) hbn').trans (hcells' k y hy 4 (by omega))
      have d5 := (B.cell (p := ⟨b', off' + k * 8 + 5, none⟩) hbn').trans (hcells' k y hy 5 (by omega))
      have d6 := (B.cell (p := ⟨b', off' + k * 8 + 6, none⟩) hbn').trans (hcells' k y hy 6 (by omega))
      have d7 := (B.cell (p := ⟨b', off' + k * 8 + 7, none⟩) hbn').trans (hcells' k y hy 7 (by omega))
      obtain ⟨⟨pe, ke, e4, _⟩, ⟨pi, ki, e5, _⟩, ⟨pp, kp, e6, _⟩⟩ := px
      obtain ⟨⟨pe', ke', e4', _⟩, ⟨pi', ki', e5', _⟩, ⟨pp', kp', e6', _⟩⟩ := py
      obtain ⟨⟨N, xa, xi, T, es, is, ps⟩, ve, vi, vp, fi⟩ := x
      obtain ⟨⟨N', xa', xi', T', es', is', ps'⟩, ve', vi', vp', fi'⟩ := y
      dsimp only at e4 e5 e6 e4' e5' e6' hfst
      subst e4 e5 e6 e4' e5' e6' hfst
      dsimp only [PV.cell] at c0 c1 c2 c3 c4 c5 c6 c7 d0 d1 d2 d3 d4 d5 d6 d7
      dsimp only [PV.modV] at HS
      rw [Nat.add_zero] at c0 d0
      clear hcells hcells' hx hy hat hat' hmod he
      generalize es.length = le at *
      generalize is.length = li at *
      generalize ps.length = lp at *
      generalize es'.length = le' at *
      generalize is'.length = li' at *
      generalize ps'.length = lp' at *
      have t0 := cell_regrown c0
      have t1 := cell_regrown c1
      have t2 := cell_regrown c2
      have t3 := cell_regrown c3
      have t4 := cell_regrown c4
      have t5 := cell_regrown c5
      have t6 := cell_regrown c6
      have t7 := cell_regrown c7
      have s0 := cell_regrown d0
      have s1 := cell_regrown d1
      have s2 := cell_regrown d2
      have s3 := cell_regrown d3
      have s4 := cell_regrown d4
      have s5 := cell_regrown d5
      have s6 := cell_regrown d6
      have s7 := cell_regrown d7
      clear c0 c1 c2 c3 c4 c5 c6 c7 d0 d1 d2 d3 d4 d5 d6 d7
      have hff : (fi != fi) = false := by simp
      have hbd : l.length ≤ 9223372036854775807 := hmax
      have hkl' : (k : Int) < (l.length : Int) := by omega
      go_wp2_with fail
      refine wp_region_quiet_below (by kernel_rfl) (by kernel_rfl) ?_
      repeat (quiet_step ((go_at_call 27; go_must (exact Calls.regrown_of (HS.out _ _)))))
      refine wpQuiet_nil ?_
      intro _ hw'
      obtain ⟨⟨dq, osq⟩, hw''⟩ := hw'
      have B5 := B.trans ((below_regrown wr dq osq).mono B.size)
      rw [← hw''] at B5
      clear hw'' t0 t1 t2 t3 t4 t5 t6 t7 s0 s1 s2 s3 s4 s5 s6 s7 HS
      have HB5 : Hid (Below w.heap.size w _) := B5
      clear B5 B
      go_wp2_with fail
      go_roundg (l.length - (k + 1))
      case measure =>
        have := HGK.out
        omega
      case rel => exact ⟨k + 1, (rfl : l.length - (k + 1) = l.length - (k + 1)), by omega, by go_num, HB5⟩
    · go_wp2
      go_ret
      exact ⟨rfl, B⟩

set_option maxHeartbeats 8000000 in
theorem sameReg_yes (K : Ker) (l l' : List PV) (v v' : Value) (w : World) (h1 : IsReg w.heap.size w v K l) (h2 : IsReg w.heap.size w v' K l') (he : l.map PV.plc = l'.map PV.plc) :
    Calls Tryz.prog 26 #[v, v'] w fun e w' => e = .returned (.bool true) ∧ Below w.heap.size w w' := by
  obtain ⟨ve, vl, rfl, hE, hL⟩ := h1
  obtain ⟨ve', vl', rfl, hE', hL'⟩ := h2
  have HX : Hid (∀ W, Below w.heap.size w W → Calls Tryz.prog 76 #[ve, ve'] W fun e w'' => e = .returned (.bool true) ∧ Below W.heap.size W w'') := fun W hb => by
    refine (sameExports_yes K.exps ve ve' W ((hE.below hb).more hb.size) ((hE'.below hb).more hb.size)).mono ?_
    rintro e w' ⟨h, q, rfl⟩
    exact ⟨h, below_drewN (Below.refl _ _) q⟩
  have HP : Hid (∀ W, Below w.heap.size w W → Calls Tryz.prog 77 #[vl, vl'] W fun e w'' => e = .returned (.bool true) ∧ Below W.heap.size W w'') := fun W hb => samePlaced_yes l l' vl vl' W ((hL.below hb).more hb.size) ((hL'.below hb).more hb.size) he
  obtain ⟨a, c, rfl, _, _⟩ := hE
  obtain ⟨a', c', rfl, _, _⟩ := hE'
  obtain ⟨⟨q, r, rfl, _, _⟩, _⟩ := hL
  obtain ⟨⟨q', r', rfl, _, _⟩, _⟩ := hL'
  obtain ⟨ma, mi, ks⟩ := K
  dsimp only at *
  clear he
  generalize ks.length = nk at *
  generalize l.length = nl at *
  generalize l'.length = nl' at *
  have hma : (ma == ma) = true := by simp
  have hmi : (mi == mi) = true := by simp
  have HB1 : Hid (Below w.heap.size w ((w.alloc (.cells #[.int .i64 ma, .int .i64 mi, .slice a nk c, .slice q nl r] 27)).alloc (.cells #[.int .i64 ma, .int .i64 mi, .slice a' nk c', .slice q' nl' r'] 27))) := ((Below.refl _ _).alloc (Nat.le_refl _) _).alloc (by simp) _
  have HC1 : Hid (CellsAt ((w.alloc (.cells #[.int .i64 ma, .int .i64 mi, .slice a nk c, .slice q nl r] 27)).alloc (.cells #[.int .i64 ma, .int .i64 mi, .slice a' nk c', .slice q' nl' r'] 27)) w.heap.size 27 #[.int .i64 ma, .int .i64 mi, .slice a nk c, .slice q nl r]) := (CellsAt.new _ _ _).kept (World.grownBy_alloc _ _ none) (by simp)
  have HD1 : Hid (CellsAt ((w.alloc (.cells #[.int .i64 ma, .int .i64 mi, .slice a nk c, .slice q nl r] 27)).alloc (.cells #[.int .i64 ma, .int .i64 mi, .slice a' nk c', .slice q' nl' r'] 27)) (w.heap.size + 1) 27 #[.int .i64 ma, .int .i64 mi, .slice a' nk c', .slice q' nl' r']) := by
    have := CellsAt.new (w.alloc (.cells #[.int .i64 ma, .int .i64 mi, .slice a nk c, .slice q nl r] 27)) 27 #[.int .i64 ma, .int .i64 mi, .slice a' nk c', .slice q' nl' r']
    rw [World.size_alloc] at this
    exact this
  go_enter Tryz.func26, Tryz.ntmps26
  go_wp2_with fail
  refine (HX.out _ HB1.out).mono ?_
  generalize ((w.alloc (.cells #[.int .i64 ma, .int .i64 mi, .slice a nk c, .slice q nl r] 27)).alloc (.cells #[.int .i64 ma, .int .i64 mi, .slice a' nk c', .slice q' nl' r'] 27)) = w1 at *
  rintro e w2 ⟨rfl, b2⟩
  have HB2 : Hid (Below w.heap.size w w2) := HB1.out.trans (b2.mono HB1.out.size)
  have HC2 : Hid (CellsAt w2 w.heap.size 27 #[.int .i64 ma, .int .i64 mi, .slice a nk c, .slice q nl r]) := HC1.out.below b2 HC1.out.lt
  have HD2 : Hid (CellsAt w2 (w.heap.size + 1) 27 #[.int .i64 ma, .int .i64 mi, .slice a' nk c', .slice q' nl' r']) := HD1.out.below b2 HD1.out.lt
  have c3 := CellsAt.cell HC2.out 3
  have d3 := CellsAt.cell HD2.out 3
  have lc := CellsAt.lt HC2.out
  have ld := CellsAt.lt HD2.out
  simp at c3 d3
  clear b2 HB1 HC1 HD1 HX
  go_wp2_with fail
  refine (HP.out _ HB2.out).mono ?_
  rintro e w3 ⟨rfl, b3⟩
  have HB3 : Hid (Below w.heap.size w w3) := HB2.out.trans (b3.mono HB2.out.size)
  clear b3 HP HB2 HC2 HD2 c3 d3 lc ld
  go_wp2
  go_ret
  exact ⟨rfl, HB3.out⟩

end Go.Proofs.YtlpnfbpgnfappaaGreat

/- Contracts of compact's Step and Pack as registries; registryIs; what must be in any case, of compact. -/
namespace Go.Proofs.YtlpnfbpgnfappaaGreat
open Go.RowKit Go.PlainAid Go.Lib

set_option maxRecDepth 100000

theorem OwnsReg.isReg {base : Nat} {W : World} {v : Value} {K : Ker} {l : List PV} (h : OwnsReg base W v K l) (hk : K.exps.length ≤ 255) (hl : l.length ≤ 255) (hm : ∀ x ∈ l, x.mod.exps.length ≤ 255 ∧ x.mod.imps.length ≤ 255 ∧ x.mod.pats.length ≤ 255) : IsReg W.heap.size W v K l := by
  obtain ⟨ve, vl, e, o1, o2, o3⟩ := h
  exact ⟨ve, vl, e, own_rows (C := expC) (cells := Exp.cell) (sz := 2) (fun _ => rfl) expC_at o1 (by omega), own_rows (C := pvC) (cells := PV.cell) (sz := 8) (fun _ => rfl) pvC_at o2 (by omega), plc_rows o3 hm⟩
theorem lens_mods {l l' : List PV} (h : l'.map (·.mod) = l.map (·.mod)) (hf : ∀ x ∈ l, x.mod.exps.length ≤ 255 ∧ x.mod.imps.length ≤ 255 ∧ x.mod.pats.length ≤ 255) : ∀ x ∈ l', x.mod.exps.length ≤ 255 ∧ x.mod.imps.length ≤ 255 ∧ x.mod.pats.length ≤ 255 := fun x hx => by
  have : x.mod ∈ l'.map (·.mod) := List.mem_map_of_mem hx
  rw [h] at this
  obtain ⟨y, hy, e⟩ := List.mem_map.1 this
  rw [← e]
  exact hf y hy
theorem plc_mods {l l' : List PV} {L : List Plc} (h : l'.map PV.plc = L) (hL : L.map (·.mod) = (l.map PV.plc).map (·.mod)) : l'.map (·.mod) = l.map (·.mod) := by
  have h1 := congrArg (List.map fun p : Plc => p.mod) h
  rw [hL, List.map_map, List.map_map] at h1
  exact h1
theorem stepRes_mods (L : List Plc) : (stepRes L).1.map (·.mod) = L.map (·.mod) := by
  unfold stepRes
  cases hs : stepFrom 0 L with
  | none => rfl
  | some L' => exact (step_some hs).2.2
theorem pack_mods : ∀ (L : List Plc) (e : Int), (packFrom e L).map (·.mod) = L.map (·.mod)
  | [], _ => rfl
  | p :: r, e => by
    show p.mod :: _ = p.mod :: _
    rw [pack_mods r]

theorem stepAns_reg {K : Ker} {l l' : List PV} {base : Nat} {W : World} {v : Value} (h1 : l'.map PV.plc = (stepAns K (l.map PV.plc)).1.2) (h : OwnsReg base W v (stepAns K (l.map PV.plc)).1.1 l') : IsReg W.heap.size W v (stepAns K (l.map PV.plc)).1.1 l' := by
  by_cases h0 : chkRg K (l.map PV.plc) = 0
  · obtain ⟨g1, g2, g3, _⟩ := rg_lens h0
    unfold stepAns at h1 h ⊢
    rw [if_pos h0] at h1 h ⊢
    have hm := plc_mods h1 (stepRes_mods _)
    have hln := congrArg List.length hm
    rw [List.length_map, List.length_map] at hln
    exact h.isReg g1 (by omega) (lens_mods hm g3)
  · unfold stepAns at h1 h ⊢
    rw [if_neg h0] at h1 h ⊢
    have hn : l' = [] := List.map_eq_nil_iff.1 h1
    subst hn
    exact h.isReg (by simp [emptyK]) (by simp) (fun x hx => by simp at hx)
theorem packAns_reg {K : Ker} {l l' : List PV} {base : Nat} {W : World} {v : Value} (h1 : l'.map PV.plc = (packAns K (l.map PV.plc)).1.2) (h : OwnsReg base W v (packAns K (l.map PV.plc)).1.1 l') : IsReg W.heap.size W v (packAns K (l.map PV.plc)).1.1 l' := by
  by_cases h0 : chkRg K (l.map PV.plc) = 0
  · obtain ⟨g1, g2, g3, _⟩ := rg_lens h0
    unfold packAns at h1 h ⊢
    rw [if_pos h0] at h1 h ⊢
    have hm := plc_mods h1 (pack_mods _ _)
    have hln := congrArg List.length hm
    rw [List.length_map, List.length_map] at hln
    exact h.isReg g1 (by omega) (lens_mods hm g3)
  · unfold packAns at h1 h ⊢
    rw [if_neg h0] at h1 h ⊢
    have hn : l' = [] := List.map_eq_nil_iff.1 h1
    subst hn
    exact h.isReg (by simp [emptyK]) (by simp) (fun x hx => by simp at hx)

theorem IsReg.shape0 {n : Nat} {W : World} {v : Value} {K : Ker} {l : List PV} (h : IsReg n W v K l) : ∃ q j a c, v = .agg #[.int .i64 K.major, .int .i64 K.minor, .slice q K.exps.length j, .slice a l.length c] := by
  obtain ⟨ve, vl, rfl, ⟨q, j, rfl, _, _⟩, ⟨⟨a, c, rfl, _, _⟩, _⟩⟩ := h
  exact ⟨q, j, a, c, rfl⟩
theorem zero_isReg (n : Nat) (W : World) : IsReg n W (.agg #[.int .i64 0, .int .i64 0, .slice none 0 0, .slice none 0 0]) emptyK [] :=
  ⟨_, _, rfl, ⟨none, 0, rfl, by simp [emptyK], .inl rfl⟩, ⟨none, 0, rfl, by simp, .inl rfl⟩, fun x hx => by simp at hx⟩

theorem row2_form {n : Nat} {W : World} {v : Value} {K : Ker} {l : List PV} {f0 f1 : Int} (h : IsReg n W v K l) (hf : l.map (·.first) = [f0, f1]) : ∃ ma mi q lk j b off c, v = .agg #[.int .i64 ma, .int .i64 mi, .slice q lk j, .slice (some ⟨b, off, none⟩) 2 c] ∧ b < n ∧ W.cell? ⟨b, off + 7, none⟩ = some (.int .i64 f0) ∧ W.cell? ⟨b, off + 15, none⟩ = some (.int .i64 f1) := by
  obtain ⟨ve, vl, rfl, ⟨q, j, rfl, _, _⟩, ⟨⟨a, c, rfl, _, hc⟩, _⟩⟩ := h
  match l, hf, hc with
  | [x, y], hf, hc =>
    simp at hf
    rcases hc with h | ⟨b, off, rfl, hb, hc⟩
    · cases h
    · have h0 := hc 0 x rfl 7 (by omega)
      have h1 := hc 1 y rfl 7 (by omega)
      refine ⟨_, _, _, _, _, b, off, c, rfl, hb, ?_, ?_⟩
      · rw [← hf.1]
        simpa [PV.cell] using h0
      · rw [← hf.2]
        have e : off + 1 * 8 + 7 = off + 15 := by omega
        rw [e] at h1
        simpa [PV.cell] using h1

set_option maxHeartbeats 4000000 in
theorem regIs_ok (K : Ker) (l l' : List PV) (v v' : Value) (w : World) (h1 : IsReg w.heap.size w v K l) (h2 : IsReg w.heap.size w v' K l') (he : l.map PV.plc = l'.map PV.plc) :
    Calls Tryz.prog 14 #[v, .int .i64 0, .int .i64 0, v'] w fun e w' => e = .returned (.bool true) ∧ Below w.heap.size w w' := by
  have HS : Hid (∀ W, Below w.heap.size w W → Calls Tryz.prog 26 #[v, v'] W fun e w'' => e = .returned (.bool true) ∧ Below W.heap.size W w'') := fun W hb => sameReg_yes K l l' v v' W ((h1.below hb).more hb.size) ((h2.below hb).more hb.size) he
  obtain ⟨q, j, a, c, rfl⟩ := h1.shape0
  obtain ⟨q', j', a', c', rfl⟩ := h2.shape0
  clear h1 h2 he
  generalize K.exps.length = lk at *
  generalize l.length = ll at *
  generalize l'.length = ll' at *
  have HB1 : Hid (Below w.heap.size w ((w.alloc (.cells #[.int .i64 K.major, .int .i64 K.minor, .slice q lk j, .slice a ll c] 27)).alloc (.cells #[.int .i64 K.major, .int .i64 K.minor, .slice q' lk j', .slice a' ll' c'] 27))) := ((Below.refl _ _).alloc (Nat.le_refl _) _).alloc (by simp) _
  go_enter Tryz.func14, Tryz.ntmps14
  go_wp2_with fail
  refine (HS.out _ HB1.out).mono ?_
  rintro e w2 ⟨rfl, b2⟩
  have HB2 : Hid (Below w.heap.size w w2) := HB1.out.trans (b2.mono HB1.out.size)
  clear b2 HB1 HS
  go_wp2
  go_ret
  exact ⟨rfl, HB2.out⟩

set_option maxHeartbeats 4000000 in
theorem regIs_err (K : Ker) (l' : List PV) (v v' : Value) (er : Int) (w : World) (her : er ≠ 0) (h1 : IsReg w.heap.size w v emptyK []) (h2 : IsReg w.heap.size w v' K l') :
    Calls Tryz.prog 14 #[v, .int .i64 er, .int .i64 er, v'] w fun e w' => e = .returned (.bool true) ∧ Below w.heap.size w w' := by
  have HS : Hid (∀ W, Below w.heap.size w W → Calls Tryz.prog 26 #[v, .agg #[.int .i64 0, .int .i64 0, .slice none 0 0, .slice none 0 0]] W fun e w'' => e = .returned (.bool true) ∧ Below W.heap.size W w'') := fun W hb => sameReg_yes emptyK [] [] v _ W ((h1.below hb).more hb.size) (zero_isReg _ _) rfl
  obtain ⟨q, j, a, c, rfl⟩ := h1.shape0
  obtain ⟨q', j', a', c', rfl⟩ := h2.shape0
  clear h1 h2
  generalize K.exps.length = lk at *
  generalize l'.length = ll' at *
  dsimp only [emptyK, List.length_nil] at HS ⊢
  have hne : (er != 0) = true := by simpa using her
  have hbeq : (er == er) = true := by simp
  have HB1 : Hid (Below w.heap.size w ((w.alloc (.cells #[.int .i64 0, .int .i64 0, .slice q 0 j, .slice a 0 c] 27)).alloc (.cells #[.int .i64 K.major, .int .i64 K.minor, .slice q' lk j', .slice a' ll' c'] 27))) := ((Below.refl _ _).alloc (Nat.le_refl _) _).alloc (by simp) _
  have HA1 : Hid (CellsAt ((w.alloc (.cells #[.int .i64 0, .int .i64 0, .slice q 0 j, .slice a 0 c] 27)).alloc (.cells #[.int .i64 K.major, .int .i64 K.minor, .slice q' lk j', .slice a' ll' c'] 27)) w.heap.size 27 #[.int .i64 0, .int .i64 0, .slice q 0 j, .slice a 0 c]) := (CellsAt.new _ _ _).kept (World.grownBy_alloc _ _ none) (by simp)
  have HC1 : Hid (CellsAt ((w.alloc (.cells #[.int .i64 0, .int .i64 0, .slice q 0 j, .slice a 0 c] 27)).alloc (.cells #[.int .i64 K.major, .int .i64 K.minor, .slice q' lk j', .slice a' ll' c'] 27)) (w.heap.size + 1) 27 #[.int .i64 K.major, .int .i64 K.minor, .slice q' lk j', .slice a' ll' c']) := by
    have := CellsAt.new (w.alloc (.cells #[.int .i64 0, .int .i64 0, .slice q 0 j, .slice a 0 c] 27)) 27 #[.int .i64 K.major, .int .i64 K.minor, .slice q' lk j', .slice a' ll' c']
    rw [World.size_alloc] at this
    exact this
  go_enter Tryz.func14, Tryz.ntmps14
  go_upto_region 2 with fail
  generalize ((w.alloc (.cells #[.int .i64 0, .int .i64 0, .slice q 0 j, .slice a 0 c] 27)).alloc (.cells #[.int .i64 K.major, .int .i64 K.minor, .slice q' lk j', .slice a' ll' c'] 27)) = w1 at *
  have z0 := CellsAt.cell HC1.out 0
  have z1 := CellsAt.cell HC1.out 1
  have z2 := CellsAt.cell HC1.out 2
  have z3 := CellsAt.cell HC1.out 3
  have f0 := CellsAt.frozen HC1.out 0
  have f1 := CellsAt.frozen HC1.out 1
  have f2 := CellsAt.frozen HC1.out 2
  have f3 := CellsAt.frozen HC1.out 3
  have zl := CellsAt.lt HC1.out
  simp at z0 z1 z2 z3
  have hG := sets4_grown w1 (w.heap.size + 1) (.int .i64 0) (.int .i64 0) (.slice none 0 0) (.slice none 0 0)
  have HB9 : Hid (Below w.heap.size w ((((w1.setCell ⟨w.heap.size + 1, 0, none⟩ (.int .i64 0)).setCell ⟨w.heap.size + 1, 1, none⟩ (.int .i64 0)).setCell ⟨w.heap.size + 1, 2, none⟩ (.slice none 0 0)).setCell ⟨w.heap.size + 1, 3, none⟩ (.slice none 0 0))) := HB1.out.grown hG HB1.out.size (fun q hq => by obtain rfl := Option.some.inj hq; omega)
  have HZ9 : Hid (CellsAt ((((w1.setCell ⟨w.heap.size + 1, 0, none⟩ (.int .i64 0)).setCell ⟨w.heap.size + 1, 1, none⟩ (.int .i64 0)).setCell ⟨w.heap.size + 1, 2, none⟩ (.slice none 0 0)).setCell ⟨w.heap.size + 1, 3, none⟩ (.slice none 0 0)) (w.heap.size + 1) 27 #[.int .i64 0, .int .i64 0, .slice none 0 0, .slice none 0 0]) := sets4 HC1.out _ _ _ _
  have HA9 : Hid (CellsAt ((((w1.setCell ⟨w.heap.size + 1, 0, none⟩ (.int .i64 0)).setCell ⟨w.heap.size + 1, 1, none⟩ (.int .i64 0)).setCell ⟨w.heap.size + 1, 2, none⟩ (.slice none 0 0)).setCell ⟨w.heap.size + 1, 3, none⟩ (.slice none 0 0)) w.heap.size 27 #[.int .i64 0, .int .i64 0, .slice q 0 j, .slice a 0 c]) := HA1.out.kept hG (by intro e; have := Option.some.inj e; omega)
  clear HB1 HC1 HA1 hG
  go_upto_region 3 with fail
  generalize ((((w1.setCell ⟨w.heap.size + 1, 0, none⟩ (.int .i64 0)).setCell ⟨w.heap.size + 1, 1, none⟩ (.int .i64 0)).setCell ⟨w.heap.size + 1, 2, none⟩ (.slice none 0 0)).setCell ⟨w.heap.size + 1, 3, none⟩ (.slice none 0 0)) = w4 at *
  clear z0 z1 z2 z3 f0 f1 f2 f3 zl
  have z0 := CellsAt.cell HZ9.out 0
  have z1 := CellsAt.cell HZ9.out 1
  have z2 := CellsAt.cell HZ9.out 2
  have z3 := CellsAt.cell HZ9.out 3
  have zl := CellsAt.lt HZ9.out
  have a0 := CellsAt.cell HA9.out 0
  have a1 := CellsAt.cell HA9.out 1
  have a2 := CellsAt.cell HA9.out 2
  have a3 := CellsAt.cell HA9.out 3
  have al := CellsAt.lt HA9.out
  simp at z0 z1 z2 z3 a0 a1 a2 a3
  go_wp2_with fail
  refine (HS.out _ HB9.out).mono ?_
  rintro e w5 ⟨rfl, b5⟩
  have HB5 : Hid (Below w.heap.size w w5) := HB9.out.trans (b5.mono HB9.out.size)
  clear b5 HB9 HS HZ9 HA9 z0 z1 z2 z3 zl a0 a1 a2 a3 al
  go_wp2
  go_ret
  exact ⟨rfl, HB5.out⟩

end Go.Proofs.YtlpnfbpgnfappaaGreat

/- What must be in any case, of plans: as data. -/
namespace Go.Proofs.YtlpnfbpgnfappaaGreat
open Go.RowKit Go.PlainAid Go.Lib

set_option maxRecDepth 100000

def extraM : Mod := ⟨⟨#[101, 120, 116, 114, 97]⟩, 0, 0, ⟨#[49, 50, 51, 52]⟩, [], [], []⟩
def lib9M : Mod := ⟨⟨#[108, 105, 98]⟩, 1, 9, ⟨#[97, 98, 99, 100, 101, 102, 103, 104]⟩, [⟨⟨#[102]⟩, 4⟩], [], []⟩
def inL : List Plc := [⟨extraM, 0⟩, ⟨appM, 1⟩, ⟨libM, 4⟩]
def libL : List Plc := [⟨libM, 4⟩]
def upL : List Plc := [⟨appM, 1⟩, ⟨lib9M, 4⟩]
theorem plB_i1 : instDo pairL extraM = (inL, 0) := by kernel_rfl
theorem plB_r1 : remDo pairL appN = (libL, 0) := by kernel_rfl
theorem plB_r2 : (remDo pairL libN).2 = 4 := by kernel_rfl
theorem plB_u1 : upDo pairL lib9M = (upL, 0) := by kernel_rfl
theorem plB_k1 : chkLink kernK inL = 0 := by kernel_rfl
theorem plB_k2 : chkLink kernK libL = 0 := by kernel_rfl
theorem plB_k3 : chkLink kernK upL = 0 := by kernel_rfl
theorem plB_a1 : (areaOf kernK inL).2 = 0 := by kernel_rfl
theorem plB_a2 : (areaOf kernK libL).2 = 0 := by kernel_rfl
theorem plB_a3 : (areaOf kernK upL).2 = 0 := by kernel_rfl
theorem plB_g1 : chkGraph inL = 0 := by kernel_rfl
theorem plB_g2 : chkGraph libL = 0 := by kernel_rfl
theorem plB_g3 : chkGraph upL = 0 := by kernel_rfl
def pvOf (p : Plc) : PV := ⟨p.mod, .slice none 0 0, .slice none 0 0, .slice none 0 0, p.first⟩
theorem up_name {a b : PV} (h : decide (b.mod.name.data.toList < a.mod.name.data.toList) = false) : UpName a b := by
  unfold UpName
  simpa using h
theorem plB_p1 : (ordRes [appM, extraM, libM]).2 = 0 := by kernel_rfl
theorem plB_o1 : (ordOf inL).2 = 0 := by
  have hr : [appM, extraM, libM] = risen inL := by
    have := risen_of (l := inL.map pvOf) (rs := [pvOf ⟨appM, 1⟩, pvOf ⟨extraM, 0⟩, pvOf ⟨libM, 4⟩]) (List.Perm.swap _ _ _) (by
      rw [List.pairwise_cons, List.pairwise_cons, List.pairwise_cons]
      refine ⟨fun x hx => ?_, fun x hx => ?_, fun x hx => by simp at hx, List.Pairwise.nil⟩
      · simp only [List.mem_cons, List.not_mem_nil, or_false] at hx
        rcases hx with rfl | rfl
        · exact up_name (by kernel_rfl)
        · exact up_name (by kernel_rfl)
      · simp only [List.mem_cons, List.not_mem_nil, or_false] at hx
        subst hx
        exact up_name (by kernel_rfl)) (chkGraph_zero.1 plB_g1).2.2
    exact this
  unfold ordOf
  rw [if_neg (by rw [plB_g1]; exact fun h => h rfl), ← hr]
  exact plB_p1
theorem plB_p2 : (ordRes [libM]).2 = 0 := by kernel_rfl
theorem plB_o2 : (ordOf libL).2 = 0 := by
  have hr : [libM] = risen libL := by
    have := risen_of (l := libL.map pvOf) (rs := [pvOf ⟨libM, 4⟩]) (List.Perm.refl _) (by simp) (chkGraph_zero.1 plB_g2).2.2
    exact this
  unfold ordOf
  rw [if_neg (by rw [plB_g2]; exact fun h => h rfl), ← hr]
  exact plB_p2
theorem plB_p3 : (ordRes [appM, lib9M]).2 = 0 := by kernel_rfl
theorem plB_o3 : (ordOf upL).2 = 0 := by
  have hr : [appM, lib9M] = risen upL := by
    have := risen_of (l := upL.map pvOf) (rs := [pvOf ⟨appM, 1⟩, pvOf ⟨lib9M, 4⟩]) (List.Perm.refl _) (by
      rw [List.pairwise_cons, List.pairwise_cons]
      refine ⟨fun x hx => ?_, fun x hx => by simp at hx, List.Pairwise.nil⟩
      simp only [List.mem_cons, List.not_mem_nil, or_false] at hx
      subst hx
      exact up_name (by kernel_rfl)) (chkGraph_zero.1 plB_g3).2.2
    exact this
  unfold ordOf
  rw [if_neg (by rw [plB_g3]; exact fun h => h rfl), ← hr]
  exact plB_p3
theorem plB_c1 : chkRg kernK inL = 0 := by
  unfold chkRg
  rw [plB_k1, plB_o1, if_neg (by decide), if_neg (by decide)]
  exact plB_a1
theorem plB_c2 : chkRg kernK libL = 0 := by
  unfold chkRg
  rw [plB_k2, plB_o2, if_neg (by decide), if_neg (by decide)]
  exact plB_a2
theorem plB_c3 : chkRg kernK upL = 0 := by
  unfold chkRg
  rw [plB_k3, plB_o3, if_neg (by decide), if_neg (by decide)]
  exact plB_a3
theorem plB_i : planRes kernK pairL (instDo pairL extraM) = ((kernK, inL), 0) := by
  rw [plB_i1]
  unfold planRes
  rw [if_neg (by rw [rgB_c]; decide), if_neg (by decide), if_neg (by rw [plB_c1]; decide)]
theorem plB_r : planRes kernK pairL (remDo pairL appN) = ((kernK, libL), 0) := by
  rw [plB_r1]
  unfold planRes
  rw [if_neg (by rw [rgB_c]; decide), if_neg (by decide), if_neg (by rw [plB_c2]; decide)]
theorem plB_s : planRes kernK pairL (remDo pairL libN) = ((emptyK, []), 4) := by
  unfold planRes
  rw [if_neg (by rw [rgB_c]; decide), plB_r2, if_pos (by decide)]
theorem plB_u : planRes kernK pairL (upDo pairL lib9M) = ((kernK, upL), 0) := by
  rw [plB_u1]
  unfold planRes
  rw [if_neg (by rw [rgB_c]; decide), if_neg (by decide), if_neg (by rw [plB_c3]; decide)]

end Go.Proofs.YtlpnfbpgnfappaaGreat

/- What planned answers, as registries; the module extra of the statements. -/
namespace Go.Proofs.YtlpnfbpgnfappaaGreat
open Go.RowKit Go.PlainAid Go.Lib

set_option maxRecDepth 100000

theorem planRes_reg {K : Ker} {L : List Plc} {D : List Plc × Int} {l' : List PV} {base : Nat} {W : World} {v : Value} (h1 : l'.map PV.plc = (planRes K L D).1.2) (h : OwnsReg base W v (planRes K L D).1.1 l') : IsReg W.heap.size W v (planRes K L D).1.1 l' := by
  rcases plan_cases K L D with ⟨_, e⟩ | ⟨_, _, e⟩ | ⟨_, _, _, e⟩ | ⟨_, _, hc, e⟩
  · rw [e] at h1 h ⊢
    obtain rfl : l' = [] := List.map_eq_nil_iff.1 h1
    exact h.isReg (by simp [emptyK]) (by simp) (fun x hx => by simp at hx)
  · rw [e] at h1 h ⊢
    obtain rfl : l' = [] := List.map_eq_nil_iff.1 h1
    exact h.isReg (by simp [emptyK]) (by simp) (fun x hx => by simp at hx)
  · rw [e] at h1 h ⊢
    obtain rfl : l' = [] := List.map_eq_nil_iff.1 h1
    exact h.isReg (by simp [emptyK]) (by simp) (fun x hx => by simp at hx)
  · rw [e] at h1 h ⊢
    dsimp only at h1 h ⊢
    rw [← h1] at hc
    obtain ⟨g1, g2, g3, _⟩ := rg_lens hc
    exact h.isReg g1 g2 g3
theorem extra_fits : extraM.fits := by
  refine ⟨by decide, by decide, fun e he => ?_, fun i hi => ?_⟩
  · simp [extraM] at he
  · simp [extraM] at hi
theorem lib9_fits : lib9M.fits := by
  refine ⟨by decide, by decide, fun e he => ?_, fun i hi => ?_⟩
  · simp [lib9M] at he
    subst he
    decide
  · simp [lib9M] at hi

set_option maxHeartbeats 1000000 in
theorem extra_any (w : World) : Calls Tryz.prog 57 #[] w fun e w' => e = .returned (.agg #[.string ⟨#[101, 120, 116, 114, 97]⟩, .int .i64 0, .int .i64 0, .string ⟨#[49, 50, 51, 52]⟩, .slice none 0 0, .slice none 0 0, .slice none 0 0]) ∧ Below w.heap.size w w' := by
  go_enter Tryz.func57, Tryz.ntmps57
  go_wp2
  (try simp only [Exit.inBlock, Exit.then])
  refine bodyPost_ret (results_cell_row rfl _ _ _ _ _ _ _ rfl (CellsAt.new w _ _) Tryz.underlying31 rfl (by kernel_rfl)) rfl ?_
  exact ⟨rfl, (Below.refl _ _).alloc (Nat.le_refl _) _⟩
theorem extra_isMod (n : Nat) (W : World) : IsMod n W (.agg #[.string ⟨#[101, 120, 116, 114, 97]⟩, .int .i64 0, .int .i64 0, .string ⟨#[49, 50, 51, 52]⟩, .slice none 0 0, .slice none 0 0, .slice none 0 0]) extraM :=
  ⟨_, _, _, rfl, ⟨_, _, rfl, by decide, .inl rfl⟩, ⟨_, _, rfl, by decide, .inl rfl⟩, ⟨_, _, rfl, by decide, .inl rfl⟩⟩

end Go.Proofs.YtlpnfbpgnfappaaGreat
