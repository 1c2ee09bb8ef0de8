/- Texts that are laid together. -/
import Derived.Test.YthmohjgdcjafkadGreatMrgS
import Derived.Test.YthmohjgdcjafkadGreatMrgR
import Derived.Test.YthmohjgdcjafkadGreatMrgT
import Derived.Test.YthmohjgdcjafkadGreatMrgC
import Derived.Lib.QuietBelow

/- The contracts of package compact's Step and Pack. -/
namespace Go.Proofs.YthmohjgdcjafkadGreat
open Go.RowKit Go.PlainAid Go.Lib

set_option maxRecDepth 100000

/-- What Step and Pack answer. -/
def stepAns (K : Ker) (L : List Plc) : (Ker × List Plc) × Bool × Int := if chkRg K L = 0 then ((K, (stepRes L).1), (stepRes L).2, 0) else ((emptyK, []), false, chkRg K L)
def packAns (K : Ker) (L : List Plc) : (Ker × List Plc) × Nat × Int := if chkRg K L = 0 then ((K, packFrom 0 L), offFrom 0 L, 0) else ((emptyK, []), 0, chkRg K L)
theorem zeroReg_owns (n : Nat) (W : World) : OwnsReg n W (.agg #[.int .i64 0, .int .i64 0, .slice none 0 0, .slice none 0 0]) emptyK [] := ⟨_, _, rfl, World.ownsRow_nil _ _ _ _, World.ownsRow_nil _ _ _ _, fun x hx => by simp at hx⟩
theorem OwnsReg.beCell {base B : Nat} {W W' : World} {v : Value} {K : Ker} {l : List PV} {t : TypeId} {cs : Array Value} (h : OwnsReg base W v K l) (hc : CellsAt W B t cs) (h1 : 120 ≠ t) (h2 : 84 ≠ t) (h3 : 43 ≠ t) (h4 : 41 ≠ t) (hg : W.grownBy W' (some B)) : OwnsReg base W' v K l := by
  obtain ⟨ve, vl, e, o1, o2, o3⟩ := h
  exact ⟨ve, vl, e, o1.kept hg (.inr (own_ne_cells o1 hc h1)), o2.kept hg (.inr (own_ne_cells o2 hc h4)), fun x hx => (o3 x hx).beCell hc h1 h2 h3 hg⟩
theorem OwnsReg.below {base : Nat} {W W' : World} {v : Value} {K : Ker} {l : List PV} (h : OwnsReg base W v K l) (hb : Below W.heap.size W W') : OwnsReg base W' v K l := by
  obtain ⟨ve, vl, e, o1, o2, o3⟩ := h
  exact ⟨ve, vl, e, own_below o1 hb, own_below o2 hb, fun x hx => (o3 x hx).below hb⟩
theorem OwnsReg.lower {base b : Nat} {W : World} {v : Value} {K : Ker} {l : List PV} (h : OwnsReg base W v K l) (hb : b ≤ base) : OwnsReg b W v K l := by
  obtain ⟨ve, vl, e, o1, o2, o3⟩ := h
  exact ⟨ve, vl, e, own_down o1 hb, own_down o2 hb, fun x hx => (o3 x hx).lower hb⟩


end Go.Proofs.YthmohjgdcjafkadGreat

/- The contract of package plan's planned, whatever it is handed. -/
namespace Go.Proofs.YthmohjgdcjafkadGreat
open Go.RowKit Go.PlainAid Go.Lib

set_option maxRecDepth 100000

/-- What planned answers. -/
def planRes (K : Ker) (L : List Plc) (D : List Plc × Int) : (Ker × List Plc) × Int :=
  if chkRg K L ≠ 0 then ((emptyK, []), chkRg K L) else if D.2 ≠ 0 then ((emptyK, []), D.2) else if chkRg K D.1 ≠ 0 then ((emptyK, []), chkRg K D.1) else ((K, D.1), 0)
theorem plan_cases (K : Ker) (L : List Plc) (D : List Plc × Int) :
    (chkRg K L ≠ 0 ∧ planRes K L D = ((emptyK, []), chkRg K L)) ∨ (chkRg K L = 0 ∧ D.2 ≠ 0 ∧ planRes K L D = ((emptyK, []), D.2)) ∨
    (chkRg K L = 0 ∧ D.2 = 0 ∧ chkRg K D.1 ≠ 0 ∧ planRes K L D = ((emptyK, []), chkRg K D.1)) ∨ (chkRg K L = 0 ∧ D.2 = 0 ∧ chkRg K D.1 = 0 ∧ planRes K L D = ((K, D.1), 0)) := by
  unfold planRes
  by_cases h1 : chkRg K L = 0
  · by_cases h2 : D.2 = 0
    · by_cases h3 : chkRg K D.1 = 0
      · exact .inr (.inr (.inr ⟨h1, h2, h3, by rw [if_neg (by omega), if_neg (by omega), if_neg (by omega)]⟩))
      · exact .inr (.inr (.inl ⟨h1, h2, h3, by rw [if_neg (by omega), if_neg (by omega), if_pos h3]⟩))
    · exact .inr (.inl ⟨h1, h2, by rw [if_neg (by omega), if_pos h2]⟩)
  · exact .inl ⟨h1, by rw [if_pos h1]⟩
theorem pack_reg {base Bp : Nat} {W : World} {t : TypeId} {K : Ker} {ve vl : Value} {l : List PV} (hp : PackAt base Bp W t K ve vl l) (hl : Lens l) (hk : K.exps.length ≤ 255) : IsReg W.heap.size W (.agg #[.int .i64 K.major, .int .i64 K.minor, ve, vl]) K l :=
  ⟨ve, vl, rfl, own_rows (C := expC) (cells := Exp.cell) (sz := 2) (fun _ => rfl) expC_at hp.2.1 (by omega), hp.rows hl⟩

set_option maxHeartbeats 16000000 in
theorem planned_any (K : Ker) (l : List PV) (v : Value) (w : World) (hreg : IsReg w.heap.size w v K l) (hf : K.fits) (hfit : ∀ x ∈ l, x.mod.fits) (Kf : FuncId) (cap : Value) (hK : ∀ W x, Sem.run Tryz.prog (callFunc Kf #[x, cap]) W = .ok (.enter Kf #[x, cap]) W) (D : List Plc × Int)
    (hdo : chkRg K (l.map PV.plc) = 0 → ∀ (W : World) (Bp : Nat) (ve vl : Value) (l0 : List PV), Below w.heap.size w W → w.heap.size ≤ Bp → PackAt w.heap.size Bp W 104 K ve vl l0 → l0.map PV.plc = l.map PV.plc → (∀ x ∈ l0, x.mod.fits) → Lens l0 → l0.length ≤ 8 →
      Calls Tryz.prog Kf #[.pointer (some ⟨Bp, 0, none⟩), cap] W fun e w' => e = .returned (.int .i64 D.2) ∧ Did w.heap.size Bp K ve W w' D) :
    Calls Tryz.prog 70 #[v, .func (.func Kf) #[] #[cap]] w fun e w' => (∃ (v' : Value) (l' : List PV), e = .returned (.tuple #[v', .int .i64 (planRes K (l.map PV.plc) D).2]) ∧ l'.map PV.plc = (planRes K (l.map PV.plc) D).1.2 ∧ (∀ x ∈ l', x.mod.fits) ∧ OwnsReg w.heap.size w' v' (planRes K (l.map PV.plc) D).1.1 l') ∧ Below w.heap.size w w' := by
  have HCK : Hid (∀ W, Below w.heap.size w W → Calls Tryz.prog 20 #[v] W fun e w' => e = .returned (.int .i64 (chkRg K (l.map PV.plc))) ∧ Below W.heap.size W w') := fun W hb => regCheck_any K l v W ((hreg.below hb).more hb.size) hf hfit
  have HCP : Hid (chkRg K (l.map PV.plc) = 0 → ∀ W, Below w.heap.size w W → Calls Tryz.prog 117 #[v] W fun e w' => (∃ v' l', e = .returned v' ∧ l'.map PV.plc = l.map PV.plc ∧ OwnsReg W.heap.size w' v' K l') ∧ Below W.heap.size W w') := fun h W hb => by
    obtain ⟨h1, h2, h3, _⟩ := rg_lens h
    exact copyReg_any K l v W ((hreg.below hb).more hb.size) h1 h2 h3
  have HC2 : Hid (chkRg K (l.map PV.plc) = 0 → ∀ (Bp : Nat) (ve vl' : Value) (l' : List PV) (W : World), PackAt w.heap.size Bp W 104 K ve vl' l' → Lens l' → (∀ x ∈ l', x.mod.fits) → l'.map PV.plc = D.1 → Calls Tryz.prog 20 #[.agg #[.int .i64 K.major, .int .i64 K.minor, ve, vl']] W fun e w' => e = .returned (.int .i64 (chkRg K D.1)) ∧ Below W.heap.size W w') := fun h Bp ve vl' l' W hp hl hft hpl => by
    obtain ⟨h1, _⟩ := rg_lens h
    have := regCheck_any K l' _ W (pack_reg hp hl h1) hf hft
    rw [hpl] at this
    exact this
  have HLN : Hid (chkRg K (l.map PV.plc) = 0 → ∀ l0 : List PV, l0.map PV.plc = l.map PV.plc → Lens l0 ∧ l0.length ≤ 8) := fun h l0 hpl => by
    have h0 : chkRg K (l0.map PV.plc) = 0 := by rw [hpl]; exact h
    have h1 := (rg_lens h0).2.2
    have h2 := reg_lens h1.2
    exact ⟨⟨by omega, h1.1⟩, h2.1⟩
  have HDO : Hid (chkRg K (l.map PV.plc) = 0 → ∀ (W : World) (Bp : Nat) (ve vl : Value) (l0 : List PV), Below w.heap.size w W → w.heap.size ≤ Bp → PackAt w.heap.size Bp W 104 K ve vl l0 → l0.map PV.plc = l.map PV.plc → (∀ x ∈ l0, x.mod.fits) → Lens l0 → l0.length ≤ 8 →
      Calls Tryz.prog Kf #[.pointer (some ⟨Bp, 0, none⟩), cap] W fun e w' => e = .returned (.int .i64 D.2) ∧ Did w.heap.size Bp K ve W w' D) := hdo
  have key := plan_cases K (l.map PV.plc) D
  obtain ⟨ve, vl, rfl, hE, hL⟩ := hreg
  obtain ⟨qe, je, rfl, -, -⟩ := hE
  obtain ⟨⟨a, cap', rfl, -, -⟩, -⟩ := hL
  obtain ⟨PR, hPR⟩ : ∃ PR, PR = planRes K (l.map PV.plc) D := ⟨_, rfl⟩
  rw [← hPR] at key ⊢
  obtain ⟨⟨PK, PL⟩, pe⟩ := PR
  dsimp only
  generalize hcr : chkRg K (l.map PV.plc) = cr at *
  generalize hc2 : chkRg K D.1 = c2 at *
  generalize K.exps.length = lk at *
  have HFT0 : Hid (∀ x ∈ l, x.mod.fits) := hfit
  have HB1 : Hid (Below w.heap.size w ((w.alloc (.cells #[.int .i64 K.major, .int .i64 K.minor, .slice qe lk je, .slice a l.length cap'] 48)).alloc (.cells #[.int .i64 0, .int .i64 0, .slice none 0 0, .slice none 0 0] 48))) := ((Below.refl _ _).alloc (Nat.le_refl _) _).alloc (by simp) _
  have HC1 : Hid (CellsAt ((w.alloc (.cells #[.int .i64 K.major, .int .i64 K.minor, .slice qe lk je, .slice a l.length cap'] 48)).alloc (.cells #[.int .i64 0, .int .i64 0, .slice none 0 0, .slice none 0 0] 48)) w.heap.size 48 #[.int .i64 K.major, .int .i64 K.minor, .slice qe lk je, .slice a l.length cap']) := (CellsAt.new _ _ _).kept (World.grownBy_alloc _ _ none) (by simp)
  have HZ1 : Hid (CellsAt ((w.alloc (.cells #[.int .i64 K.major, .int .i64 K.minor, .slice qe lk je, .slice a l.length cap'] 48)).alloc (.cells #[.int .i64 0, .int .i64 0, .slice none 0 0, .slice none 0 0] 48)) (w.heap.size + 1) 48 #[.int .i64 0, .int .i64 0, .slice none 0 0, .slice none 0 0]) := by
    have := CellsAt.new (w.alloc (.cells #[.int .i64 K.major, .int .i64 K.minor, .slice qe lk je, .slice a l.length cap'] 48)) 48 #[.int .i64 0, .int .i64 0, .slice none 0 0, .slice none 0 0]
    rw [World.size_alloc] at this
    exact this
  clear hdo hcr hc2 hfit hf hPR
  have HKEY : Hid _ := key
  clear key
  go_enter Tryz.func70, Tryz.ntmps70
  go_wp2_with fail
  refine (HCK.out _ HB1.out).mono ?_
  generalize ((w.alloc (.cells #[.int .i64 K.major, .int .i64 K.minor, .slice qe lk je, .slice a l.length cap'] 48)).alloc (.cells #[.int .i64 0, .int .i64 0, .slice none 0 0, .slice none 0 0] 48)) = w1 at *
  rintro e w2 ⟨rfl, b2⟩
  have HB2 : Hid (Below w.heap.size w w2) := HB1.out.trans (b2.mono HB1.out.size)
  have HCC2 : Hid (CellsAt w2 w.heap.size 48 #[.int .i64 K.major, .int .i64 K.minor, .slice qe lk je, .slice a l.length cap']) := HC1.out.below b2 HC1.out.lt
  have HZ2 : Hid (CellsAt w2 (w.heap.size + 1) 48 #[.int .i64 0, .int .i64 0, .slice none 0 0, .slice none 0 0]) := HZ1.out.below b2 HZ1.out.lt
  clear b2 HB1 HC1 HZ1 HCK
  by_cases hcr0 : cr ≠ 0
  · have h' : (cr != 0) = true := by simpa using hcr0
    obtain ⟨e1, e2, e3⟩ : PK = emptyK ∧ PL = [] ∧ pe = cr := by
      rcases HKEY.out with ⟨_, h⟩ | ⟨h, _⟩ | ⟨h, _⟩ | ⟨h, _⟩
      · injection h with h1 h2
        injection h1 with h1 h3
        exact ⟨h1, h3, h2⟩
      · exact absurd h hcr0
      · exact absurd h hcr0
      · exact absurd h hcr0
    subst e1 e2 e3
    have z0 := CellsAt.cell HZ2.out 0
    have z1 := CellsAt.cell HZ2.out 1
    have z2 := CellsAt.cell HZ2.out 2
    have z3 := CellsAt.cell HZ2.out 3
    have f0 := CellsAt.frozen HZ2.out 0
    have f1 := CellsAt.frozen HZ2.out 1
    have f2 := CellsAt.frozen HZ2.out 2
    have f3 := CellsAt.frozen HZ2.out 3
    have lz := CellsAt.lt HZ2.out
    simp at z0 z1 z2 z3
    clear hcr0 HCP HDO HCC2 HC2 HLN HKEY HFT0
    go_wp2
    have hZ9 := sets4 HZ2.out (.int .i64 0) (.int .i64 0) (.slice none 0 0) (.slice none 0 0)
    have hG9 := sets4_grown w2 (w.heap.size + 1) (.int .i64 0) (.int .i64 0) (.slice none 0 0) (.slice none 0 0)
    refine bodyPost_ret (results_cell_tmp_row rfl _ _ _ _ _ _ _ rfl hZ9 Tryz.underlying48 rfl (by kernel_rfl)) rfl ?_
    exact ⟨⟨_, [], rfl, rfl, fun x hx => by simp at hx, zeroReg_owns _ _⟩, HB2.out.grown hG9 HB2.out.size (fun q hq => by obtain rfl := Option.some.inj hq; exact Nat.le_succ _)⟩
  · obtain rfl : cr = 0 := Decidable.not_not.1 hcr0
    have HCP2 : Hid (∀ W, Below w.heap.size w W → Calls Tryz.prog 117 #[.agg #[.int .i64 K.major, .int .i64 K.minor, .slice qe lk je, .slice a l.length cap']] W fun e w' => (∃ v' l', e = .returned v' ∧ l'.map PV.plc = l.map PV.plc ∧ OwnsReg W.heap.size w' v' K l') ∧ Below W.heap.size W w') := HCP.out (by first | rfl | trivial)
    have HDD : Hid (∀ (W : World) (Bp : Nat) (ve vl : Value) (l0 : List PV), Below w.heap.size w W → w.heap.size ≤ Bp → PackAt w.heap.size Bp W 104 K ve vl l0 → l0.map PV.plc = l.map PV.plc → (∀ x ∈ l0, x.mod.fits) → Lens l0 → l0.length ≤ 8 →
      Calls Tryz.prog Kf #[.pointer (some ⟨Bp, 0, none⟩), cap] W fun e w' => e = .returned (.int .i64 D.2) ∧ Did w.heap.size Bp K ve W w' D) := HDO.out (by first | rfl | trivial)
    have HC3 : Hid (∀ (Bp : Nat) (ve vl' : Value) (l' : List PV) (W : World), PackAt w.heap.size Bp W 104 K ve vl' l' → Lens l' → (∀ x ∈ l', x.mod.fits) → l'.map PV.plc = D.1 → Calls Tryz.prog 20 #[.agg #[.int .i64 K.major, .int .i64 K.minor, ve, vl']] W fun e w' => e = .returned (.int .i64 c2) ∧ Below W.heap.size W w') := HC2.out (by first | rfl | trivial)
    have HLN2 : Hid (∀ l0 : List PV, l0.map PV.plc = l.map PV.plc → Lens l0 ∧ l0.length ≤ 8) := HLN.out (by first | rfl | trivial)
    have c0 := CellsAt.cell HCC2.out 0
    have c1 := CellsAt.cell HCC2.out 1
    have c2' := CellsAt.cell HCC2.out 2
    have c3 := CellsAt.cell HCC2.out 3
    have lc := CellsAt.lt HCC2.out
    simp at c0 c1 c2' c3
    clear HCP HDO HC2 HLN hcr0
    go_wp2_with fail
    refine (HCP2.out _ HB2.out).mono ?_
    rintro e w3 ⟨⟨v3, l0, rfl, hpl, ho⟩, b3⟩
    obtain ⟨ve3, vl3, rfl, oe3, ol3, op3⟩ := ho
    obtain ⟨ea, ec, rfl⟩ := own_form oe3
    obtain ⟨pa, pc, rfl⟩ := own_form ol3
    have LB : w.heap.size ≤ w2.heap.size := HB2.out.size
    have LZ : w.heap.size + 1 < w3.heap.size := Nat.lt_of_lt_of_le HZ2.out.lt b3.size
    have hB4 : Below w.heap.size w (w3.alloc (.cells #[.int .i64 K.major, .int .i64 K.minor, .slice ea K.exps.length ec, .slice pa l0.length pc] 104)) := by
      have := HB2.out.trans (b3.mono HB2.out.size)
      exact this.alloc this.size _
    have HB4 : Hid (Below w.heap.size w (w3.alloc (.cells #[.int .i64 K.major, .int .i64 K.minor, .slice ea K.exps.length ec, .slice pa l0.length pc] 104))) := hB4
    have HZ4 : Hid (CellsAt (w3.alloc (.cells #[.int .i64 K.major, .int .i64 K.minor, .slice ea K.exps.length ec, .slice pa l0.length pc] 104)) (w.heap.size + 1) 48 #[.int .i64 0, .int .i64 0, .slice none 0 0, .slice none 0 0]) := (HZ2.out.below b3 HZ2.out.lt).kept (World.grownBy_alloc _ _ none) (by simp)
    have HP4 : Hid (PackAt w.heap.size w3.heap.size (w3.alloc (.cells #[.int .i64 K.major, .int .i64 K.minor, .slice ea K.exps.length ec, .slice pa l0.length pc] 104)) 104 K (.slice ea K.exps.length ec) (.slice pa l0.length pc) l0) := ⟨CellsAt.new _ _ _, (own_down oe3 LB).alloc _, (own_down ol3 LB).alloc _, fun x hx => ((op3 x hx).lower LB).below ((Below.refl _ _).alloc (Nat.le_refl _) _)⟩
    have HPL : Hid (l0.map PV.plc = l.map PV.plc) := hpl
    have HFT : Hid (∀ x ∈ l0, x.mod.fits) := fits_mods (mods_plc hpl) HFT0.out
    clear b3 HB2 HZ2 HCC2 HCP2 HFT0 oe3 ol3 op3 hpl c0 c1 c2' c3 lc hB4
    generalize hkl : K.exps.length = ke at *
    have LW3 : w.heap.size ≤ w3.heap.size := by omega
    go_wp2_with fail
    generalize (w3.alloc (.cells #[.int .i64 K.major, .int .i64 K.minor, .slice ea ke ec, .slice pa l0.length pc] 104)) = w4 at *
    generalize w3.heap.size = Bp at *
    refine (HDD.out w4 Bp _ _ l0 HB4.out LW3 HP4.out HPL.out HFT.out (HLN2.out l0 HPL.out).1 (HLN2.out l0 HPL.out).2).mono ?_
    rintro e w5 ⟨rfl, hk5, hd5⟩
    have HZ5 : Hid (CellsAt w5 (w.heap.size + 1) 48 #[.int .i64 0, .int .i64 0, .slice none 0 0, .slice none 0 0]) := hk5.2 _ _ HZ4.out.lt HZ4.out
    have HB5 : Hid (Below w.heap.size w w5) := HB4.out.trans hk5.1
    have HD5 : Hid (D.2 = 0 → ∃ vl' l', l'.map PV.plc = D.1 ∧ (∀ x ∈ l', x.mod.fits) ∧ Lens l' ∧ PackAt w.heap.size Bp w5 104 K (.slice ea ke ec) vl' l') := hd5
    clear HDD HB4 HZ4 HP4 HFT HPL HLN2 hk5 hd5
    have hkey := HKEY.out
    rcases hkey with ⟨h, _⟩ | ⟨_, hd, hpr⟩ | ⟨_, hd, hc, hpr⟩ | ⟨_, hd, hc, hpr⟩
    · exact absurd rfl h
    · injection hpr with h1 h2
      injection h1 with h1 h3
      subst h1 h3
      rw [← h2] at hd ⊢
      have hd' : (pe != 0) = true := by simpa using hd
      have z0 := CellsAt.cell HZ5.out 0
      have z1 := CellsAt.cell HZ5.out 1
      have z2 := CellsAt.cell HZ5.out 2
      have z3 := CellsAt.cell HZ5.out 3
      have f0 := CellsAt.frozen HZ5.out 0
      have f1 := CellsAt.frozen HZ5.out 1
      have f2 := CellsAt.frozen HZ5.out 2
      have f3 := CellsAt.frozen HZ5.out 3
      have lz := CellsAt.lt HZ5.out
      simp at z0 z1 z2 z3
      clear hd HD5 HC3 HKEY h2 hkl
      go_wp2
      have hZ9 := sets4 HZ5.out (.int .i64 0) (.int .i64 0) (.slice none 0 0) (.slice none 0 0)
      have hG9 := sets4_grown w5 (w.heap.size + 1) (.int .i64 0) (.int .i64 0) (.slice none 0 0) (.slice none 0 0)
      refine bodyPost_ret (results_cell_tmp_row rfl _ _ _ _ _ _ _ rfl hZ9 Tryz.underlying48 rfl (by kernel_rfl)) rfl ?_
      exact ⟨⟨_, [], rfl, rfl, fun x hx => by simp at hx, zeroReg_owns _ _⟩, HB5.out.grown hG9 HB5.out.size (fun q hq => by obtain rfl := Option.some.inj hq; exact Nat.le_succ _)⟩
    all_goals
      obtain ⟨vl', l', hpl, hft, hln, hp5⟩ := HD5.out hd
      rw [hd]
      obtain ⟨na, nc, rfl⟩ := own_form hp5.2.2.1
      have HP5 : Hid (PackAt w.heap.size Bp w5 104 K (.slice ea ke ec) (.slice na l'.length nc) l') := hp5
      have HLN5 : Hid (Lens l') := hln
      have HFT5 : Hid (∀ x ∈ l', x.mod.fits) := hft
      have HPL5 : Hid (l'.map PV.plc = D.1) := hpl
      have p0 := CellsAt.cell hp5.1 0
      have p1 := CellsAt.cell hp5.1 1
      have p2 := CellsAt.cell hp5.1 2
      have p3 := CellsAt.cell hp5.1 3
      have lp := CellsAt.lt hp5.1
      simp at p0 p1 p2 p3
      clear HD5 HKEY hd hp5 hln hft hpl
      injection hpr with h1 h2
      injection h1 with h1 h3
      replace h1 := h1.symm
      replace h2 := h2.symm
      subst h1 h2
      have HPR : Hid (PL = _) := h3
      clear h3
      go_wp2_with fail
      refine (HC3.out Bp _ _ l' w5 HP5.out HLN5.out HFT5.out HPL5.out).mono ?_
      clear p0 p1 p2 p3 lp
      rintro e w6 ⟨rfl, b6⟩
      have HB6 : Hid (Below w.heap.size w w6) := HB5.out.trans (b6.mono HB5.out.size)
      have HZ6 : Hid (CellsAt w6 (w.heap.size + 1) 48 #[.int .i64 0, .int .i64 0, .slice none 0 0, .slice none 0 0]) := HZ5.out.below b6 HZ5.out.lt
      have HP6 : Hid (PackAt w.heap.size Bp w6 104 K (.slice ea ke ec) (.slice na l'.length nc) l') := HP5.out.below b6
      clear b6 HB5 HZ5 HP5 HC3
      have z0 := CellsAt.cell HZ6.out 0
      have z1 := CellsAt.cell HZ6.out 1
      have z2 := CellsAt.cell HZ6.out 2
      have z3 := CellsAt.cell HZ6.out 3
      have f0 := CellsAt.frozen HZ6.out 0
      have f1 := CellsAt.frozen HZ6.out 1
      have f2 := CellsAt.frozen HZ6.out 2
      have f3 := CellsAt.frozen HZ6.out 3
      have lz := CellsAt.lt HZ6.out
      simp at z0 z1 z2 z3
    · have hc' : (c2 != 0) = true := by simpa using hc
      obtain rfl := HPR.out
      clear hc HPR HP6 HLN5 HFT5 HPL5
      go_wp2
      have hZ9 := sets4 HZ6.out (.int .i64 0) (.int .i64 0) (.slice none 0 0) (.slice none 0 0)
      have hG9 := sets4_grown w6 (w.heap.size + 1) (.int .i64 0) (.int .i64 0) (.slice none 0 0) (.slice none 0 0)
      refine bodyPost_ret (results_cell_tmp_row rfl _ _ _ _ _ _ _ rfl hZ9 Tryz.underlying48 rfl (by kernel_rfl)) rfl ?_
      exact ⟨⟨_, [], rfl, rfl, fun x hx => by simp at hx, zeroReg_owns _ _⟩, HB6.out.grown hG9 HB6.out.size (fun q hq => by obtain rfl := Option.some.inj hq; exact Nat.le_succ _)⟩
    · subst hc
      have p0 := CellsAt.cell HP6.out.1 0
      have p1 := CellsAt.cell HP6.out.1 1
      have p2 := CellsAt.cell HP6.out.1 2
      have p3 := CellsAt.cell HP6.out.1 3
      have lp := CellsAt.lt HP6.out.1
      simp at p0 p1 p2 p3
      go_wp2
      have hZ9 := sets4 HZ6.out (.int .i64 K.major) (.int .i64 K.minor) (.slice ea ke ec) (.slice na l'.length nc)
      have hG9 := sets4_grown w6 (w.heap.size + 1) (.int .i64 K.major) (.int .i64 K.minor) (.slice ea ke ec) (.slice na l'.length nc)
      refine bodyPost_ret (results_cell_tmp_row rfl _ _ _ _ _ _ _ rfl hZ9 Tryz.underlying48 rfl (by kernel_rfl)) rfl ?_
      refine ⟨⟨_, l', rfl, HPL5.out.trans HPR.out.symm, HFT5.out, _, _, rfl, ?_, ?_, fun x hx => (HP6.out.2.2.2 x hx).beCell HZ6.out (by decide) (by decide) (by decide) hG9⟩, HB6.out.grown hG9 HB6.out.size (fun q hq => by obtain rfl := Option.some.inj hq; exact Nat.le_succ _)⟩
      · exact HP6.out.2.1.kept hG9 (.inr (own_ne_cells HP6.out.2.1 HZ6.out (by decide)))
      · exact HP6.out.2.2.1.kept hG9 (.inr (own_ne_cells HP6.out.2.2.1 HZ6.out (by decide)))

end Go.Proofs.YthmohjgdcjafkadGreat

/- The contracts of package plan's Install, Remove and Upgrade. Printed by genplk.py. -/
namespace Go.Proofs.YthmohjgdcjafkadGreat
open Go.RowKit Go.PlainAid Go.Lib

set_option maxRecDepth 100000

set_option maxHeartbeats 16000000 in
theorem plInstall_any (K : Ker) (l : List PV) (v : Value) (M : Mod) (vm : Value) (w : World) (hreg : IsReg w.heap.size w v K l) (hf : K.fits) (hfit : ∀ x ∈ l, x.mod.fits) (hm : IsMod w.heap.size w vm M) (hmf : M.fits) :
    Calls Tryz.prog 29 #[v, vm] w fun e w' => (∃ (v' : Value) (l' : List PV), e = .returned (.tuple #[v', .int .i64 (planRes K (l.map PV.plc) (instDo (l.map PV.plc) M)).2]) ∧ l'.map PV.plc = (planRes K (l.map PV.plc) (instDo (l.map PV.plc) M)).1.2 ∧ (∀ x ∈ l', x.mod.fits) ∧ OwnsReg w.heap.size w' v' (planRes K (l.map PV.plc) (instDo (l.map PV.plc) M)).1.1 l') ∧ Below w.heap.size w w' := by
  have HR0 : Hid (IsReg w.heap.size w v K l) := hreg
  obtain ⟨ve, vl, rfl, hE, hL⟩ := hreg
  obtain ⟨qe, je, rfl, -, -⟩ := hE
  obtain ⟨⟨a, cap, rfl, -, -⟩, -⟩ := hL
  generalize hlk : K.exps.length = lk at *
  have HM0 : Hid (IsMod w.heap.size w vm M) := hm
  obtain ⟨vxe, vxi, vxp, rfl, hxE, hxI, hxP⟩ := hm
  obtain ⟨pe, ke, e4, -⟩ := hxE
  obtain ⟨pi, ki, e5, -⟩ := hxI
  obtain ⟨pp, kp, e6, -⟩ := hxP
  subst e4 e5 e6
  have hB1 : Below w.heap.size w (((w.alloc (.cells #[.int .i64 K.major, .int .i64 K.minor, .slice qe lk je, .slice a l.length cap] 48)).alloc (.cells #[.string M.name, .int .i64 M.major, .int .i64 M.minor, .string M.text, .slice pe M.exps.length ke, .slice pi M.imps.length ki, .slice pp M.pats.length kp] 39)).alloc (.cells #[.int .i64 0, .int .i64 0, .slice none 0 0, .slice none 0 0] 48)) := (((Below.refl _ _).alloc (Nat.le_refl _) _).alloc (by simp) _).alloc (by simp; omega) _
  have hC1 : CellsAt (((w.alloc (.cells #[.int .i64 K.major, .int .i64 K.minor, .slice qe lk je, .slice a l.length cap] 48)).alloc (.cells #[.string M.name, .int .i64 M.major, .int .i64 M.minor, .string M.text, .slice pe M.exps.length ke, .slice pi M.imps.length ki, .slice pp M.pats.length kp] 39)).alloc (.cells #[.int .i64 0, .int .i64 0, .slice none 0 0, .slice none 0 0] 48)) w.heap.size 48 #[.int .i64 K.major, .int .i64 K.minor, .slice qe lk je, .slice a l.length cap] := ((CellsAt.new w 48 #[.int .i64 K.major, .int .i64 K.minor, .slice qe lk je, .slice a l.length cap]).kept (World.grownBy_alloc _ _ none) (by simp)).kept (World.grownBy_alloc _ _ none) (by simp)
  have hD1 : CellsAt (((w.alloc (.cells #[.int .i64 K.major, .int .i64 K.minor, .slice qe lk je, .slice a l.length cap] 48)).alloc (.cells #[.string M.name, .int .i64 M.major, .int .i64 M.minor, .string M.text, .slice pe M.exps.length ke, .slice pi M.imps.length ki, .slice pp M.pats.length kp] 39)).alloc (.cells #[.int .i64 0, .int .i64 0, .slice none 0 0, .slice none 0 0] 48)) (w.heap.size + 1) 39 #[.string M.name, .int .i64 M.major, .int .i64 M.minor, .string M.text, .slice pe M.exps.length ke, .slice pi M.imps.length ki, .slice pp M.pats.length kp] := by
    have := (CellsAt.new (w.alloc (.cells #[.int .i64 K.major, .int .i64 K.minor, .slice qe lk je, .slice a l.length cap] 48)) 39 #[.string M.name, .int .i64 M.major, .int .i64 M.minor, .string M.text, .slice pe M.exps.length ke, .slice pi M.imps.length ki, .slice pp M.pats.length kp]).kept (World.grownBy_alloc _ (.cells #[.int .i64 0, .int .i64 0, .slice none 0 0, .slice none 0 0] 48) none) (by simp)
    rw [World.size_alloc] at this
    exact this
  have hZ1 : CellsAt (((w.alloc (.cells #[.int .i64 K.major, .int .i64 K.minor, .slice qe lk je, .slice a l.length cap] 48)).alloc (.cells #[.string M.name, .int .i64 M.major, .int .i64 M.minor, .string M.text, .slice pe M.exps.length ke, .slice pi M.imps.length ki, .slice pp M.pats.length kp] 39)).alloc (.cells #[.int .i64 0, .int .i64 0, .slice none 0 0, .slice none 0 0] 48)) (w.heap.size + 2) 48 #[.int .i64 0, .int .i64 0, .slice none 0 0, .slice none 0 0] := by
    have := CellsAt.new ((w.alloc (.cells #[.int .i64 K.major, .int .i64 K.minor, .slice qe lk je, .slice a l.length cap] 48)).alloc (.cells #[.string M.name, .int .i64 M.major, .int .i64 M.minor, .string M.text, .slice pe M.exps.length ke, .slice pi M.imps.length ki, .slice pp M.pats.length kp] 39)) 48 #[.int .i64 0, .int .i64 0, .slice none 0 0, .slice none 0 0]
    rw [World.size_alloc, World.size_alloc] at this
    exact this
  have hs1 : ((((w.alloc (.cells #[.int .i64 K.major, .int .i64 K.minor, .slice qe lk je, .slice a l.length cap] 48)).alloc (.cells #[.string M.name, .int .i64 M.major, .int .i64 M.minor, .string M.text, .slice pe M.exps.length ke, .slice pi M.imps.length ki, .slice pp M.pats.length kp] 39)).alloc (.cells #[.int .i64 0, .int .i64 0, .slice none 0 0, .slice none 0 0] 48))).heap.size = w.heap.size + 3 := by simp
  obtain ⟨PR, hPR⟩ : ∃ PR, PR = planRes K (l.map PV.plc) (instDo (l.map PV.plc) M) := ⟨_, rfl⟩
  rw [← hPR]
  have HPK : Hid (Calls Tryz.prog 70 #[.agg #[.int .i64 K.major, .int .i64 K.minor, .slice qe lk je, .slice a l.length cap], .func (.func 71) #[] #[.pointer (some ⟨w.heap.size + 1, 0, none⟩)]] (((w.alloc (.cells #[.int .i64 K.major, .int .i64 K.minor, .slice qe lk je, .slice a l.length cap] 48)).alloc (.cells #[.string M.name, .int .i64 M.major, .int .i64 M.minor, .string M.text, .slice pe M.exps.length ke, .slice pi M.imps.length ki, .slice pp M.pats.length kp] 39)).alloc (.cells #[.int .i64 0, .int .i64 0, .slice none 0 0, .slice none 0 0] 48)) fun e w' => (∃ (v' : Value) (l' : List PV), e = .returned (.tuple #[v', .int .i64 PR.2]) ∧ l'.map PV.plc = PR.1.2 ∧ (∀ x ∈ l', x.mod.fits) ∧ OwnsReg (w.heap.size + 3) w' v' PR.1.1 l') ∧ Below (w.heap.size + 3) (((w.alloc (.cells #[.int .i64 K.major, .int .i64 K.minor, .slice qe lk je, .slice a l.length cap] 48)).alloc (.cells #[.string M.name, .int .i64 M.major, .int .i64 M.minor, .string M.text, .slice pe M.exps.length ke, .slice pi M.imps.length ki, .slice pp M.pats.length kp] 39)).alloc (.cells #[.int .i64 0, .int .i64 0, .slice none 0 0, .slice none 0 0] 48)) w') := by
    have h := planned_any K l (.agg #[.int .i64 K.major, .int .i64 K.minor, .slice qe lk je, .slice a l.length cap]) (((w.alloc (.cells #[.int .i64 K.major, .int .i64 K.minor, .slice qe lk je, .slice a l.length cap] 48)).alloc (.cells #[.string M.name, .int .i64 M.major, .int .i64 M.minor, .string M.text, .slice pe M.exps.length ke, .slice pi M.imps.length ki, .slice pp M.pats.length kp] 39)).alloc (.cells #[.int .i64 0, .int .i64 0, .slice none 0 0, .slice none 0 0] 48)) ((HR0.out.below hB1).more hB1.size) hf hfit 71 (.pointer (some ⟨w.heap.size + 1, 0, none⟩)) (fun W x => enters_of Tryz.func71 (by kernel_rfl) rfl _ W) (instDo (l.map PV.plc) M) (fun h0 W Bp ve vl l0 hb hbp hp hpl hf0 hl0 h8 => by
      rw [hs1] at hbp hp ⊢
      have h0' : chkRg K (l0.map PV.plc) = 0 := by rw [hpl]; exact h0
      have hb0 := CellsAt.below hD1 hb (by rw [hs1]; omega)
      rw [← hpl]
      have hm1 := ((HM0.out.below hB1).more hB1.size).below hb
      rw [hs1] at hm1
      have hsz : w.heap.size + 3 ≤ W.heap.size := by have := hb.size; rw [hs1] at this; exact this
      exact plInst1_any (w.heap.size + 3) Bp (w.heap.size + 1) K ve vl l0 M _ _ W hp hl0 h8 hf0 (rg_lens h0').2.2.2 hbp rfl hb0 (hm1.more hsz) hmf)
    rw [hs1, ← hPR] at h
    exact h
  obtain ⟨⟨AK, AL⟩, ae⟩ := PR
  dsimp only at *
  clear hPR
  have HB1 : Hid (Below w.heap.size w (((w.alloc (.cells #[.int .i64 K.major, .int .i64 K.minor, .slice qe lk je, .slice a l.length cap] 48)).alloc (.cells #[.string M.name, .int .i64 M.major, .int .i64 M.minor, .string M.text, .slice pe M.exps.length ke, .slice pi M.imps.length ki, .slice pp M.pats.length kp] 39)).alloc (.cells #[.int .i64 0, .int .i64 0, .slice none 0 0, .slice none 0 0] 48))) := hB1
  have HZ1 : Hid (CellsAt (((w.alloc (.cells #[.int .i64 K.major, .int .i64 K.minor, .slice qe lk je, .slice a l.length cap] 48)).alloc (.cells #[.string M.name, .int .i64 M.major, .int .i64 M.minor, .string M.text, .slice pe M.exps.length ke, .slice pi M.imps.length ki, .slice pp M.pats.length kp] 39)).alloc (.cells #[.int .i64 0, .int .i64 0, .slice none 0 0, .slice none 0 0] 48)) (w.heap.size + 2) 48 #[.int .i64 0, .int .i64 0, .slice none 0 0, .slice none 0 0]) := hZ1
  have c0 := CellsAt.cell hC1 0
  have c1 := CellsAt.cell hC1 1
  have c2 := CellsAt.cell hC1 2
  have c3 := CellsAt.cell hC1 3
  have lc := CellsAt.lt hC1
  clear hB1 hC1 hD1 hZ1 HR0 hf hfit HM0 hmf
  go_enter Tryz.func29, Tryz.ntmps29
  go_wp2_with fail
  refine HPK.out.mono ?_
  clear c0 c1 c2 c3 lc
  generalize (((w.alloc (.cells #[.int .i64 K.major, .int .i64 K.minor, .slice qe lk je, .slice a l.length cap] 48)).alloc (.cells #[.string M.name, .int .i64 M.major, .int .i64 M.minor, .string M.text, .slice pe M.exps.length ke, .slice pi M.imps.length ki, .slice pp M.pats.length kp] 39)).alloc (.cells #[.int .i64 0, .int .i64 0, .slice none 0 0, .slice none 0 0] 48)) = w1 at *
  rintro e w2 ⟨⟨v', l', rfl, hpl, hft, ho⟩, hb⟩
  have HO2 : Hid (OwnsReg (w.heap.size + 3) w2 v' AK l') := ho
  have HB2 : Hid (Below w.heap.size w w2) := HB1.out.trans (hb.mono (by omega))
  have HZ2 : Hid (CellsAt w2 (w.heap.size + 2) 48 #[.int .i64 0, .int .i64 0, .slice none 0 0, .slice none 0 0]) := CellsAt.below HZ1.out hb (by omega)
  have HPL : Hid (l'.map PV.plc = AL) := hpl
  have HFT : Hid (∀ x ∈ l', x.mod.fits) := hft
  obtain ⟨ve2, vl2, rfl, oe, ol, -⟩ := ho
  obtain ⟨ea, ec, rfl⟩ := own_form oe
  obtain ⟨pa, pc, rfl⟩ := own_form ol
  generalize hak : AK.exps.length = ak at *
  have z0 := CellsAt.cell HZ2.out 0
  have z1 := CellsAt.cell HZ2.out 1
  have z2 := CellsAt.cell HZ2.out 2
  have z3 := CellsAt.cell HZ2.out 3
  have f0 := CellsAt.frozen HZ2.out 0
  have f1 := CellsAt.frozen HZ2.out 1
  have f2 := CellsAt.frozen HZ2.out 2
  have f3 := CellsAt.frozen HZ2.out 3
  have lz := CellsAt.lt HZ2.out
  simp at z0 z1 z2 z3
  clear HPK HB1 HZ1 hb hpl hft oe ol hs1
  go_wp2
  have hZ9 := sets4 HZ2.out (.int .i64 AK.major) (.int .i64 AK.minor) (.slice ea ak ec) (.slice pa l'.length pc)
  have hG9 := sets4_grown w2 (w.heap.size + 2) (.int .i64 AK.major) (.int .i64 AK.minor) (.slice ea ak ec) (.slice pa l'.length pc)
  refine bodyPost_ret (results_cell_tmp_row rfl _ _ _ _ _ _ _ rfl hZ9 Tryz.underlying48 rfl (by kernel_rfl)) rfl ?_
  exact ⟨⟨_, l', rfl, HPL.out, HFT.out, (HO2.out.beCell HZ2.out (by decide) (by decide) (by decide) (by decide) hG9).lower (b := w.heap.size) (by omega)⟩, HB2.out.grown hG9 HB2.out.size (fun q hq => by obtain rfl := Option.some.inj hq; omega)⟩

set_option maxHeartbeats 16000000 in
theorem plRemove_any (K : Ker) (l : List PV) (v : Value) (name : ByteArray) (w : World) (hreg : IsReg w.heap.size w v K l) (hf : K.fits) (hfit : ∀ x ∈ l, x.mod.fits) :
    Calls Tryz.prog 69 #[v, .string name] w fun e w' => (∃ (v' : Value) (l' : List PV), e = .returned (.tuple #[v', .int .i64 (planRes K (l.map PV.plc) (remDo (l.map PV.plc) name)).2]) ∧ l'.map PV.plc = (planRes K (l.map PV.plc) (remDo (l.map PV.plc) name)).1.2 ∧ (∀ x ∈ l', x.mod.fits) ∧ OwnsReg w.heap.size w' v' (planRes K (l.map PV.plc) (remDo (l.map PV.plc) name)).1.1 l') ∧ Below w.heap.size w w' := by
  have HR0 : Hid (IsReg w.heap.size w v K l) := hreg
  obtain ⟨ve, vl, rfl, hE, hL⟩ := hreg
  obtain ⟨qe, je, rfl, -, -⟩ := hE
  obtain ⟨⟨a, cap, rfl, -, -⟩, -⟩ := hL
  generalize hlk : K.exps.length = lk at *
  have hB1 : Below w.heap.size w (((w.alloc (.cells #[.int .i64 K.major, .int .i64 K.minor, .slice qe lk je, .slice a l.length cap] 48)).alloc (.cells #[.string name] 9)).alloc (.cells #[.int .i64 0, .int .i64 0, .slice none 0 0, .slice none 0 0] 48)) := (((Below.refl _ _).alloc (Nat.le_refl _) _).alloc (by simp) _).alloc (by simp; omega) _
  have hC1 : CellsAt (((w.alloc (.cells #[.int .i64 K.major, .int .i64 K.minor, .slice qe lk je, .slice a l.length cap] 48)).alloc (.cells #[.string name] 9)).alloc (.cells #[.int .i64 0, .int .i64 0, .slice none 0 0, .slice none 0 0] 48)) w.heap.size 48 #[.int .i64 K.major, .int .i64 K.minor, .slice qe lk je, .slice a l.length cap] := ((CellsAt.new w 48 #[.int .i64 K.major, .int .i64 K.minor, .slice qe lk je, .slice a l.length cap]).kept (World.grownBy_alloc _ _ none) (by simp)).kept (World.grownBy_alloc _ _ none) (by simp)
  have hD1 : CellsAt (((w.alloc (.cells #[.int .i64 K.major, .int .i64 K.minor, .slice qe lk je, .slice a l.length cap] 48)).alloc (.cells #[.string name] 9)).alloc (.cells #[.int .i64 0, .int .i64 0, .slice none 0 0, .slice none 0 0] 48)) (w.heap.size + 1) 9 #[.string name] := by
    have := (CellsAt.new (w.alloc (.cells #[.int .i64 K.major, .int .i64 K.minor, .slice qe lk je, .slice a l.length cap] 48)) 9 #[.string name]).kept (World.grownBy_alloc _ (.cells #[.int .i64 0, .int .i64 0, .slice none 0 0, .slice none 0 0] 48) none) (by simp)
    rw [World.size_alloc] at this
    exact this
  have hZ1 : CellsAt (((w.alloc (.cells #[.int .i64 K.major, .int .i64 K.minor, .slice qe lk je, .slice a l.length cap] 48)).alloc (.cells #[.string name] 9)).alloc (.cells #[.int .i64 0, .int .i64 0, .slice none 0 0, .slice none 0 0] 48)) (w.heap.size + 2) 48 #[.int .i64 0, .int .i64 0, .slice none 0 0, .slice none 0 0] := by
    have := CellsAt.new ((w.alloc (.cells #[.int .i64 K.major, .int .i64 K.minor, .slice qe lk je, .slice a l.length cap] 48)).alloc (.cells #[.string name] 9)) 48 #[.int .i64 0, .int .i64 0, .slice none 0 0, .slice none 0 0]
    rw [World.size_alloc, World.size_alloc] at this
    exact this
  have hs1 : ((((w.alloc (.cells #[.int .i64 K.major, .int .i64 K.minor, .slice qe lk je, .slice a l.length cap] 48)).alloc (.cells #[.string name] 9)).alloc (.cells #[.int .i64 0, .int .i64 0, .slice none 0 0, .slice none 0 0] 48))).heap.size = w.heap.size + 3 := by simp
  obtain ⟨PR, hPR⟩ : ∃ PR, PR = planRes K (l.map PV.plc) (remDo (l.map PV.plc) name) := ⟨_, rfl⟩
  rw [← hPR]
  have HPK : Hid (Calls Tryz.prog 70 #[.agg #[.int .i64 K.major, .int .i64 K.minor, .slice qe lk je, .slice a l.length cap], .func (.func 116) #[] #[.pointer (some ⟨w.heap.size + 1, 0, none⟩)]] (((w.alloc (.cells #[.int .i64 K.major, .int .i64 K.minor, .slice qe lk je, .slice a l.length cap] 48)).alloc (.cells #[.string name] 9)).alloc (.cells #[.int .i64 0, .int .i64 0, .slice none 0 0, .slice none 0 0] 48)) fun e w' => (∃ (v' : Value) (l' : List PV), e = .returned (.tuple #[v', .int .i64 PR.2]) ∧ l'.map PV.plc = PR.1.2 ∧ (∀ x ∈ l', x.mod.fits) ∧ OwnsReg (w.heap.size + 3) w' v' PR.1.1 l') ∧ Below (w.heap.size + 3) (((w.alloc (.cells #[.int .i64 K.major, .int .i64 K.minor, .slice qe lk je, .slice a l.length cap] 48)).alloc (.cells #[.string name] 9)).alloc (.cells #[.int .i64 0, .int .i64 0, .slice none 0 0, .slice none 0 0] 48)) w') := by
    have h := planned_any K l (.agg #[.int .i64 K.major, .int .i64 K.minor, .slice qe lk je, .slice a l.length cap]) (((w.alloc (.cells #[.int .i64 K.major, .int .i64 K.minor, .slice qe lk je, .slice a l.length cap] 48)).alloc (.cells #[.string name] 9)).alloc (.cells #[.int .i64 0, .int .i64 0, .slice none 0 0, .slice none 0 0] 48)) ((HR0.out.below hB1).more hB1.size) hf hfit 116 (.pointer (some ⟨w.heap.size + 1, 0, none⟩)) (fun W x => enters_of Tryz.func116 (by kernel_rfl) rfl _ W) (remDo (l.map PV.plc) name) (fun h0 W Bp ve vl l0 hb hbp hp hpl hf0 hl0 h8 => by
      rw [hs1] at hbp hp ⊢
      have h0' : chkRg K (l0.map PV.plc) = 0 := by rw [hpl]; exact h0
      have hb0 := CellsAt.below hD1 hb (by rw [hs1]; omega)
      rw [← hpl]
      exact plRem1_any (w.heap.size + 3) Bp (w.heap.size + 1) K ve vl l0 name W hp hl0 hf0 (rg_graph h0') hbp hb0)
    rw [hs1, ← hPR] at h
    exact h
  obtain ⟨⟨AK, AL⟩, ae⟩ := PR
  dsimp only at *
  clear hPR
  have HB1 : Hid (Below w.heap.size w (((w.alloc (.cells #[.int .i64 K.major, .int .i64 K.minor, .slice qe lk je, .slice a l.length cap] 48)).alloc (.cells #[.string name] 9)).alloc (.cells #[.int .i64 0, .int .i64 0, .slice none 0 0, .slice none 0 0] 48))) := hB1
  have HZ1 : Hid (CellsAt (((w.alloc (.cells #[.int .i64 K.major, .int .i64 K.minor, .slice qe lk je, .slice a l.length cap] 48)).alloc (.cells #[.string name] 9)).alloc (.cells #[.int .i64 0, .int .i64 0, .slice none 0 0, .slice none 0 0] 48)) (w.heap.size + 2) 48 #[.int .i64 0, .int .i64 0, .slice none 0 0, .slice none 0 0]) := hZ1
  have c0 := CellsAt.cell hC1 0
  have c1 := CellsAt.cell hC1 1
  have c2 := CellsAt.cell hC1 2
  have c3 := CellsAt.cell hC1 3
  have lc := CellsAt.lt hC1
  clear hB1 hC1 hD1 hZ1 HR0 hf hfit
  go_enter Tryz.func69, Tryz.ntmps69
  go_wp2_with fail
  refine HPK.out.mono ?_
  clear c0 c1 c2 c3 lc
  generalize (((w.alloc (.cells #[.int .i64 K.major, .int .i64 K.minor, .slice qe lk je, .slice a l.length cap] 48)).alloc (.cells #[.string name] 9)).alloc (.cells #[.int .i64 0, .int .i64 0, .slice none 0 0, .slice none 0 0] 48)) = w1 at *
  rintro e w2 ⟨⟨v', l', rfl, hpl, hft, ho⟩, hb⟩
  have HO2 : Hid (OwnsReg (w.heap.size + 3) w2 v' AK l') := ho
  have HB2 : Hid (Below w.heap.size w w2) := HB1.out.trans (hb.mono (by omega))
  have HZ2 : Hid (CellsAt w2 (w.heap.size + 2) 48 #[.int .i64 0, .int .i64 0, .slice none 0 0, .slice none 0 0]) := CellsAt.below HZ1.out hb (by omega)
  have HPL : Hid (l'.map PV.plc = AL) := hpl
  have HFT : Hid (∀ x ∈ l', x.mod.fits) := hft
  obtain ⟨ve2, vl2, rfl, oe, ol, -⟩ := ho
  obtain ⟨ea, ec, rfl⟩ := own_form oe
  obtain ⟨pa, pc, rfl⟩ := own_form ol
  generalize hak : AK.exps.length = ak at *
  have z0 := CellsAt.cell HZ2.out 0
  have z1 := CellsAt.cell HZ2.out 1
  have z2 := CellsAt.cell HZ2.out 2
  have z3 := CellsAt.cell HZ2.out 3
  have f0 := CellsAt.frozen HZ2.out 0
  have f1 := CellsAt.frozen HZ2.out 1
  have f2 := CellsAt.frozen HZ2.out 2
  have f3 := CellsAt.frozen HZ2.out 3
  have lz := CellsAt.lt HZ2.out
  simp at z0 z1 z2 z3
  clear HPK HB1 HZ1 hb hpl hft oe ol hs1
  go_wp2
  have hZ9 := sets4 HZ2.out (.int .i64 AK.major) (.int .i64 AK.minor) (.slice ea ak ec) (.slice pa l'.length pc)
  have hG9 := sets4_grown w2 (w.heap.size + 2) (.int .i64 AK.major) (.int .i64 AK.minor) (.slice ea ak ec) (.slice pa l'.length pc)
  refine bodyPost_ret (results_cell_tmp_row rfl _ _ _ _ _ _ _ rfl hZ9 Tryz.underlying48 rfl (by kernel_rfl)) rfl ?_
  exact ⟨⟨_, l', rfl, HPL.out, HFT.out, (HO2.out.beCell HZ2.out (by decide) (by decide) (by decide) (by decide) hG9).lower (b := w.heap.size) (by omega)⟩, HB2.out.grown hG9 HB2.out.size (fun q hq => by obtain rfl := Option.some.inj hq; omega)⟩

set_option maxHeartbeats 16000000 in
theorem plUpgrade_any (K : Ker) (l : List PV) (v : Value) (M : Mod) (vm : Value) (w : World) (hreg : IsReg w.heap.size w v K l) (hf : K.fits) (hfit : ∀ x ∈ l, x.mod.fits) (hm : IsMod w.heap.size w vm M) (hmf : M.fits) :
    Calls Tryz.prog 32 #[v, vm] w fun e w' => (∃ (v' : Value) (l' : List PV), e = .returned (.tuple #[v', .int .i64 (planRes K (l.map PV.plc) (upDo (l.map PV.plc) M)).2]) ∧ l'.map PV.plc = (planRes K (l.map PV.plc) (upDo (l.map PV.plc) M)).1.2 ∧ (∀ x ∈ l', x.mod.fits) ∧ OwnsReg w.heap.size w' v' (planRes K (l.map PV.plc) (upDo (l.map PV.plc) M)).1.1 l') ∧ Below w.heap.size w w' := by
  have HR0 : Hid (IsReg w.heap.size w v K l) := hreg
  obtain ⟨ve, vl, rfl, hE, hL⟩ := hreg
  obtain ⟨qe, je, rfl, -, -⟩ := hE
  obtain ⟨⟨a, cap, rfl, -, -⟩, -⟩ := hL
  generalize hlk : K.exps.length = lk at *
  have HM0 : Hid (IsMod w.heap.size w vm M) := hm
  obtain ⟨vxe, vxi, vxp, rfl, hxE, hxI, hxP⟩ := hm
  obtain ⟨pe, ke, e4, -⟩ := hxE
  obtain ⟨pi, ki, e5, -⟩ := hxI
  obtain ⟨pp, kp, e6, -⟩ := hxP
  subst e4 e5 e6
  have hB1 : Below w.heap.size w (((w.alloc (.cells #[.int .i64 K.major, .int .i64 K.minor, .slice qe lk je, .slice a l.length cap] 48)).alloc (.cells #[.string M.name, .int .i64 M.major, .int .i64 M.minor, .string M.text, .slice pe M.exps.length ke, .slice pi M.imps.length ki, .slice pp M.pats.length kp] 39)).alloc (.cells #[.int .i64 0, .int .i64 0, .slice none 0 0, .slice none 0 0] 48)) := (((Below.refl _ _).alloc (Nat.le_refl _) _).alloc (by simp) _).alloc (by simp; omega) _
  have hC1 : CellsAt (((w.alloc (.cells #[.int .i64 K.major, .int .i64 K.minor, .slice qe lk je, .slice a l.length cap] 48)).alloc (.cells #[.string M.name, .int .i64 M.major, .int .i64 M.minor, .string M.text, .slice pe M.exps.length ke, .slice pi M.imps.length ki, .slice pp M.pats.length kp] 39)).alloc (.cells #[.int .i64 0, .int .i64 0, .slice none 0 0, .slice none 0 0] 48)) w.heap.size 48 #[.int .i64 K.major, .int .i64 K.minor, .slice qe lk je, .slice a l.length cap] := ((CellsAt.new w 48 #[.int .i64 K.major, .int .i64 K.minor, .slice qe lk je, .slice a l.length cap]).kept (World.grownBy_alloc _ _ none) (by simp)).kept (World.grownBy_alloc _ _ none) (by simp)
  have hD1 : CellsAt (((w.alloc (.cells #[.int .i64 K.major, .int .i64 K.minor, .slice qe lk je, .slice a l.length cap] 48)).alloc (.cells #[.string M.name, .int .i64 M.major, .int .i64 M.minor, .string M.text, .slice pe M.exps.length ke, .slice pi M.imps.length ki, .slice pp M.pats.length kp] 39)).alloc (.cells #[.int .i64 0, .int .i64 0, .slice none 0 0, .slice none 0 0] 48)) (w.heap.size + 1) 39 #[.string M.name, .int .i64 M.major, .int .i64 M.minor, .string M.text, .slice pe M.exps.length ke, .slice pi M.imps.length ki, .slice pp M.pats.length kp] := by
    have := (CellsAt.new (w.alloc (.cells #[.int .i64 K.major, .int .i64 K.minor, .slice qe lk je, .slice a l.length cap] 48)) 39 #[.string M.name, .int .i64 M.major, .int .i64 M.minor, .string M.text, .slice pe M.exps.length ke, .slice pi M.imps.length ki, .slice pp M.pats.length kp]).kept (World.grownBy_alloc _ (.cells #[.int .i64 0, .int .i64 0, .slice none 0 0, .slice none 0 0] 48) none) (by simp)
    rw [World.size_alloc] at this
    exact this
  have hZ1 : CellsAt (((w.alloc (.cells #[.int .i64 K.major, .int .i64 K.minor, .slice qe lk je, .slice a l.length cap] 48)).alloc (.cells #[.string M.name, .int .i64 M.major, .int .i64 M.minor, .string M.text, .slice pe M.exps.length ke, .slice pi M.imps.length ki, .slice pp M.pats.length kp] 39)).alloc (.cells #[.int .i64 0, .int .i64 0, .slice none 0 0, .slice none 0 0] 48)) (w.heap.size + 2) 48 #[.int .i64 0, .int .i64 0, .slice none 0 0, .slice none 0 0] := by
    have := CellsAt.new ((w.alloc (.cells #[.int .i64 K.major, .int .i64 K.minor, .slice qe lk je, .slice a l.length cap] 48)).alloc (.cells #[.string M.name, .int .i64 M.major, .int .i64 M.minor, .string M.text, .slice pe M.exps.length ke, .slice pi M.imps.length ki, .slice pp M.pats.length kp] 39)) 48 #[.int .i64 0, .int .i64 0, .slice none 0 0, .slice none 0 0]
    rw [World.size_alloc, World.size_alloc] at this
    exact this
  have hs1 : ((((w.alloc (.cells #[.int .i64 K.major, .int .i64 K.minor, .slice qe lk je, .slice a l.length cap] 48)).alloc (.cells #[.string M.name, .int .i64 M.major, .int .i64 M.minor, .string M.text, .slice pe M.exps.length ke, .slice pi M.imps.length ki, .slice pp M.pats.length kp] 39)).alloc (.cells #[.int .i64 0, .int .i64 0, .slice none 0 0, .slice none 0 0] 48))).heap.size = w.heap.size + 3 := by simp
  obtain ⟨PR, hPR⟩ : ∃ PR, PR = planRes K (l.map PV.plc) (upDo (l.map PV.plc) M) := ⟨_, rfl⟩
  rw [← hPR]
  have HPK : Hid (Calls Tryz.prog 70 #[.agg #[.int .i64 K.major, .int .i64 K.minor, .slice qe lk je, .slice a l.length cap], .func (.func 76) #[] #[.pointer (some ⟨w.heap.size + 1, 0, none⟩)]] (((w.alloc (.cells #[.int .i64 K.major, .int .i64 K.minor, .slice qe lk je, .slice a l.length cap] 48)).alloc (.cells #[.string M.name, .int .i64 M.major, .int .i64 M.minor, .string M.text, .slice pe M.exps.length ke, .slice pi M.imps.length ki, .slice pp M.pats.length kp] 39)).alloc (.cells #[.int .i64 0, .int .i64 0, .slice none 0 0, .slice none 0 0] 48)) fun e w' => (∃ (v' : Value) (l' : List PV), e = .returned (.tuple #[v', .int .i64 PR.2]) ∧ l'.map PV.plc = PR.1.2 ∧ (∀ x ∈ l', x.mod.fits) ∧ OwnsReg (w.heap.size + 3) w' v' PR.1.1 l') ∧ Below (w.heap.size + 3) (((w.alloc (.cells #[.int .i64 K.major, .int .i64 K.minor, .slice qe lk je, .slice a l.length cap] 48)).alloc (.cells #[.string M.name, .int .i64 M.major, .int .i64 M.minor, .string M.text, .slice pe M.exps.length ke, .slice pi M.imps.length ki, .slice pp M.pats.length kp] 39)).alloc (.cells #[.int .i64 0, .int .i64 0, .slice none 0 0, .slice none 0 0] 48)) w') := by
    have h := planned_any K l (.agg #[.int .i64 K.major, .int .i64 K.minor, .slice qe lk je, .slice a l.length cap]) (((w.alloc (.cells #[.int .i64 K.major, .int .i64 K.minor, .slice qe lk je, .slice a l.length cap] 48)).alloc (.cells #[.string M.name, .int .i64 M.major, .int .i64 M.minor, .string M.text, .slice pe M.exps.length ke, .slice pi M.imps.length ki, .slice pp M.pats.length kp] 39)).alloc (.cells #[.int .i64 0, .int .i64 0, .slice none 0 0, .slice none 0 0] 48)) ((HR0.out.below hB1).more hB1.size) hf hfit 76 (.pointer (some ⟨w.heap.size + 1, 0, none⟩)) (fun W x => enters_of Tryz.func76 (by kernel_rfl) rfl _ W) (upDo (l.map PV.plc) M) (fun h0 W Bp ve vl l0 hb hbp hp hpl hf0 hl0 h8 => by
      rw [hs1] at hbp hp ⊢
      have h0' : chkRg K (l0.map PV.plc) = 0 := by rw [hpl]; exact h0
      have hb0 := CellsAt.below hD1 hb (by rw [hs1]; omega)
      rw [← hpl]
      have hm1 := ((HM0.out.below hB1).more hB1.size).below hb
      rw [hs1] at hm1
      have hsz : w.heap.size + 3 ≤ W.heap.size := by have := hb.size; rw [hs1] at this; exact this
      exact plUp1_any (w.heap.size + 3) Bp (w.heap.size + 1) K ve vl l0 M _ _ W hp hl0 hf0 (rg_lens h0').2.2.2 hbp rfl hb0 (by omega) hm1 hmf)
    rw [hs1, ← hPR] at h
    exact h
  obtain ⟨⟨AK, AL⟩, ae⟩ := PR
  dsimp only at *
  clear hPR
  have HB1 : Hid (Below w.heap.size w (((w.alloc (.cells #[.int .i64 K.major, .int .i64 K.minor, .slice qe lk je, .slice a l.length cap] 48)).alloc (.cells #[.string M.name, .int .i64 M.major, .int .i64 M.minor, .string M.text, .slice pe M.exps.length ke, .slice pi M.imps.length ki, .slice pp M.pats.length kp] 39)).alloc (.cells #[.int .i64 0, .int .i64 0, .slice none 0 0, .slice none 0 0] 48))) := hB1
  have HZ1 : Hid (CellsAt (((w.alloc (.cells #[.int .i64 K.major, .int .i64 K.minor, .slice qe lk je, .slice a l.length cap] 48)).alloc (.cells #[.string M.name, .int .i64 M.major, .int .i64 M.minor, .string M.text, .slice pe M.exps.length ke, .slice pi M.imps.length ki, .slice pp M.pats.length kp] 39)).alloc (.cells #[.int .i64 0, .int .i64 0, .slice none 0 0, .slice none 0 0] 48)) (w.heap.size + 2) 48 #[.int .i64 0, .int .i64 0, .slice none 0 0, .slice none 0 0]) := hZ1
  have c0 := CellsAt.cell hC1 0
  have c1 := CellsAt.cell hC1 1
  have c2 := CellsAt.cell hC1 2
  have c3 := CellsAt.cell hC1 3
  have lc := CellsAt.lt hC1
  clear hB1 hC1 hD1 hZ1 HR0 hf hfit HM0 hmf
  go_enter Tryz.func32, Tryz.ntmps32
  go_wp2_with fail
  refine HPK.out.mono ?_
  clear c0 c1 c2 c3 lc
  generalize (((w.alloc (.cells #[.int .i64 K.major, .int .i64 K.minor, .slice qe lk je, .slice a l.length cap] 48)).alloc (.cells #[.string M.name, .int .i64 M.major, .int .i64 M.minor, .string M.text, .slice pe M.exps.length ke, .slice pi M.imps.length ki, .slice pp M.pats.length kp] 39)).alloc (.cells #[.int .i64 0, .int .i64 0, .slice none 0 0, .slice none 0 0] 48)) = w1 at *
  rintro e w2 ⟨⟨v', l', rfl, hpl, hft, ho⟩, hb⟩
  have HO2 : Hid (OwnsReg (w.heap.size + 3) w2 v' AK l') := ho
  have HB2 : Hid (Below w.heap.size w w2) := HB1.out.trans (hb.mono (by omega))
  have HZ2 : Hid (CellsAt w2 (w.heap.size + 2) 48 #[.int .i64 0, .int .i64 0, .slice none 0 0, .slice none 0 0]) := CellsAt.below HZ1.out hb (by omega)
  have HPL : Hid (l'.map PV.plc = AL) := hpl
  have HFT : Hid (∀ x ∈ l', x.mod.fits) := hft
  obtain ⟨ve2, vl2, rfl, oe, ol, -⟩ := ho
  obtain ⟨ea, ec, rfl⟩ := own_form oe
  obtain ⟨pa, pc, rfl⟩ := own_form ol
  generalize hak : AK.exps.length = ak at *
  have z0 := CellsAt.cell HZ2.out 0
  have z1 := CellsAt.cell HZ2.out 1
  have z2 := CellsAt.cell HZ2.out 2
  have z3 := CellsAt.cell HZ2.out 3
  have f0 := CellsAt.frozen HZ2.out 0
  have f1 := CellsAt.frozen HZ2.out 1
  have f2 := CellsAt.frozen HZ2.out 2
  have f3 := CellsAt.frozen HZ2.out 3
  have lz := CellsAt.lt HZ2.out
  simp at z0 z1 z2 z3
  clear HPK HB1 HZ1 hb hpl hft oe ol hs1
  go_wp2
  have hZ9 := sets4 HZ2.out (.int .i64 AK.major) (.int .i64 AK.minor) (.slice ea ak ec) (.slice pa l'.length pc)
  have hG9 := sets4_grown w2 (w.heap.size + 2) (.int .i64 AK.major) (.int .i64 AK.minor) (.slice ea ak ec) (.slice pa l'.length pc)
  refine bodyPost_ret (results_cell_tmp_row rfl _ _ _ _ _ _ _ rfl hZ9 Tryz.underlying48 rfl (by kernel_rfl)) rfl ?_
  exact ⟨⟨_, l', rfl, HPL.out, HFT.out, (HO2.out.beCell HZ2.out (by decide) (by decide) (by decide) (by decide) hG9).lower (b := w.heap.size) (by omega)⟩, HB2.out.grown hG9 HB2.out.size (fun q hq => by obtain rfl := Option.some.inj hq; omega)⟩

end Go.Proofs.YthmohjgdcjafkadGreat

/- The contracts of the document's SameExports and SameModule: where both are the same. -/
namespace Go.Proofs.YthmohjgdcjafkadGreat
open Go.RowKit Go.PlainAid

set_option maxHeartbeats 1000000 in
theorem sameExports_yes (l : List Exp) (v v' : Value) (w : World) (h1 : RowOf 2 Exp.cell w.heap.size w v l) (h2 : RowOf 2 Exp.cell w.heap.size w v' l) :
    Calls Tryz.prog 50 #[v, v'] w fun e w' => e = .returned (.bool true) ∧ ∃ q, w' = w.drewN q := by
  obtain ⟨a, cap, rfl, hz, h1⟩ := h1
  obtain ⟨a', cap', rfl, _, h2⟩ := h2
  have hne : ((l.length : Int) != (l.length : Int)) = false := by simp
  go_enter Tryz.func50, Tryz.ntmps50
  go_wp2
  go_loopw [5] (fun i wr => ∃ (k : Nat), k ≤ l.length ∧ i = .int .i64 k ∧ Hid (∃ q, wr = w.drewN q)) (fun i _ => l.length - (intOf i).toNat)
  case atStart => exact ⟨0, Nat.zero_le _, rfl, (⟨0, rfl⟩ : ∃ q, w = w.drewN q)⟩
  case round =>
    obtain ⟨k, hk, rfl, HQ⟩ := hrel
    by_cases hlt : k < l.length
    · obtain ⟨p, hp⟩ : ∃ p, l[k]? = some p := ⟨_, List.getElem?_eq_getElem hlt⟩
      rcases h1 with h | ⟨b, off, rfl, hbn, hc⟩
      · subst h; simp at hlt
      rcases h2 with h | ⟨b', off', rfl, hbn', hc'⟩
      · subst h; simp at hlt
      have hcl : ∀ p, wr.cell? p = w.cell? p := fun p => by obtain ⟨q, hq⟩ := HQ.out; rw [hq]; simp
      have c0 := (hcl _).trans (hc k _ hp 0 (by omega))
      have c1 := (hcl _).trans (hc k _ hp 1 (by omega))
      have d0 := (hcl _).trans (hc' k _ hp 0 (by omega))
      have d1 := (hcl _).trans (hc' k _ hp 1 (by omega))
      obtain ⟨n, A⟩ := p
      dsimp only [Exp.cell] at c0 c1 d0 d1
      rw [Nat.add_zero] at c0 d0
      clear hcl hc hc' hp
      go_wp2
      go_quiet (fail)
      go_wp2
      obtain ⟨q, hq⟩ := HQ.out
      exact ⟨⟨k + 1, by omega, by go_num, (⟨q + _, by rw [hq, World.drewN_drewN]⟩ : ∃ q, _ = w.drewN q)⟩, by simp [intOf]; omega⟩
    · go_wp2
      go_ret
      exact ⟨rfl, HQ.out⟩

set_option maxRecDepth 100000 in
set_option maxHeartbeats 2000000 in
theorem sameModule_yes (M : Mod) (v v' : Value) (w : World) (h : IsMod w.heap.size w v M) (h' : IsMod w.heap.size w v' M) :
    Calls Tryz.prog 21 #[v, v'] w fun e w' => e = .returned (.bool true) ∧ Below w.heap.size w w' := by
  obtain ⟨ve, vi, vp, rfl, hE, hI, hP⟩ := h
  obtain ⟨ve', vi', vp', rfl, hE', hI', hP'⟩ := h'
  obtain ⟨N, a, b, T, es, is, ps⟩ := M
  dsimp only at *
  have HE : Hid (∀ w', Below w.heap.size w w' → Calls Tryz.prog 50 #[ve, ve'] w' fun e w'' => e = .returned (.bool true) ∧ ∃ q, w'' = w'.drewN q) :=
    fun w' hb => sameExports_yes es ve ve' w' ((hE.below hb).more hb.size) ((hE'.below hb).more hb.size)
  obtain ⟨pe, ke, rfl, _, _⟩ := hE
  obtain ⟨pe', ke', rfl, _, _⟩ := hE'
  have HI : Hid (RowOf 4 Imp.cell w.heap.size w vi is) := hI
  have HI' : Hid (RowOf 4 Imp.cell w.heap.size w vi' is) := hI'
  have HP : Hid (RowOf 4 Pat.cell w.heap.size w vp ps) := hP
  have HP' : Hid (RowOf 4 Pat.cell w.heap.size w vp' ps) := hP'
  obtain ⟨pi, ki, rfl, _, _⟩ := hI
  obtain ⟨pi', ki', rfl, _, _⟩ := hI'
  obtain ⟨pp, kp, rfl, _, _⟩ := hP
  obtain ⟨pp', kp', rfl, _, _⟩ := hP'
  have n1 : ((is.length : Int) != (is.length : Int)) = false := by simp
  have n2 : ((ps.length : Int) != (ps.length : Int)) = false := by simp
  have HW : Hid (Below w.heap.size w ((w.alloc (.cells #[.string N, .int .i64 a, .int .i64 b, .string T, .slice pe es.length ke, .slice pi is.length ki, .slice pp ps.length kp] 39)).alloc (.cells #[.string N, .int .i64 a, .int .i64 b, .string T, .slice pe' es.length ke', .slice pi' is.length ki', .slice pp' ps.length kp'] 39))) :=
    ((Below.refl _ _).alloc (Nat.le_refl _) _).alloc (by simp) _
  go_enter Tryz.func21, Tryz.ntmps21
  go_wp2_with fail
  refine (HE.out _ HW.out).mono ?_
  rintro e w1 ⟨rfl, q, hq⟩
  have B1 : Below w.heap.size w w1 := by rw [hq]; exact below_drewN HW.out q
  have hcl : ∀ p, w1.cell? p = ((w.alloc (.cells #[.string N, .int .i64 a, .int .i64 b, .string T, .slice pe es.length ke, .slice pi is.length ki, .slice pp ps.length kp] 39)).alloc (.cells #[.string N, .int .i64 a, .int .i64 b, .string T, .slice pe' es.length ke', .slice pi' is.length ki', .slice pp' ps.length kp'] 39)).cell? p := fun p => by rw [hq]; simp
  have d5 := hcl ⟨w.heap.size, 5, none⟩
  have d6 := hcl ⟨w.heap.size, 6, none⟩
  have f5 := hcl ⟨w.heap.size + 1, 5, none⟩
  have f6 := hcl ⟨w.heap.size + 1, 6, none⟩
  have hz1 : w.heap.size + 1 < w1.heap.size := by rw [hq]; simp
  simp at d5 d6 f5 f6
  obtain ⟨_, _, e0, _, hI⟩ := (HI.out.below B1).more B1.size
  obtain ⟨_, _, e1, _, hI'⟩ := (HI'.out.below B1).more B1.size
  obtain ⟨_, _, e2, _, hP⟩ := (HP.out.below B1).more B1.size
  obtain ⟨_, _, e3, _, hP'⟩ := (HP'.out.below B1).more B1.size
  cases e0; cases e1; cases e2; cases e3
  clear hcl hq HE HI HI' HP HP' HW
  go_wp2
  go_loopw [5] (fun i wr => ∃ (k : Nat), k ≤ is.length ∧ i = .int .i64 k ∧ Below w1.heap.size w1 wr) (fun i _ => is.length - (intOf i).toNat)
  case atStart => exact ⟨0, Nat.zero_le _, rfl, Below.refl _ _⟩
  case round =>
    obtain ⟨k, hk, rfl, B⟩ := hrel
    have x5 := (B.cell (p := ⟨w.heap.size, 5, none⟩) (by simp; omega)).trans d5
    have y5 := (B.cell (p := ⟨w.heap.size + 1, 5, none⟩) (by simp; omega)).trans f5
    by_cases hlt : k < is.length
    · obtain ⟨p, hp⟩ : ∃ p, is[k]? = some p := ⟨_, List.getElem?_eq_getElem hlt⟩
      rcases hI with h | ⟨bb, off, rfl, hbn, hc⟩
      · subst h; simp at hlt
      rcases hI' with h | ⟨bb', off', rfl, hbn', hc'⟩
      · subst h; simp at hlt
      have c0 := (B.cell (p := ⟨bb, off + k * 4 + 0, none⟩) hbn).trans (hc k _ hp 0 (by omega))
      have c1 := (B.cell (p := ⟨bb, off + k * 4 + 1, none⟩) hbn).trans (hc k _ hp 1 (by omega))
      have c2 := (B.cell (p := ⟨bb, off + k * 4 + 2, none⟩) hbn).trans (hc k _ hp 2 (by omega))
      have c3 := (B.cell (p := ⟨bb, off + k * 4 + 3, none⟩) hbn).trans (hc k _ hp 3 (by omega))
      have g0 := (B.cell (p := ⟨bb', off' + k * 4 + 0, none⟩) hbn').trans (hc' k _ hp 0 (by omega))
      have g1 := (B.cell (p := ⟨bb', off' + k * 4 + 1, none⟩) hbn').trans (hc' k _ hp 1 (by omega))
      have g2 := (B.cell (p := ⟨bb', off' + k * 4 + 2, none⟩) hbn').trans (hc' k _ hp 2 (by omega))
      have g3 := (B.cell (p := ⟨bb', off' + k * 4 + 3, none⟩) hbn').trans (hc' k _ hp 3 (by omega))
      obtain ⟨m, n, va, vb⟩ := p
      dsimp only [Imp.cell] at c0 c1 c2 c3 g0 g1 g2 g3
      rw [Nat.add_zero] at c0 g0
      clear hc hc' hp hP hP' d6 f6
      go_wp2
      go_quiet (fail)
      go_wp2
      exact ⟨⟨k + 1, by omega, by go_num, below_drewN B _⟩, by simp [intOf]; omega⟩
    · clear hI hI'
      go_wp2
      go_loopw [6] (fun i wr2 => ∃ (k : Nat), k ≤ ps.length ∧ i = .int .i64 k ∧ Below w1.heap.size w1 wr2) (fun i _ => ps.length - (intOf i).toNat)
      case atStart => exact ⟨0, Nat.zero_le _, rfl, B⟩
      case round =>
        obtain ⟨j, hj, rfl, B2⟩ := hrel
        have x6 := (B2.cell (p := ⟨w.heap.size, 6, none⟩) (by simp; omega)).trans d6
        have y6 := (B2.cell (p := ⟨w.heap.size + 1, 6, none⟩) (by simp; omega)).trans f6
        by_cases hlt2 : j < ps.length
        · obtain ⟨p, hp⟩ : ∃ p, ps[j]? = some p := ⟨_, List.getElem?_eq_getElem hlt2⟩
          rcases hP with h | ⟨bb, off, rfl, hbn, hc⟩
          · subst h; simp at hlt2
          rcases hP' with h | ⟨bb', off', rfl, hbn', hc'⟩
          · subst h; simp at hlt2
          have c0 := (B2.cell (p := ⟨bb, off + j * 4 + 0, none⟩) hbn).trans (hc j _ hp 0 (by omega))
          have c1 := (B2.cell (p := ⟨bb, off + j * 4 + 1, none⟩) hbn).trans (hc j _ hp 1 (by omega))
          have c2 := (B2.cell (p := ⟨bb, off + j * 4 + 2, none⟩) hbn).trans (hc j _ hp 2 (by omega))
          have c3 := (B2.cell (p := ⟨bb, off + j * 4 + 3, none⟩) hbn).trans (hc j _ hp 3 (by omega))
          have g0 := (B2.cell (p := ⟨bb', off' + j * 4 + 0, none⟩) hbn').trans (hc' j _ hp 0 (by omega))
          have g1 := (B2.cell (p := ⟨bb', off' + j * 4 + 1, none⟩) hbn').trans (hc' j _ hp 1 (by omega))
          have g2 := (B2.cell (p := ⟨bb', off' + j * 4 + 2, none⟩) hbn').trans (hc' j _ hp 2 (by omega))
          have g3 := (B2.cell (p := ⟨bb', off' + j * 4 + 3, none⟩) hbn').trans (hc' j _ hp 3 (by omega))
          obtain ⟨K, A, S, D⟩ := p
          dsimp only [Pat.cell] at c0 c1 c2 c3 g0 g1 g2 g3
          rw [Nat.add_zero] at c0 g0
          clear hc hc' hp
          go_wp2
          go_quiet (fail)
          go_wp2
          exact ⟨⟨j + 1, by omega, by go_num, below_drewN B2 _⟩, by simp [intOf]; omega⟩
        · clear hP hP'
          go_wp2
          go_ret
          exact ⟨rfl, B1.trans (B2.mono B1.size)⟩

end Go.Proofs.YthmohjgdcjafkadGreat

/- The contracts of the document's SamePlaced and SameRegistry, where both are alike. -/
namespace Go.Proofs.YthmohjgdcjafkadGreat
open Go.RowKit Go.PlainAid Go.Lib Go.Sort

set_option maxRecDepth 100000

theorem plc_at {l l' : List PV} (h : l.map PV.plc = l'.map PV.plc) {k : Nat} {x : PV} (hx : l[k]? = some x) : ∃ y, l'[k]? = some y ∧ x.mod = y.mod ∧ x.first = y.first := by
  have h1 : (l.map PV.plc)[k]? = some x.plc := by rw [List.getElem?_map, hx]; rfl
  rw [h, List.getElem?_map] at h1
  cases hy : l'[k]? with
  | none => rw [hy] at h1; cases h1
  | some y =>
    rw [hy] at h1
    have h2 : y.plc = x.plc := by simpa using h1
    unfold PV.plc at h2
    injection h2 with h3 h4
    exact ⟨y, rfl, h3.symm, h4.symm⟩

end Go.Proofs.YthmohjgdcjafkadGreat
