/- Texts that are laid together. -/
import Derived.Test.YthmohjgdcjafkaeGreatMrgK
import Derived.Test.YthmohjgdcjafkaeGreatMrgD
import Derived.Test.YthmohjgdcjafkaeGreatMrgB
import Derived.Test.YthmohjgdcjafkaeGreatMrgF
import Derived.Shelf.RegionOpenPlain
import Derived.Lib.SliceRun
import Derived.Lib.Walk
import Derived.Test.YthmohjgdcjafkaeGreatMrgH

/- Registries: what is wrong with them, and the contract of registry.Check. -/
namespace Go.Proofs.YthmohjgdcjafkaeGreat
open Go.RowKit Go.PlainAid

set_option maxRecDepth 100000

/-- What is wrong with a registry. -/
def chkRg (K : Ker) (L : List Plc) : Int := if chkLink K L ≠ 0 then chkLink K L else if (ordOf L).2 ≠ 0 then (ordOf L).2 else (areaOf K L).2
theorem chkRg_cases (K : Ker) (L : List Plc) : (chkKer K ≠ 0 ∧ chkRg K L = chkKer K) ∨ (chkKer K = 0 ∧ chkReg L ≠ 0 ∧ chkRg K L = chkReg L) ∨ (chkKer K = 0 ∧ chkReg L = 0 ∧ (ordOf L).2 ≠ 0 ∧ chkRg K L = (ordOf L).2) ∨ (chkKer K = 0 ∧ chkReg L = 0 ∧ (ordOf L).2 = 0 ∧ chkRg K L = (areaOf K L).2) := by
  unfold chkRg
  rcases chkLink_cases K L with ⟨h, e⟩ | ⟨h1, h2, e⟩ | ⟨h1, h2, h3, e⟩ | ⟨h1, h2, h3, e⟩
  · exact .inl ⟨h, by rw [e, if_pos h]⟩
  · exact .inr (.inl ⟨h1, h2, by rw [e, if_pos h2]⟩)
  · rcases lnOrd_err h2 with ⟨_, h4⟩ | ⟨h4, _⟩
    · exact .inr (.inr (.inl ⟨h1, h2, by omega, by rw [e, if_pos (by decide), h4]⟩))
    · rw [h3] at h4; cases h4
  · rw [e, if_neg (by decide)]
    by_cases h4 : (ordOf L).2 = 0
    · exact .inr (.inr (.inr ⟨h1, h2, h4, by rw [if_neg (by omega)]⟩))
    · exact .inr (.inr (.inl ⟨h1, h2, h4, by rw [if_pos h4]⟩))
theorem chkRg_zero {K : Ker} {L : List Plc} (h : chkRg K L = 0) : chkLink K L = 0 ∧ (ordOf L).2 = 0 ∧ (areaOf K L).2 = 0 := by
  unfold chkRg at h
  by_cases h1 : chkLink K L = 0
  · rw [if_neg (by omega)] at h
    by_cases h2 : (ordOf L).2 = 0
    · rw [if_neg (by omega)] at h
      exact ⟨h1, h2, h⟩
    · rw [if_pos h2] at h
      exact absurd h h2
  · rw [if_pos h1] at h
    exact absurd h h1

/-- A registry in memory. -/
def IsReg (n₀ : Nat) (W : World) (v : Value) (K : Ker) (l : List PV) : Prop := ∃ ve vl, v = .agg #[.int .i64 K.major, .int .i64 K.minor, ve, vl] ∧ RowOf 2 Exp.cell n₀ W ve K.exps ∧ IsPlcs n₀ W vl l
theorem IsReg.below {n₀ : Nat} {W W' : World} {v : Value} {K : Ker} {l : List PV} (h : IsReg n₀ W v K l) (hb : Below n₀ W W') : IsReg n₀ W' v K l := by
  obtain ⟨ve, vl, e, h1, h2⟩ := h
  exact ⟨ve, vl, e, h1.below hb, h2.below hb⟩
theorem IsReg.more {n₀ n₁ : Nat} {W : World} {v : Value} {K : Ker} {l : List PV} (h : IsReg n₀ W v K l) (hn : n₀ ≤ n₁) : IsReg n₁ W v K l := by
  obtain ⟨ve, vl, e, h1, h2⟩ := h
  exact ⟨ve, vl, e, h1.more hn, h2.more hn⟩

set_option maxHeartbeats 4000000 in
theorem regCheck_any (K : Ker) (l : List PV) (v : Value) (w : World) (h : IsReg w.heap.size w v K l) (hf : K.fits) (hfit : ∀ x ∈ l, x.mod.fits) :
    Calls Tryz.prog 19 #[v] w fun e w' => e = .returned (.int .i64 (chkRg K (l.map PV.plc))) ∧ Below w.heap.size w w' := by
  obtain ⟨ve, vl, rfl, hE, hL⟩ := h
  have hK : IsKer w.heap.size w (.agg #[.int .i64 K.major, .int .i64 K.minor, ve]) K := ⟨ve, rfl, hE⟩
  have HC : Hid (∀ W, Below w.heap.size w W → Calls Tryz.prog 56 #[.agg #[.int .i64 K.major, .int .i64 K.minor, ve]] W fun e w' => e = .returned (.int .i64 (chkKer K)) ∧ Below W.heap.size W w') := fun W hb => kernel_any K _ W ((hK.below hb).more hb.size) hf
  have HF : Hid (∀ W, Below w.heap.size w W → Calls Tryz.prog 29 #[vl] W fun e w' => (∃ r, e = .returned (.tuple #[r, .int .i64 (chkReg (l.map PV.plc))]) ∧ RowOf 2 runCell w'.heap.size w' r (freeRes (l.map PV.plc))) ∧ Below W.heap.size W w') := fun W hb => free_any l vl W ((hL.below hb).more hb.size) hfit
  have HO : Hid (∀ W, Below w.heap.size w W → Calls Tryz.prog 57 #[vl] W fun e w' => (∃ r, e = .returned (.tuple #[r, .int .i64 (ordOf (l.map PV.plc)).2]) ∧ RowOf 1 strCell w'.heap.size w' r (ordOf (l.map PV.plc)).1 ∧ CapOk r) ∧ Below W.heap.size W w') := fun W hb => order_any l vl W ((hL.below hb).more hb.size) hfit
  have HA : Hid (∀ W, Below w.heap.size w W → Calls Tryz.prog 58 #[.agg #[.int .i64 K.major, .int .i64 K.minor, ve], vl] W fun e w' => e = .returned (.tuple #[.string (areaOf K (l.map PV.plc)).1, .int .i64 (areaOf K (l.map PV.plc)).2]) ∧ Below W.heap.size W w') := fun W hb => linkArea_any K _ l vl W ((hK.below hb).more hb.size) hf ((hL.below hb).more hb.size) hfit
  have key := chkRg_cases K (l.map PV.plc)
  generalize chkRg K (l.map PV.plc) = cr at *
  clear hK hf hfit
  obtain ⟨qe, je, rfl, _, _⟩ := hE
  obtain ⟨⟨a, cap, rfl, _, _⟩, _⟩ := hL
  generalize areaOf K (l.map PV.plc) = ar at *
  generalize chkKer K = ck at *
  generalize l.map PV.plc = L at *
  generalize chkReg L = cg at *
  generalize freeRes L = fr at *
  generalize ordOf L = od at *
  obtain ⟨oa, oe⟩ := od
  obtain ⟨az, ae⟩ := ar
  obtain ⟨ma, mi, ks⟩ := K
  dsimp only at *
  generalize ks.length = lk at *
  generalize l.length = ll at *
  have BB : Below w.heap.size w (w.alloc (.cells #[.int .i64 ma, .int .i64 mi, .slice qe lk je, .slice a ll cap] 27)) := (Below.refl _ _).alloc (Nat.le_refl _) _
  have KB : CellsAt (w.alloc (.cells #[.int .i64 ma, .int .i64 mi, .slice qe lk je, .slice a ll cap] 27)) w.heap.size 27 #[.int .i64 ma, .int .i64 mi, .slice qe lk je, .slice a ll cap] := CellsAt.new w 27 #[.int .i64 ma, .int .i64 mi, .slice qe lk je, .slice a ll cap]
  go_enter Tryz.func19, Tryz.ntmps19
  go_wp2_with fail
  refine (HC.out _ BB).mono ?_
  rintro e w2 ⟨rfl, b1⟩
  replace KB := KB.below b1 KB.lt
  replace BB := BB.trans (b1.mono BB.size)
  clear b1 HC
  have k0 := KB.cell 0
  have k1 := KB.cell 1
  have k2 := KB.cell 2
  have k3 := KB.cell 3
  have hk := KB.lt
  simp at k0 k1 k2 k3
  rcases key with ⟨h1, rfl⟩ | ⟨rfl, h2, rfl⟩ | ⟨rfl, rfl, h3, rfl⟩ | ⟨rfl, rfl, rfl, rfl⟩
  · have h1' : (cr != 0) = true := by simpa using h1
    clear h1
    go_wp2
    go_ret
    exact ⟨rfl, BB⟩
  all_goals
    go_wp2_with fail
    refine (HF.out _ BB).mono ?_
    rintro e w3 ⟨⟨r, rfl, ra, rc, rfl, _, _⟩, b1⟩
    replace KB := KB.below b1 KB.lt
    replace BB := BB.trans (b1.mono BB.size)
    clear b1 HF k0 k1 k2 k3 hk
    have k0 := KB.cell 0
    have k1 := KB.cell 1
    have k2 := KB.cell 2
    have k3 := KB.cell 3
    have hk := KB.lt
    simp at k0 k1 k2 k3
  · have h2' : (cr != 0) = true := by simpa using h2
    clear h2
    go_wp2
    go_ret
    exact ⟨rfl, BB⟩
  all_goals
    go_wp2_with fail
    refine (HO.out _ BB).mono ?_
    rintro e w4 ⟨⟨s, rfl, ⟨sa, sc, rfl, _, _⟩, _⟩, b1⟩
    replace KB := KB.below b1 KB.lt
    replace BB := BB.trans (b1.mono BB.size)
    clear b1 HO k0 k1 k2 k3 hk
    have k0 := KB.cell 0
    have k1 := KB.cell 1
    have k2 := KB.cell 2
    have k3 := KB.cell 3
    have hk := KB.lt
    simp at k0 k1 k2 k3
  · have h3' : (cr != 0) = true := by simpa using h3
    clear h3
    go_wp2
    go_ret
    exact ⟨rfl, BB⟩
  · go_wp2_with fail
    refine (HA.out _ BB).mono ?_
    rintro e w5 ⟨rfl, b1⟩
    replace BB := BB.trans (b1.mono BB.size)
    go_wp2
    go_ret
    exact ⟨rfl, BB⟩

end Go.Proofs.YthmohjgdcjafkaeGreat

/- The modules lib and app of the statements. -/
namespace Go.Proofs.YthmohjgdcjafkaeGreat
open Go.RowKit Go.PlainAid Go.Lib

def libM : Mod := ⟨⟨#[108, 105, 98]⟩, 1, 2, ⟨#[97, 98, 99, 100, 101, 102, 103, 104]⟩, [⟨⟨#[102]⟩, 4⟩], [], []⟩
def appM : Mod := ⟨⟨#[97, 112, 112]⟩, 0, 0, ⟨#[46, 46, 46, 46, 46, 46, 46, 46]⟩, [], [⟨⟨#[108, 105, 98]⟩, ⟨#[102]⟩, 1, 1⟩, ⟨⟨#[107, 101, 114, 110, 101, 108]⟩, ⟨#[107]⟩, 0, 0⟩], [⟨1, 0, 0, 1⟩, ⟨5, 4, 1, 0⟩]⟩
theorem chk_lib : chkMod libM = 0 := by kernel_rfl
theorem chk_app : chkMod appM = 0 := by kernel_rfl

set_option maxHeartbeats 1000000 in
theorem lib_any (w : World) : Calls Tryz.prog 53 #[] w fun e w' => ∃ pe ke, e = .returned (.agg #[.string ⟨#[108, 105, 98]⟩, .int .i64 1, .int .i64 2, .string ⟨#[97, 98, 99, 100, 101, 102, 103, 104]⟩, .slice pe 1 ke, .slice none 0 0, .slice none 0 0]) ∧ IsMod w'.heap.size w' (.agg #[.string ⟨#[108, 105, 98]⟩, .int .i64 1, .int .i64 2, .string ⟨#[97, 98, 99, 100, 101, 102, 103, 104]⟩, .slice pe 1 ke, .slice none 0 0, .slice none 0 0]) libM ∧ Below w.heap.size w w' := by
  go_enter Tryz.func53, Tryz.ntmps53
  go_wp2
  (try simp only [Exit.inBlock, Exit.then])
  refine bodyPost_ret (results_cell_row rfl _ _ _ _ _ _ _ rfl (CellsAt.kept (CellsAt.new w _ _) (World.grownBy_alloc _ _ none) (by simp)) Tryz.underlying31 rfl (by kernel_rfl)) rfl ?_
  refine ⟨_, _, rfl, ⟨_, _, _, rfl, ?_, ⟨_, _, rfl, by decide, .inl rfl⟩, ⟨_, _, rfl, by decide, .inl rfl⟩⟩, ((Below.refl _ _).alloc (Nat.le_refl _) _).alloc (by simp) _⟩
  have c := CellsAt.new (w.alloc (.cells #[.string ⟨#[108, 105, 98]⟩, .int .i64 1, .int .i64 2, .string ⟨#[97, 98, 99, 100, 101, 102, 103, 104]⟩, .slice (some ⟨w.heap.size + 1, 0, none⟩) 1 1, .slice none 0 0, .slice none 0 0] 31)) 128 #[.string ⟨#[102]⟩, .int .i64 4]
  rw [World.size_alloc] at c
  exact rowOf_cells (C := expC) (cells := Exp.cell) (sz := 2) (fun _ => rfl) expC_at c libM.exps (by decide) 1 rfl

set_option maxHeartbeats 1000000 in
theorem app_any (w : World) : Calls Tryz.prog 97 #[] w fun e w' => ∃ v, e = .returned v ∧ IsMod w'.heap.size w' v appM ∧ Below w.heap.size w w' := by
  go_enter Tryz.func97, Tryz.ntmps97
  go_wp2
  (try simp only [Exit.inBlock, Exit.then])
  refine bodyPost_ret (results_cell_row rfl _ _ _ _ _ _ _ rfl (CellsAt.kept (CellsAt.kept (CellsAt.new w _ _) (World.grownBy_alloc _ _ none) (by simp)) (World.grownBy_alloc _ _ none) (by simp)) Tryz.underlying31 rfl (by kernel_rfl)) rfl ?_
  generalize hA : w.alloc (.cells #[.string ⟨#[97, 112, 112]⟩, .int .i64 0, .int .i64 0, .string ⟨#[46, 46, 46, 46, 46, 46, 46, 46]⟩, .slice none 0 0, .slice (some ⟨w.heap.size + 1, 0, none⟩) 2 2, .slice (some ⟨w.heap.size + 1 + 1, 0, none⟩) 2 2] 31) = wa
  have hz : wa.heap.size = w.heap.size + 1 := by rw [← hA]; simp
  have B1 : Below w.heap.size w wa := by rw [← hA]; exact (Below.refl _ _).alloc (Nat.le_refl _) _
  clear hA
  have c1 := CellsAt.new wa 100 #[.string ⟨#[108, 105, 98]⟩, .string ⟨#[102]⟩, .int .i64 1, .int .i64 1, .string ⟨#[107, 101, 114, 110, 101, 108]⟩, .string ⟨#[107]⟩, .int .i64 0, .int .i64 0]
  have c2 := CellsAt.new (wa.alloc (.cells #[.string ⟨#[108, 105, 98]⟩, .string ⟨#[102]⟩, .int .i64 1, .int .i64 1, .string ⟨#[107, 101, 114, 110, 101, 108]⟩, .string ⟨#[107]⟩, .int .i64 0, .int .i64 0] 100)) 102 #[.int .i64 1, .int .i64 0, .int .i64 0, .int .i64 1, .int .i64 5, .int .i64 4, .int .i64 1, .int .i64 0]
  have c1' := c1.kept (World.grownBy_alloc _ (.cells #[.int .i64 1, .int .i64 0, .int .i64 0, .int .i64 1, .int .i64 5, .int .i64 4, .int .i64 1, .int .i64 0] 102) none) (by simp)
  rw [hz] at c1'
  rw [World.size_alloc, hz] at c2
  refine ⟨_, rfl, ⟨_, _, _, rfl, ⟨_, _, rfl, by decide, .inl rfl⟩, ?_, ?_⟩, (B1.alloc (by omega) _).alloc (by simp; omega) _⟩
  · exact rowOf_cells (C := impC) (cells := Imp.cell) (sz := 4) (fun _ => rfl) impC_at c1' appM.imps (by decide) 2 rfl
  · exact rowOf_cells (C := patC) (cells := Pat.cell) (sz := 4) (fun _ => rfl) patC_at c2 appM.pats (by decide) 2 rfl

end Go.Proofs.YthmohjgdcjafkaeGreat

/- The placed modules of the statements. -/
namespace Go.Proofs.YthmohjgdcjafkaeGreat
open Go.RowKit Go.PlainAid

set_option maxRecDepth 100000

def pairL : List Plc := [⟨appM, 1⟩, ⟨libM, 4⟩]
theorem fits_app : appM.fits := by
  refine ⟨by decide, by decide, fun e he => by simp [appM] at he, fun i hi => ?_⟩
  have : i = ⟨⟨#[108, 105, 98]⟩, ⟨#[102]⟩, 1, 1⟩ ∨ i = ⟨⟨#[107, 101, 114, 110, 101, 108]⟩, ⟨#[107]⟩, 0, 0⟩ := by simpa [appM] using hi
  rcases this with rfl | rfl <;> exact ⟨by decide, by decide⟩
theorem fits_lib : libM.fits := by
  refine ⟨by decide, by decide, fun e he => ?_, fun i hi => by simp [libM] at hi⟩
  have : e = ⟨⟨#[102]⟩, 4⟩ := by simpa [libM] using he
  subst this
  decide

def pvC (x : PV) : List Value := [.string x.mod.name, .int .i64 x.mod.major, .int .i64 x.mod.minor, .string x.mod.text, x.ve, x.vi, x.vp, .int .i64 x.first]
theorem pvC_at (x : PV) (i : Nat) (hi : i < 8) : (pvC x)[i]? = some (PV.cell x i) := by
  have : i = 0 ∨ i = 1 ∨ i = 2 ∨ i = 3 ∨ i = 4 ∨ i = 5 ∨ i = 6 ∨ i = 7 := by omega
  rcases this with rfl | rfl | rfl | rfl | rfl | rfl | rfl | rfl <;> rfl
theorem mod_rows {n₀ : Nat} {W : World} {N T : ByteArray} {a b : Int} {ve vi vp : Value} {M : Mod} (h : IsMod n₀ W (.agg #[.string N, .int .i64 a, .int .i64 b, .string T, ve, vi, vp]) M) : RowOf 2 Exp.cell n₀ W ve M.exps ∧ RowOf 4 Imp.cell n₀ W vi M.imps ∧ RowOf 4 Pat.cell n₀ W vp M.pats := by
  obtain ⟨ve', vi', vp', e, h1, h2, h3⟩ := h
  injection e with e
  have e2 := congrArg Array.toList e
  simp at e2
  obtain ⟨_, _, _, _, rfl, rfl, rfl⟩ := e2
  exact ⟨h1, h2, h3⟩

set_option maxHeartbeats 2000000 in
theorem pair_any (w : World) : Calls Tryz.prog 55 #[] w fun e w' => ∃ v l, e = .returned v ∧ l.map PV.plc = pairL ∧ IsPlcs w'.heap.size w' v l ∧ Below w.heap.size w w' := by
  go_enter Tryz.func55, Tryz.ntmps55
  go_wp2_with fail
  refine (app_any _).mono ?_
  rintro e w1 ⟨v1, rfl, hA, b1⟩
  obtain ⟨ve, vi, vp, rfl, hE, hI, hP⟩ := hA
  have hAE := hE
  have hAI := hI
  have hAP := hP
  obtain ⟨ae, ce, rfl, _, _⟩ := hE
  obtain ⟨ai, ci, rfl, _, _⟩ := hI
  obtain ⟨ap, cp, rfl, _, _⟩ := hP
  dsimp only [appM]
  go_wp2_with fail
  refine (lib_any _).mono ?_
  rintro e w2 ⟨pe, ke, rfl, hL, b2⟩
  obtain ⟨l1, l2, l3⟩ := mod_rows hL
  have B2 := b1.trans (b2.mono b1.size)
  clear b1 hL
  go_wp2
  go_ret
  refine ⟨_, [⟨appM, .slice ae 0 ce, .slice ai 2 ci, .slice ap 2 cp, 1⟩, ⟨libM, .slice pe 1 ke, .slice none 0 0, .slice none 0 0, 4⟩], rfl, rfl, ⟨?_, ?_⟩, B2.alloc B2.size _⟩
  · exact rowOf_cells (C := pvC) (cells := PV.cell) (sz := 8) (fun _ => rfl) pvC_at (CellsAt.new w2 54 _) [⟨appM, .slice ae 0 ce, .slice ai 2 ci, .slice ap 2 cp, 1⟩, ⟨libM, .slice pe 1 ke, .slice none 0 0, .slice none 0 0, 4⟩] (show 2 ≤ 255 by decide) 2 rfl
  · intro x hx
    have : x = ⟨appM, .slice ae 0 ce, .slice ai 2 ci, .slice ap 2 cp, 1⟩ ∨ x = ⟨libM, .slice pe 1 ke, .slice none 0 0, .slice none 0 0, 4⟩ := by simpa using hx
    have hb : ∀ o, Below w2.heap.size w2 (w2.alloc o) := fun o => (Below.refl _ _).alloc (Nat.le_refl _) o
    have hbb : ∀ o, Below w1.heap.size w1 (w2.alloc o) := fun o => b2.trans ((hb o).mono b2.size)
    rcases this with rfl | rfl
    · exact ⟨(hAE.below (hbb _)).more (hbb _).size, (hAI.below (hbb _)).more (hbb _).size, (hAP.below (hbb _)).more (hbb _).size⟩
    · exact ⟨(l1.below (hb _)).more (hb _).size, (l2.below (hb _)).more (hb _).size, (l3.below (hb _)).more (hb _).size⟩

theorem pair_fits {l : List PV} (h : l.map PV.plc = pairL) : ∀ x ∈ l, x.mod.fits := by
  intro x hx
  have : x.plc ∈ pairL := by rw [← h]; exact List.mem_map_of_mem hx
  have h2 : x.plc = ⟨appM, 1⟩ ∨ x.plc = ⟨libM, 4⟩ := by simpa [pairL] using this
  rcases h2 with h2 | h2
  · have e : x.mod = appM := congrArg Plc.mod h2
    rw [e]; exact fits_app
  · have e : x.mod = libM := congrArg Plc.mod h2
    rw [e]; exact fits_lib

theorem pv_one {n₀ : Nat} {W : World} {x : PV} (h : PlcAt n₀ W x) : ∀ u ∈ pvC x, u.oneCell' = true := by
  obtain ⟨⟨pe, ke, e4, _⟩, ⟨pi, ki, e5, _⟩, ⟨pp, kp, e6, _⟩⟩ := h
  intro u hu
  unfold pvC at hu
  rw [e4, e5, e6] at hu
  simp at hu
  rcases hu with rfl | rfl | rfl | rfl | rfl | rfl | rfl | rfl <;> rfl
theorem pvs_one {n₀ : Nat} {W : World} {l : List PV} (h : ∀ x ∈ l, PlcAt n₀ W x) : ∀ u ∈ l.flatMap pvC, u.oneCell' = true := by
  intro u hu
  obtain ⟨x, hx, hux⟩ := List.mem_flatMap.1 hu
  exact pv_one (h x hx) u hux

theorem infoPlc : (Tryz.prog.info? 54).map (fun i => (i.zero, i.size, i.bytes)) = some (some (.agg #[.string ⟨#[]⟩, .int .i64 0, .int .i64 0, .string ⟨#[]⟩, .slice none 0 0, .slice none 0 0, .slice none 0 0, .int .i64 0]), 8, 128) := by kernel_rfl
theorem infoPlc_parts : ∃ i, Tryz.prog.info? 54 = some i ∧ i.zero = some (.agg #[.string ⟨#[]⟩, .int .i64 0, .int .i64 0, .string ⟨#[]⟩, .slice none 0 0, .slice none 0 0, .slice none 0 0, .int .i64 0]) ∧ i.size = 8 ∧ i.bytes = 128 := by
  have h := infoPlc
  cases hi : Tryz.prog.info? 54 with
  | none => rw [hi] at h; cases h
  | some i =>
    rw [hi] at h
    simp at h
    exact ⟨i, rfl, h.1, h.2.1, h.2.2⟩

end Go.Proofs.YthmohjgdcjafkaeGreat

/- The contracts of slices.Clone at exports, imports, patches and placed modules: a row of one's own. -/
namespace Go.Proofs.YthmohjgdcjafkaeGreat
open Go.RowKit Go.PlainAid Go.Lib

set_option maxRecDepth 100000

theorem add_none (b off j : Nat) : (⟨b, off, none⟩ : Addr).add j = ⟨b, off + j, none⟩ := by unfold Addr.add; split <;> simp_all

theorem infoExpC : (Tryz.prog.info? 128).map (fun i => (i.zero, i.size, i.bytes)) = some (some (.agg #[.string ⟨#[]⟩, .int .i64 0]), 2, 24) := by kernel_rfl
theorem infoExp_parts : ∃ i, Tryz.prog.info? 128 = some i ∧ i.zero = some (.agg #[.string ⟨#[]⟩, .int .i64 0]) ∧ i.size = 2 ∧ i.bytes = 24 := by
  have h := infoExpC
  cases hi : Tryz.prog.info? 128 with
  | none => rw [hi] at h; cases h
  | some i =>
    rw [hi] at h
    simp at h
    exact ⟨i, rfl, h.1, h.2.1, h.2.2⟩
theorem oneExp (l : List Exp) : ∀ u ∈ l.flatMap expC, u.oneCell' = true := by
  intro u hu
  obtain ⟨x, _, hx⟩ := List.mem_flatMap.1 hu
  simp only [expC, List.mem_cons, List.not_mem_nil, or_false] at hx
  rcases hx with rfl | rfl <;> rfl
set_option maxHeartbeats 2000000 in
theorem cloneExp_any (l : List Exp) (v : Value) (w : World) (h : RowOf 2 Exp.cell w.heap.size w v l) (hl : l.length ≤ 255) :
    Calls Tryz.prog 109 #[v] w fun e w' => (∃ r, e = .returned r ∧ w'.ownsRow w.heap.size 128 2 r l.length (l.flatMap expC)) ∧ Below w.heap.size w w' := by
  obtain ⟨i0, hi0, hz0, hz1, hz2⟩ := infoExp_parts
  obtain ⟨a, cap, rfl, _, h⟩ := h
  have q0 : ∀ (w : World) (a : Option Addr) (n c n' c' : Nat), (binOp .eql 22 (.slice a n c) (.slice none n' c')).run Tryz.prog w = .ok (.bool a.isNone) w := fun w a n c n' c' => Lib.run_eql_slice_nil w _ _ a n c n' c' Tryz.underlying22
  have HN : Hid (∀ ad, a = some ad → ∀ j u, (l.flatMap expC)[j]? = some u → w.cell? (ad.add j) = some u) := by
    intro ad ha j u hu
    rcases h with h | ⟨b, off, rfl, hbn, hcells⟩
    · subst h; simp at hu
    · obtain rfl := Option.some.inj ha
      exact news_row (C := expC) (cells := Exp.cell) (sz := 2) (by decide) (fun _ => rfl) expC_at hcells j u hu
  have HL : Hid ((l.flatMap expC).length = l.length * 2) := flat_len (C := expC) (sz := 2) (fun _ => rfl) l
  have HO : Hid (∀ u ∈ l.flatMap expC, u.oneCell' = true) := (oneExp l)
  have HE : Hid (a = none → l = []) := fun e => by
    rcases h with h | ⟨b, off, h, _⟩
    · exact h
    · rw [e] at h; cases h
  clear h
  rcases a with _ | ad
  · have := HE.out rfl
    subst this
    clear HN HL HO HE
    go_enter Tryz.func109, Tryz.ntmps109
    go_wp2
    go_ret
    exact ⟨⟨_, rfl, World.ownsRow_nil _ _ _ _⟩, Below.refl _ _⟩
  · have HN2 : Hid (∀ j u, (l.flatMap expC)[j]? = some u → w.cell? (ad.add j) = some u) := HN.out ad rfl
    clear HN HE
    generalize l.flatMap expC = news at *
    go_enter Tryz.func109, Tryz.ntmps109
    go_wp2_with (at_builtin; refine wpList_append_own _ rfl _ _ 22 rfl w.heap.size 128 i0 (.agg #[.string ⟨#[]⟩, .int .i64 0]) 2 24 Tryz.underlying22 hi0 hz0 hz1 hz2 rfl (by decide) _ _ _ rfl (World.ownsRow_made w #[] 0 (Nat.le_refl _) (Nat.zero_le _) (by simp)) ad l.length cap news rfl ?qc1 ?qc2 ?qc3 ?qc4 ?qc5 ?qc6 ?_)
    case qc1 => exact HL.out
    case qc2 =>
      intro j u hj
      exact Lib.cell?_alloc_some _ (HN2.out j u hj)
    case qc3 => exact HO.out
    case qc4 => unfold maxLen; omega
    case qc5 => omega
    case qc6 => simp
    intro v' w1 hown hgrow hnil
    go_wp2
    go_ret
    refine ⟨⟨v', rfl, by simpa using hown⟩, ?_⟩
    exact ((Below.refl _ w).alloc (Nat.le_refl _) _).grown hgrow (by simp) (by intro k hk; simp [Value.ownBlock] at hk; omega)

theorem infoImpC : (Tryz.prog.info? 100).map (fun i => (i.zero, i.size, i.bytes)) = some (some (.agg #[.string ⟨#[]⟩, .string ⟨#[]⟩, .int .i64 0, .int .i64 0]), 4, 48) := by kernel_rfl
theorem infoImp_parts : ∃ i, Tryz.prog.info? 100 = some i ∧ i.zero = some (.agg #[.string ⟨#[]⟩, .string ⟨#[]⟩, .int .i64 0, .int .i64 0]) ∧ i.size = 4 ∧ i.bytes = 48 := by
  have h := infoImpC
  cases hi : Tryz.prog.info? 100 with
  | none => rw [hi] at h; cases h
  | some i =>
    rw [hi] at h
    simp at h
    exact ⟨i, rfl, h.1, h.2.1, h.2.2⟩
theorem oneImp (l : List Imp) : ∀ u ∈ l.flatMap impC, u.oneCell' = true := by
  intro u hu
  obtain ⟨x, _, hx⟩ := List.mem_flatMap.1 hu
  simp only [impC, List.mem_cons, List.not_mem_nil, or_false] at hx
  rcases hx with rfl | rfl | rfl | rfl <;> rfl
set_option maxHeartbeats 2000000 in
theorem cloneImp_any (l : List Imp) (v : Value) (w : World) (h : RowOf 4 Imp.cell w.heap.size w v l) (hl : l.length ≤ 255) :
    Calls Tryz.prog 117 #[v] w fun e w' => (∃ r, e = .returned r ∧ w'.ownsRow w.heap.size 100 4 r l.length (l.flatMap impC)) ∧ Below w.heap.size w w' := by
  obtain ⟨i0, hi0, hz0, hz1, hz2⟩ := infoImp_parts
  obtain ⟨a, cap, rfl, _, h⟩ := h
  have q0 : ∀ (w : World) (a : Option Addr) (n c n' c' : Nat), (binOp .eql 28 (.slice a n c) (.slice none n' c')).run Tryz.prog w = .ok (.bool a.isNone) w := fun w a n c n' c' => Lib.run_eql_slice_nil w _ _ a n c n' c' Tryz.underlying28
  have HN : Hid (∀ ad, a = some ad → ∀ j u, (l.flatMap impC)[j]? = some u → w.cell? (ad.add j) = some u) := by
    intro ad ha j u hu
    rcases h with h | ⟨b, off, rfl, hbn, hcells⟩
    · subst h; simp at hu
    · obtain rfl := Option.some.inj ha
      exact news_row (C := impC) (cells := Imp.cell) (sz := 4) (by decide) (fun _ => rfl) impC_at hcells j u hu
  have HL : Hid ((l.flatMap impC).length = l.length * 4) := flat_len (C := impC) (sz := 4) (fun _ => rfl) l
  have HO : Hid (∀ u ∈ l.flatMap impC, u.oneCell' = true) := (oneImp l)
  have HE : Hid (a = none → l = []) := fun e => by
    rcases h with h | ⟨b, off, h, _⟩
    · exact h
    · rw [e] at h; cases h
  clear h
  rcases a with _ | ad
  · have := HE.out rfl
    subst this
    clear HN HL HO HE
    go_enter Tryz.func117, Tryz.ntmps117
    go_wp2
    go_ret
    exact ⟨⟨_, rfl, World.ownsRow_nil _ _ _ _⟩, Below.refl _ _⟩
  · have HN2 : Hid (∀ j u, (l.flatMap impC)[j]? = some u → w.cell? (ad.add j) = some u) := HN.out ad rfl
    clear HN HE
    generalize l.flatMap impC = news at *
    go_enter Tryz.func117, Tryz.ntmps117
    go_wp2_with (at_builtin; refine wpList_append_own _ rfl _ _ 28 rfl w.heap.size 100 i0 (.agg #[.string ⟨#[]⟩, .string ⟨#[]⟩, .int .i64 0, .int .i64 0]) 4 48 Tryz.underlying28 hi0 hz0 hz1 hz2 rfl (by decide) _ _ _ rfl (World.ownsRow_made w #[] 0 (Nat.le_refl _) (Nat.zero_le _) (by simp)) ad l.length cap news rfl ?qc1 ?qc2 ?qc3 ?qc4 ?qc5 ?qc6 ?_)
    case qc1 => exact HL.out
    case qc2 =>
      intro j u hj
      exact Lib.cell?_alloc_some _ (HN2.out j u hj)
    case qc3 => exact HO.out
    case qc4 => unfold maxLen; omega
    case qc5 => omega
    case qc6 => simp
    intro v' w1 hown hgrow hnil
    go_wp2
    go_ret
    refine ⟨⟨v', rfl, by simpa using hown⟩, ?_⟩
    exact ((Below.refl _ w).alloc (Nat.le_refl _) _).grown hgrow (by simp) (by intro k hk; simp [Value.ownBlock] at hk; omega)

theorem infoPatC : (Tryz.prog.info? 102).map (fun i => (i.zero, i.size, i.bytes)) = some (some (.agg #[.int .i64 0, .int .i64 0, .int .i64 0, .int .i64 0]), 4, 32) := by kernel_rfl
theorem infoPat_parts : ∃ i, Tryz.prog.info? 102 = some i ∧ i.zero = some (.agg #[.int .i64 0, .int .i64 0, .int .i64 0, .int .i64 0]) ∧ i.size = 4 ∧ i.bytes = 32 := by
  have h := infoPatC
  cases hi : Tryz.prog.info? 102 with
  | none => rw [hi] at h; cases h
  | some i =>
    rw [hi] at h
    simp at h
    exact ⟨i, rfl, h.1, h.2.1, h.2.2⟩
theorem onePat (l : List Pat) : ∀ u ∈ l.flatMap patC, u.oneCell' = true := by
  intro u hu
  obtain ⟨x, _, hx⟩ := List.mem_flatMap.1 hu
  simp only [patC, List.mem_cons, List.not_mem_nil, or_false] at hx
  rcases hx with rfl | rfl | rfl | rfl <;> rfl
set_option maxHeartbeats 2000000 in
theorem clonePat_any (l : List Pat) (v : Value) (w : World) (h : RowOf 4 Pat.cell w.heap.size w v l) (hl : l.length ≤ 255) :
    Calls Tryz.prog 118 #[v] w fun e w' => (∃ r, e = .returned r ∧ w'.ownsRow w.heap.size 102 4 r l.length (l.flatMap patC)) ∧ Below w.heap.size w w' := by
  obtain ⟨i0, hi0, hz0, hz1, hz2⟩ := infoPat_parts
  obtain ⟨a, cap, rfl, _, h⟩ := h
  have q0 : ∀ (w : World) (a : Option Addr) (n c n' c' : Nat), (binOp .eql 29 (.slice a n c) (.slice none n' c')).run Tryz.prog w = .ok (.bool a.isNone) w := fun w a n c n' c' => Lib.run_eql_slice_nil w _ _ a n c n' c' Tryz.underlying29
  have HN : Hid (∀ ad, a = some ad → ∀ j u, (l.flatMap patC)[j]? = some u → w.cell? (ad.add j) = some u) := by
    intro ad ha j u hu
    rcases h with h | ⟨b, off, rfl, hbn, hcells⟩
    · subst h; simp at hu
    · obtain rfl := Option.some.inj ha
      exact news_row (C := patC) (cells := Pat.cell) (sz := 4) (by decide) (fun _ => rfl) patC_at hcells j u hu
  have HL : Hid ((l.flatMap patC).length = l.length * 4) := flat_len (C := patC) (sz := 4) (fun _ => rfl) l
  have HO : Hid (∀ u ∈ l.flatMap patC, u.oneCell' = true) := (onePat l)
  have HE : Hid (a = none → l = []) := fun e => by
    rcases h with h | ⟨b, off, h, _⟩
    · exact h
    · rw [e] at h; cases h
  clear h
  rcases a with _ | ad
  · have := HE.out rfl
    subst this
    clear HN HL HO HE
    go_enter Tryz.func118, Tryz.ntmps118
    go_wp2
    go_ret
    exact ⟨⟨_, rfl, World.ownsRow_nil _ _ _ _⟩, Below.refl _ _⟩
  · have HN2 : Hid (∀ j u, (l.flatMap patC)[j]? = some u → w.cell? (ad.add j) = some u) := HN.out ad rfl
    clear HN HE
    generalize l.flatMap patC = news at *
    go_enter Tryz.func118, Tryz.ntmps118
    go_wp2_with (at_builtin; refine wpList_append_own _ rfl _ _ 29 rfl w.heap.size 102 i0 (.agg #[.int .i64 0, .int .i64 0, .int .i64 0, .int .i64 0]) 4 32 Tryz.underlying29 hi0 hz0 hz1 hz2 rfl (by decide) _ _ _ rfl (World.ownsRow_made w #[] 0 (Nat.le_refl _) (Nat.zero_le _) (by simp)) ad l.length cap news rfl ?qc1 ?qc2 ?qc3 ?qc4 ?qc5 ?qc6 ?_)
    case qc1 => exact HL.out
    case qc2 =>
      intro j u hj
      exact Lib.cell?_alloc_some _ (HN2.out j u hj)
    case qc3 => exact HO.out
    case qc4 => unfold maxLen; omega
    case qc5 => omega
    case qc6 => simp
    intro v' w1 hown hgrow hnil
    go_wp2
    go_ret
    refine ⟨⟨v', rfl, by simpa using hown⟩, ?_⟩
    exact ((Below.refl _ w).alloc (Nat.le_refl _) _).grown hgrow (by simp) (by intro k hk; simp [Value.ownBlock] at hk; omega)

set_option maxHeartbeats 2000000 in
theorem clonePlc_any (l : List PV) (v : Value) (w : World) (h : RowOf 8 PV.cell w.heap.size w v l) (hl : l.length ≤ 255) (hone : ∀ u ∈ l.flatMap pvC, u.oneCell' = true) :
    Calls Tryz.prog 110 #[v] w fun e w' => (∃ r, e = .returned r ∧ w'.ownsRow w.heap.size 54 8 r l.length (l.flatMap pvC)) ∧ Below w.heap.size w w' := by
  obtain ⟨i0, hi0, hz0, hz1, hz2⟩ := infoPlc_parts
  obtain ⟨a, cap, rfl, _, h⟩ := h
  have q0 : ∀ (w : World) (a : Option Addr) (n c n' c' : Nat), (binOp .eql 25 (.slice a n c) (.slice none n' c')).run Tryz.prog w = .ok (.bool a.isNone) w := fun w a n c n' c' => Lib.run_eql_slice_nil w _ _ a n c n' c' Tryz.underlying25
  have HN : Hid (∀ ad, a = some ad → ∀ j u, (l.flatMap pvC)[j]? = some u → w.cell? (ad.add j) = some u) := by
    intro ad ha j u hu
    rcases h with h | ⟨b, off, rfl, hbn, hcells⟩
    · subst h; simp at hu
    · obtain rfl := Option.some.inj ha
      exact news_row (C := pvC) (cells := PV.cell) (sz := 8) (by decide) (fun _ => rfl) pvC_at hcells j u hu
  have HL : Hid ((l.flatMap pvC).length = l.length * 8) := flat_len (C := pvC) (sz := 8) (fun _ => rfl) l
  have HO : Hid (∀ u ∈ l.flatMap pvC, u.oneCell' = true) := hone
  have HE : Hid (a = none → l = []) := fun e => by
    rcases h with h | ⟨b, off, h, _⟩
    · exact h
    · rw [e] at h; cases h
  clear h
  rcases a with _ | ad
  · have := HE.out rfl
    subst this
    clear HN HL HO HE
    go_enter Tryz.func110, Tryz.ntmps110
    go_wp2
    go_ret
    exact ⟨⟨_, rfl, World.ownsRow_nil _ _ _ _⟩, Below.refl _ _⟩
  · have HN2 : Hid (∀ j u, (l.flatMap pvC)[j]? = some u → w.cell? (ad.add j) = some u) := HN.out ad rfl
    clear HN HE
    generalize l.flatMap pvC = news at *
    go_enter Tryz.func110, Tryz.ntmps110
    go_wp2_with (at_builtin; refine wpList_append_own _ rfl _ _ 25 rfl w.heap.size 54 i0 _ 8 128 Tryz.underlying25 hi0 hz0 hz1 hz2 rfl (by decide) _ _ _ rfl (World.ownsRow_made w #[] 0 (Nat.le_refl _) (Nat.zero_le _) (by simp)) ad l.length cap news rfl ?qc1 ?qc2 ?qc3 ?qc4 ?qc5 ?qc6 ?_)
    case qc1 => exact HL.out
    case qc2 =>
      intro j u hj
      exact Lib.cell?_alloc_some _ (HN2.out j u hj)
    case qc3 => exact HO.out
    case qc4 => unfold maxLen; omega
    case qc5 => omega
    case qc6 => simp
    intro v' w1 hown hgrow hnil
    go_wp2
    go_ret
    refine ⟨⟨v', rfl, by simpa using hown⟩, ?_⟩
    exact ((Below.refl _ w).alloc (Nat.le_refl _) _).grown hgrow (by simp) (by intro k hk; simp [Value.ownBlock] at hk; omega)

end Go.Proofs.YthmohjgdcjafkaeGreat

/- The contracts of copies.Placed and registry.Find. -/
namespace Go.Proofs.YthmohjgdcjafkaeGreat
open Go.RowKit Go.PlainAid Go.Lib

set_option maxRecDepth 100000

theorem row_less2 {W : World} {base base' : Nat} {e : TypeId} {size : Nat} {v : Value} {n : Nat} {xs : List Value} (h : W.ownsRow base e size v n xs) (hb : base' ≤ base) : W.ownsRow base' e size v n xs :=
  ⟨h.1, h.2.imp id (fun ⟨g, cap, cur, h1, h2, h3⟩ => ⟨g, cap, cur, h1, Nat.le_trans hb h2, h3⟩)⟩

/-- A placed module whose rows are blocks of their own, none below base. -/
def OwnsPlc (base : Nat) (W : World) (y : PV) : Prop :=
  W.ownsRow base 128 2 y.ve y.mod.exps.length (y.mod.exps.flatMap expC) ∧ W.ownsRow base 100 4 y.vi y.mod.imps.length (y.mod.imps.flatMap impC) ∧ W.ownsRow base 102 4 y.vp y.mod.pats.length (y.mod.pats.flatMap patC)
theorem own_kept {W W' : World} {base : Nat} {e : TypeId} {size : Nat} {v : Value} {n : Nat} {xs : List Value} (h : W.ownsRow base e size v n xs) {row : Option Nat} (hg : W.grownBy W' row) (hr : ∀ k, row = some k → k < base) : W'.ownsRow base e size v n xs :=
  h.kept hg (by
    rcases row with _ | k
    · cases hv : v.ownBlock with
      | none => exact .inl rfl
      | some j => exact .inr (by simp)
    · refine .inr ?_
      intro e
      have := own_block h k e
      have := hr k rfl
      omega)
theorem OwnsPlc.grown {base : Nat} {W W' : World} {y : PV} (h : OwnsPlc base W y) {row : Option Nat} (hg : W.grownBy W' row) (hr : ∀ k, row = some k → k < base) : OwnsPlc base W' y := ⟨own_kept h.1 hg hr, own_kept h.2.1 hg hr, own_kept h.2.2 hg hr⟩
theorem OwnsPlc.below {base : Nat} {W W' : World} {y : PV} (h : OwnsPlc base W y) (hb : Below W.heap.size W W') : OwnsPlc base W' y := ⟨own_below h.1 hb, own_below h.2.1 hb, own_below h.2.2 hb⟩
theorem OwnsPlc.plcAt {base : Nat} {W : World} {y : PV} (h : OwnsPlc base W y) (l1 : y.mod.exps.length ≤ 255) (l2 : y.mod.imps.length ≤ 255) (l3 : y.mod.pats.length ≤ 255) : PlcAt W.heap.size W y :=
  ⟨own_rows (C := expC) (cells := Exp.cell) (sz := 2) (fun _ => rfl) expC_at h.1 (by omega), own_rows (C := impC) (cells := Imp.cell) (sz := 4) (fun _ => rfl) impC_at h.2.1 (by omega), own_rows (C := patC) (cells := Pat.cell) (sz := 4) (fun _ => rfl) patC_at h.2.2 (by omega)⟩

theorem sets8 {W : World} {B : Nat} {t : TypeId} {a0 a1 a2 a3 a4 a5 a6 a7 : Value} (h : CellsAt W B t #[a0, a1, a2, a3, a4, a5, a6, a7]) (v0 v1 v2 v3 v4 v5 v6 v7 : Value) :
    CellsAt ((((((((W.setCell ⟨B, 0, none⟩ v0).setCell ⟨B, 1, none⟩ v1).setCell ⟨B, 2, none⟩ v2).setCell ⟨B, 3, none⟩ v3).setCell ⟨B, 4, none⟩ v4).setCell ⟨B, 5, none⟩ v5).setCell ⟨B, 6, none⟩ v6).setCell ⟨B, 7, none⟩ v7) B t #[v0, v1, v2, v3, v4, v5, v6, v7] := by
  have h7 := CellsAt.set 7 v7 (CellsAt.set 6 v6 (CellsAt.set 5 v5 (CellsAt.set 4 v4 (CellsAt.set 3 v3 (CellsAt.set 2 v2 (CellsAt.set 1 v1 (CellsAt.set 0 v0 h)))))))
  simp only [List.setIfInBounds_toArray, List.set_cons_zero, List.set_cons_succ] at h7
  exact h7
theorem sets8_grown (W : World) (B : Nat) (v0 v1 v2 v3 v4 v5 v6 v7 : Value) :
    W.grownBy ((((((((W.setCell ⟨B, 0, none⟩ v0).setCell ⟨B, 1, none⟩ v1).setCell ⟨B, 2, none⟩ v2).setCell ⟨B, 3, none⟩ v3).setCell ⟨B, 4, none⟩ v4).setCell ⟨B, 5, none⟩ v5).setCell ⟨B, 6, none⟩ v6).setCell ⟨B, 7, none⟩ v7) (some B) :=
  ((((((((grown_set W B 0 v0).trans (grown_set _ B 1 v1)).trans (grown_set _ B 2 v2)).trans (grown_set _ B 3 v3)).trans (grown_set _ B 4 v4)).trans (grown_set _ B 5 v5)).trans (grown_set _ B 6 v6)).trans (grown_set _ B 7 v7))

set_option maxHeartbeats 4000000 in
theorem copyPlc_any (x : PV) (w : World) (hx : PlcAt w.heap.size w x) (l1 : x.mod.exps.length ≤ 255) (l2 : x.mod.imps.length ≤ 255) (l3 : x.mod.pats.length ≤ 255) :
    Calls Tryz.prog 77 #[x.val] w fun e w' => (∃ y : PV, e = .returned y.val ∧ y.plc = x.plc ∧ OwnsPlc w.heap.size w' y) ∧ Below w.heap.size w w' := by
  obtain ⟨hE, hI, hP⟩ := hx
  have HE : Hid (∀ W, Below w.heap.size w W → Calls Tryz.prog 109 #[x.ve] W fun e w' => (∃ r, e = .returned r ∧ w'.ownsRow W.heap.size 128 2 r x.mod.exps.length (x.mod.exps.flatMap expC)) ∧ Below W.heap.size W w') := fun W hb => cloneExp_any _ _ W ((hE.below hb).more hb.size) l1
  have HI : Hid (∀ W, Below w.heap.size w W → Calls Tryz.prog 117 #[x.vi] W fun e w' => (∃ r, e = .returned r ∧ w'.ownsRow W.heap.size 100 4 r x.mod.imps.length (x.mod.imps.flatMap impC)) ∧ Below W.heap.size W w') := fun W hb => cloneImp_any _ _ W ((hI.below hb).more hb.size) l2
  have HP : Hid (∀ W, Below w.heap.size w W → Calls Tryz.prog 118 #[x.vp] W fun e w' => (∃ r, e = .returned r ∧ w'.ownsRow W.heap.size 102 4 r x.mod.pats.length (x.mod.pats.flatMap patC)) ∧ Below W.heap.size W w') := fun W hb => clonePat_any _ _ W ((hP.below hb).more hb.size) l3
  obtain ⟨pe, ke, e4, _⟩ := hE
  obtain ⟨pi, ki, e5, _⟩ := hI
  obtain ⟨pp, kp, e6, _⟩ := hP
  have HY : Hid (∀ (W : World) r1 r2 r3, W.ownsRow w.heap.size 128 2 r1 x.mod.exps.length (x.mod.exps.flatMap expC) → W.ownsRow w.heap.size 100 4 r2 x.mod.imps.length (x.mod.imps.flatMap impC) → W.ownsRow w.heap.size 102 4 r3 x.mod.pats.length (x.mod.pats.flatMap patC) → ∃ y : PV, (Ending.returned (.agg #[.string x.mod.name, .int .i64 x.mod.major, .int .i64 x.mod.minor, .string x.mod.text, r1, r2, r3, .int .i64 x.first])) = .returned y.val ∧ y.plc = x.plc ∧ OwnsPlc w.heap.size W y) := fun W r1 r2 r3 h1 h2 h3 => ⟨⟨x.mod, r1, r2, r3, x.first⟩, rfl, rfl, h1, h2, h3⟩
  obtain ⟨⟨N, ma, mi, T, es, is, ps⟩, ve, vi, vp, fi⟩ := x
  dsimp only [PV.val] at *
  subst e4 e5 e6
  generalize es.flatMap expC = xe at *
  generalize is.flatMap impC = xi at *
  generalize ps.flatMap patC = xp at *
  generalize es.length = le at *
  generalize is.length = li at *
  generalize ps.length = lp at *
  have B1 : Below w.heap.size w ((w.alloc (.cells #[.string N, .int .i64 ma, .int .i64 mi, .string T, .slice pe le ke, .slice pi li ki, .slice pp lp kp, .int .i64 fi] 54)).alloc (.cells #[.string ⟨#[]⟩, .int .i64 0, .int .i64 0, .string ⟨#[]⟩, .slice none 0 0, .slice none 0 0, .slice none 0 0, .int .i64 0] 54)) := ((Below.refl _ _).alloc (Nat.le_refl _) _).alloc (by simp) _
  have C1 : CellsAt ((w.alloc (.cells #[.string N, .int .i64 ma, .int .i64 mi, .string T, .slice pe le ke, .slice pi li ki, .slice pp lp kp, .int .i64 fi] 54)).alloc (.cells #[.string ⟨#[]⟩, .int .i64 0, .int .i64 0, .string ⟨#[]⟩, .slice none 0 0, .slice none 0 0, .slice none 0 0, .int .i64 0] 54)) w.heap.size 54 #[.string N, .int .i64 ma, .int .i64 mi, .string T, .slice pe le ke, .slice pi li ki, .slice pp lp kp, .int .i64 fi] := (CellsAt.new w 54 #[.string N, .int .i64 ma, .int .i64 mi, .string T, .slice pe le ke, .slice pi li ki, .slice pp lp kp, .int .i64 fi]).kept (World.grownBy_alloc _ _ none) (by simp)
  have R1 : CellsAt ((w.alloc (.cells #[.string N, .int .i64 ma, .int .i64 mi, .string T, .slice pe le ke, .slice pi li ki, .slice pp lp kp, .int .i64 fi] 54)).alloc (.cells #[.string ⟨#[]⟩, .int .i64 0, .int .i64 0, .string ⟨#[]⟩, .slice none 0 0, .slice none 0 0, .slice none 0 0, .int .i64 0] 54)) (w.heap.size + 1) 54 #[.string ⟨#[]⟩, .int .i64 0, .int .i64 0, .string ⟨#[]⟩, .slice none 0 0, .slice none 0 0, .slice none 0 0, .int .i64 0] := by
    have := CellsAt.new (w.alloc (.cells #[.string N, .int .i64 ma, .int .i64 mi, .string T, .slice pe le ke, .slice pi li ki, .slice pp lp kp, .int .i64 fi] 54)) 54 #[.string ⟨#[]⟩, .int .i64 0, .int .i64 0, .string ⟨#[]⟩, .slice none 0 0, .slice none 0 0, .slice none 0 0, .int .i64 0]
    rw [World.size_alloc] at this
    exact this
  go_enter Tryz.func77, Tryz.ntmps77
  go_wp2_with fail
  refine (HE.out _ B1).mono ?_
  generalize ((w.alloc (.cells #[.string N, .int .i64 ma, .int .i64 mi, .string T, .slice pe le ke, .slice pi li ki, .slice pp lp kp, .int .i64 fi] 54)).alloc (.cells #[.string ⟨#[]⟩, .int .i64 0, .int .i64 0, .string ⟨#[]⟩, .slice none 0 0, .slice none 0 0, .slice none 0 0, .int .i64 0] 54)) = u1 at B1 C1 R1
  clear HE
  rintro e w2 ⟨⟨r1, rfl, o1⟩, b1⟩
  obtain ⟨a1, c1, rfl⟩ := own_form o1
  have z1 : w.heap.size < u1.heap.size := (CellsAt.lt C1)
  have y1 : w.heap.size + 1 < u1.heap.size := (CellsAt.lt R1)
  replace C1 := CellsAt.below C1 b1 (CellsAt.lt C1)
  replace R1 := CellsAt.below R1 b1 (CellsAt.lt R1)
  replace B1 := B1.trans (b1.mono B1.size)
  have C1' : CellsAt (w2.setCell ⟨w.heap.size, 4, none⟩ (.slice a1 le c1)) w.heap.size 54 #[.string N, .int .i64 ma, .int .i64 mi, .string T, .slice a1 le c1, .slice pi li ki, .slice pp lp kp, .int .i64 fi] := CellsAt.set 4 (.slice a1 le c1) C1
  have g1 := grown_set w2 w.heap.size 4 (.slice a1 le c1)
  have R1' := CellsAt.kept R1 g1 (by simp)
  have B1' := B1.grown g1 B1.size (fun k e => by obtain rfl := Option.some.inj e; exact Nat.le_refl _)
  have o1' := own_kept o1 g1 (fun k e => by obtain rfl := Option.some.inj e; omega)
  have q4 := CellsAt.cell C1 4
  have f4 := CellsAt.frozen C1 4
  have q5 := CellsAt.cell C1 5
  have hl1 := (CellsAt.lt C1)
  have hm1 := (CellsAt.lt R1)
  simp at q4 q5
  have HC1 : Hid _ := C1'
  have HR1 : Hid _ := R1'
  have HB1 : Hid _ := B1'
  have Ho1 : Hid _ := o1'
  clear C1 R1 B1 C1' R1' B1' g1 b1 o1 o1'
  go_wp2_with fail
  refine (HI.out _ HB1.out).mono ?_
  have C1 := HC1.out
  clear HC1
  have R1 := HR1.out
  clear HR1
  have B1 := HB1.out
  clear HB1
  have o1 := Ho1.out
  clear Ho1
  clear q4 q5 f4 hl1 hm1
  generalize w2.setCell ⟨w.heap.size, 4, none⟩ (.slice a1 le c1) = u2 at C1 R1 B1 o1
  clear HI
  rintro e w3 ⟨⟨r2, rfl, o2⟩, b2⟩
  obtain ⟨a2, c2, rfl⟩ := own_form o2
  have z2 : w.heap.size < u2.heap.size := (CellsAt.lt C1)
  have y2 : w.heap.size + 1 < u2.heap.size := (CellsAt.lt R1)
  replace C1 := CellsAt.below C1 b2 (CellsAt.lt C1)
  replace R1 := CellsAt.below R1 b2 (CellsAt.lt R1)
  replace B1 := B1.trans (b2.mono B1.size)
  replace o1 := own_below o1 b2
  have C1' : CellsAt (w3.setCell ⟨w.heap.size, 5, none⟩ (.slice a2 li c2)) w.heap.size 54 #[.string N, .int .i64 ma, .int .i64 mi, .string T, .slice a1 le c1, .slice a2 li c2, .slice pp lp kp, .int .i64 fi] := CellsAt.set 5 (.slice a2 li c2) C1
  have g2 := grown_set w3 w.heap.size 5 (.slice a2 li c2)
  have R1' := CellsAt.kept R1 g2 (by simp)
  have B1' := B1.grown g2 B1.size (fun k e => by obtain rfl := Option.some.inj e; exact Nat.le_refl _)
  have o1' := own_kept o1 g2 (fun k e => by obtain rfl := Option.some.inj e; omega)
  have o2' := own_kept o2 g2 (fun k e => by obtain rfl := Option.some.inj e; omega)
  have q5 := CellsAt.cell C1 5
  have f5 := CellsAt.frozen C1 5
  have q6 := CellsAt.cell C1 6
  have hl2 := (CellsAt.lt C1)
  have hm2 := (CellsAt.lt R1)
  simp at q5 q6
  have HC1 : Hid _ := C1'
  have HR1 : Hid _ := R1'
  have HB1 : Hid _ := B1'
  have Ho1 : Hid _ := o1'
  have Ho2 : Hid _ := o2'
  clear C1 R1 B1 C1' R1' B1' g2 b2 o1 o1' o2 o2'
  go_wp2_with fail
  refine (HP.out _ HB1.out).mono ?_
  have C1 := HC1.out
  clear HC1
  have R1 := HR1.out
  clear HR1
  have B1 := HB1.out
  clear HB1
  have o1 := Ho1.out
  clear Ho1
  have o2 := Ho2.out
  clear Ho2
  clear q5 q6 f5 hl2 hm2
  generalize w3.setCell ⟨w.heap.size, 5, none⟩ (.slice a2 li c2) = u3 at C1 R1 B1 o1 o2
  clear HP
  rintro e w4 ⟨⟨r3, rfl, o3⟩, b3⟩
  obtain ⟨a3, c3, rfl⟩ := own_form o3
  have z3 : w.heap.size < u3.heap.size := (CellsAt.lt C1)
  have y3 : w.heap.size + 1 < u3.heap.size := (CellsAt.lt R1)
  replace C1 := CellsAt.below C1 b3 (CellsAt.lt C1)
  replace R1 := CellsAt.below R1 b3 (CellsAt.lt R1)
  replace B1 := B1.trans (b3.mono B1.size)
  replace o1 := own_below o1 b3
  replace o2 := own_below o2 b3
  have C1' : CellsAt (w4.setCell ⟨w.heap.size, 6, none⟩ (.slice a3 lp c3)) w.heap.size 54 #[.string N, .int .i64 ma, .int .i64 mi, .string T, .slice a1 le c1, .slice a2 li c2, .slice a3 lp c3, .int .i64 fi] := CellsAt.set 6 (.slice a3 lp c3) C1
  have g3 := grown_set w4 w.heap.size 6 (.slice a3 lp c3)
  have R1' := CellsAt.kept R1 g3 (by simp)
  have B1' := B1.grown g3 B1.size (fun k e => by obtain rfl := Option.some.inj e; exact Nat.le_refl _)
  have o1' := own_kept o1 g3 (fun k e => by obtain rfl := Option.some.inj e; omega)
  have o2' := own_kept o2 g3 (fun k e => by obtain rfl := Option.some.inj e; omega)
  have o3' := own_kept o3 g3 (fun k e => by obtain rfl := Option.some.inj e; omega)
  have q6 := CellsAt.cell C1 6
  have f6 := CellsAt.frozen C1 6
  have q0 := CellsAt.cell C1 0
  have r0 := CellsAt.cell R1 0
  have s0 := CellsAt.frozen R1 0
  have q1 := CellsAt.cell C1 1
  have r1 := CellsAt.cell R1 1
  have s1 := CellsAt.frozen R1 1
  have q2 := CellsAt.cell C1 2
  have r2 := CellsAt.cell R1 2
  have s2 := CellsAt.frozen R1 2
  have q3 := CellsAt.cell C1 3
  have r3 := CellsAt.cell R1 3
  have s3 := CellsAt.frozen R1 3
  have q4 := CellsAt.cell C1 4
  have r4 := CellsAt.cell R1 4
  have s4 := CellsAt.frozen R1 4
  have q5 := CellsAt.cell C1 5
  have r5 := CellsAt.cell R1 5
  have s5 := CellsAt.frozen R1 5
  have r6 := CellsAt.cell R1 6
  have s6 := CellsAt.frozen R1 6
  have q7 := CellsAt.cell C1 7
  have r7 := CellsAt.cell R1 7
  have s7 := CellsAt.frozen R1 7
  have hl3 := (CellsAt.lt C1)
  have hm3 := (CellsAt.lt R1)
  simp at q0 q1 q2 q3 q4 q5 q6 q7 r0 r1 r2 r3 r4 r5 r6 r7
  have HC1 : Hid _ := C1'
  have HR1 : Hid _ := R1'
  have HB1 : Hid _ := B1'
  have Ho1 : Hid _ := o1'
  have Ho2 : Hid _ := o2'
  have Ho3 : Hid _ := o3'
  clear C1 R1 B1 C1' R1' B1' g3 b3 o1 o1' o2 o2' o3 o3'
  go_wp2
  have C1 := HC1.out
  have R1 := HR1.out
  have B1 := HB1.out
  have o1 := Ho1.out
  have o2 := Ho2.out
  have o3 := Ho3.out
  clear HC1 HR1 HB1 Ho1 Ho2 Ho3
  have hF := sets8 (W := w4.setCell ⟨w.heap.size, 6, none⟩ (.slice a3 lp c3)) (B := w.heap.size + 1) (t := 54) R1 (.string N) (.int .i64 ma) (.int .i64 mi) (.string T) (.slice a1 le c1) (.slice a2 li c2) (.slice a3 lp c3) (.int .i64 fi)
  have hG := sets8_grown (w4.setCell ⟨w.heap.size, 6, none⟩ (.slice a3 lp c3)) (w.heap.size + 1) (.string N) (.int .i64 ma) (.int .i64 mi) (.string T) (.slice a1 le c1) (.slice a2 li c2) (.slice a3 lp c3) (.int .i64 fi)
  (try simp only [Exit.inBlock, Exit.then])
  refine bodyPost_ret (results_cell_row rfl _ _ _ _ _ _ _ rfl hF Tryz.underlying54 rfl (by kernel_rfl)) rfl ?_
  refine ⟨HY.out _ _ _ _ (row_less2 (own_kept o1 hG (fun k e => by obtain rfl := Option.some.inj e; omega)) (by omega)) (row_less2 (own_kept o2 hG (fun k e => by obtain rfl := Option.some.inj e; omega)) (by omega)) (row_less2 (own_kept o3 hG (fun k e => by obtain rfl := Option.some.inj e; omega)) (by omega)), B1.grown hG B1.size (fun k e => by obtain rfl := Option.some.inj e; omega)⟩

end Go.Proofs.YthmohjgdcjafkaeGreat

/- The contract of registry.Find. -/
namespace Go.Proofs.YthmohjgdcjafkaeGreat
open Go.RowKit Go.PlainAid Go.Lib

set_option maxRecDepth 100000

def zeroP : Plc := ⟨⟨⟨#[]⟩, 0, 0, ⟨#[]⟩, [], [], []⟩, 0⟩
def zeroPV : PV := ⟨⟨⟨#[]⟩, 0, 0, ⟨#[]⟩, [], [], []⟩, .slice none 0 0, .slice none 0 0, .slice none 0 0, 0⟩
theorem zeroPV_owns (n : Nat) (W : World) : OwnsPlc n W zeroPV := ⟨World.ownsRow_nil _ _ _ _, World.ownsRow_nil _ _ _ _, World.ownsRow_nil _ _ _ _⟩
/-- What Find answers. -/
def rgFind (K : Ker) (L : List Plc) (name : ByteArray) : Plc × Int :=
  if chkRg K L ≠ 0 then (zeroP, chkRg K L) else match L.find? fun p => p.mod.name == name with
  | none => (zeroP, 5)
  | some p => (p, 0)
theorem rgFind_cases (K : Ker) (l : List PV) (name : ByteArray) :
    (chkRg K (l.map PV.plc) ≠ 0 ∧ rgFind K (l.map PV.plc) name = (zeroP, chkRg K (l.map PV.plc))) ∨
    (chkRg K (l.map PV.plc) = 0 ∧ ixFrom (fun x : PV => x.mod.name == name) 0 l = -1 ∧ rgFind K (l.map PV.plc) name = (zeroP, 5)) ∨
    (chkRg K (l.map PV.plc) = 0 ∧ ∃ (j : Nat) (x : PV), l[j]? = some x ∧ ixFrom (fun x : PV => x.mod.name == name) 0 l = (j : Int) ∧ rgFind K (l.map PV.plc) name = (x.plc, 0)) := by
  by_cases h : chkRg K (l.map PV.plc) = 0
  · rcases ix_find (fun x : PV => x.mod.name == name) l 0 with ⟨h1, h2⟩ | ⟨j, x, h1, h2, h3⟩
    · refine .inr (.inl ⟨h, h2, ?_⟩)
      unfold rgFind
      rw [if_neg (by omega), find_plc, h1]
      rfl
    · refine .inr (.inr ⟨h, j, x, h2, by simpa using h3, ?_⟩)
      unfold rgFind
      rw [if_neg (by omega), find_plc, h1]
      rfl
  · refine .inl ⟨h, ?_⟩
    unfold rgFind
    rw [if_pos h]

theorem rgFind1_any (B : Nat) (name : ByteArray) (x : PV) (w : World) (hlt : B < w.heap.size) (hB : w.cell? ⟨B, 0, none⟩ = some (.string name)) (hat : PlcAt w.heap.size w x) :
    Calls Tryz.prog 96 #[x.val, .pointer (some ⟨B, 0, none⟩)] w fun e w' => e = .returned (.bool (x.mod.name == name)) ∧ Below w.heap.size w w' := by
  rw [← toList_beq2]
  obtain ⟨⟨pe, ke, e4, _⟩, ⟨pi, ki, e5, _⟩, ⟨pp, kp, e6, _⟩⟩ := hat
  obtain ⟨⟨N, ma, mi, T, es, is, ps⟩, ve, vi, vp, fi⟩ := x
  dsimp only at e4 e5 e6
  subst e4 e5 e6
  dsimp only [PV.val]
  generalize es.length = le at *
  generalize is.length = li at *
  generalize ps.length = lp at *
  go_enter Tryz.func96, Tryz.ntmps96
  go_wp2
  go_ret
  exact ⟨rfl, (Below.refl _ _).alloc (Nat.le_refl _) _⟩

set_option maxHeartbeats 8000000 in
theorem regFind_any (K : Ker) (l : List PV) (v : Value) (name : ByteArray) (w : World) (h : IsReg w.heap.size w v K l) (hf : K.fits) (hfit : ∀ x ∈ l, x.mod.fits) :
    Calls Tryz.prog 54 #[v, .string name] w fun e w' => (∃ y : PV, e = .returned (.tuple #[y.val, .int .i64 (rgFind K (l.map PV.plc) name).2]) ∧ y.plc = (rgFind K (l.map PV.plc) name).1 ∧ OwnsPlc w.heap.size w' y) ∧ Below w.heap.size w w' := by
  have HC : Hid (∀ W, Below w.heap.size w W → Calls Tryz.prog 19 #[v] W fun e w' => e = .returned (.int .i64 (chkRg K (l.map PV.plc))) ∧ Below W.heap.size W w') := fun W hb => regCheck_any K l v W ((h.below hb).more hb.size) hf hfit
  obtain ⟨ve, vl, rfl, hE, hrow⟩ := h
  have HI : Hid (∀ W B, Below w.heap.size w W → B < W.heap.size → W.cell? ⟨B, 0, none⟩ = some (.string name) → Calls Tryz.prog 71 #[vl, .func (.func 96) #[] #[.pointer (some ⟨B, 0, none⟩)]] W fun e w' => e = .returned (.int .i64 (ixFrom (fun x : PV => x.mod.name == name) 0 l)) ∧ Below W.heap.size W w') := by
    intro W B hb hlt hB
    exact ixPlc_any l vl 96 (.pointer (some ⟨B, 0, none⟩)) (fun w x => enters_of Tryz.func96 (by kernel_rfl) rfl _ w) _ W ((hrow.1.below hb).more hb.size) (fun x hx W' hb' => rgFind1_any B name x W' (Nat.lt_of_lt_of_le hlt hb'.size) ((hb'.cell (p := ⟨B, 0, none⟩) hlt).trans hB) ((((((hrow.2 x hx).below hb).more hb.size)).below hb').more hb'.size))
  have HM : Hid (chkRg K (l.map PV.plc) = 0 → ∀ x ∈ l, ∀ W, Below w.heap.size w W → Calls Tryz.prog 77 #[x.val] W fun e w' => (∃ y : PV, e = .returned y.val ∧ y.plc = x.plc ∧ OwnsPlc W.heap.size w' y) ∧ Below W.heap.size W w') := fun h0 x hx W hb => by
    have h1 := (link_at (chkRg_zero h0).1 hx).1
    have h2 := chkMod_exps h1
    exact copyPlc_any x W (((hrow.2 x hx).below hb).more hb.size) (by omega) (by omega) (by omega)
  have key := rgFind_cases K l name
  have hat := hrow.2
  obtain ⟨qe, je, rfl, _, _⟩ := hE
  obtain ⟨⟨a, cap, rfl, hmax, hrow⟩, _⟩ := hrow
  generalize rgFind K (l.map PV.plc) name = R at *
  generalize chkRg K (l.map PV.plc) = cr at *
  generalize ixFrom (fun x : PV => x.mod.name == name) 0 l = ix at *
  obtain ⟨ma, mi, ks⟩ := K
  dsimp only at *
  clear hf hfit
  generalize ks.length = lk at *
  have B1 : Below w.heap.size w (((w.alloc (.cells #[.int .i64 ma, .int .i64 mi, .slice qe lk je, .slice a l.length cap] 27)).alloc (.cells #[.string name] 9)).alloc (.cells #[.string ⟨#[]⟩, .int .i64 0, .int .i64 0, .string ⟨#[]⟩, .slice none 0 0, .slice none 0 0, .slice none 0 0, .int .i64 0] 54)) := (((Below.refl _ _).alloc (Nat.le_refl _) _).alloc (by simp) _).alloc (by simp; omega) _
  have C1 : CellsAt (((w.alloc (.cells #[.int .i64 ma, .int .i64 mi, .slice qe lk je, .slice a l.length cap] 27)).alloc (.cells #[.string name] 9)).alloc (.cells #[.string ⟨#[]⟩, .int .i64 0, .int .i64 0, .string ⟨#[]⟩, .slice none 0 0, .slice none 0 0, .slice none 0 0, .int .i64 0] 54)) w.heap.size 27 #[.int .i64 ma, .int .i64 mi, .slice qe lk je, .slice a l.length cap] := ((CellsAt.new w 27 #[.int .i64 ma, .int .i64 mi, .slice qe lk je, .slice a l.length cap]).kept (World.grownBy_alloc _ _ none) (by simp)).kept (World.grownBy_alloc _ _ none) (by simp)
  have N1 : CellsAt (((w.alloc (.cells #[.int .i64 ma, .int .i64 mi, .slice qe lk je, .slice a l.length cap] 27)).alloc (.cells #[.string name] 9)).alloc (.cells #[.string ⟨#[]⟩, .int .i64 0, .int .i64 0, .string ⟨#[]⟩, .slice none 0 0, .slice none 0 0, .slice none 0 0, .int .i64 0] 54)) (w.heap.size + 1) 9 #[.string name] := by
    have := (CellsAt.new (w.alloc (.cells #[.int .i64 ma, .int .i64 mi, .slice qe lk je, .slice a l.length cap] 27)) 9 #[.string name]).kept (World.grownBy_alloc _ (.cells #[.string ⟨#[]⟩, .int .i64 0, .int .i64 0, .string ⟨#[]⟩, .slice none 0 0, .slice none 0 0, .slice none 0 0, .int .i64 0] 54) none) (by simp)
    rw [World.size_alloc] at this
    exact this
  have R1 : CellsAt (((w.alloc (.cells #[.int .i64 ma, .int .i64 mi, .slice qe lk je, .slice a l.length cap] 27)).alloc (.cells #[.string name] 9)).alloc (.cells #[.string ⟨#[]⟩, .int .i64 0, .int .i64 0, .string ⟨#[]⟩, .slice none 0 0, .slice none 0 0, .slice none 0 0, .int .i64 0] 54)) (w.heap.size + 1 + 1) 54 #[.string ⟨#[]⟩, .int .i64 0, .int .i64 0, .string ⟨#[]⟩, .slice none 0 0, .slice none 0 0, .slice none 0 0, .int .i64 0] := by
    have := CellsAt.new ((w.alloc (.cells #[.int .i64 ma, .int .i64 mi, .slice qe lk je, .slice a l.length cap] 27)).alloc (.cells #[.string name] 9)) 54 #[.string ⟨#[]⟩, .int .i64 0, .int .i64 0, .string ⟨#[]⟩, .slice none 0 0, .slice none 0 0, .slice none 0 0, .int .i64 0]
    rw [World.size_alloc, World.size_alloc] at this
    exact this
  go_enter Tryz.func54, Tryz.ntmps54
  go_wp2_with fail
  refine (HC.out _ B1).mono ?_
  rintro e w2 ⟨rfl, b2⟩
  replace B1 := B1.trans (b2.mono B1.size)
  replace C1 := C1.below b2 C1.lt
  replace N1 := N1.below b2 N1.lt
  replace R1 := R1.below b2 R1.lt
  clear b2 HC
  have k3 := C1.cell 3
  have hk := C1.lt
  simp at k3
  rcases key with ⟨h0, rfl⟩ | ⟨rfl, rfl, rfl⟩ | ⟨rfl, j, x, hx, rfl, rfl⟩
  · have h0' : (cr != 0) = true := by simpa using h0
    have r0 := CellsAt.cell R1 0
    have s0 := CellsAt.frozen R1 0
    have r1 := CellsAt.cell R1 1
    have s1 := CellsAt.frozen R1 1
    have r2 := CellsAt.cell R1 2
    have s2 := CellsAt.frozen R1 2
    have r3 := CellsAt.cell R1 3
    have s3 := CellsAt.frozen R1 3
    have r4 := CellsAt.cell R1 4
    have s4 := CellsAt.frozen R1 4
    have r5 := CellsAt.cell R1 5
    have s5 := CellsAt.frozen R1 5
    have r6 := CellsAt.cell R1 6
    have s6 := CellsAt.frozen R1 6
    have r7 := CellsAt.cell R1 7
    have s7 := CellsAt.frozen R1 7
    have hr := CellsAt.lt R1
    simp at r0 r1 r2 r3 r4 r5 r6 r7
    have HR1 : Hid _ := R1
    have HB1 : Hid _ := B1
    clear h0 HI HM R1 B1 C1 N1
    go_wp2
    clear r0 r1 r2 r3 r4 r5 r6 r7 s0 s1 s2 s3 s4 s5 s6 s7
    have hF := sets8 (W := w2) (B := w.heap.size + 1 + 1) (t := 54) HR1.out (.string ⟨#[]⟩) (.int .i64 0) (.int .i64 0) (.string ⟨#[]⟩) (.slice none 0 0) (.slice none 0 0) (.slice none 0 0) (.int .i64 0)
    have hG := sets8_grown w2 (w.heap.size + 1 + 1) (.string ⟨#[]⟩) (.int .i64 0) (.int .i64 0) (.string ⟨#[]⟩) (.slice none 0 0) (.slice none 0 0) (.slice none 0 0) (.int .i64 0)
    (try simp only [Exit.inBlock, Exit.then])
    refine bodyPost_ret (results_cell_tmp_row rfl _ _ _ _ _ _ _ rfl hF Tryz.underlying54 rfl (by kernel_rfl)) rfl ?_
    exact ⟨⟨zeroPV, rfl, rfl, zeroPV_owns _ _⟩, HB1.out.grown hG HB1.out.size (fun k e => by obtain rfl := Option.some.inj e; omega)⟩
  · clear HM
    go_wp2_with fail
    refine (HI.out w2 (w.heap.size + 1) B1 N1.lt (N1.cell 0)).mono ?_
    rintro e w3 ⟨rfl, b3⟩
    replace B1 := B1.trans (b3.mono B1.size)
    replace R1 := R1.below b3 R1.lt
    clear HI b3 C1 N1 k3 hk
    have r0 := CellsAt.cell R1 0
    have s0 := CellsAt.frozen R1 0
    have r1 := CellsAt.cell R1 1
    have s1 := CellsAt.frozen R1 1
    have r2 := CellsAt.cell R1 2
    have s2 := CellsAt.frozen R1 2
    have r3 := CellsAt.cell R1 3
    have s3 := CellsAt.frozen R1 3
    have r4 := CellsAt.cell R1 4
    have s4 := CellsAt.frozen R1 4
    have r5 := CellsAt.cell R1 5
    have s5 := CellsAt.frozen R1 5
    have r6 := CellsAt.cell R1 6
    have s6 := CellsAt.frozen R1 6
    have r7 := CellsAt.cell R1 7
    have s7 := CellsAt.frozen R1 7
    have hr := CellsAt.lt R1
    simp at r0 r1 r2 r3 r4 r5 r6 r7
    have HR1 : Hid _ := R1
    have HB1 : Hid _ := B1
    clear R1 B1
    go_wp2
    clear r0 r1 r2 r3 r4 r5 r6 r7 s0 s1 s2 s3 s4 s5 s6 s7
    have hF := sets8 (W := w3) (B := w.heap.size + 1 + 1) (t := 54) HR1.out (.string ⟨#[]⟩) (.int .i64 0) (.int .i64 0) (.string ⟨#[]⟩) (.slice none 0 0) (.slice none 0 0) (.slice none 0 0) (.int .i64 0)
    have hG := sets8_grown w3 (w.heap.size + 1 + 1) (.string ⟨#[]⟩) (.int .i64 0) (.int .i64 0) (.string ⟨#[]⟩) (.slice none 0 0) (.slice none 0 0) (.slice none 0 0) (.int .i64 0)
    (try simp only [Exit.inBlock, Exit.then])
    refine bodyPost_ret (results_cell_tmp_row rfl _ _ _ _ _ _ _ rfl hF Tryz.underlying54 rfl (by kernel_rfl)) rfl ?_
    exact ⟨⟨zeroPV, rfl, rfl, zeroPV_owns _ _⟩, HB1.out.grown hG HB1.out.size (fun k e => by obtain rfl := Option.some.inj e; omega)⟩
  · have HX : Hid (∀ W, Below w.heap.size w W → Calls Tryz.prog 77 #[x.val] W fun e w' => (∃ y : PV, e = .returned y.val ∧ y.plc = x.plc ∧ OwnsPlc W.heap.size w' y) ∧ Below W.heap.size W w') := HM.out (by first | rfl | trivial) x (List.mem_of_getElem? hx)
    have hlt : (j : Int) < (l.length : Int) := by have := (List.getElem?_eq_some_iff.1 hx).1; omega
    have hj0 : ¬ ((j : Int) < 0) := by omega
    rcases hrow with h | ⟨b, off, rfl, hbn, hcells⟩
    · subst h; simp at hx
    go_wp2_with fail
    refine (HI.out w2 (w.heap.size + 1) B1 N1.lt (N1.cell 0)).mono ?_
    rintro e w3 ⟨rfl, b3⟩
    replace B1 := B1.trans (b3.mono B1.size)
    replace C1 := C1.below b3 C1.lt
    replace R1 := R1.below b3 R1.lt
    clear HI b3 N1 k3 hk HM
    have k3 := C1.cell 3
    have hk := C1.lt
    simp at k3
    have c0 := (B1.cell (p := ⟨b, off + j * 8 + 0, none⟩) hbn).trans (hcells j _ hx 0 (by omega))
    have c1 := (B1.cell (p := ⟨b, off + j * 8 + 1, none⟩) hbn).trans (hcells j _ hx 1 (by omega))
    have c2 := (B1.cell (p := ⟨b, off + j * 8 + 2, none⟩) hbn).trans (hcells j _ hx 2 (by omega))
    have c3 := (B1.cell (p := ⟨b, off + j * 8 + 3, none⟩) hbn).trans (hcells j _ hx 3 (by omega))
    have c4 := (B1.cell (p := ⟨b, off + j * 8 + 4, none⟩) hbn).trans (hcells j _ hx 4 (by omega))
    have c5 := (B1.cell (p := ⟨b, off + j * 8 + 5, none⟩) hbn).trans (hcells j _ hx 5 (by omega))
    have c6 := (B1.cell (p := ⟨b, off + j * 8 + 6, none⟩) hbn).trans (hcells j _ hx 6 (by omega))
    have c7 := (B1.cell (p := ⟨b, off + j * 8 + 7, none⟩) hbn).trans (hcells j _ hx 7 (by omega))
    have HY : Hid (∀ y : PV, y.plc = x.plc → ∃ r1 r2 r3, y = ⟨x.mod, r1, r2, r3, x.first⟩) := fun y hy => by
      obtain ⟨m, r1, r2, r3, f⟩ := y
      unfold PV.plc at hy
      injection hy with h1 h2
      dsimp only at h1 h2
      exact ⟨r1, r2, r3, by rw [h1, h2]⟩
    obtain ⟨⟨pe, ke, e4, _⟩, ⟨pi, ki, e5, _⟩, ⟨pp, kp, e6, _⟩⟩ := hat x (List.mem_of_getElem? hx)
    obtain ⟨⟨N, xa, xi, T, es, is, ps⟩, ve, vi, vp, fi⟩ := x
    dsimp only [PV.val] at *
    subst e4 e5 e6
    dsimp only [PV.cell] at c0 c1 c2 c3 c4 c5 c6 c7
    rw [Nat.add_zero] at c0
    clear hcells hx hat
    have hbn3 : b < w3.heap.size := Nat.lt_of_lt_of_le hbn B1.size
    go_wp2_with fail
    refine (HX.out _ B1).mono ?_
    rintro e w4 ⟨⟨y, rfl, hy, hO⟩, b4⟩
    have hz3 : w.heap.size + 1 + 1 < w3.heap.size := R1.lt
    replace B1 := B1.trans (b4.mono B1.size)
    replace R1 := R1.below b4 R1.lt
    clear HX b4 c0 c1 c2 c3 c4 c5 c6 c7 k3 hk C1
    obtain ⟨r1, r2, r3, rfl⟩ := HY.out y hy
    have hO' := hO
    obtain ⟨o1, o2, o3⟩ := hO'
    dsimp only at o1 o2 o3
    obtain ⟨a1, c1, rfl⟩ := own_form o1
    obtain ⟨a2, c2, rfl⟩ := own_form o2
    obtain ⟨a3, c3, rfl⟩ := own_form o3
    have HO : Hid _ := hO
    dsimp only [PV.val]
    generalize hle : es.length = le at *
    generalize hli : is.length = li at *
    generalize hlp : ps.length = lp at *
    have r0 := CellsAt.cell R1 0
    have s0 := CellsAt.frozen R1 0
    have r1 := CellsAt.cell R1 1
    have s1 := CellsAt.frozen R1 1
    have r2 := CellsAt.cell R1 2
    have s2 := CellsAt.frozen R1 2
    have r3 := CellsAt.cell R1 3
    have s3 := CellsAt.frozen R1 3
    have r4 := CellsAt.cell R1 4
    have s4 := CellsAt.frozen R1 4
    have r5 := CellsAt.cell R1 5
    have s5 := CellsAt.frozen R1 5
    have r6 := CellsAt.cell R1 6
    have s6 := CellsAt.frozen R1 6
    have r7 := CellsAt.cell R1 7
    have s7 := CellsAt.frozen R1 7
    have hr := CellsAt.lt R1
    simp at r0 r1 r2 r3 r4 r5 r6 r7
    have HR1 : Hid _ := R1
    have HB1 : Hid _ := B1
    clear R1 B1 o1 o2 o3 hO HY hy
    go_wp2
    clear r0 r1 r2 r3 r4 r5 r6 r7 s0 s1 s2 s3 s4 s5 s6 s7
    have hF := sets8 (W := w4) (B := w.heap.size + 1 + 1) (t := 54) HR1.out (.string N) (.int .i64 xa) (.int .i64 xi) (.string T) (.slice a1 le c1) (.slice a2 li c2) (.slice a3 lp c3) (.int .i64 fi)
    have hG := sets8_grown w4 (w.heap.size + 1 + 1) (.string N) (.int .i64 xa) (.int .i64 xi) (.string T) (.slice a1 le c1) (.slice a2 li c2) (.slice a3 lp c3) (.int .i64 fi)
    (try simp only [Exit.inBlock, Exit.then])
    refine bodyPost_ret (results_cell_tmp_row rfl _ _ _ _ _ _ _ rfl hF Tryz.underlying54 rfl (by kernel_rfl)) rfl ?_
    refine ⟨⟨⟨⟨N, xa, xi, T, es, is, ps⟩, .slice a1 le c1, .slice a2 li c2, .slice a3 lp c3, fi⟩, rfl, rfl, ?_⟩, HB1.out.grown hG HB1.out.size (fun k e => by obtain rfl := Option.some.inj e; omega)⟩
    subst hle hli hlp
    obtain ⟨h1, h2, h3⟩ := HO.out
    have hk : ∀ k, some (w.heap.size + 1 + 1) = some k → k < w3.heap.size := fun k e => by obtain rfl := Option.some.inj e; exact hz3
    exact ⟨row_less2 (own_kept h1 hG hk) (by omega), row_less2 (own_kept h2 hG hk) (by omega), row_less2 (own_kept h3 hG hk) (by omega)⟩

end Go.Proofs.YthmohjgdcjafkaeGreat
