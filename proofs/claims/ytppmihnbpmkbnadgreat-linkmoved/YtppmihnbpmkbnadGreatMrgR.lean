/- Texts that are laid together. -/
import Derived.Test.YtppmihnbpmkbnadGreatMrgF
import Derived.Test.YtppmihnbpmkbnadGreatMrgC
import Derived.Test.YtppmihnbpmkbnadGreatMrgI

/- The modules lib and app of the statements. -/
namespace Go.Proofs.YtppmihnbpmkbnadGreat
open Go.RowKit Go.PlainAid Go.Lib

def libM : Mod := ⟨⟨#[108, 105, 98]⟩, 1, 2, ⟨#[97, 98, 99, 100, 101, 102, 103, 104]⟩, [⟨⟨#[102]⟩, 4⟩], [], []⟩
def appM : Mod := ⟨⟨#[97, 112, 112]⟩, 0, 0, ⟨#[46, 46, 46, 46, 46, 46, 46, 46]⟩, [], [⟨⟨#[108, 105, 98]⟩, ⟨#[102]⟩, 1, 1⟩, ⟨⟨#[107, 101, 114, 110, 101, 108]⟩, ⟨#[107]⟩, 0, 0⟩], [⟨1, 0, 0, 1⟩, ⟨5, 4, 1, 0⟩]⟩
theorem chk_lib : chkMod libM = 0 := by kernel_rfl
theorem chk_app : chkMod appM = 0 := by kernel_rfl

set_option maxHeartbeats 1000000 in
theorem lib_any (w : World) : Calls Tryz.prog 57 #[] w fun e w' => ∃ pe ke, e = .returned (.agg #[.string ⟨#[108, 105, 98]⟩, .int .i64 1, .int .i64 2, .string ⟨#[97, 98, 99, 100, 101, 102, 103, 104]⟩, .slice pe 1 ke, .slice none 0 0, .slice none 0 0]) ∧ IsMod w'.heap.size w' (.agg #[.string ⟨#[108, 105, 98]⟩, .int .i64 1, .int .i64 2, .string ⟨#[97, 98, 99, 100, 101, 102, 103, 104]⟩, .slice pe 1 ke, .slice none 0 0, .slice none 0 0]) libM ∧ Below w.heap.size w w' := by
  go_enter Tryz.func57, Tryz.ntmps57
  go_wp2
  (try simp only [Exit.inBlock, Exit.then])
  refine bodyPost_ret (results_cell_row rfl _ _ _ _ _ _ _ rfl (CellsAt.kept (CellsAt.new w _ _) (World.grownBy_alloc _ _ none) (by simp)) Tryz.underlying39 rfl (by kernel_rfl)) rfl ?_
  refine ⟨_, _, rfl, ⟨_, _, _, rfl, ?_, ⟨_, _, rfl, by decide, .inl rfl⟩, ⟨_, _, rfl, by decide, .inl rfl⟩⟩, ((Below.refl _ _).alloc (Nat.le_refl _) _).alloc (by simp) _⟩
  have c := CellsAt.new (w.alloc (.cells #[.string ⟨#[108, 105, 98]⟩, .int .i64 1, .int .i64 2, .string ⟨#[97, 98, 99, 100, 101, 102, 103, 104]⟩, .slice (some ⟨w.heap.size + 1, 0, none⟩) 1 1, .slice none 0 0, .slice none 0 0] 39)) 120 #[.string ⟨#[102]⟩, .int .i64 4]
  rw [World.size_alloc] at c
  exact rowOf_cells (C := expC) (cells := Exp.cell) (sz := 2) (fun _ => rfl) expC_at c libM.exps (by decide) 1 rfl

set_option maxHeartbeats 1000000 in
theorem app_any (w : World) : Calls Tryz.prog 52 #[] w fun e w' => ∃ v, e = .returned v ∧ IsMod w'.heap.size w' v appM ∧ Below w.heap.size w w' := by
  go_enter Tryz.func52, Tryz.ntmps52
  go_wp2
  (try simp only [Exit.inBlock, Exit.then])
  refine bodyPost_ret (results_cell_row rfl _ _ _ _ _ _ _ rfl (CellsAt.kept (CellsAt.kept (CellsAt.new w _ _) (World.grownBy_alloc _ _ none) (by simp)) (World.grownBy_alloc _ _ none) (by simp)) Tryz.underlying39 rfl (by kernel_rfl)) rfl ?_
  generalize hA : w.alloc (.cells #[.string ⟨#[97, 112, 112]⟩, .int .i64 0, .int .i64 0, .string ⟨#[46, 46, 46, 46, 46, 46, 46, 46]⟩, .slice none 0 0, .slice (some ⟨w.heap.size + 1, 0, none⟩) 2 2, .slice (some ⟨w.heap.size + 1 + 1, 0, none⟩) 2 2] 39) = wa
  have hz : wa.heap.size = w.heap.size + 1 := by rw [← hA]; simp
  have B1 : Below w.heap.size w wa := by rw [← hA]; exact (Below.refl _ _).alloc (Nat.le_refl _) _
  clear hA
  have c1 := CellsAt.new wa 84 #[.string ⟨#[108, 105, 98]⟩, .string ⟨#[102]⟩, .int .i64 1, .int .i64 1, .string ⟨#[107, 101, 114, 110, 101, 108]⟩, .string ⟨#[107]⟩, .int .i64 0, .int .i64 0]
  have c2 := CellsAt.new (wa.alloc (.cells #[.string ⟨#[108, 105, 98]⟩, .string ⟨#[102]⟩, .int .i64 1, .int .i64 1, .string ⟨#[107, 101, 114, 110, 101, 108]⟩, .string ⟨#[107]⟩, .int .i64 0, .int .i64 0] 84)) 43 #[.int .i64 1, .int .i64 0, .int .i64 0, .int .i64 1, .int .i64 5, .int .i64 4, .int .i64 1, .int .i64 0]
  have c1' := c1.kept (World.grownBy_alloc _ (.cells #[.int .i64 1, .int .i64 0, .int .i64 0, .int .i64 1, .int .i64 5, .int .i64 4, .int .i64 1, .int .i64 0] 43) none) (by simp)
  rw [hz] at c1'
  rw [World.size_alloc, hz] at c2
  refine ⟨_, rfl, ⟨_, _, _, rfl, ⟨_, _, rfl, by decide, .inl rfl⟩, ?_, ?_⟩, (B1.alloc (by omega) _).alloc (by simp; omega) _⟩
  · exact rowOf_cells (C := impC) (cells := Imp.cell) (sz := 4) (fun _ => rfl) impC_at c1' appM.imps (by decide) 2 rfl
  · exact rowOf_cells (C := patC) (cells := Pat.cell) (sz := 4) (fun _ => rfl) patC_at c2 appM.pats (by decide) 2 rfl

end Go.Proofs.YtppmihnbpmkbnadGreat

/- The placed modules of the statements. -/
namespace Go.Proofs.YtppmihnbpmkbnadGreat
open Go.RowKit Go.PlainAid

set_option maxRecDepth 100000

def pairL : List Plc := [⟨appM, 1⟩, ⟨libM, 4⟩]
theorem fits_app : appM.fits := by
  refine ⟨by decide, by decide, fun e he => by simp [appM] at he, fun i hi => ?_⟩
  have : i = ⟨⟨#[108, 105, 98]⟩, ⟨#[102]⟩, 1, 1⟩ ∨ i = ⟨⟨#[107, 101, 114, 110, 101, 108]⟩, ⟨#[107]⟩, 0, 0⟩ := by simpa [appM] using hi
  rcases this with rfl | rfl <;> exact ⟨by decide, by decide⟩
theorem fits_lib : libM.fits := by
  refine ⟨by decide, by decide, fun e he => ?_, fun i hi => by simp [libM] at hi⟩
  have : e = ⟨⟨#[102]⟩, 4⟩ := by simpa [libM] using he
  subst this
  decide

def pvC (x : PV) : List Value := [.string x.mod.name, .int .i64 x.mod.major, .int .i64 x.mod.minor, .string x.mod.text, x.ve, x.vi, x.vp, .int .i64 x.first]
theorem pvC_at (x : PV) (i : Nat) (hi : i < 8) : (pvC x)[i]? = some (PV.cell x i) := by
  have : i = 0 ∨ i = 1 ∨ i = 2 ∨ i = 3 ∨ i = 4 ∨ i = 5 ∨ i = 6 ∨ i = 7 := by omega
  rcases this with rfl | rfl | rfl | rfl | rfl | rfl | rfl | rfl <;> rfl
theorem mod_rows {n₀ : Nat} {W : World} {N T : ByteArray} {a b : Int} {ve vi vp : Value} {M : Mod} (h : IsMod n₀ W (.agg #[.string N, .int .i64 a, .int .i64 b, .string T, ve, vi, vp]) M) : RowOf 2 Exp.cell n₀ W ve M.exps ∧ RowOf 4 Imp.cell n₀ W vi M.imps ∧ RowOf 4 Pat.cell n₀ W vp M.pats := by
  obtain ⟨ve', vi', vp', e, h1, h2, h3⟩ := h
  injection e with e
  have e2 := congrArg Array.toList e
  simp at e2
  obtain ⟨_, _, _, _, rfl, rfl, rfl⟩ := e2
  exact ⟨h1, h2, h3⟩

set_option maxHeartbeats 2000000 in
theorem pair_any (w : World) : Calls Tryz.prog 44 #[] w fun e w' => ∃ v l, e = .returned v ∧ l.map PV.plc = pairL ∧ IsPlcs w'.heap.size w' v l ∧ Below w.heap.size w w' := by
  go_enter Tryz.func44, Tryz.ntmps44
  go_wp2_with fail
  refine (app_any _).mono ?_
  rintro e w1 ⟨v1, rfl, hA, b1⟩
  obtain ⟨ve, vi, vp, rfl, hE, hI, hP⟩ := hA
  have hAE := hE
  have hAI := hI
  have hAP := hP
  obtain ⟨ae, ce, rfl, _, _⟩ := hE
  obtain ⟨ai, ci, rfl, _, _⟩ := hI
  obtain ⟨ap, cp, rfl, _, _⟩ := hP
  dsimp only [appM]
  go_wp2_with fail
  refine (lib_any _).mono ?_
  rintro e w2 ⟨pe, ke, rfl, hL, b2⟩
  obtain ⟨l1, l2, l3⟩ := mod_rows hL
  have B2 := b1.trans (b2.mono b1.size)
  clear b1 hL
  go_wp2
  go_ret
  refine ⟨_, [⟨appM, .slice ae 0 ce, .slice ai 2 ci, .slice ap 2 cp, 1⟩, ⟨libM, .slice pe 1 ke, .slice none 0 0, .slice none 0 0, 4⟩], rfl, rfl, ⟨?_, ?_⟩, B2.alloc B2.size _⟩
  · exact rowOf_cells (C := pvC) (cells := PV.cell) (sz := 8) (fun _ => rfl) pvC_at (CellsAt.new w2 41 _) [⟨appM, .slice ae 0 ce, .slice ai 2 ci, .slice ap 2 cp, 1⟩, ⟨libM, .slice pe 1 ke, .slice none 0 0, .slice none 0 0, 4⟩] (show 2 ≤ 255 by decide) 2 rfl
  · intro x hx
    have : x = ⟨appM, .slice ae 0 ce, .slice ai 2 ci, .slice ap 2 cp, 1⟩ ∨ x = ⟨libM, .slice pe 1 ke, .slice none 0 0, .slice none 0 0, 4⟩ := by simpa using hx
    have hb : ∀ o, Below w2.heap.size w2 (w2.alloc o) := fun o => (Below.refl _ _).alloc (Nat.le_refl _) o
    have hbb : ∀ o, Below w1.heap.size w1 (w2.alloc o) := fun o => b2.trans ((hb o).mono b2.size)
    rcases this with rfl | rfl
    · exact ⟨(hAE.below (hbb _)).more (hbb _).size, (hAI.below (hbb _)).more (hbb _).size, (hAP.below (hbb _)).more (hbb _).size⟩
    · exact ⟨(l1.below (hb _)).more (hb _).size, (l2.below (hb _)).more (hb _).size, (l3.below (hb _)).more (hb _).size⟩

theorem pair_fits {l : List PV} (h : l.map PV.plc = pairL) : ∀ x ∈ l, x.mod.fits := by
  intro x hx
  have : x.plc ∈ pairL := by rw [← h]; exact List.mem_map_of_mem hx
  have h2 : x.plc = ⟨appM, 1⟩ ∨ x.plc = ⟨libM, 4⟩ := by simpa [pairL] using this
  rcases h2 with h2 | h2
  · have e : x.mod = appM := congrArg Plc.mod h2
    rw [e]; exact fits_app
  · have e : x.mod = libM := congrArg Plc.mod h2
    rw [e]; exact fits_lib

theorem pv_one {n₀ : Nat} {W : World} {x : PV} (h : PlcAt n₀ W x) : ∀ u ∈ pvC x, u.oneCell' = true := by
  obtain ⟨⟨pe, ke, e4, _⟩, ⟨pi, ki, e5, _⟩, ⟨pp, kp, e6, _⟩⟩ := h
  intro u hu
  unfold pvC at hu
  rw [e4, e5, e6] at hu
  simp at hu
  rcases hu with rfl | rfl | rfl | rfl | rfl | rfl | rfl | rfl <;> rfl
theorem pvs_one {n₀ : Nat} {W : World} {l : List PV} (h : ∀ x ∈ l, PlcAt n₀ W x) : ∀ u ∈ l.flatMap pvC, u.oneCell' = true := by
  intro u hu
  obtain ⟨x, hx, hux⟩ := List.mem_flatMap.1 hu
  exact pv_one (h x hx) u hux

theorem infoPlc : (Tryz.prog.info? 41).map (fun i => (i.zero, i.size, i.bytes)) = some (some (.agg #[.string ⟨#[]⟩, .int .i64 0, .int .i64 0, .string ⟨#[]⟩, .slice none 0 0, .slice none 0 0, .slice none 0 0, .int .i64 0]), 8, 128) := by kernel_rfl
theorem infoPlc_parts : ∃ i, Tryz.prog.info? 41 = some i ∧ i.zero = some (.agg #[.string ⟨#[]⟩, .int .i64 0, .int .i64 0, .string ⟨#[]⟩, .slice none 0 0, .slice none 0 0, .slice none 0 0, .int .i64 0]) ∧ i.size = 8 ∧ i.bytes = 128 := by
  have h := infoPlc
  cases hi : Tryz.prog.info? 41 with
  | none => rw [hi] at h; cases h
  | some i =>
    rw [hi] at h
    simp at h
    exact ⟨i, rfl, h.1, h.2.1, h.2.2⟩

end Go.Proofs.YtppmihnbpmkbnadGreat

/- The contracts of the statements' kernel, pair, and of the document's SameInts. -/
namespace Go.Proofs.YtppmihnbpmkbnadGreat
open Go.RowKit Go.PlainAid

set_option maxRecDepth 100000

def kernK : Ker := ⟨0, 0, [⟨⟨#[107]⟩, 2⟩]⟩
theorem kern_fits : kernK.fits := by
  intro e he
  have : e = ⟨⟨#[107]⟩, 2⟩ := by simpa [kernK] using he
  subst this
  decide
set_option maxHeartbeats 1000000 in
theorem kernelFn_any (w : World) : Calls Tryz.prog 43 #[] w fun e w' => ∃ v, e = .returned v ∧ IsKer w'.heap.size w' v kernK ∧ Below w.heap.size w w' := by
  go_enter Tryz.func43, Tryz.ntmps43
  go_wp2
  (try simp only [Exit.inBlock, Exit.then])
  have hF : CellsAt ((w.alloc (.cells #[.int .i64 0, .int .i64 0, .slice (some ⟨w.heap.size + 1, 0, none⟩) 1 1] 24)).alloc (.cells #[.string ⟨#[107]⟩, .int .i64 2] 120)) w.heap.size 24 #[.int .i64 0, .int .i64 0, .slice (some ⟨w.heap.size + 1, 0, none⟩) 1 1] := CellsAt.kept (CellsAt.new w _ _) (World.grownBy_alloc _ _ none) (by simp)
  refine bodyPost_ret (results_cell_row rfl _ _ _ _ _ _ _ rfl hF Tryz.underlying24 rfl (by kernel_rfl)) rfl ?_
  refine ⟨_, rfl, ⟨_, rfl, ?_⟩, ((Below.refl _ _).alloc (Nat.le_refl _) _).alloc (by simp) _⟩
  have c := CellsAt.new (w.alloc (.cells #[.int .i64 0, .int .i64 0, .slice (some ⟨w.heap.size + 1, 0, none⟩) 1 1] 24)) 120 #[.string ⟨#[107]⟩, .int .i64 2]
  rw [World.size_alloc] at c
  exact rowOf_cells (C := expC) (cells := Exp.cell) (sz := 2) (fun _ => rfl) expC_at c kernK.exps (by decide) 1 rfl

set_option maxHeartbeats 1000000 in
theorem sameInts_yes (l : List Int) (v1 v2 : Value) (w : World) (h1 : RowOf 1 intCell w.heap.size w v1 l) (h2 : RowOf 1 intCell w.heap.size w v2 l) :
    Calls Tryz.prog 53 #[v1, v2] w fun e w' => e = .returned (.bool true) ∧ Below w.heap.size w w' := by
  obtain ⟨a1, c1, rfl, hl, h1⟩ := h1
  obtain ⟨a2, c2, rfl, _, h2⟩ := h2
  go_enter Tryz.func53, Tryz.ntmps53
  go_wp2
  go_loopw [5] (fun i wr => ∃ (k : Nat), k ≤ l.length ∧ i = .int .i64 k ∧ Below w.heap.size w wr) (fun i _ => l.length - (intOf i).toNat)
  case atStart => exact ⟨0, Nat.zero_le _, rfl, Below.refl _ _⟩
  case round =>
    obtain ⟨k, hk, rfl, B⟩ := hrel
    by_cases hlt : k < l.length
    · obtain ⟨x, hx⟩ : ∃ x, l[k]? = some x := ⟨_, List.getElem?_eq_getElem hlt⟩
      rcases h1 with h | ⟨b1, o1, rfl, hb1, hc1⟩
      · subst h; simp at hlt
      rcases h2 with h | ⟨b2, o2, rfl, hb2, hc2⟩
      · subst h; simp at hlt
      have d1 : wr.cell? ⟨b1, o1 + k, none⟩ = some (.int .i64 x) := by
        have := (B.cell (p := ⟨b1, o1 + k * 1 + 0, none⟩) hb1).trans (hc1 k _ hx 0 (by omega))
        rw [Nat.mul_one] at this
        exact this
      have d2 : wr.cell? ⟨b2, o2 + k, none⟩ = some (.int .i64 x) := by
        have := (B.cell (p := ⟨b2, o2 + k * 1 + 0, none⟩) hb2).trans (hc2 k _ hx 0 (by omega))
        rw [Nat.mul_one] at this
        exact this
      have hne : (x != x) = false := by simp
      clear hc1 hc2 hx
      go_wp2
      go_quiet (fail)
      all_goals go_wp2
      exact ⟨⟨k + 1, by omega, by go_num, below_drewN B _⟩, by simp [intOf]; omega⟩
    · obtain rfl : k = l.length := by omega
      go_wp2
      go_ret
      exact ⟨rfl, B⟩

end Go.Proofs.YtppmihnbpmkbnadGreat

/- What must be in any case, of who is meant. -/
namespace Go.Proofs.YtppmihnbpmkbnadGreat
open Go.RowKit Go.PlainAid

set_option maxRecDepth 100000

theorem find1 (vk : Value) (l : List PV) (v : Value) (w : World) (hl : l.map PV.plc = pairL) (hK : IsKer w.heap.size w vk kernK) (hP : IsPlcs w.heap.size w v l) :
    Calls Tryz.prog 51 #[vk, v, .agg #[.string ⟨#[108, 105, 98]⟩, .string ⟨#[102]⟩, .int .i64 1, .int .i64 1]] w fun e w' => e = .returned (.tuple #[.int .i64 4356, .int .i64 0]) ∧ Below w.heap.size w w' := by
  have := find_any kernK vk l v ⟨⟨#[108, 105, 98]⟩, ⟨#[102]⟩, 1, 1⟩ w hK kern_fits hP (pair_fits hl) ⟨by decide, by decide⟩
  rw [hl] at this
  have e : findRes kernK pairL ⟨⟨#[108, 105, 98]⟩, ⟨#[102]⟩, 1, 1⟩ = (4356, 0) := by kernel_rfl
  rw [e] at this
  exact this
theorem find2 (vk : Value) (l : List PV) (v : Value) (w : World) (hl : l.map PV.plc = pairL) (hK : IsKer w.heap.size w vk kernK) (hP : IsPlcs w.heap.size w v l) :
    Calls Tryz.prog 51 #[vk, v, .agg #[.string ⟨#[108, 105, 98]⟩, .string ⟨#[102]⟩, .int .i64 1, .int .i64 3]] w fun e w' => e = .returned (.tuple #[.int .i64 0, .int .i64 4]) ∧ Below w.heap.size w w' := by
  have := find_any kernK vk l v ⟨⟨#[108, 105, 98]⟩, ⟨#[102]⟩, 1, 3⟩ w hK kern_fits hP (pair_fits hl) ⟨by decide, by decide⟩
  rw [hl] at this
  have e : findRes kernK pairL ⟨⟨#[108, 105, 98]⟩, ⟨#[102]⟩, 1, 3⟩ = (0, 4) := by kernel_rfl
  rw [e] at this
  exact this
theorem all1 (vk : Value) (l : List PV) (v vm : Value) (w : World) (hl : l.map PV.plc = pairL) (hK : IsKer w.heap.size w vk kernK) (hP : IsPlcs w.heap.size w v l) (hM : IsMod w.heap.size w vm appM) :
    Calls Tryz.prog 27 #[vk, v, vm] w fun e w' => (∃ r, e = .returned (.tuple #[r, .int .i64 0]) ∧ RowOf 1 intCell w'.heap.size w' r [4356, 2]) ∧ Below w.heap.size w w' := by
  have := all_any kernK vk l v appM vm w hK kern_fits hP (pair_fits hl) hM fits_app
  rw [hl] at this
  have e : allRes kernK pairL appM = ([4356, 2], 0) := by kernel_rfl
  rw [e] at this
  exact this
theorem kernel1 (vk : Value) (w : World) (hK : IsKer w.heap.size w vk kernK) : Calls Tryz.prog 49 #[vk] w fun e w' => e = .returned (.int .i64 0) ∧ Below w.heap.size w w' := by
  have := kernel_any kernK vk w hK kern_fits
  have e : chkKer kernK = 0 := by kernel_rfl
  rwa [e] at this

set_option maxHeartbeats 4000000 in
theorem resolveBegun_any (w : World) : Calls Tryz.prog 22 #[] w fun e w' => e = .returned (.bool true) ∧ Below w.heap.size w w' := by
  go_enter Tryz.func22, Tryz.ntmps22
  go_wp2_with fail
  refine (kernelFn_any _).mono ?_
  rintro e w1 ⟨vk, rfl, hK, b1⟩
  go_wp2_with fail
  refine (pair_any _).mono ?_
  rintro e w2 ⟨v, l, rfl, hl, hP, b2⟩
  go_wp2_with fail
  refine (app_any _).mono ?_
  rintro e w3 ⟨vm, rfl, hM, b3⟩
  have b23 := b2.trans (b3.mono b2.size)
  have HK : Hid (IsKer w3.heap.size w3 vk kernK) := (hK.below b23).more b23.size
  have HP : Hid (IsPlcs w3.heap.size w3 v l) := (hP.below b3).more b3.size
  have HL : Hid (l.map PV.plc = pairL) := hl
  have B3 := b1.trans (b23.mono b1.size)
  obtain ⟨ve, vi, vp, rfl, hE, hI, hPt⟩ := hM
  obtain ⟨ai, ci, rfl, _, hI | ⟨b, off, rfl, hbn, hcells⟩⟩ := hI
  · exact absurd hI (by decide)
  have c0 : w3.cell? ⟨b, off, none⟩ = some (.string ⟨#[108, 105, 98]⟩) := hcells 0 ⟨⟨#[108, 105, 98]⟩, ⟨#[102]⟩, 1, 1⟩ rfl 0 (by omega)
  have c1 : w3.cell? ⟨b, off + 1, none⟩ = some (.string ⟨#[102]⟩) := hcells 0 ⟨⟨#[108, 105, 98]⟩, ⟨#[102]⟩, 1, 1⟩ rfl 1 (by omega)
  have c2 : w3.cell? ⟨b, off + 2, none⟩ = some (.int .i64 1) := hcells 0 ⟨⟨#[108, 105, 98]⟩, ⟨#[102]⟩, 1, 1⟩ rfl 2 (by omega)
  have c3 : w3.cell? ⟨b, off + 3, none⟩ = some (.int .i64 1) := hcells 0 ⟨⟨#[108, 105, 98]⟩, ⟨#[102]⟩, 1, 1⟩ rfl 3 (by omega)
  dsimp only [appM]
  have hfd : ∀ w : World, (Instr.field 39 (.agg #[.string ⟨#[97, 112, 112]⟩, .int .i64 0, .int .i64 0, .string ⟨#[46, 46, 46, 46, 46, 46, 46, 46]⟩, ve, .slice (some ⟨b, off, none⟩) 2 ci, vp]) 5).run Tryz.prog w = .ok (.slice (some ⟨b, off, none⟩) 2 ci) w := fun _ => by kernel_rfl
  clear hE hPt hcells hK hP hl b1 b2 b3 b23
  go_wp2_with fail
  refine (find1 vk l v _ HL.out HK.out HP.out).mono ?_
  rintro e w4 ⟨rfl, b4⟩
  have B4 := B3.trans (b4.mono B3.size)
  clear b4 c0 c1 c2 c3 HK HP HL B3 hfd
  go_wp2_with fail
  refine (kernelFn_any _).mono ?_
  rintro e w5 ⟨vk, rfl, hK, b5⟩
  go_wp2_with fail
  refine (pair_any _).mono ?_
  rintro e w6 ⟨v, l, rfl, hl, hP, b6⟩
  go_wp2_with fail
  refine (app_any _).mono ?_
  rintro e w7 ⟨vm, rfl, hM, b7⟩
  have b67 := b6.trans (b7.mono b6.size)
  have HK : Hid (IsKer w7.heap.size w7 vk kernK) := (hK.below b67).more b67.size
  have HP : Hid (IsPlcs w7.heap.size w7 v l) := (hP.below b7).more b7.size
  have HL : Hid (l.map PV.plc = pairL) := hl
  have HM : Hid (IsMod w7.heap.size w7 vm appM) := hM
  have B7 := B4.trans ((b5.trans (b67.mono b5.size)).mono B4.size)
  clear hK hP hl hM b5 b6 b7 b67 B4
  go_wp2_with fail
  refine (all1 vk l v vm _ HL.out HK.out HP.out HM.out).mono ?_
  rintro e w8 ⟨⟨r, rfl, hR⟩, b8⟩
  have B8 := B7.trans (b8.mono B7.size)
  have HR : Hid (RowOf 1 intCell w8.heap.size w8 r [4356, 2]) := hR
  clear b8 HK HP HL HM B7 hR
  go_wp2_with fail
  refine (kernelFn_any _).mono ?_
  rintro e w9 ⟨vk, rfl, hK, b9⟩
  go_wp2_with fail
  refine (pair_any _).mono ?_
  rintro e w10 ⟨v, l, rfl, hl, hP, b10⟩
  have HK : Hid (IsKer w10.heap.size w10 vk kernK) := (hK.below b10).more b10.size
  have HP : Hid (IsPlcs w10.heap.size w10 v l) := hP
  have HL : Hid (l.map PV.plc = pairL) := hl
  have b910 := b9.trans (b10.mono b9.size)
  have B10 := B8.trans (b910.mono B8.size)
  have HR10 : Hid (RowOf 1 intCell w10.heap.size w10 r [4356, 2]) := (HR.out.below b910).more b910.size
  clear hK hP hl b9 b10 b910 B8 HR
  go_wp2_with fail
  refine (find2 vk l v _ HL.out HK.out HP.out).mono ?_
  rintro e w11 ⟨rfl, b11⟩
  have B11 := B10.trans (b11.mono B10.size)
  have HR11 : Hid (RowOf 1 intCell w11.heap.size w11 r [4356, 2]) := (HR10.out.below b11).more b11.size
  clear b11 HK HP HL B10 HR10
  go_wp2_with fail
  refine (kernelFn_any _).mono ?_
  rintro e w12 ⟨vk, rfl, hK, b12⟩
  have HK : Hid (IsKer w12.heap.size w12 vk kernK) := hK
  have B12 := B11.trans (b12.mono B11.size)
  have HR12 : Hid (RowOf 1 intCell w12.heap.size w12 r [4356, 2]) := (HR11.out.below b12).more b12.size
  clear hK b12 HR11 B11
  go_wp2_with fail
  refine (kernel1 vk _ HK.out).mono ?_
  rintro e w13 ⟨rfl, b13⟩
  have B13 := B12.trans (b13.mono B12.size)
  have HR13 : Hid (RowOf 1 intCell w13.heap.size w13 r [4356, 2]) := (HR12.out.below b13).more b13.size
  clear b13 HR12 B12
  have HB14 : Hid (Below w13.heap.size w13 (w13.alloc (.cells #[.int .i64 4356, .int .i64 2] 3))) := (Below.refl _ _).alloc (Nat.le_refl _) _
  have HI14 : Hid (RowOf 1 intCell (w13.alloc (.cells #[.int .i64 4356, .int .i64 2] 3)).heap.size (w13.alloc (.cells #[.int .i64 4356, .int .i64 2] 3)) (.slice (some ⟨w13.heap.size, 0, none⟩) 2 2) [4356, 2]) :=
    rowOf_cells (C := intC) (cells := intCell) (sz := 1) (fun _ => rfl) intC_at (CellsAt.new w13 3 #[.int .i64 4356, .int .i64 2]) [4356, 2] (by decide) 2 rfl
  go_wp2_with fail
  refine (sameInts_yes [4356, 2] r _ _ ((HR13.out.below HB14.out).more HB14.out.size) HI14.out).mono ?_
  rintro e w15 ⟨rfl, b15⟩
  have B14 := B13.trans (HB14.out.mono B13.size)
  have B15 := B14.trans (b15.mono B14.size)
  go_wp2
  go_ret
  exact ⟨rfl, B15⟩

end Go.Proofs.YtppmihnbpmkbnadGreat
