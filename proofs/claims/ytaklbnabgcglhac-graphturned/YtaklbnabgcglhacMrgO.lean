/- Texts that are laid together. -/
import Derived.Test.YtaklbnabgcglhacMrgH
import Derived.Test.YtaklbnabgcglhacMrgE
import Derived.Test.YtaklbnabgcglhacMrgI
import Derived.Test.YtaklbnabgcglhacMrgL
import Derived.Test.YtaklbnabgcglhacMrgN

/- The modules lib and app of the statements. -/
namespace Go.Proofs.Ytaklbnabgcglhac
open Go.RowKit Go.PlainAid Go.Lib

def libM : Mod := ⟨⟨#[108, 105, 98]⟩, 1, 2, ⟨#[97, 98, 99, 100, 101, 102, 103, 104]⟩, [⟨⟨#[102]⟩, 4⟩], [], []⟩
def appM : Mod := ⟨⟨#[97, 112, 112]⟩, 0, 0, ⟨#[46, 46, 46, 46, 46, 46, 46, 46]⟩, [], [⟨⟨#[108, 105, 98]⟩, ⟨#[102]⟩, 1, 1⟩, ⟨⟨#[107, 101, 114, 110, 101, 108]⟩, ⟨#[107]⟩, 0, 0⟩], [⟨1, 0, 0, 1⟩, ⟨5, 4, 1, 0⟩]⟩
theorem chk_lib : chkMod libM = 0 := by kernel_rfl
theorem chk_app : chkMod appM = 0 := by kernel_rfl

set_option maxHeartbeats 1000000 in
theorem lib_any (w : World) : Calls Try.prog 45 #[] w fun e w' => ∃ pe ke, e = .returned (.agg #[.string ⟨#[108, 105, 98]⟩, .int .i64 1, .int .i64 2, .string ⟨#[97, 98, 99, 100, 101, 102, 103, 104]⟩, .slice pe 1 ke, .slice none 0 0, .slice none 0 0]) ∧ IsMod w'.heap.size w' (.agg #[.string ⟨#[108, 105, 98]⟩, .int .i64 1, .int .i64 2, .string ⟨#[97, 98, 99, 100, 101, 102, 103, 104]⟩, .slice pe 1 ke, .slice none 0 0, .slice none 0 0]) libM ∧ Below w.heap.size w w' := by
  go_enter Try.func45, Try.ntmps45
  go_wp2
  (try simp only [Exit.inBlock, Exit.then])
  refine bodyPost_ret (results_cell_row rfl _ _ _ _ _ _ _ rfl (CellsAt.kept (CellsAt.new w _ _) (World.grownBy_alloc _ _ none) (by simp)) Try.underlying36 rfl (by kernel_rfl)) rfl ?_
  refine ⟨_, _, rfl, ⟨_, _, _, rfl, ?_, ⟨_, _, rfl, by decide, .inl rfl⟩, ⟨_, _, rfl, by decide, .inl rfl⟩⟩, ((Below.refl _ _).alloc (Nat.le_refl _) _).alloc (by simp) _⟩
  have c := CellsAt.new (w.alloc (.cells #[.string ⟨#[108, 105, 98]⟩, .int .i64 1, .int .i64 2, .string ⟨#[97, 98, 99, 100, 101, 102, 103, 104]⟩, .slice (some ⟨w.heap.size + 1, 0, none⟩) 1 1, .slice none 0 0, .slice none 0 0] 36)) 101 #[.string ⟨#[102]⟩, .int .i64 4]
  rw [World.size_alloc] at c
  exact rowOf_cells (C := expC) (cells := Exp.cell) (sz := 2) (fun _ => rfl) expC_at c libM.exps (by decide) 1 rfl

set_option maxHeartbeats 1000000 in
theorem app_any (w : World) : Calls Try.prog 46 #[] w fun e w' => ∃ v, e = .returned v ∧ IsMod w'.heap.size w' v appM ∧ Below w.heap.size w w' := by
  go_enter Try.func46, Try.ntmps46
  go_wp2
  (try simp only [Exit.inBlock, Exit.then])
  refine bodyPost_ret (results_cell_row rfl _ _ _ _ _ _ _ rfl (CellsAt.kept (CellsAt.kept (CellsAt.new w _ _) (World.grownBy_alloc _ _ none) (by simp)) (World.grownBy_alloc _ _ none) (by simp)) Try.underlying36 rfl (by kernel_rfl)) rfl ?_
  generalize hA : w.alloc (.cells #[.string ⟨#[97, 112, 112]⟩, .int .i64 0, .int .i64 0, .string ⟨#[46, 46, 46, 46, 46, 46, 46, 46]⟩, .slice none 0 0, .slice (some ⟨w.heap.size + 1, 0, none⟩) 2 2, .slice (some ⟨w.heap.size + 1 + 1, 0, none⟩) 2 2] 36) = wa
  have hz : wa.heap.size = w.heap.size + 1 := by rw [← hA]; simp
  have B1 : Below w.heap.size w wa := by rw [← hA]; exact (Below.refl _ _).alloc (Nat.le_refl _) _
  clear hA
  have c1 := CellsAt.new wa 71 #[.string ⟨#[108, 105, 98]⟩, .string ⟨#[102]⟩, .int .i64 1, .int .i64 1, .string ⟨#[107, 101, 114, 110, 101, 108]⟩, .string ⟨#[107]⟩, .int .i64 0, .int .i64 0]
  have c2 := CellsAt.new (wa.alloc (.cells #[.string ⟨#[108, 105, 98]⟩, .string ⟨#[102]⟩, .int .i64 1, .int .i64 1, .string ⟨#[107, 101, 114, 110, 101, 108]⟩, .string ⟨#[107]⟩, .int .i64 0, .int .i64 0] 71)) 73 #[.int .i64 1, .int .i64 0, .int .i64 0, .int .i64 1, .int .i64 5, .int .i64 4, .int .i64 1, .int .i64 0]
  have c1' := c1.kept (World.grownBy_alloc _ (.cells #[.int .i64 1, .int .i64 0, .int .i64 0, .int .i64 1, .int .i64 5, .int .i64 4, .int .i64 1, .int .i64 0] 73) none) (by simp)
  rw [hz] at c1'
  rw [World.size_alloc, hz] at c2
  refine ⟨_, rfl, ⟨_, _, _, rfl, ⟨_, _, rfl, by decide, .inl rfl⟩, ?_, ?_⟩, (B1.alloc (by omega) _).alloc (by simp; omega) _⟩
  · exact rowOf_cells (C := impC) (cells := Imp.cell) (sz := 4) (fun _ => rfl) impC_at c1' appM.imps (by decide) 2 rfl
  · exact rowOf_cells (C := patC) (cells := Pat.cell) (sz := 4) (fun _ => rfl) patC_at c2 appM.pats (by decide) 2 rfl

end Go.Proofs.Ytaklbnabgcglhac

/- The placed modules of the statements. -/
namespace Go.Proofs.Ytaklbnabgcglhac
open Go.RowKit Go.PlainAid

set_option maxRecDepth 100000

def pairL : List Plc := [⟨appM, 1⟩, ⟨libM, 4⟩]
theorem fits_app : appM.fits := by
  refine ⟨by decide, by decide, fun e he => by simp [appM] at he, fun i hi => ?_⟩
  have : i = ⟨⟨#[108, 105, 98]⟩, ⟨#[102]⟩, 1, 1⟩ ∨ i = ⟨⟨#[107, 101, 114, 110, 101, 108]⟩, ⟨#[107]⟩, 0, 0⟩ := by simpa [appM] using hi
  rcases this with rfl | rfl <;> exact ⟨by decide, by decide⟩
theorem fits_lib : libM.fits := by
  refine ⟨by decide, by decide, fun e he => ?_, fun i hi => by simp [libM] at hi⟩
  have : e = ⟨⟨#[102]⟩, 4⟩ := by simpa [libM] using he
  subst this
  decide

def pvC (x : PV) : List Value := [.string x.mod.name, .int .i64 x.mod.major, .int .i64 x.mod.minor, .string x.mod.text, x.ve, x.vi, x.vp, .int .i64 x.first]
theorem pvC_at (x : PV) (i : Nat) (hi : i < 8) : (pvC x)[i]? = some (PV.cell x i) := by
  have : i = 0 ∨ i = 1 ∨ i = 2 ∨ i = 3 ∨ i = 4 ∨ i = 5 ∨ i = 6 ∨ i = 7 := by omega
  rcases this with rfl | rfl | rfl | rfl | rfl | rfl | rfl | rfl <;> rfl
theorem mod_rows {n₀ : Nat} {W : World} {N T : ByteArray} {a b : Int} {ve vi vp : Value} {M : Mod} (h : IsMod n₀ W (.agg #[.string N, .int .i64 a, .int .i64 b, .string T, ve, vi, vp]) M) : RowOf 2 Exp.cell n₀ W ve M.exps ∧ RowOf 4 Imp.cell n₀ W vi M.imps ∧ RowOf 4 Pat.cell n₀ W vp M.pats := by
  obtain ⟨ve', vi', vp', e, h1, h2, h3⟩ := h
  injection e with e
  have e2 := congrArg Array.toList e
  simp at e2
  obtain ⟨_, _, _, _, rfl, rfl, rfl⟩ := e2
  exact ⟨h1, h2, h3⟩

set_option maxHeartbeats 2000000 in
theorem pair_any (w : World) : Calls Try.prog 25 #[] w fun e w' => ∃ v l, e = .returned v ∧ l.map PV.plc = pairL ∧ IsPlcs w'.heap.size w' v l ∧ Below w.heap.size w w' := by
  go_enter Try.func25, Try.ntmps25
  go_wp2_with fail
  refine (app_any _).mono ?_
  rintro e w1 ⟨v1, rfl, hA, b1⟩
  obtain ⟨ve, vi, vp, rfl, hE, hI, hP⟩ := hA
  have hAE := hE
  have hAI := hI
  have hAP := hP
  obtain ⟨ae, ce, rfl, _, _⟩ := hE
  obtain ⟨ai, ci, rfl, _, _⟩ := hI
  obtain ⟨ap, cp, rfl, _, _⟩ := hP
  dsimp only [appM]
  go_wp2_with fail
  refine (lib_any _).mono ?_
  rintro e w2 ⟨pe, ke, rfl, hL, b2⟩
  obtain ⟨l1, l2, l3⟩ := mod_rows hL
  have B2 := b1.trans (b2.mono b1.size)
  clear b1 hL
  go_wp2
  go_ret
  refine ⟨_, [⟨appM, .slice ae 0 ce, .slice ai 2 ci, .slice ap 2 cp, 1⟩, ⟨libM, .slice pe 1 ke, .slice none 0 0, .slice none 0 0, 4⟩], rfl, rfl, ⟨?_, ?_⟩, B2.alloc B2.size _⟩
  · exact rowOf_cells (C := pvC) (cells := PV.cell) (sz := 8) (fun _ => rfl) pvC_at (CellsAt.new w2 38 _) [⟨appM, .slice ae 0 ce, .slice ai 2 ci, .slice ap 2 cp, 1⟩, ⟨libM, .slice pe 1 ke, .slice none 0 0, .slice none 0 0, 4⟩] (show 2 ≤ 255 by decide) 2 rfl
  · intro x hx
    have : x = ⟨appM, .slice ae 0 ce, .slice ai 2 ci, .slice ap 2 cp, 1⟩ ∨ x = ⟨libM, .slice pe 1 ke, .slice none 0 0, .slice none 0 0, 4⟩ := by simpa using hx
    have hb : ∀ o, Below w2.heap.size w2 (w2.alloc o) := fun o => (Below.refl _ _).alloc (Nat.le_refl _) o
    have hbb : ∀ o, Below w1.heap.size w1 (w2.alloc o) := fun o => b2.trans ((hb o).mono b2.size)
    rcases this with rfl | rfl
    · exact ⟨(hAE.below (hbb _)).more (hbb _).size, (hAI.below (hbb _)).more (hbb _).size, (hAP.below (hbb _)).more (hbb _).size⟩
    · exact ⟨(l1.below (hb _)).more (hb _).size, (l2.below (hb _)).more (hb _).size, (l3.below (hb _)).more (hb _).size⟩

theorem pair_fits {l : List PV} (h : l.map PV.plc = pairL) : ∀ x ∈ l, x.mod.fits := by
  intro x hx
  have : x.plc ∈ pairL := by rw [← h]; exact List.mem_map_of_mem hx
  have h2 : x.plc = ⟨appM, 1⟩ ∨ x.plc = ⟨libM, 4⟩ := by simpa [pairL] using this
  rcases h2 with h2 | h2
  · have e : x.mod = appM := congrArg Plc.mod h2
    rw [e]; exact fits_app
  · have e : x.mod = libM := congrArg Plc.mod h2
    rw [e]; exact fits_lib

theorem pv_one {n₀ : Nat} {W : World} {x : PV} (h : PlcAt n₀ W x) : ∀ u ∈ pvC x, u.oneCell' = true := by
  obtain ⟨⟨pe, ke, e4, _⟩, ⟨pi, ki, e5, _⟩, ⟨pp, kp, e6, _⟩⟩ := h
  intro u hu
  unfold pvC at hu
  rw [e4, e5, e6] at hu
  simp at hu
  rcases hu with rfl | rfl | rfl | rfl | rfl | rfl | rfl | rfl <;> rfl
theorem pvs_one {n₀ : Nat} {W : World} {l : List PV} (h : ∀ x ∈ l, PlcAt n₀ W x) : ∀ u ∈ l.flatMap pvC, u.oneCell' = true := by
  intro u hu
  obtain ⟨x, hx, hux⟩ := List.mem_flatMap.1 hu
  exact pv_one (h x hx) u hux

theorem infoPlc : (Try.prog.info? 38).map (fun i => (i.zero, i.size, i.bytes)) = some (some (.agg #[.string ⟨#[]⟩, .int .i64 0, .int .i64 0, .string ⟨#[]⟩, .slice none 0 0, .slice none 0 0, .slice none 0 0, .int .i64 0]), 8, 128) := by kernel_rfl
theorem infoPlc_parts : ∃ i, Try.prog.info? 38 = some i ∧ i.zero = some (.agg #[.string ⟨#[]⟩, .int .i64 0, .int .i64 0, .string ⟨#[]⟩, .slice none 0 0, .slice none 0 0, .slice none 0 0, .int .i64 0]) ∧ i.size = 8 ∧ i.bytes = 128 := by
  have h := infoPlc
  cases hi : Try.prog.info? 38 with
  | none => rw [hi] at h; cases h
  | some i =>
    rw [hi] at h
    simp at h
    exact ⟨i, rfl, h.1, h.2.1, h.2.2⟩

end Go.Proofs.Ytaklbnabgcglhac

/- What must be in any case, of graphs; rows of texts. -/
namespace Go.Proofs.Ytaklbnabgcglhac
open Go.RowKit Go.PlainAid

set_option maxRecDepth 100000

set_option maxHeartbeats 1000000 in
theorem sameTexts_yes (l : List ByteArray) (v v' : Value) (w : World) (h1 : RowOf 1 strCell w.heap.size w v l) (h2 : RowOf 1 strCell w.heap.size w v' l) :
    Calls Try.prog 14 #[v, v'] w fun e w' => e = .returned (.bool true) ∧ Below w.heap.size w w' := by
  obtain ⟨a, cap, rfl, hz, h1⟩ := h1
  obtain ⟨a', cap', rfl, _, h2⟩ := h2
  have hne : ((l.length : Int) != (l.length : Int)) = false := by simp
  go_enter Try.func14, Try.ntmps14
  go_wp2
  go_loopw [5] (fun i wr => ∃ (k : Nat), k ≤ l.length ∧ i = .int .i64 k ∧ Hid (∃ q, wr = w.drewN q)) (fun i _ => l.length - (intOf i).toNat)
  case atStart => exact ⟨0, Nat.zero_le _, rfl, (⟨0, rfl⟩ : ∃ q, w = w.drewN q)⟩
  case round =>
    obtain ⟨k, hk, rfl, HQ⟩ := hrel
    by_cases hlt : k < l.length
    · obtain ⟨p, hp⟩ : ∃ p, l[k]? = some p := ⟨_, List.getElem?_eq_getElem hlt⟩
      rcases h1 with h | ⟨b, off, rfl, hbn, hc⟩
      · subst h; simp at hlt
      rcases h2 with h | ⟨b', off', rfl, hbn', hc'⟩
      · subst h; simp at hlt
      have hcl : ∀ p, wr.cell? p = w.cell? p := fun p => by obtain ⟨q, hq⟩ := HQ.out; rw [hq]; simp
      have c0 := (hcl _).trans (hc k _ hp 0 (by omega))
      have d0 := (hcl _).trans (hc' k _ hp 0 (by omega))
      dsimp only [strCell] at c0 d0
      rw [Nat.add_zero, Nat.mul_one] at c0 d0
      clear hcl hc hc' hp
      go_wp2
      go_quiet (fail)
      go_wp2
      obtain ⟨q, hq⟩ := HQ.out
      exact ⟨⟨k + 1, by omega, by go_num, (⟨q + _, by rw [hq, World.drewN_drewN]⟩ : ∃ q, _ = w.drewN q)⟩, by simp [intOf]; omega⟩
    · go_wp2
      go_ret
      obtain ⟨q, hq⟩ := HQ.out
      exact ⟨rfl, by rw [hq]; exact below_drewN (Below.refl _ _) q⟩

def appN : ByteArray := ⟨#[97, 112, 112]⟩
def libN : ByteArray := ⟨#[108, 105, 98]⟩
theorem chk_pairG : chkGraph pairL = 0 := by kernel_rfl
theorem err_app : comeErr pairL appN = 0 := by kernel_rfl
theorem err_lib : comeErr pairL libN = 0 := by kernel_rfl
theorem next_need {i k : Nat} : Next nxNeed [appM, libM] i k ↔ i = 0 ∧ k = 1 := by
  have e00 : nxNeed appM appM = false := by kernel_rfl
  have e01 : nxNeed appM libM = true := by kernel_rfl
  have e1 : ∀ m, nxNeed libM m = false := fun m => by rfl
  constructor
  · rintro ⟨x, y, hx, hy, h⟩
    have hi : i = 0 ∨ i = 1 := by have := (List.getElem?_eq_some_iff.1 hx).1; simp at this; omega
    have hk : k = 0 ∨ k = 1 := by have := (List.getElem?_eq_some_iff.1 hy).1; simp at this; omega
    rcases hi with rfl | rfl
    · rcases hk with rfl | rfl
      · injection hx with hx
        injection hy with hy
        subst hx hy
        rw [e00] at h
        cases h
      · exact ⟨rfl, rfl⟩
    · injection hx with hx
      subst hx
      rw [e1] at h
      cases h
  · rintro ⟨rfl, rfl⟩
    exact ⟨appM, libM, rfl, rfl, e01⟩
theorem via_need {i k : Nat} : Via (Next nxNeed [appM, libM]) i k ↔ i = 0 ∧ k = 1 := by
  constructor
  · intro h
    exact h.walk (M := fun k => i = 0 ∧ k = 1) (fun _ e => next_need.1 e) (fun _ _ _ ih e => by have := next_need.1 e; omega)
  · exact fun h => .one (next_need.2 h)
theorem name_pair {f : Nat} (hf : f < 2) : nameAt [appM, libM] f = if f = 0 then appN else libN := by
  have : f = 0 ∨ f = 1 := by omega
  rcases this with rfl | rfl <;> rfl
theorem app_lib : appN ≠ libN := by
  intro h
  have := congrArg ByteArray.size h
  have h2 := congrArg (fun b : ByteArray => b.data.toList) h
  exact absurd h2 (by decide)
theorem come_app {ss : List ByteArray} (h : ComeRes nxNeed pairL appN ss) : ss = [libN] := by
  rcases h with ⟨h, _⟩ | ⟨_, f, hf, hn, hr, hm⟩
  · exact absurd err_app h
  have hf2 : f < 2 := hf
  rw [show pairL.map (·.mod) = [appM, libM] from rfl] at hn hm
  rw [name_pair hf2] at hn
  have h0 : f = 0 := by
    by_cases e : f = 0
    · exact e
    · rw [if_neg e] at hn; exact absurd hn.symm app_lib
  subst h0
  refine Rising.same hr (by simp [Rising]) (fun x => ?_)
  rw [hm]
  constructor
  · rintro ⟨k, hk, rfl⟩
    obtain ⟨_, rfl⟩ := via_need.1 hk
    simp [name_pair]
  · intro hx
    obtain rfl : x = libN := by simpa using hx
    exact ⟨1, via_need.2 ⟨rfl, rfl⟩, rfl⟩
theorem come_lib {ss : List ByteArray} (h : ComeRes nxUse pairL libN ss) : ss = [appN] := by
  rcases h with ⟨h, _⟩ | ⟨_, f, hf, hn, hr, hm⟩
  · exact absurd err_lib h
  have hf2 : f < 2 := hf
  rw [show pairL.map (·.mod) = [appM, libM] from rfl] at hn hm
  rw [name_pair hf2] at hn
  have h0 : f = 1 := by
    by_cases e : f = 0
    · rw [if_pos e] at hn; exact absurd hn app_lib
    · omega
  subst h0
  refine Rising.same hr (by simp [Rising]) (fun x => ?_)
  rw [hm]
  constructor
  · rintro ⟨k, hk, rfl⟩
    obtain ⟨rfl, _⟩ := via_need.1 (via_turn.1 hk)
    simp [name_pair]
  · intro hx
    obtain rfl : x = appN := by simpa using hx
    exact ⟨0, via_turn.2 (via_need.2 ⟨rfl, rfl⟩), rfl⟩
theorem ord_pair : ordOf pairL = ([libN, appN], 0) := by
  unfold ordOf
  rw [if_neg (by rw [chk_pairG]; exact fun h => h rfl)]
  have hr : risen pairL = [appM, libM] := by
    unfold risen
    refine List.mergeSort_of_pairwise ?_
    show List.Pairwise _ [appM, libM]
    rw [List.pairwise_cons]
    refine ⟨fun x hx => ?_, by simp⟩
    obtain rfl : x = libM := by simpa using hx
    show decide (appM.name.data.toList ≤ libM.name.data.toList) = true
    decide
  rw [hr]
  exact ordRes_some (by kernel_rfl)

end Go.Proofs.Ytaklbnabgcglhac
