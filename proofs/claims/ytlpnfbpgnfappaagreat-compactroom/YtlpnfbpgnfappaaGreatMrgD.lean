/- Texts that are laid together. -/
import Derived.Test.YtlpnfbpgnfappaaGreatMrgC
import Derived.Test.YtlpnfbpgnfappaaGreatMrgB
import Derived.Shelf.RegionOpenPlain
import Derived.Lib.SliceRun
import Derived.Lib.Walk
import Derived.Laws.IdiomCopy
import Derived.Lib.AppendZerosOnto

/- The modules lib and app of the statements. -/
namespace Go.Proofs.YtlpnfbpgnfappaaGreat
open Go.RowKit Go.PlainAid Go.Lib

def libM : Mod := ⟨⟨#[108, 105, 98]⟩, 1, 2, ⟨#[97, 98, 99, 100, 101, 102, 103, 104]⟩, [⟨⟨#[102]⟩, 4⟩], [], []⟩
def appM : Mod := ⟨⟨#[97, 112, 112]⟩, 0, 0, ⟨#[46, 46, 46, 46, 46, 46, 46, 46]⟩, [], [⟨⟨#[108, 105, 98]⟩, ⟨#[102]⟩, 1, 1⟩, ⟨⟨#[107, 101, 114, 110, 101, 108]⟩, ⟨#[107]⟩, 0, 0⟩], [⟨1, 0, 0, 1⟩, ⟨5, 4, 1, 0⟩]⟩
theorem chk_lib : chkMod libM = 0 := by kernel_rfl
theorem chk_app : chkMod appM = 0 := by kernel_rfl

set_option maxHeartbeats 1000000 in
theorem lib_any (w : World) : Calls Tryz.prog 58 #[] w fun e w' => ∃ pe ke, e = .returned (.agg #[.string ⟨#[108, 105, 98]⟩, .int .i64 1, .int .i64 2, .string ⟨#[97, 98, 99, 100, 101, 102, 103, 104]⟩, .slice pe 1 ke, .slice none 0 0, .slice none 0 0]) ∧ IsMod w'.heap.size w' (.agg #[.string ⟨#[108, 105, 98]⟩, .int .i64 1, .int .i64 2, .string ⟨#[97, 98, 99, 100, 101, 102, 103, 104]⟩, .slice pe 1 ke, .slice none 0 0, .slice none 0 0]) libM ∧ Below w.heap.size w w' := by
  go_enter Tryz.func58, Tryz.ntmps58
  go_wp2
  (try simp only [Exit.inBlock, Exit.then])
  refine bodyPost_ret (results_cell_row rfl _ _ _ _ _ _ _ rfl (CellsAt.kept (CellsAt.new w _ _) (World.grownBy_alloc _ _ none) (by simp)) Tryz.underlying31 rfl (by kernel_rfl)) rfl ?_
  refine ⟨_, _, rfl, ⟨_, _, _, rfl, ?_, ⟨_, _, rfl, by decide, .inl rfl⟩, ⟨_, _, rfl, by decide, .inl rfl⟩⟩, ((Below.refl _ _).alloc (Nat.le_refl _) _).alloc (by simp) _⟩
  have c := CellsAt.new (w.alloc (.cells #[.string ⟨#[108, 105, 98]⟩, .int .i64 1, .int .i64 2, .string ⟨#[97, 98, 99, 100, 101, 102, 103, 104]⟩, .slice (some ⟨w.heap.size + 1, 0, none⟩) 1 1, .slice none 0 0, .slice none 0 0] 31)) 129 #[.string ⟨#[102]⟩, .int .i64 4]
  rw [World.size_alloc] at c
  exact rowOf_cells (C := expC) (cells := Exp.cell) (sz := 2) (fun _ => rfl) expC_at c libM.exps (by decide) 1 rfl

set_option maxHeartbeats 1000000 in
theorem app_any (w : World) : Calls Tryz.prog 69 #[] w fun e w' => ∃ v, e = .returned v ∧ IsMod w'.heap.size w' v appM ∧ Below w.heap.size w w' := by
  go_enter Tryz.func69, Tryz.ntmps69
  go_wp2
  (try simp only [Exit.inBlock, Exit.then])
  refine bodyPost_ret (results_cell_row rfl _ _ _ _ _ _ _ rfl (CellsAt.kept (CellsAt.kept (CellsAt.new w _ _) (World.grownBy_alloc _ _ none) (by simp)) (World.grownBy_alloc _ _ none) (by simp)) Tryz.underlying31 rfl (by kernel_rfl)) rfl ?_
  generalize hA : w.alloc (.cells #[.string ⟨#[97, 112, 112]⟩, .int .i64 0, .int .i64 0, .string ⟨#[46, 46, 46, 46, 46, 46, 46, 46]⟩, .slice none 0 0, .slice (some ⟨w.heap.size + 1, 0, none⟩) 2 2, .slice (some ⟨w.heap.size + 1 + 1, 0, none⟩) 2 2] 31) = wa
  have hz : wa.heap.size = w.heap.size + 1 := by rw [← hA]; simp
  have B1 : Below w.heap.size w wa := by rw [← hA]; exact (Below.refl _ _).alloc (Nat.le_refl _) _
  clear hA
  have c1 := CellsAt.new wa 106 #[.string ⟨#[108, 105, 98]⟩, .string ⟨#[102]⟩, .int .i64 1, .int .i64 1, .string ⟨#[107, 101, 114, 110, 101, 108]⟩, .string ⟨#[107]⟩, .int .i64 0, .int .i64 0]
  have c2 := CellsAt.new (wa.alloc (.cells #[.string ⟨#[108, 105, 98]⟩, .string ⟨#[102]⟩, .int .i64 1, .int .i64 1, .string ⟨#[107, 101, 114, 110, 101, 108]⟩, .string ⟨#[107]⟩, .int .i64 0, .int .i64 0] 106)) 113 #[.int .i64 1, .int .i64 0, .int .i64 0, .int .i64 1, .int .i64 5, .int .i64 4, .int .i64 1, .int .i64 0]
  have c1' := c1.kept (World.grownBy_alloc _ (.cells #[.int .i64 1, .int .i64 0, .int .i64 0, .int .i64 1, .int .i64 5, .int .i64 4, .int .i64 1, .int .i64 0] 113) none) (by simp)
  rw [hz] at c1'
  rw [World.size_alloc, hz] at c2
  refine ⟨_, rfl, ⟨_, _, _, rfl, ⟨_, _, rfl, by decide, .inl rfl⟩, ?_, ?_⟩, (B1.alloc (by omega) _).alloc (by simp; omega) _⟩
  · exact rowOf_cells (C := impC) (cells := Imp.cell) (sz := 4) (fun _ => rfl) impC_at c1' appM.imps (by decide) 2 rfl
  · exact rowOf_cells (C := patC) (cells := Pat.cell) (sz := 4) (fun _ => rfl) patC_at c2 appM.pats (by decide) 2 rfl

end Go.Proofs.YtlpnfbpgnfappaaGreat

/- The placed modules of the statements. -/
namespace Go.Proofs.YtlpnfbpgnfappaaGreat
open Go.RowKit Go.PlainAid

set_option maxRecDepth 100000

def pairL : List Plc := [⟨appM, 1⟩, ⟨libM, 4⟩]
theorem fits_app : appM.fits := by
  refine ⟨by decide, by decide, fun e he => by simp [appM] at he, fun i hi => ?_⟩
  have : i = ⟨⟨#[108, 105, 98]⟩, ⟨#[102]⟩, 1, 1⟩ ∨ i = ⟨⟨#[107, 101, 114, 110, 101, 108]⟩, ⟨#[107]⟩, 0, 0⟩ := by simpa [appM] using hi
  rcases this with rfl | rfl <;> exact ⟨by decide, by decide⟩
theorem fits_lib : libM.fits := by
  refine ⟨by decide, by decide, fun e he => ?_, fun i hi => by simp [libM] at hi⟩
  have : e = ⟨⟨#[102]⟩, 4⟩ := by simpa [libM] using he
  subst this
  decide

def pvC (x : PV) : List Value := [.string x.mod.name, .int .i64 x.mod.major, .int .i64 x.mod.minor, .string x.mod.text, x.ve, x.vi, x.vp, .int .i64 x.first]
theorem pvC_at (x : PV) (i : Nat) (hi : i < 8) : (pvC x)[i]? = some (PV.cell x i) := by
  have : i = 0 ∨ i = 1 ∨ i = 2 ∨ i = 3 ∨ i = 4 ∨ i = 5 ∨ i = 6 ∨ i = 7 := by omega
  rcases this with rfl | rfl | rfl | rfl | rfl | rfl | rfl | rfl <;> rfl
theorem mod_rows {n₀ : Nat} {W : World} {N T : ByteArray} {a b : Int} {ve vi vp : Value} {M : Mod} (h : IsMod n₀ W (.agg #[.string N, .int .i64 a, .int .i64 b, .string T, ve, vi, vp]) M) : RowOf 2 Exp.cell n₀ W ve M.exps ∧ RowOf 4 Imp.cell n₀ W vi M.imps ∧ RowOf 4 Pat.cell n₀ W vp M.pats := by
  obtain ⟨ve', vi', vp', e, h1, h2, h3⟩ := h
  injection e with e
  have e2 := congrArg Array.toList e
  simp at e2
  obtain ⟨_, _, _, _, rfl, rfl, rfl⟩ := e2
  exact ⟨h1, h2, h3⟩

set_option maxHeartbeats 2000000 in
theorem pair_any (w : World) : Calls Tryz.prog 59 #[] w fun e w' => ∃ v l, e = .returned v ∧ l.map PV.plc = pairL ∧ IsPlcs w'.heap.size w' v l ∧ Below w.heap.size w w' := by
  go_enter Tryz.func59, Tryz.ntmps59
  go_wp2_with fail
  refine (app_any _).mono ?_
  rintro e w1 ⟨v1, rfl, hA, b1⟩
  obtain ⟨ve, vi, vp, rfl, hE, hI, hP⟩ := hA
  have hAE := hE
  have hAI := hI
  have hAP := hP
  obtain ⟨ae, ce, rfl, _, _⟩ := hE
  obtain ⟨ai, ci, rfl, _, _⟩ := hI
  obtain ⟨ap, cp, rfl, _, _⟩ := hP
  dsimp only [appM]
  go_wp2_with fail
  refine (lib_any _).mono ?_
  rintro e w2 ⟨pe, ke, rfl, hL, b2⟩
  obtain ⟨l1, l2, l3⟩ := mod_rows hL
  have B2 := b1.trans (b2.mono b1.size)
  clear b1 hL
  go_wp2
  go_ret
  refine ⟨_, [⟨appM, .slice ae 0 ce, .slice ai 2 ci, .slice ap 2 cp, 1⟩, ⟨libM, .slice pe 1 ke, .slice none 0 0, .slice none 0 0, 4⟩], rfl, rfl, ⟨?_, ?_⟩, B2.alloc B2.size _⟩
  · exact rowOf_cells (C := pvC) (cells := PV.cell) (sz := 8) (fun _ => rfl) pvC_at (CellsAt.new w2 57 _) [⟨appM, .slice ae 0 ce, .slice ai 2 ci, .slice ap 2 cp, 1⟩, ⟨libM, .slice pe 1 ke, .slice none 0 0, .slice none 0 0, 4⟩] (show 2 ≤ 255 by decide) 2 rfl
  · intro x hx
    have : x = ⟨appM, .slice ae 0 ce, .slice ai 2 ci, .slice ap 2 cp, 1⟩ ∨ x = ⟨libM, .slice pe 1 ke, .slice none 0 0, .slice none 0 0, 4⟩ := by simpa using hx
    have hb : ∀ o, Below w2.heap.size w2 (w2.alloc o) := fun o => (Below.refl _ _).alloc (Nat.le_refl _) o
    have hbb : ∀ o, Below w1.heap.size w1 (w2.alloc o) := fun o => b2.trans ((hb o).mono b2.size)
    rcases this with rfl | rfl
    · exact ⟨(hAE.below (hbb _)).more (hbb _).size, (hAI.below (hbb _)).more (hbb _).size, (hAP.below (hbb _)).more (hbb _).size⟩
    · exact ⟨(l1.below (hb _)).more (hb _).size, (l2.below (hb _)).more (hb _).size, (l3.below (hb _)).more (hb _).size⟩

theorem pair_fits {l : List PV} (h : l.map PV.plc = pairL) : ∀ x ∈ l, x.mod.fits := by
  intro x hx
  have : x.plc ∈ pairL := by rw [← h]; exact List.mem_map_of_mem hx
  have h2 : x.plc = ⟨appM, 1⟩ ∨ x.plc = ⟨libM, 4⟩ := by simpa [pairL] using this
  rcases h2 with h2 | h2
  · have e : x.mod = appM := congrArg Plc.mod h2
    rw [e]; exact fits_app
  · have e : x.mod = libM := congrArg Plc.mod h2
    rw [e]; exact fits_lib

theorem pv_one {n₀ : Nat} {W : World} {x : PV} (h : PlcAt n₀ W x) : ∀ u ∈ pvC x, u.oneCell' = true := by
  obtain ⟨⟨pe, ke, e4, _⟩, ⟨pi, ki, e5, _⟩, ⟨pp, kp, e6, _⟩⟩ := h
  intro u hu
  unfold pvC at hu
  rw [e4, e5, e6] at hu
  simp at hu
  rcases hu with rfl | rfl | rfl | rfl | rfl | rfl | rfl | rfl <;> rfl
theorem pvs_one {n₀ : Nat} {W : World} {l : List PV} (h : ∀ x ∈ l, PlcAt n₀ W x) : ∀ u ∈ l.flatMap pvC, u.oneCell' = true := by
  intro u hu
  obtain ⟨x, hx, hux⟩ := List.mem_flatMap.1 hu
  exact pv_one (h x hx) u hux

theorem infoPlc : (Tryz.prog.info? 57).map (fun i => (i.zero, i.size, i.bytes)) = some (some (.agg #[.string ⟨#[]⟩, .int .i64 0, .int .i64 0, .string ⟨#[]⟩, .slice none 0 0, .slice none 0 0, .slice none 0 0, .int .i64 0]), 8, 128) := by kernel_rfl
theorem infoPlc_parts : ∃ i, Tryz.prog.info? 57 = some i ∧ i.zero = some (.agg #[.string ⟨#[]⟩, .int .i64 0, .int .i64 0, .string ⟨#[]⟩, .slice none 0 0, .slice none 0 0, .slice none 0 0, .int .i64 0]) ∧ i.size = 8 ∧ i.bytes = 128 := by
  have h := infoPlc
  cases hi : Tryz.prog.info? 57 with
  | none => rw [hi] at h; cases h
  | some i =>
    rw [hi] at h
    simp at h
    exact ⟨i, rfl, h.1, h.2.1, h.2.2⟩

end Go.Proofs.YtlpnfbpgnfappaaGreat

/- The contracts of slices.Clone at exports, imports, patches and placed modules: a row of one's own. -/
namespace Go.Proofs.YtlpnfbpgnfappaaGreat
open Go.RowKit Go.PlainAid Go.Lib

set_option maxRecDepth 100000

theorem add_none (b off j : Nat) : (⟨b, off, none⟩ : Addr).add j = ⟨b, off + j, none⟩ := by unfold Addr.add; split <;> simp_all

theorem infoExpC : (Tryz.prog.info? 129).map (fun i => (i.zero, i.size, i.bytes)) = some (some (.agg #[.string ⟨#[]⟩, .int .i64 0]), 2, 24) := by kernel_rfl
theorem infoExp_parts : ∃ i, Tryz.prog.info? 129 = some i ∧ i.zero = some (.agg #[.string ⟨#[]⟩, .int .i64 0]) ∧ i.size = 2 ∧ i.bytes = 24 := by
  have h := infoExpC
  cases hi : Tryz.prog.info? 129 with
  | none => rw [hi] at h; cases h
  | some i =>
    rw [hi] at h
    simp at h
    exact ⟨i, rfl, h.1, h.2.1, h.2.2⟩
theorem oneExp (l : List Exp) : ∀ u ∈ l.flatMap expC, u.oneCell' = true := by
  intro u hu
  obtain ⟨x, _, hx⟩ := List.mem_flatMap.1 hu
  simp only [expC, List.mem_cons, List.not_mem_nil, or_false] at hx
  rcases hx with rfl | rfl <;> rfl
set_option maxHeartbeats 2000000 in
theorem cloneExp_any (l : List Exp) (v : Value) (w : World) (h : RowOf 2 Exp.cell w.heap.size w v l) (hl : l.length ≤ 255) :
    Calls Tryz.prog 125 #[v] w fun e w' => (∃ r, e = .returned r ∧ w'.ownsRow w.heap.size 129 2 r l.length (l.flatMap expC)) ∧ Below w.heap.size w w' := by
  obtain ⟨i0, hi0, hz0, hz1, hz2⟩ := infoExp_parts
  obtain ⟨a, cap, rfl, _, h⟩ := h
  have q0 : ∀ (w : World) (a : Option Addr) (n c n' c' : Nat), (binOp .eql 22 (.slice a n c) (.slice none n' c')).run Tryz.prog w = .ok (.bool a.isNone) w := fun w a n c n' c' => Lib.run_eql_slice_nil w _ _ a n c n' c' Tryz.underlying22
  have HN : Hid (∀ ad, a = some ad → ∀ j u, (l.flatMap expC)[j]? = some u → w.cell? (ad.add j) = some u) := by
    intro ad ha j u hu
    rcases h with h | ⟨b, off, rfl, hbn, hcells⟩
    · subst h; simp at hu
    · obtain rfl := Option.some.inj ha
      exact news_row (C := expC) (cells := Exp.cell) (sz := 2) (by decide) (fun _ => rfl) expC_at hcells j u hu
  have HL : Hid ((l.flatMap expC).length = l.length * 2) := flat_len (C := expC) (sz := 2) (fun _ => rfl) l
  have HO : Hid (∀ u ∈ l.flatMap expC, u.oneCell' = true) := (oneExp l)
  have HE : Hid (a = none → l = []) := fun e => by
    rcases h with h | ⟨b, off, h, _⟩
    · exact h
    · rw [e] at h; cases h
  clear h
  rcases a with _ | ad
  · have := HE.out rfl
    subst this
    clear HN HL HO HE
    go_enter Tryz.func125, Tryz.ntmps125
    go_wp2
    go_ret
    exact ⟨⟨_, rfl, World.ownsRow_nil _ _ _ _⟩, Below.refl _ _⟩
  · have HN2 : Hid (∀ j u, (l.flatMap expC)[j]? = some u → w.cell? (ad.add j) = some u) := HN.out ad rfl
    clear HN HE
    generalize l.flatMap expC = news at *
    go_enter Tryz.func125, Tryz.ntmps125
    go_wp2_with (at_builtin; refine wpList_append_own _ rfl _ _ 22 rfl w.heap.size 129 i0 (.agg #[.string ⟨#[]⟩, .int .i64 0]) 2 24 Tryz.underlying22 hi0 hz0 hz1 hz2 rfl (by decide) _ _ _ rfl (World.ownsRow_made w #[] 0 (Nat.le_refl _) (Nat.zero_le _) (by simp)) ad l.length cap news rfl ?qc1 ?qc2 ?qc3 ?qc4 ?qc5 ?qc6 ?_)
    case qc1 => exact HL.out
    case qc2 =>
      intro j u hj
      exact Lib.cell?_alloc_some _ (HN2.out j u hj)
    case qc3 => exact HO.out
    case qc4 => unfold maxLen; omega
    case qc5 => omega
    case qc6 => simp
    intro v' w1 hown hgrow hnil
    go_wp2
    go_ret
    refine ⟨⟨v', rfl, by simpa using hown⟩, ?_⟩
    exact ((Below.refl _ w).alloc (Nat.le_refl _) _).grown hgrow (by simp) (by intro k hk; simp [Value.ownBlock] at hk; omega)

theorem infoImpC : (Tryz.prog.info? 106).map (fun i => (i.zero, i.size, i.bytes)) = some (some (.agg #[.string ⟨#[]⟩, .string ⟨#[]⟩, .int .i64 0, .int .i64 0]), 4, 48) := by kernel_rfl
theorem infoImp_parts : ∃ i, Tryz.prog.info? 106 = some i ∧ i.zero = some (.agg #[.string ⟨#[]⟩, .string ⟨#[]⟩, .int .i64 0, .int .i64 0]) ∧ i.size = 4 ∧ i.bytes = 48 := by
  have h := infoImpC
  cases hi : Tryz.prog.info? 106 with
  | none => rw [hi] at h; cases h
  | some i =>
    rw [hi] at h
    simp at h
    exact ⟨i, rfl, h.1, h.2.1, h.2.2⟩
theorem oneImp (l : List Imp) : ∀ u ∈ l.flatMap impC, u.oneCell' = true := by
  intro u hu
  obtain ⟨x, _, hx⟩ := List.mem_flatMap.1 hu
  simp only [impC, List.mem_cons, List.not_mem_nil, or_false] at hx
  rcases hx with rfl | rfl | rfl | rfl <;> rfl
set_option maxHeartbeats 2000000 in
theorem cloneImp_any (l : List Imp) (v : Value) (w : World) (h : RowOf 4 Imp.cell w.heap.size w v l) (hl : l.length ≤ 255) :
    Calls Tryz.prog 126 #[v] w fun e w' => (∃ r, e = .returned r ∧ w'.ownsRow w.heap.size 106 4 r l.length (l.flatMap impC)) ∧ Below w.heap.size w w' := by
  obtain ⟨i0, hi0, hz0, hz1, hz2⟩ := infoImp_parts
  obtain ⟨a, cap, rfl, _, h⟩ := h
  have q0 : ∀ (w : World) (a : Option Addr) (n c n' c' : Nat), (binOp .eql 28 (.slice a n c) (.slice none n' c')).run Tryz.prog w = .ok (.bool a.isNone) w := fun w a n c n' c' => Lib.run_eql_slice_nil w _ _ a n c n' c' Tryz.underlying28
  have HN : Hid (∀ ad, a = some ad → ∀ j u, (l.flatMap impC)[j]? = some u → w.cell? (ad.add j) = some u) := by
    intro ad ha j u hu
    rcases h with h | ⟨b, off, rfl, hbn, hcells⟩
    · subst h; simp at hu
    · obtain rfl := Option.some.inj ha
      exact news_row (C := impC) (cells := Imp.cell) (sz := 4) (by decide) (fun _ => rfl) impC_at hcells j u hu
  have HL : Hid ((l.flatMap impC).length = l.length * 4) := flat_len (C := impC) (sz := 4) (fun _ => rfl) l
  have HO : Hid (∀ u ∈ l.flatMap impC, u.oneCell' = true) := (oneImp l)
  have HE : Hid (a = none → l = []) := fun e => by
    rcases h with h | ⟨b, off, h, _⟩
    · exact h
    · rw [e] at h; cases h
  clear h
  rcases a with _ | ad
  · have := HE.out rfl
    subst this
    clear HN HL HO HE
    go_enter Tryz.func126, Tryz.ntmps126
    go_wp2
    go_ret
    exact ⟨⟨_, rfl, World.ownsRow_nil _ _ _ _⟩, Below.refl _ _⟩
  · have HN2 : Hid (∀ j u, (l.flatMap impC)[j]? = some u → w.cell? (ad.add j) = some u) := HN.out ad rfl
    clear HN HE
    generalize l.flatMap impC = news at *
    go_enter Tryz.func126, Tryz.ntmps126
    go_wp2_with (at_builtin; refine wpList_append_own _ rfl _ _ 28 rfl w.heap.size 106 i0 (.agg #[.string ⟨#[]⟩, .string ⟨#[]⟩, .int .i64 0, .int .i64 0]) 4 48 Tryz.underlying28 hi0 hz0 hz1 hz2 rfl (by decide) _ _ _ rfl (World.ownsRow_made w #[] 0 (Nat.le_refl _) (Nat.zero_le _) (by simp)) ad l.length cap news rfl ?qc1 ?qc2 ?qc3 ?qc4 ?qc5 ?qc6 ?_)
    case qc1 => exact HL.out
    case qc2 =>
      intro j u hj
      exact Lib.cell?_alloc_some _ (HN2.out j u hj)
    case qc3 => exact HO.out
    case qc4 => unfold maxLen; omega
    case qc5 => omega
    case qc6 => simp
    intro v' w1 hown hgrow hnil
    go_wp2
    go_ret
    refine ⟨⟨v', rfl, by simpa using hown⟩, ?_⟩
    exact ((Below.refl _ w).alloc (Nat.le_refl _) _).grown hgrow (by simp) (by intro k hk; simp [Value.ownBlock] at hk; omega)

theorem infoPatC : (Tryz.prog.info? 113).map (fun i => (i.zero, i.size, i.bytes)) = some (some (.agg #[.int .i64 0, .int .i64 0, .int .i64 0, .int .i64 0]), 4, 32) := by kernel_rfl
theorem infoPat_parts : ∃ i, Tryz.prog.info? 113 = some i ∧ i.zero = some (.agg #[.int .i64 0, .int .i64 0, .int .i64 0, .int .i64 0]) ∧ i.size = 4 ∧ i.bytes = 32 := by
  have h := infoPatC
  cases hi : Tryz.prog.info? 113 with
  | none => rw [hi] at h; cases h
  | some i =>
    rw [hi] at h
    simp at h
    exact ⟨i, rfl, h.1, h.2.1, h.2.2⟩
theorem onePat (l : List Pat) : ∀ u ∈ l.flatMap patC, u.oneCell' = true := by
  intro u hu
  obtain ⟨x, _, hx⟩ := List.mem_flatMap.1 hu
  simp only [patC, List.mem_cons, List.not_mem_nil, or_false] at hx
  rcases hx with rfl | rfl | rfl | rfl <;> rfl
set_option maxHeartbeats 2000000 in
theorem clonePat_any (l : List Pat) (v : Value) (w : World) (h : RowOf 4 Pat.cell w.heap.size w v l) (hl : l.length ≤ 255) :
    Calls Tryz.prog 127 #[v] w fun e w' => (∃ r, e = .returned r ∧ w'.ownsRow w.heap.size 113 4 r l.length (l.flatMap patC)) ∧ Below w.heap.size w w' := by
  obtain ⟨i0, hi0, hz0, hz1, hz2⟩ := infoPat_parts
  obtain ⟨a, cap, rfl, _, h⟩ := h
  have q0 : ∀ (w : World) (a : Option Addr) (n c n' c' : Nat), (binOp .eql 29 (.slice a n c) (.slice none n' c')).run Tryz.prog w = .ok (.bool a.isNone) w := fun w a n c n' c' => Lib.run_eql_slice_nil w _ _ a n c n' c' Tryz.underlying29
  have HN : Hid (∀ ad, a = some ad → ∀ j u, (l.flatMap patC)[j]? = some u → w.cell? (ad.add j) = some u) := by
    intro ad ha j u hu
    rcases h with h | ⟨b, off, rfl, hbn, hcells⟩
    · subst h; simp at hu
    · obtain rfl := Option.some.inj ha
      exact news_row (C := patC) (cells := Pat.cell) (sz := 4) (by decide) (fun _ => rfl) patC_at hcells j u hu
  have HL : Hid ((l.flatMap patC).length = l.length * 4) := flat_len (C := patC) (sz := 4) (fun _ => rfl) l
  have HO : Hid (∀ u ∈ l.flatMap patC, u.oneCell' = true) := (onePat l)
  have HE : Hid (a = none → l = []) := fun e => by
    rcases h with h | ⟨b, off, h, _⟩
    · exact h
    · rw [e] at h; cases h
  clear h
  rcases a with _ | ad
  · have := HE.out rfl
    subst this
    clear HN HL HO HE
    go_enter Tryz.func127, Tryz.ntmps127
    go_wp2
    go_ret
    exact ⟨⟨_, rfl, World.ownsRow_nil _ _ _ _⟩, Below.refl _ _⟩
  · have HN2 : Hid (∀ j u, (l.flatMap patC)[j]? = some u → w.cell? (ad.add j) = some u) := HN.out ad rfl
    clear HN HE
    generalize l.flatMap patC = news at *
    go_enter Tryz.func127, Tryz.ntmps127
    go_wp2_with (at_builtin; refine wpList_append_own _ rfl _ _ 29 rfl w.heap.size 113 i0 (.agg #[.int .i64 0, .int .i64 0, .int .i64 0, .int .i64 0]) 4 32 Tryz.underlying29 hi0 hz0 hz1 hz2 rfl (by decide) _ _ _ rfl (World.ownsRow_made w #[] 0 (Nat.le_refl _) (Nat.zero_le _) (by simp)) ad l.length cap news rfl ?qc1 ?qc2 ?qc3 ?qc4 ?qc5 ?qc6 ?_)
    case qc1 => exact HL.out
    case qc2 =>
      intro j u hj
      exact Lib.cell?_alloc_some _ (HN2.out j u hj)
    case qc3 => exact HO.out
    case qc4 => unfold maxLen; omega
    case qc5 => omega
    case qc6 => simp
    intro v' w1 hown hgrow hnil
    go_wp2
    go_ret
    refine ⟨⟨v', rfl, by simpa using hown⟩, ?_⟩
    exact ((Below.refl _ w).alloc (Nat.le_refl _) _).grown hgrow (by simp) (by intro k hk; simp [Value.ownBlock] at hk; omega)

set_option maxHeartbeats 2000000 in
theorem clonePlc_any (l : List PV) (v : Value) (w : World) (h : RowOf 8 PV.cell w.heap.size w v l) (hl : l.length ≤ 255) (hone : ∀ u ∈ l.flatMap pvC, u.oneCell' = true) :
    Calls Tryz.prog 150 #[v] w fun e w' => (∃ r, e = .returned r ∧ w'.ownsRow w.heap.size 57 8 r l.length (l.flatMap pvC)) ∧ Below w.heap.size w w' := by
  obtain ⟨i0, hi0, hz0, hz1, hz2⟩ := infoPlc_parts
  obtain ⟨a, cap, rfl, _, h⟩ := h
  have q0 : ∀ (w : World) (a : Option Addr) (n c n' c' : Nat), (binOp .eql 25 (.slice a n c) (.slice none n' c')).run Tryz.prog w = .ok (.bool a.isNone) w := fun w a n c n' c' => Lib.run_eql_slice_nil w _ _ a n c n' c' Tryz.underlying25
  have HN : Hid (∀ ad, a = some ad → ∀ j u, (l.flatMap pvC)[j]? = some u → w.cell? (ad.add j) = some u) := by
    intro ad ha j u hu
    rcases h with h | ⟨b, off, rfl, hbn, hcells⟩
    · subst h; simp at hu
    · obtain rfl := Option.some.inj ha
      exact news_row (C := pvC) (cells := PV.cell) (sz := 8) (by decide) (fun _ => rfl) pvC_at hcells j u hu
  have HL : Hid ((l.flatMap pvC).length = l.length * 8) := flat_len (C := pvC) (sz := 8) (fun _ => rfl) l
  have HO : Hid (∀ u ∈ l.flatMap pvC, u.oneCell' = true) := hone
  have HE : Hid (a = none → l = []) := fun e => by
    rcases h with h | ⟨b, off, h, _⟩
    · exact h
    · rw [e] at h; cases h
  clear h
  rcases a with _ | ad
  · have := HE.out rfl
    subst this
    clear HN HL HO HE
    go_enter Tryz.func150, Tryz.ntmps150
    go_wp2
    go_ret
    exact ⟨⟨_, rfl, World.ownsRow_nil _ _ _ _⟩, Below.refl _ _⟩
  · have HN2 : Hid (∀ j u, (l.flatMap pvC)[j]? = some u → w.cell? (ad.add j) = some u) := HN.out ad rfl
    clear HN HE
    generalize l.flatMap pvC = news at *
    go_enter Tryz.func150, Tryz.ntmps150
    go_wp2_with (at_builtin; refine wpList_append_own _ rfl _ _ 25 rfl w.heap.size 57 i0 _ 8 128 Tryz.underlying25 hi0 hz0 hz1 hz2 rfl (by decide) _ _ _ rfl (World.ownsRow_made w #[] 0 (Nat.le_refl _) (Nat.zero_le _) (by simp)) ad l.length cap news rfl ?qc1 ?qc2 ?qc3 ?qc4 ?qc5 ?qc6 ?_)
    case qc1 => exact HL.out
    case qc2 =>
      intro j u hj
      exact Lib.cell?_alloc_some _ (HN2.out j u hj)
    case qc3 => exact HO.out
    case qc4 => unfold maxLen; omega
    case qc5 => omega
    case qc6 => simp
    intro v' w1 hown hgrow hnil
    go_wp2
    go_ret
    refine ⟨⟨v', rfl, by simpa using hown⟩, ?_⟩
    exact ((Below.refl _ w).alloc (Nat.le_refl _) _).grown hgrow (by simp) (by intro k hk; simp [Value.ownBlock] at hk; omega)

end Go.Proofs.YtlpnfbpgnfappaaGreat

/- Rows of one's own: rows of other types, and cells, lie apart from them. -/
namespace Go.Proofs.YtlpnfbpgnfappaaGreat
open Go.RowKit Go.PlainAid

theorem own_kind {W : World} {base : Nat} {e : TypeId} {size : Nat} {v : Value} {n : Nat} {xs : List Value} (h : W.ownsRow base e size v n xs) : ∀ k, v.ownBlock = some k → ∃ cur fr, W.heap[k]? = some (.cells cur e fr) := by
  intro k hk
  rcases h.2 with ⟨rfl, _⟩ | ⟨g, cap, cur, rfl, _, hc, _⟩
  · cases hk
  · simp [Value.ownBlock] at hk
    subst hk
    exact ⟨cur, _, hc⟩
theorem own_ne_own {W : World} {b1 b2 : Nat} {e1 e2 : TypeId} {s1 s2 : Nat} {v1 v2 : Value} {n1 n2 : Nat} {x1 x2 : List Value} (h1 : W.ownsRow b1 e1 s1 v1 n1 x1) (h2 : W.ownsRow b2 e2 s2 v2 n2 x2) (he : e1 ≠ e2) : v1.ownBlock = none ∨ v1.ownBlock ≠ v2.ownBlock := by
  cases hv : v1.ownBlock with
  | none => exact .inl rfl
  | some k =>
    refine .inr fun e => ?_
    obtain ⟨c1, f1, hc1⟩ := own_kind h1 k hv
    obtain ⟨c2, f2, hc2⟩ := own_kind h2 k e.symm
    rw [hc1] at hc2
    injection hc2 with hc2
    injection hc2 with _ h
    exact he h
theorem own_ne_cells {W : World} {b B : Nat} {e t : TypeId} {s : Nat} {v : Value} {n : Nat} {xs : List Value} {cs : Array Value} (h1 : W.ownsRow b e s v n xs) (hc : CellsAt W B t cs) (he : e ≠ t) : v.ownBlock ≠ some B := by
  intro hv
  obtain ⟨c1, f1, hc1⟩ := own_kind h1 B hv
  rw [show W.heap[B]? = _ from hc] at hc1
  injection hc1 with hc1
  injection hc1 with _ h
  exact he h.symm
theorem own_storeAt {W : World} {b B : Nat} {e t : TypeId} {s : Nat} {v : Value} {n : Nat} {xs : List Value} {cs : Array Value} (h : W.ownsRow b e s v n xs) (hc : CellsAt W B t cs) (he : e ≠ t) (i : Nat) (u : Value) : (W.setCell ⟨B, i, none⟩ u).ownsRow b e s v n xs :=
  h.kept (grown_set W B i u) (.inr (own_ne_cells h hc he))
theorem own_apart {v1 v2 : Value} (h : ∀ k, v1.ownBlock = some k → v2.ownBlock ≠ some k) : v2.ownBlock = none ∨ v2.ownBlock ≠ v1.ownBlock := by
  cases hv : v2.ownBlock with
  | none => exact .inl rfl
  | some k => exact .inr fun e => h k e.symm hv
/-- What a growth of another type's row leaves as it was. -/
theorem own_beside {W W' : World} {b1 b2 : Nat} {e1 e2 : TypeId} {s1 s2 : Nat} {v1 v2 : Value} {n1 n2 : Nat} {x1 x2 : List Value} (h1 : W.ownsRow b1 e1 s1 v1 n1 x1) (h2 : W.ownsRow b2 e2 s2 v2 n2 x2) (he : e1 ≠ e2) (hg : W.grownBy W' v2.ownBlock) : W'.ownsRow b1 e1 s1 v1 n1 x1 :=
  h1.kept hg (own_ne_own h1 h2 he)
theorem cells_beside {W W' : World} {b B : Nat} {e t : TypeId} {s : Nat} {v : Value} {n : Nat} {xs : List Value} {cs : Array Value} (hc : CellsAt W B t cs) (h : W.ownsRow b e s v n xs) (he : e ≠ t) (hg : W.grownBy W' v.ownBlock) : CellsAt W' B t cs :=
  hc.kept hg (fun e' => own_ne_cells h hc he e'.symm)
theorem own_down {W : World} {base b : Nat} {e : TypeId} {size : Nat} {v : Value} {n : Nat} {xs : List Value} (h : W.ownsRow base e size v n xs) (hb : b ≤ base) : W.ownsRow b e size v n xs :=
  ⟨h.1, h.2.imp id (fun ⟨g, cap, cur, h1, h2, h3⟩ => ⟨g, cap, cur, h1, Nat.le_trans hb h2, h3⟩)⟩

end Go.Proofs.YtlpnfbpgnfappaaGreat

/- An element of a row of one's own, stored anew. -/
namespace Go.Proofs.YtlpnfbpgnfappaaGreat
open Go.RowKit Go.PlainAid Go.Lib

theorem flat_put {α : Type} {C : α → List Value} {sz : Nat} (hC : ∀ x, (C x).length = sz) : ∀ (l : List α) (k : Nat) (x y : α) (i : Nat) (u : Value), l[k]? = some x → i < sz → (C x).set i u = C y → (l.flatMap C).set (k * sz + i) u = (l.set k y).flatMap C
  | [], k, x, y, i, u, h, _, _ => by simp at h
  | z :: l, 0, x, y, i, u, h, hi, he => by
    obtain rfl : z = x := by simpa using h
    rw [List.flatMap_cons, Nat.zero_mul, Nat.zero_add, List.set_append_left _ _ (by rw [hC]; exact hi), he]
    rfl
  | z :: l, k + 1, x, y, i, u, h, hi, he => by
    have h' : l[k]? = some x := by simpa using h
    have hz := hC z
    rw [List.flatMap_cons, List.set_append_right _ _ (by rw [hz, Nat.succ_mul]; omega), hz, show (k + 1) * sz + i - sz = k * sz + i by rw [Nat.succ_mul]; omega, flat_put hC l k x y i u h' hi he]
    rfl
theorem set_at {l : List PV} {j : Nat} {x : PV} (hx : l[j]? = some x) (y : PV) : (l.set j y)[j]? = some y := by
  rw [List.getElem?_set_self (List.getElem?_eq_some_iff.1 hx).1]
/-- A placed module where another one lay. -/
theorem own_put {W : World} {base g n cap : Nat} {l : List PV} {j : Nat} {x : PV} (h : W.ownsRow base 57 8 (.slice (some ⟨g, 0, none⟩) n cap) n (l.flatMap pvC)) (hx : l[j]? = some x) (y : PV) :
    ((((((((W.setCell ⟨g, j * 8, none⟩ (.string y.mod.name)).setCell ⟨g, j * 8 + 1, none⟩ (.int .i64 y.mod.major)).setCell ⟨g, j * 8 + 2, none⟩ (.int .i64 y.mod.minor)).setCell ⟨g, j * 8 + 3, none⟩ (.string y.mod.text)).setCell ⟨g, j * 8 + 4, none⟩ y.ve).setCell ⟨g, j * 8 + 5, none⟩ y.vi).setCell ⟨g, j * 8 + 6, none⟩ y.vp).setCell ⟨g, j * 8 + 7, none⟩ (.int .i64 y.first)).ownsRow base 57 8 (.slice (some ⟨g, 0, none⟩) n cap) n ((l.set j y).flatMap pvC) ∧
    W.grownBy ((((((((W.setCell ⟨g, j * 8, none⟩ (.string y.mod.name)).setCell ⟨g, j * 8 + 1, none⟩ (.int .i64 y.mod.major)).setCell ⟨g, j * 8 + 2, none⟩ (.int .i64 y.mod.minor)).setCell ⟨g, j * 8 + 3, none⟩ (.string y.mod.text)).setCell ⟨g, j * 8 + 4, none⟩ y.ve).setCell ⟨g, j * 8 + 5, none⟩ y.vi).setCell ⟨g, j * 8 + 6, none⟩ y.vp).setCell ⟨g, j * 8 + 7, none⟩ (.int .i64 y.first)) (some g) := by
  obtain ⟨⟨N, a, b, T, es, is, ps⟩, ve, vi, vp, fi⟩ := y
  have F := fun (l : List PV) (x y : PV) (i : Nat) (u : Value) => flat_put (C := pvC) (sz := 8) (fun _ => rfl) l j x y i u
  obtain ⟨o0, g0⟩ := h.stored (j * 8) (.string N)
  obtain ⟨o1, g1⟩ := o0.stored (j * 8 + 1) (.int .i64 a)
  obtain ⟨o2, g2⟩ := o1.stored (j * 8 + 2) (.int .i64 b)
  obtain ⟨o3, g3⟩ := o2.stored (j * 8 + 3) (.string T)
  obtain ⟨o4, g4⟩ := o3.stored (j * 8 + 4) ve
  obtain ⟨o5, g5⟩ := o4.stored (j * 8 + 5) vi
  obtain ⟨o6, g6⟩ := o5.stored (j * 8 + 6) vp
  obtain ⟨o7, g7⟩ := o6.stored (j * 8 + 7) (.int .i64 fi)
  refine ⟨?_, (((((((g0.trans g1).trans g2).trans g3).trans g4).trans g5).trans g6).trans g7)⟩
  have e : ((((((((l.flatMap pvC).set (j * 8) (.string N)).set (j * 8 + 1) (.int .i64 a)).set (j * 8 + 2) (.int .i64 b)).set (j * 8 + 3) (.string T)).set (j * 8 + 4) ve).set (j * 8 + 5) vi).set (j * 8 + 6) vp).set (j * 8 + 7) (.int .i64 fi) = (l.set j ⟨⟨N, a, b, T, es, is, ps⟩, ve, vi, vp, fi⟩).flatMap pvC := by
    obtain ⟨⟨N', a', b', T', es', is', ps'⟩, ve', vi', vp', fi'⟩ := x
    have G : ∀ (x y : PV) (z : PV) (i : Nat) (u : Value), l[j]? = some x → i < 8 → (pvC z).set i u = pvC y → ((l.set j z).flatMap pvC).set (j * 8 + i) u = (l.set j y).flatMap pvC := fun x y z i u hx hi he => by
      rw [F (l.set j z) z y i u (set_at hx z) hi he, List.set_set]
    have s0 := F l _ ⟨⟨N, a', b', T', es', is', ps'⟩, ve', vi', vp', fi'⟩ 0 (.string N) hx (by omega) rfl
    rw [Nat.add_zero] at s0
    have s1 := G _ ⟨⟨N, a, b', T', es', is', ps'⟩, ve', vi', vp', fi'⟩ ⟨⟨N, a', b', T', es', is', ps'⟩, ve', vi', vp', fi'⟩ 1 (.int .i64 a) hx (by omega) rfl
    have s2 := G _ ⟨⟨N, a, b, T', es', is', ps'⟩, ve', vi', vp', fi'⟩ ⟨⟨N, a, b', T', es', is', ps'⟩, ve', vi', vp', fi'⟩ 2 (.int .i64 b) hx (by omega) rfl
    have s3 := G _ ⟨⟨N, a, b, T, es', is', ps'⟩, ve', vi', vp', fi'⟩ ⟨⟨N, a, b, T', es', is', ps'⟩, ve', vi', vp', fi'⟩ 3 (.string T) hx (by omega) rfl
    have s4 := G _ ⟨⟨N, a, b, T, es', is', ps'⟩, ve, vi', vp', fi'⟩ ⟨⟨N, a, b, T, es', is', ps'⟩, ve', vi', vp', fi'⟩ 4 ve hx (by omega) rfl
    have s5 := G _ ⟨⟨N, a, b, T, es', is', ps'⟩, ve, vi, vp', fi'⟩ ⟨⟨N, a, b, T, es', is', ps'⟩, ve, vi', vp', fi'⟩ 5 vi hx (by omega) rfl
    have s6 := G _ ⟨⟨N, a, b, T, es', is', ps'⟩, ve, vi, vp, fi'⟩ ⟨⟨N, a, b, T, es', is', ps'⟩, ve, vi, vp', fi'⟩ 6 vp hx (by omega) rfl
    have s7 := G _ ⟨⟨N, a, b, T, es, is, ps⟩, ve, vi, vp, fi⟩ ⟨⟨N, a, b, T, es', is', ps'⟩, ve, vi, vp, fi'⟩ 7 (.int .i64 fi) hx (by omega) rfl
    rw [s0, s1, s2, s3, s4, s5, s6, s7]
  rw [e] at o7
  exact o7

end Go.Proofs.YtlpnfbpgnfappaaGreat

/- Rows of one's own that are cut, widened, and written into: within, and behind their end. -/
namespace Go.Proofs.YtlpnfbpgnfappaaGreat
open Go.RowKit Go.PlainAid Go.Lib

theorem grown_refl (W : World) (b : Option Nat) : W.grownBy W b := ⟨rfl, rfl, rfl, Nat.le_refl _, fun _ _ _ => rfl⟩
theorem grown_drew (W : World) (b : Option Nat) : W.grownBy W.drew b := ⟨rfl, rfl, rfl, Nat.le_refl _, fun _ _ _ => rfl⟩
theorem grown_up {W W' : World} {b : Option Nat} (h : W.grownBy W' none) : W.grownBy W' b := ⟨h.os, h.tape, h.output, h.size, fun k hk _ => h.block k hk (by simp)⟩
theorem own_beyond {base g n cap sz : Nat} {e : TypeId} {xs : List Value} : ∀ (vs : List Value) (o : Nat) (W : World), W.ownsRow base e sz (.slice (some ⟨g, 0, none⟩) n cap) n xs → n * sz ≤ o →
    (W.setCells g o vs).ownsRow base e sz (.slice (some ⟨g, 0, none⟩) n cap) n xs ∧ W.grownBy (W.setCells g o vs) (some g)
  | [], _, W, h, _ => ⟨h, grown_refl W _⟩
  | v :: r, o, W, h, ho => by
    obtain ⟨h1, g1⟩ := h.stored o v
    rw [List.set_eq_of_length_le (by rw [h.1]; exact ho)] at h1
    obtain ⟨h2, g2⟩ := own_beyond r (o + 1) _ h1 (by omega)
    exact ⟨h2, g1.trans g2⟩
/-- Some values laid over others, from a place on. -/
def layL : List Value → Nat → List Value → List Value
  | xs, _, [] => xs
  | xs, o, v :: r => layL (xs.set o v) (o + 1) r
theorem layL_eq : ∀ (vs : List Value) (xs : List Value) (o : Nat), o + vs.length ≤ xs.length → layL xs o vs = xs.take o ++ vs ++ xs.drop (o + vs.length)
  | [], xs, o, _ => by
    show xs = _
    simp
  | v :: r, xs, o, h => by
    rw [List.length_cons] at h
    show layL (xs.set o v) (o + 1) r = _
    rw [layL_eq r (xs.set o v) (o + 1) (by rw [List.length_set]; omega)]
    have h1 : (xs.set o v).take (o + 1) = xs.take o ++ [v] := by
      rw [List.take_add_one, List.take_set_of_le (Nat.le_refl _), List.getElem?_set_self (by omega)]
      rfl
    have h2 : (xs.set o v).drop (o + 1 + r.length) = xs.drop (o + (v :: r).length) := by
      rw [List.drop_set_of_lt (by omega), List.length_cons]
      congr 1; omega
    rw [h1, h2]
    simp
theorem own_lay {base g n cap sz : Nat} {e : TypeId} : ∀ (vs : List Value) (xs : List Value) (o : Nat) (W : World), W.ownsRow base e sz (.slice (some ⟨g, 0, none⟩) n cap) n xs →
    (W.setCells g o vs).ownsRow base e sz (.slice (some ⟨g, 0, none⟩) n cap) n (layL xs o vs) ∧ W.grownBy (W.setCells g o vs) (some g)
  | [], _, _, W, h => ⟨h, grown_refl W _⟩
  | v :: r, xs, o, W, h => by
    obtain ⟨h1, g1⟩ := h.stored o v
    obtain ⟨h2, g2⟩ := own_lay r (xs.set o v) (o + 1) _ h1
    exact ⟨h2, g1.trans g2⟩
theorem own_block_of {W : World} {base g n cap sz : Nat} {e : TypeId} {xs : List Value} (h : W.ownsRow base e sz (.slice (some ⟨g, 0, none⟩) n cap) n xs) :
    ∃ cur, base ≤ g ∧ W.heap[g]? = some (.cells cur e (0, 0)) ∧ n ≤ cap ∧ cap ≤ maxLen ∧ cur.size = cap * sz ∧ cur.toList.take (n * sz) = xs := by
  rcases h.2 with ⟨h', _⟩ | ⟨g', cap', cur, h', h1, h2, h3, h4, h5, h6⟩
  · simp at h'
  · simp only [Value.slice.injEq, Option.some.injEq, Addr.mk.injEq, and_true, true_and] at h'
    obtain ⟨rfl, rfl⟩ := h'
    exact ⟨cur, h1, h2, h3, h4, h5, h6⟩
theorem own_cut {W : World} {base g n cap sz i : Nat} {e : TypeId} {xs : List Value} (h : W.ownsRow base e sz (.slice (some ⟨g, 0, none⟩) n cap) n xs) (hi : i ≤ n) :
    W.ownsRow base e sz (.slice (some ⟨g, 0, none⟩) i cap) i (xs.take (i * sz)) := by
  obtain ⟨cur, h1, h2, h3, h4, h5, h6⟩ := own_block_of h
  have hm : i * sz ≤ n * sz := Nat.mul_le_mul_right _ hi
  refine ⟨by rw [List.length_take, h.1]; omega, .inr ⟨g, cap, cur, rfl, h1, h2, Nat.le_trans hi h3, h4, h5, ?_⟩⟩
  rw [← h6, List.take_take, Nat.min_eq_left hm]
theorem own_widen {W : World} {base g n cap sz : Nat} {e : TypeId} {xs : List Value} (h : W.ownsRow base e sz (.slice (some ⟨g, 0, none⟩) n cap) n xs) (hi : n + 1 ≤ cap) :
    ∃ sp : List Value, sp.length = sz ∧ W.ownsRow base e sz (.slice (some ⟨g, 0, none⟩) (n + 1) cap) (n + 1) (xs ++ sp) := by
  obtain ⟨cur, h1, h2, h3, h4, h5, h6⟩ := own_block_of h
  have hm : (n + 1) * sz ≤ cap * sz := Nat.mul_le_mul_right _ hi
  have hs : (n + 1) * sz = n * sz + sz := Nat.succ_mul n sz
  have hl : ((cur.toList.drop (n * sz)).take sz).length = sz := by rw [List.length_take, List.length_drop, Array.length_toList, h5]; omega
  refine ⟨(cur.toList.drop (n * sz)).take sz, hl, by rw [List.length_append, h.1, hl, hs], .inr ⟨g, cap, cur, rfl, h1, h2, hi, h4, h5, ?_⟩⟩
  rw [← h6, hs, List.take_add]
theorem own_spot {W : World} {base g n cap sz : Nat} {e : TypeId} {xs : List Value} (h : W.ownsRow base e sz (.slice (some ⟨g, 0, none⟩) n cap) n xs) (j : Nat) (hj : j < cap * sz) : (W.cell? ⟨g, j, none⟩).isSome = true ∧ W.frozen? ⟨g, j, none⟩ = false := by
  obtain ⟨cur, h1, h2, h3, h4, h5, h6⟩ := own_block_of h
  refine ⟨?_, h.frozenAt j⟩
  rw [cell_of_row W g j cur e (0, 0) h2]
  rw [Array.getElem?_eq_getElem (by omega)]
  rfl
theorem own_capB {W : World} {base g n cap sz : Nat} {e : TypeId} {xs : List Value} (h : W.ownsRow base e sz (.slice (some ⟨g, 0, none⟩) n cap) n xs) : n ≤ cap ∧ cap ≤ 9223372036854775807 := by
  obtain ⟨cur, h1, h2, h3, h4, h5, h6⟩ := own_block_of h
  exact ⟨h3, h4⟩
theorem own_cellAt {W : World} {base g n cap sz : Nat} {e : TypeId} {xs : List Value} (h : W.ownsRow base e sz (.slice (some ⟨g, 0, none⟩) n cap) n xs) {j : Nat} {u : Value} (hu : xs[j]? = some u) : W.cell? ⟨g, j, none⟩ = some u := by
  rw [h.cellAt j (by rw [← h.1]; exact (List.getElem?_eq_some_iff.1 hu).1)]
  exact hu
theorem own_shape {W : World} {base g n cap sz : Nat} {e : TypeId} {xs : List Value} (h : W.ownsRow base e sz (.slice (some ⟨g, 0, none⟩) n cap) n xs) : W.shape? g = some (e, cap * sz) := by
  obtain ⟨cur, h1, h2, h3, h4, h5, h6⟩ := own_block_of h
  unfold World.shape?
  rw [h2]
  simp [h5]
theorem cells_shape {W : World} {B : Nat} {t : TypeId} {cs : Array Value} (h : CellsAt W B t cs) : W.shape? B = some (t, cs.size) := by
  unfold World.shape?
  rw [show W.heap[B]? = _ from h]

theorem flat_take {α : Type} {C : α → List Value} {sz : Nat} (hC : ∀ x, (C x).length = sz) : ∀ (l : List α) (i : Nat), (l.flatMap C).take (i * sz) = (l.take i).flatMap C
  | [], i => by simp
  | x :: l, 0 => by simp
  | x :: l, i + 1 => by
    have hx := hC x
    rw [List.flatMap_cons, List.take_succ_cons, List.flatMap_cons, ← flat_take hC l i, Nat.succ_mul, List.take_append, List.take_of_length_le (by omega), show i * sz + sz - (C x).length = i * sz by omega]
theorem flat_drop {α : Type} {C : α → List Value} {sz : Nat} (hC : ∀ x, (C x).length = sz) : ∀ (l : List α) (i : Nat), (l.flatMap C).drop (i * sz) = (l.drop i).flatMap C
  | [], i => by simp
  | x :: l, 0 => by simp
  | x :: l, i + 1 => by
    have hx := hC x
    rw [List.flatMap_cons, List.drop_succ_cons, ← flat_drop hC l i, Nat.succ_mul, List.drop_append, List.drop_of_length_le (by omega), show i * sz + sz - (C x).length = i * sz by omega, List.nil_append]
/-- A copy into cells of one block, of elements of some size. -/
theorem run_copy_rows {P : Program} (w : World) (dT sT ty elem : TypeId) (i : TypeInfo) (sz : Nat) (b o dLen dCap : Nat) (a : Addr) (sLen sCap : Nat) (cs : List Value)
    (hu : P.underlying dT = some (.slice elem)) (hi : P.info? elem = some i) (hs : i.size = sz) (hn : cs.length = Nat.min sLen dLen * sz)
    (hsrc : ∀ j v, cs[j]? = some v → w.cell? (a.add j) = some v) (hc : ∀ j, j < cs.length → (w.cell? ⟨b, o + j, none⟩).isSome = true) (hf : ∀ j, j < cs.length → w.frozen? ⟨b, o + j, none⟩ = false) (h1 : ∀ v ∈ cs, v.oneCell' = true) :
    (Builtin.copy_ #[dT, sT] ty #[.slice (some ⟨b, o, none⟩) dLen dCap, .slice (some a) sLen sCap]).run P w = .ok (goInt (Nat.min sLen dLen)) (w.setCells b o cs) := by
  subst hs
  have hl := run_firstCells_some (P := P) w i.size (Nat.min sLen dLen) a sLen sCap cs hn hsrc
  have hst := run_storeCells_cells (P := P) b o cs 0 w (by simpa using hc) (by simpa using hf) h1
  simp only [Nat.add_zero] at hst
  simp [Builtin.copy_, run_underlying hu, Builtin.lenOf, sizeOf, typeInfo, hi, hl, hst]
/-- One element cleared. -/
theorem run_clear_one {P : Program} (w : World) (t e ty : TypeId) (z : Value) (zs : List Value) (ht : P.underlying t = some (.slice e)) (hv : ∀ w, (zeroValue e).run P w = .ok z w) (hz : (Builtin.zeroCells z.cells 1).toList = zs) (h1 : ∀ v ∈ zs, v.oneCell' = true) (b o c : Nat)
    (hc : ∀ j, j < zs.length → (w.cell? ⟨b, o + j, none⟩).isSome = true) (hf : ∀ j, j < zs.length → w.frozen? ⟨b, o + j, none⟩ = false) :
    (Builtin.clear_ #[t] ty #[.slice (some ⟨b, o, none⟩) 1 c]).run P w = .ok (.tuple #[]) (w.setCells b o zs) := by
  have hst := run_storeCells_cells (P := P) b o zs 0 w (by simpa using hc) (by simpa using hf) h1
  simp only [Nat.add_zero] at hst
  simp [Builtin.clear_, run_underlying ht, hv, hz, hst]
/-- An append whose run is known, as a step of a region that draws its order. -/
theorem step_append_run {P : Program} {ops : Array Oper} {o : Oper} {a : Act} {w : World} {K : Act → World → Prop} {Q : Exit → Act → World → Prop} {E : Prop}
    (hg : o.guard = none) (d x : Operand) (dT sT : TypeId) (hop : o.op = Op.call { callee := Callee.builtin Builtin.append, args := #[d, x], argTypes := #[dT, sT] })
    (v u : Value) (hd : a.eval d = v) (hx : a.eval x = u) {v' : Value} {w' : World} (hr : (Builtin.append_ #[dT, sT] o.type #[v, u]).run P w = .ok v' w') (hK : K (a.put o.dst v') w') :
    if Region.wanted o (yielded ops a.tmps) = true then Oper.wp P o a w K Q else E := by
  have hw : Region.wanted o (yielded ops a.tmps) = true := by simp [Region.wanted, hg]
  rw [if_pos hw]
  unfold Oper.wp
  simp [execOp, hop, resolve, invoke, builtin, hd, hx, hr, Result.andThen]
  exact hK
theorem step_copy_run2 {P : Program} {ops : Array Oper} {o : Oper} {a : Act} {w : World} {K : Act → World → Prop} {Q : Exit → Act → World → Prop} {E : Prop}
    (hg : o.guard = none) (d x : Operand) (dT sT : TypeId) (hop : o.op = Op.call { callee := Callee.builtin Builtin.copy, args := #[d, x], argTypes := #[dT, sT] })
    (v u : Value) (hd : a.eval d = v) (hx : a.eval x = u) {v' : Value} {w' : World} (hr : (Builtin.copy_ #[dT, sT] o.type #[v, u]).run P w = .ok v' w') (hK : K (a.put o.dst v') w') :
    if Region.wanted o (yielded ops a.tmps) = true then Oper.wp P o a w K Q else E := by
  have hw : Region.wanted o (yielded ops a.tmps) = true := by simp [Region.wanted, hg]
  rw [if_pos hw]
  unfold Oper.wp
  simp [execOp, hop, resolve, invoke, builtin, hd, hx, hr, Result.andThen]
  exact hK
theorem wpList_copy_run2 {P : Program} (w : World) {ops : Array Oper} {rest : List Oper} {o : Oper} {a : Act} {Q : Exit → Act → World → Prop} (hgd : o.guard = none) (d s : Operand) (t t' : TypeId)
    (ho : o.op = .call { callee := .builtin .copy, args := #[d, s], argTypes := #[t, t'] }) (v u : Value) (hd : a.eval d = v) (hs : a.eval s = u) {v' : Value} {w' : World}
    (hr : (Builtin.copy_ #[t, t'] o.type #[v, u]).run P w = .ok v' w') (h : wpList P ops Q rest (a.put o.dst v') w') : wpList P ops Q (o :: rest) a w :=
  wpList_plain hgd fun K hK => by
    refine (?_ : Oper.wp P o a w K Q)
    unfold Oper.wp execOp
    simp only [ho, resolve, invoke, builtin, Sem.run_bind, Sem.run_pure, Result.andThen_ok, List.map_toArray, List.map_cons, List.map_nil, hd, hs, hr]
    exact hK _ _ h

end Go.Proofs.YtlpnfbpgnfappaaGreat
