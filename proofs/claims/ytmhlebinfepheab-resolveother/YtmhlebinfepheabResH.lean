/- The contracts of the statements' kernel, pair, and of the document's SameInts. -/
import Derived.Test.YtmhlebinfepheabResG
import Derived.Test.YtmhlebinfepheabLibA
namespace Go.Proofs.Ytmhlebinfepheab
open Go.RowKit Go.PlainAid

set_option maxRecDepth 100000

def kernK : Ker := ⟨0, 0, [⟨⟨#[107]⟩, 2⟩]⟩
def pairL : List Plc := [⟨appM, 1⟩, ⟨libM, 4⟩]
theorem kern_fits : kernK.fits := by
  intro e he
  have : e = ⟨⟨#[107]⟩, 2⟩ := by simpa [kernK] using he
  subst this
  decide
theorem fits_app : appM.fits := by
  refine ⟨by decide, by decide, fun e he => by simp [appM] at he, fun i hi => ?_⟩
  have : i = ⟨⟨#[108, 105, 98]⟩, ⟨#[102]⟩, 1, 1⟩ ∨ i = ⟨⟨#[107, 101, 114, 110, 101, 108]⟩, ⟨#[107]⟩, 0, 0⟩ := by simpa [appM] using hi
  rcases this with rfl | rfl <;> exact ⟨by decide, by decide⟩
theorem fits_lib : libM.fits := by
  refine ⟨by decide, by decide, fun e he => ?_, fun i hi => by simp [libM] at hi⟩
  have : e = ⟨⟨#[102]⟩, 4⟩ := by simpa [libM] using he
  subst this
  decide

set_option maxHeartbeats 1000000 in
theorem kernelFn_any (w : World) : Calls Try.prog 43 #[] w fun e w' => ∃ v, e = .returned v ∧ IsKer w'.heap.size w' v kernK ∧ Below w.heap.size w w' := by
  go_enter Try.func43, Try.ntmps43
  go_wp2
  (try simp only [Exit.inBlock, Exit.then])
  have hF : CellsAt ((w.alloc (.cells #[.int .i64 0, .int .i64 0, .slice (some ⟨w.heap.size + 1, 0, none⟩) 1 1] 37)).alloc (.cells #[.string ⟨#[107]⟩, .int .i64 2] 95)) w.heap.size 37 #[.int .i64 0, .int .i64 0, .slice (some ⟨w.heap.size + 1, 0, none⟩) 1 1] := CellsAt.kept (CellsAt.new w _ _) (World.grownBy_alloc _ _ none) (by simp)
  refine bodyPost_ret (results_cell_row rfl _ _ _ _ _ _ _ rfl hF Try.underlying37 rfl (by kernel_rfl)) rfl ?_
  refine ⟨_, rfl, ⟨_, rfl, ?_⟩, ((Below.refl _ _).alloc (Nat.le_refl _) _).alloc (by simp) _⟩
  have c := CellsAt.new (w.alloc (.cells #[.int .i64 0, .int .i64 0, .slice (some ⟨w.heap.size + 1, 0, none⟩) 1 1] 37)) 95 #[.string ⟨#[107]⟩, .int .i64 2]
  rw [World.size_alloc] at c
  exact rowOf_cells (C := expC) (cells := Exp.cell) (sz := 2) (fun _ => rfl) expC_at c kernK.exps (by decide) 1 rfl

def pvC (x : PV) : List Value := [.string x.mod.name, .int .i64 x.mod.major, .int .i64 x.mod.minor, .string x.mod.text, x.ve, x.vi, x.vp, .int .i64 x.first]
theorem pvC_at (x : PV) (i : Nat) (hi : i < 8) : (pvC x)[i]? = some (PV.cell x i) := by
  have : i = 0 ∨ i = 1 ∨ i = 2 ∨ i = 3 ∨ i = 4 ∨ i = 5 ∨ i = 6 ∨ i = 7 := by omega
  rcases this with rfl | rfl | rfl | rfl | rfl | rfl | rfl | rfl <;> rfl
theorem mod_rows {n₀ : Nat} {W : World} {N T : ByteArray} {a b : Int} {ve vi vp : Value} {M : Mod} (h : IsMod n₀ W (.agg #[.string N, .int .i64 a, .int .i64 b, .string T, ve, vi, vp]) M) : RowOf 2 Exp.cell n₀ W ve M.exps ∧ RowOf 4 Imp.cell n₀ W vi M.imps ∧ RowOf 4 Pat.cell n₀ W vp M.pats := by
  obtain ⟨ve', vi', vp', e, h1, h2, h3⟩ := h
  injection e with e
  have e2 := congrArg Array.toList e
  simp at e2
  obtain ⟨_, _, _, _, rfl, rfl, rfl⟩ := e2
  exact ⟨h1, h2, h3⟩

set_option maxHeartbeats 2000000 in
theorem pair_any (w : World) : Calls Try.prog 44 #[] w fun e w' => ∃ v l, e = .returned v ∧ l.map PV.plc = pairL ∧ IsPlcs w'.heap.size w' v l ∧ Below w.heap.size w w' := by
  go_enter Try.func44, Try.ntmps44
  go_wp2_with fail
  refine (app_any _).mono ?_
  rintro e w1 ⟨v1, rfl, hA, b1⟩
  obtain ⟨ve, vi, vp, rfl, hE, hI, hP⟩ := hA
  have hAE := hE
  have hAI := hI
  have hAP := hP
  obtain ⟨ae, ce, rfl, _, _⟩ := hE
  obtain ⟨ai, ci, rfl, _, _⟩ := hI
  obtain ⟨ap, cp, rfl, _, _⟩ := hP
  dsimp only [appM]
  go_wp2_with fail
  refine (lib_any _).mono ?_
  rintro e w2 ⟨pe, ke, rfl, hL, b2⟩
  obtain ⟨l1, l2, l3⟩ := mod_rows hL
  have B2 := b1.trans (b2.mono b1.size)
  clear b1 hL
  go_wp2
  go_ret
  refine ⟨_, [⟨appM, .slice ae 0 ce, .slice ai 2 ci, .slice ap 2 cp, 1⟩, ⟨libM, .slice pe 1 ke, .slice none 0 0, .slice none 0 0, 4⟩], rfl, rfl, ⟨?_, ?_⟩, B2.alloc B2.size _⟩
  · exact rowOf_cells (C := pvC) (cells := PV.cell) (sz := 8) (fun _ => rfl) pvC_at (CellsAt.new w2 56 _) [⟨appM, .slice ae 0 ce, .slice ai 2 ci, .slice ap 2 cp, 1⟩, ⟨libM, .slice pe 1 ke, .slice none 0 0, .slice none 0 0, 4⟩] (show 2 ≤ 255 by decide) 2 rfl
  · intro x hx
    have : x = ⟨appM, .slice ae 0 ce, .slice ai 2 ci, .slice ap 2 cp, 1⟩ ∨ x = ⟨libM, .slice pe 1 ke, .slice none 0 0, .slice none 0 0, 4⟩ := by simpa using hx
    have hb : ∀ o, Below w2.heap.size w2 (w2.alloc o) := fun o => (Below.refl _ _).alloc (Nat.le_refl _) o
    have hbb : ∀ o, Below w1.heap.size w1 (w2.alloc o) := fun o => b2.trans ((hb o).mono b2.size)
    rcases this with rfl | rfl
    · exact ⟨(hAE.below (hbb _)).more (hbb _).size, (hAI.below (hbb _)).more (hbb _).size, (hAP.below (hbb _)).more (hbb _).size⟩
    · exact ⟨(l1.below (hb _)).more (hb _).size, (l2.below (hb _)).more (hb _).size, (l3.below (hb _)).more (hb _).size⟩

set_option maxHeartbeats 1000000 in
theorem sameInts_yes (l : List Int) (v1 v2 : Value) (w : World) (h1 : RowOf 1 intCell w.heap.size w v1 l) (h2 : RowOf 1 intCell w.heap.size w v2 l) :
    Calls Try.prog 25 #[v1, v2] w fun e w' => e = .returned (.bool true) ∧ Below w.heap.size w w' := by
  obtain ⟨a1, c1, rfl, hl, h1⟩ := h1
  obtain ⟨a2, c2, rfl, _, h2⟩ := h2
  go_enter Try.func25, Try.ntmps25
  go_wp2
  go_loopw [5] (fun i wr => ∃ (k : Nat), k ≤ l.length ∧ i = .int .i64 k ∧ Below w.heap.size w wr) (fun i _ => l.length - (intOf i).toNat)
  case atStart => exact ⟨0, Nat.zero_le _, rfl, Below.refl _ _⟩
  case round =>
    obtain ⟨k, hk, rfl, B⟩ := hrel
    by_cases hlt : k < l.length
    · obtain ⟨x, hx⟩ : ∃ x, l[k]? = some x := ⟨_, List.getElem?_eq_getElem hlt⟩
      rcases h1 with h | ⟨b1, o1, rfl, hb1, hc1⟩
      · subst h; simp at hlt
      rcases h2 with h | ⟨b2, o2, rfl, hb2, hc2⟩
      · subst h; simp at hlt
      have d1 : wr.cell? ⟨b1, o1 + k, none⟩ = some (.int .i64 x) := by
        have := (B.cell (p := ⟨b1, o1 + k * 1 + 0, none⟩) hb1).trans (hc1 k _ hx 0 (by omega))
        rw [Nat.mul_one] at this
        exact this
      have d2 : wr.cell? ⟨b2, o2 + k, none⟩ = some (.int .i64 x) := by
        have := (B.cell (p := ⟨b2, o2 + k * 1 + 0, none⟩) hb2).trans (hc2 k _ hx 0 (by omega))
        rw [Nat.mul_one] at this
        exact this
      have hne : (x != x) = false := by simp
      clear hc1 hc2 hx
      go_wp2
      go_quiet (fail)
      all_goals go_wp2
      exact ⟨⟨k + 1, by omega, by go_num, below_drewN B _⟩, by simp [intOf]; omega⟩
    · obtain rfl : k = l.length := by omega
      go_wp2
      go_ret
      exact ⟨rfl, B⟩

end Go.Proofs.Ytmhlebinfepheab
