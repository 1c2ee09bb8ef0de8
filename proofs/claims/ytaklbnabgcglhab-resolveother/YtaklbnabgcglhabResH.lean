/- The contracts of the statements' kernel, pair, and of the document's SameInts. -/
import Derived.Test.YtaklbnabgcglhabResG
import Derived.Test.YtaklbnabgcglhabPairA
namespace Go.Proofs.Ytaklbnabgcglhab
open Go.RowKit Go.PlainAid

set_option maxRecDepth 100000

def kernK : Ker := ⟨0, 0, [⟨⟨#[107]⟩, 2⟩]⟩
theorem kern_fits : kernK.fits := by
  intro e he
  have : e = ⟨⟨#[107]⟩, 2⟩ := by simpa [kernK] using he
  subst this
  decide
set_option maxHeartbeats 1000000 in
theorem kernelFn_any (w : World) : Calls Try.prog 53 #[] w fun e w' => ∃ v, e = .returned v ∧ IsKer w'.heap.size w' v kernK ∧ Below w.heap.size w w' := by
  go_enter Try.func53, Try.ntmps53
  go_wp2
  (try simp only [Exit.inBlock, Exit.then])
  have hF : CellsAt ((w.alloc (.cells #[.int .i64 0, .int .i64 0, .slice (some ⟨w.heap.size + 1, 0, none⟩) 1 1] 37)).alloc (.cells #[.string ⟨#[107]⟩, .int .i64 2] 118)) w.heap.size 37 #[.int .i64 0, .int .i64 0, .slice (some ⟨w.heap.size + 1, 0, none⟩) 1 1] := CellsAt.kept (CellsAt.new w _ _) (World.grownBy_alloc _ _ none) (by simp)
  refine bodyPost_ret (results_cell_row rfl _ _ _ _ _ _ _ rfl hF Try.underlying37 rfl (by kernel_rfl)) rfl ?_
  refine ⟨_, rfl, ⟨_, rfl, ?_⟩, ((Below.refl _ _).alloc (Nat.le_refl _) _).alloc (by simp) _⟩
  have c := CellsAt.new (w.alloc (.cells #[.int .i64 0, .int .i64 0, .slice (some ⟨w.heap.size + 1, 0, none⟩) 1 1] 37)) 118 #[.string ⟨#[107]⟩, .int .i64 2]
  rw [World.size_alloc] at c
  exact rowOf_cells (C := expC) (cells := Exp.cell) (sz := 2) (fun _ => rfl) expC_at c kernK.exps (by decide) 1 rfl

set_option maxHeartbeats 1000000 in
theorem sameInts_yes (l : List Int) (v1 v2 : Value) (w : World) (h1 : RowOf 1 intCell w.heap.size w v1 l) (h2 : RowOf 1 intCell w.heap.size w v2 l) :
    Calls Try.prog 26 #[v1, v2] w fun e w' => e = .returned (.bool true) ∧ Below w.heap.size w w' := by
  obtain ⟨a1, c1, rfl, hl, h1⟩ := h1
  obtain ⟨a2, c2, rfl, _, h2⟩ := h2
  go_enter Try.func26, Try.ntmps26
  go_wp2
  go_loopw [5] (fun i wr => ∃ (k : Nat), k ≤ l.length ∧ i = .int .i64 k ∧ Below w.heap.size w wr) (fun i _ => l.length - (intOf i).toNat)
  case atStart => exact ⟨0, Nat.zero_le _, rfl, Below.refl _ _⟩
  case round =>
    obtain ⟨k, hk, rfl, B⟩ := hrel
    by_cases hlt : k < l.length
    · obtain ⟨x, hx⟩ : ∃ x, l[k]? = some x := ⟨_, List.getElem?_eq_getElem hlt⟩
      rcases h1 with h | ⟨b1, o1, rfl, hb1, hc1⟩
      · subst h; simp at hlt
      rcases h2 with h | ⟨b2, o2, rfl, hb2, hc2⟩
      · subst h; simp at hlt
      have d1 : wr.cell? ⟨b1, o1 + k, none⟩ = some (.int .i64 x) := by
        have := (B.cell (p := ⟨b1, o1 + k * 1 + 0, none⟩) hb1).trans (hc1 k _ hx 0 (by omega))
        rw [Nat.mul_one] at this
        exact this
      have d2 : wr.cell? ⟨b2, o2 + k, none⟩ = some (.int .i64 x) := by
        have := (B.cell (p := ⟨b2, o2 + k * 1 + 0, none⟩) hb2).trans (hc2 k _ hx 0 (by omega))
        rw [Nat.mul_one] at this
        exact this
      have hne : (x != x) = false := by simp
      clear hc1 hc2 hx
      go_wp2
      go_quiet (fail)
      all_goals go_wp2
      exact ⟨⟨k + 1, by omega, by go_num, below_drewN B _⟩, by simp [intOf]; omega⟩
    · obtain rfl : k = l.length := by omega
      go_wp2
      go_ret
      exact ⟨rfl, B⟩

end Go.Proofs.Ytaklbnabgcglhab
