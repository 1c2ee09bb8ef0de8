/- The modules lib and app of the statements. -/
import Derived.Test.YtaklbnabgcglhabCells
import Derived.Test.YtaklbnabgcglhabModE
namespace Go.Proofs.Ytaklbnabgcglhab
open Go.RowKit Go.PlainAid Go.Lib

def libM : Mod := ⟨⟨#[108, 105, 98]⟩, 1, 2, ⟨#[97, 98, 99, 100, 101, 102, 103, 104]⟩, [⟨⟨#[102]⟩, 4⟩], [], []⟩
def appM : Mod := ⟨⟨#[97, 112, 112]⟩, 0, 0, ⟨#[46, 46, 46, 46, 46, 46, 46, 46]⟩, [], [⟨⟨#[108, 105, 98]⟩, ⟨#[102]⟩, 1, 1⟩, ⟨⟨#[107, 101, 114, 110, 101, 108]⟩, ⟨#[107]⟩, 0, 0⟩], [⟨1, 0, 0, 1⟩, ⟨5, 4, 1, 0⟩]⟩
theorem chk_lib : chkMod libM = 0 := by kernel_rfl
theorem chk_app : chkMod appM = 0 := by kernel_rfl

set_option maxHeartbeats 1000000 in
theorem lib_any (w : World) : Calls Try.prog 82 #[] w fun e w' => ∃ pe ke, e = .returned (.agg #[.string ⟨#[108, 105, 98]⟩, .int .i64 1, .int .i64 2, .string ⟨#[97, 98, 99, 100, 101, 102, 103, 104]⟩, .slice pe 1 ke, .slice none 0 0, .slice none 0 0]) ∧ IsMod w'.heap.size w' (.agg #[.string ⟨#[108, 105, 98]⟩, .int .i64 1, .int .i64 2, .string ⟨#[97, 98, 99, 100, 101, 102, 103, 104]⟩, .slice pe 1 ke, .slice none 0 0, .slice none 0 0]) libM ∧ Below w.heap.size w w' := by
  go_enter Try.func82, Try.ntmps82
  go_wp2
  (try simp only [Exit.inBlock, Exit.then])
  refine bodyPost_ret (results_cell_row rfl _ _ _ _ _ _ _ rfl (CellsAt.kept (CellsAt.new w _ _) (World.grownBy_alloc _ _ none) (by simp)) Try.underlying44 rfl (by kernel_rfl)) rfl ?_
  refine ⟨_, _, rfl, ⟨_, _, _, rfl, ?_, ⟨_, _, rfl, by decide, .inl rfl⟩, ⟨_, _, rfl, by decide, .inl rfl⟩⟩, ((Below.refl _ _).alloc (Nat.le_refl _) _).alloc (by simp) _⟩
  have c := CellsAt.new (w.alloc (.cells #[.string ⟨#[108, 105, 98]⟩, .int .i64 1, .int .i64 2, .string ⟨#[97, 98, 99, 100, 101, 102, 103, 104]⟩, .slice (some ⟨w.heap.size + 1, 0, none⟩) 1 1, .slice none 0 0, .slice none 0 0] 44)) 118 #[.string ⟨#[102]⟩, .int .i64 4]
  rw [World.size_alloc] at c
  exact rowOf_cells (C := expC) (cells := Exp.cell) (sz := 2) (fun _ => rfl) expC_at c libM.exps (by decide) 1 rfl

set_option maxHeartbeats 1000000 in
theorem app_any (w : World) : Calls Try.prog 55 #[] w fun e w' => ∃ v, e = .returned v ∧ IsMod w'.heap.size w' v appM ∧ Below w.heap.size w w' := by
  go_enter Try.func55, Try.ntmps55
  go_wp2
  (try simp only [Exit.inBlock, Exit.then])
  refine bodyPost_ret (results_cell_row rfl _ _ _ _ _ _ _ rfl (CellsAt.kept (CellsAt.kept (CellsAt.new w _ _) (World.grownBy_alloc _ _ none) (by simp)) (World.grownBy_alloc _ _ none) (by simp)) Try.underlying44 rfl (by kernel_rfl)) rfl ?_
  generalize hA : w.alloc (.cells #[.string ⟨#[97, 112, 112]⟩, .int .i64 0, .int .i64 0, .string ⟨#[46, 46, 46, 46, 46, 46, 46, 46]⟩, .slice none 0 0, .slice (some ⟨w.heap.size + 1, 0, none⟩) 2 2, .slice (some ⟨w.heap.size + 1 + 1, 0, none⟩) 2 2] 44) = wa
  have hz : wa.heap.size = w.heap.size + 1 := by rw [← hA]; simp
  have B1 : Below w.heap.size w wa := by rw [← hA]; exact (Below.refl _ _).alloc (Nat.le_refl _) _
  clear hA
  have c1 := CellsAt.new wa 40 #[.string ⟨#[108, 105, 98]⟩, .string ⟨#[102]⟩, .int .i64 1, .int .i64 1, .string ⟨#[107, 101, 114, 110, 101, 108]⟩, .string ⟨#[107]⟩, .int .i64 0, .int .i64 0]
  have c2 := CellsAt.new (wa.alloc (.cells #[.string ⟨#[108, 105, 98]⟩, .string ⟨#[102]⟩, .int .i64 1, .int .i64 1, .string ⟨#[107, 101, 114, 110, 101, 108]⟩, .string ⟨#[107]⟩, .int .i64 0, .int .i64 0] 40)) 23 #[.int .i64 1, .int .i64 0, .int .i64 0, .int .i64 1, .int .i64 5, .int .i64 4, .int .i64 1, .int .i64 0]
  have c1' := c1.kept (World.grownBy_alloc _ (.cells #[.int .i64 1, .int .i64 0, .int .i64 0, .int .i64 1, .int .i64 5, .int .i64 4, .int .i64 1, .int .i64 0] 23) none) (by simp)
  rw [hz] at c1'
  rw [World.size_alloc, hz] at c2
  refine ⟨_, rfl, ⟨_, _, _, rfl, ⟨_, _, rfl, by decide, .inl rfl⟩, ?_, ?_⟩, (B1.alloc (by omega) _).alloc (by simp; omega) _⟩
  · exact rowOf_cells (C := impC) (cells := Imp.cell) (sz := 4) (fun _ => rfl) impC_at c1' appM.imps (by decide) 2 rfl
  · exact rowOf_cells (C := patC) (cells := Pat.cell) (sz := 4) (fun _ => rfl) patC_at c2 appM.pats (by decide) 2 rfl

end Go.Proofs.Ytaklbnabgcglhab
