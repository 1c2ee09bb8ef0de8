/- The contracts of resolve.first. -/
import Derived.Test.YtaklbnabgcglhabResA
namespace Go.Proofs.Ytaklbnabgcglhab
open Go.RowKit Go.PlainAid

set_option maxRecDepth 100000

set_option maxHeartbeats 1000000 in
theorem firstExp_any (l : List Exp) (v : Value) (K : FuncId) (c : Value) (hK : ∀ w x, Sem.run Try.prog (callFunc K #[x, c]) w = .ok (.enter K #[x, c]) w) (p : Exp → Bool) (w : World) (hrow : RowOf 2 Exp.cell w.heap.size w v l)
    (hp : ∀ x ∈ l, ∀ W, Below w.heap.size w W → Calls Try.prog K #[.agg #[.string x.name, .int .i64 x.pos], c] W fun e W' => e = .returned (.bool (p x)) ∧ Below W.heap.size W W') :
    Calls Try.prog 77 #[v, .func (.func K) #[] #[c]] w fun e w' => e = .returned (optExp (l.find? p)) ∧ Below w.heap.size w w' := by
  have HI : Hid (∀ W, Below w.heap.size w W → Calls Try.prog 109 #[v, .func (.func K) #[] #[c]] W fun e w' => e = .returned (.int .i64 (idxFrom p 0 l)) ∧ Below W.heap.size W w') := by
    intro W hb
    exact idxExp_any l v K c hK p W ((hrow.below hb).more hb.size) (fun x hx W' hb' => hp x hx W' (hb.trans (hb'.mono hb.size)))
  obtain ⟨a, cap, rfl, _, hrow⟩ := hrow
  rcases idx_find p l 0 with ⟨h1, h2⟩ | ⟨j, x, h1, h2, h3⟩
  · rw [h1]
    rw [h2] at HI
    go_enter Try.func77, Try.ntmps77
    go_wp2_with fail
    refine (HI.out _ ((Below.refl _ _).alloc (Nat.le_refl _) _)).mono ?_
    rintro e w1 ⟨rfl, b1⟩
    have C1 := (CellsAt.new w 118 #[.string ⟨#[]⟩, .int .i64 0]).below b1 (by simp)
    have B1 : Below w.heap.size w w1 := ((Below.refl _ _).alloc (Nat.le_refl _) _).trans (b1.mono (by simp))
    have hz1 := C1.lt
    have t0 := C1.cell 0
    have t1 := C1.cell 1
    have t2 := C1.frozen 0
    have t3 := C1.frozen 1
    simp at t0 t1
    clear b1 HI hK hp
    go_wp2
    (try simp only [Exit.inBlock, Exit.then])
    have hF : CellsAt (((w1.setCell ⟨w.heap.size, 0, none⟩ (.string ⟨#[]⟩)).setCell ⟨w.heap.size, 1, none⟩ (.int .i64 0)).alloc (.cells #[.string ⟨#[]⟩, .int .i64 0] 118)) w.heap.size 118 #[.string ⟨#[]⟩, .int .i64 0] := ((C1.set 0 (.string ⟨#[]⟩)).set 1 (.int .i64 0)).kept (World.grownBy_alloc _ _ none) (by simp)
    refine bodyPost_ret (results_cell_tmp_row rfl _ _ _ _ _ _ _ rfl hF Try.underlying118 rfl (by kernel_rfl)) rfl ?_
    exact ⟨rfl, ((B1.setCell (Nat.le_refl _) _).setCell (Nat.le_refl _) _).alloc (by simp; omega) _⟩
  · rw [h1]
    rw [h3] at HI
    rcases hrow with h | ⟨b, off, rfl, hbn, hcells⟩
    · subst h; simp at h2
    have hj : j < l.length := (List.getElem?_eq_some_iff.1 h2).1
    rw [Nat.zero_add] at HI
    obtain ⟨nm, ps⟩ := x
    have d0 := hcells j _ h2 0 (by omega)
    have d1 := hcells j _ h2 1 (by omega)
    dsimp only [Exp.cell] at d0 d1
    rw [Nat.add_zero] at d0
    clear hcells h1 h2 h3
    go_enter Try.func77, Try.ntmps77
    go_wp2_with fail
    refine (HI.out _ ((Below.refl _ _).alloc (Nat.le_refl _) _)).mono ?_
    rintro e w1 ⟨rfl, b1⟩
    have C1 := (CellsAt.new w 118 #[.string ⟨#[]⟩, .int .i64 0]).below b1 (by simp)
    have B1 : Below w.heap.size w w1 := ((Below.refl _ _).alloc (Nat.le_refl _) _).trans (b1.mono (by simp))
    have hz1 := C1.lt
    have t0 := C1.cell 0
    have t1 := C1.cell 1
    have t2 := C1.frozen 0
    have t3 := C1.frozen 1
    simp at t0 t1
    have e0 := (B1.cell (p := ⟨b, off + j * 2, none⟩) hbn).trans d0
    have e1 := (B1.cell (p := ⟨b, off + j * 2 + 1, none⟩) hbn).trans d1
    clear b1 HI hK hp d0 d1
    go_wp2
    (try simp only [Exit.inBlock, Exit.then])
    have hF : CellsAt ((w1.setCell ⟨w.heap.size, 0, none⟩ (.string nm)).setCell ⟨w.heap.size, 1, none⟩ (.int .i64 ps)) w.heap.size 118 #[.string nm, .int .i64 ps] := (C1.set 0 (.string nm)).set 1 (.int .i64 ps)
    refine bodyPost_ret (results_cell_tmp_row rfl _ _ _ _ _ _ _ rfl hF Try.underlying118 rfl (by kernel_rfl)) rfl ?_
    exact ⟨rfl, (B1.setCell (Nat.le_refl _) _).setCell (Nat.le_refl _) _⟩

set_option maxHeartbeats 2000000 in
theorem firstPlc_any (l : List PV) (v : Value) (K : FuncId) (c : Value) (hK : ∀ w x, Sem.run Try.prog (callFunc K #[x, c]) w = .ok (.enter K #[x, c]) w) (p : PV → Bool) (w : World) (hrow : IsPlcs w.heap.size w v l)
    (hp : ∀ x ∈ l, ∀ W, Below w.heap.size w W → Calls Try.prog K #[x.val, c] W fun e W' => e = .returned (.bool (p x)) ∧ Below W.heap.size W W') :
    Calls Try.prog 106 #[v, .func (.func K) #[] #[c]] w fun e w' => e = .returned (optPlc (l.find? p)) ∧ Below w.heap.size w w' := by
  have HI : Hid (∀ W, Below w.heap.size w W → Calls Try.prog 83 #[v, .func (.func K) #[] #[c]] W fun e w' => e = .returned (.int .i64 (idxFrom p 0 l)) ∧ Below W.heap.size W w') := by
    intro W hb
    exact idxPlc_any l v K c hK p W ((hrow.1.below hb).more hb.size) (fun x hx W' hb' => hp x hx W' (hb.trans (hb'.mono hb.size)))
  obtain ⟨⟨a, cap, rfl, _, hrow⟩, hat⟩ := hrow
  rcases idx_find p l 0 with ⟨h1, h2⟩ | ⟨j, x, h1, h2, h3⟩
  · rw [h1]
    rw [h2] at HI
    go_enter Try.func106, Try.ntmps106
    go_wp2_with fail
    refine (HI.out _ ((Below.refl _ _).alloc (Nat.le_refl _) _)).mono ?_
    rintro e w1 ⟨rfl, b1⟩
    have C1 := (CellsAt.new w 56 #[.string ⟨#[]⟩, .int .i64 0, .int .i64 0, .string ⟨#[]⟩, .slice none 0 0, .slice none 0 0, .slice none 0 0, .int .i64 0]).below b1 (by simp)
    have B1 : Below w.heap.size w w1 := ((Below.refl _ _).alloc (Nat.le_refl _) _).trans (b1.mono (by simp))
    have hz1 := C1.lt
    have t0 := C1.cell 0
    have t1 := C1.cell 1
    have t2 := C1.cell 2
    have t3 := C1.cell 3
    have t4 := C1.cell 4
    have t5 := C1.cell 5
    have t6 := C1.cell 6
    have t7 := C1.cell 7
    have f0 := C1.frozen 0
    have f1 := C1.frozen 1
    have f2 := C1.frozen 2
    have f3 := C1.frozen 3
    have f4 := C1.frozen 4
    have f5 := C1.frozen 5
    have f6 := C1.frozen 6
    have f7 := C1.frozen 7
    simp at t0 t1 t2 t3 t4 t5 t6 t7
    clear b1 HI hK hp hat hrow
    go_wp2
    (try simp only [Exit.inBlock, Exit.then])
    have hF : CellsAt (((((((((w1.setCell ⟨w.heap.size, 0, none⟩ (.string ⟨#[]⟩)).setCell ⟨w.heap.size, 1, none⟩ (.int .i64 0)).setCell ⟨w.heap.size, 2, none⟩ (.int .i64 0)).setCell ⟨w.heap.size, 3, none⟩ (.string ⟨#[]⟩)).setCell ⟨w.heap.size, 4, none⟩ (.slice none 0 0)).setCell ⟨w.heap.size, 5, none⟩ (.slice none 0 0)).setCell ⟨w.heap.size, 6, none⟩ (.slice none 0 0)).setCell ⟨w.heap.size, 7, none⟩ (.int .i64 0)).alloc (.cells #[.string ⟨#[]⟩, .int .i64 0, .int .i64 0, .string ⟨#[]⟩, .slice none 0 0, .slice none 0 0, .slice none 0 0, .int .i64 0] 56)) w.heap.size 56 #[.string ⟨#[]⟩, .int .i64 0, .int .i64 0, .string ⟨#[]⟩, .slice none 0 0, .slice none 0 0, .slice none 0 0, .int .i64 0] := CellsAt.kept ((((((((C1.set 0 (.string ⟨#[]⟩)).set 1 (.int .i64 0)).set 2 (.int .i64 0)).set 3 (.string ⟨#[]⟩)).set 4 (.slice none 0 0)).set 5 (.slice none 0 0)).set 6 (.slice none 0 0)).set 7 (.int .i64 0)) (World.grownBy_alloc _ _ none) (by simp)
    refine bodyPost_ret (results_cell_tmp_row rfl _ _ _ _ _ _ _ rfl hF Try.underlying56 rfl (by kernel_rfl)) rfl ?_
    exact ⟨rfl, ((((((((B1.setCell (Nat.le_refl _) _).setCell (Nat.le_refl _) _).setCell (Nat.le_refl _) _).setCell (Nat.le_refl _) _).setCell (Nat.le_refl _) _).setCell (Nat.le_refl _) _).setCell (Nat.le_refl _) _).setCell (Nat.le_refl _) _).alloc (by simp; omega) _⟩
  · rw [h1]
    rw [h3] at HI
    rcases hrow with h | ⟨b, off, rfl, hbn, hcells⟩
    · subst h; simp at h2
    have hj : j < l.length := (List.getElem?_eq_some_iff.1 h2).1
    rw [Nat.zero_add] at HI
    obtain ⟨⟨pe, ke, e4, _⟩, ⟨pi, ki, e5, _⟩, ⟨pp, kp, e6, _⟩⟩ := hat x (List.mem_of_getElem? h2)
    obtain ⟨⟨N, ma, mi, T, es, is, ps⟩, ve, vi, vp, fi⟩ := x
    dsimp only at e4 e5 e6
    subst e4 e5 e6
    have d0 := hcells j _ h2 0 (by omega)
    have d1 := hcells j _ h2 1 (by omega)
    have d2 := hcells j _ h2 2 (by omega)
    have d3 := hcells j _ h2 3 (by omega)
    have d4 := hcells j _ h2 4 (by omega)
    have d5 := hcells j _ h2 5 (by omega)
    have d6 := hcells j _ h2 6 (by omega)
    have d7 := hcells j _ h2 7 (by omega)
    dsimp only [PV.cell] at d0 d1 d2 d3 d4 d5 d6 d7
    rw [Nat.add_zero] at d0
    clear hcells h1 h2 h3 hat
    go_enter Try.func106, Try.ntmps106
    go_wp2_with fail
    refine (HI.out _ ((Below.refl _ _).alloc (Nat.le_refl _) _)).mono ?_
    rintro e w1 ⟨rfl, b1⟩
    have C1 := (CellsAt.new w 56 #[.string ⟨#[]⟩, .int .i64 0, .int .i64 0, .string ⟨#[]⟩, .slice none 0 0, .slice none 0 0, .slice none 0 0, .int .i64 0]).below b1 (by simp)
    have B1 : Below w.heap.size w w1 := ((Below.refl _ _).alloc (Nat.le_refl _) _).trans (b1.mono (by simp))
    have hz1 := C1.lt
    have t0 := C1.cell 0
    have t1 := C1.cell 1
    have t2 := C1.cell 2
    have t3 := C1.cell 3
    have t4 := C1.cell 4
    have t5 := C1.cell 5
    have t6 := C1.cell 6
    have t7 := C1.cell 7
    have f0 := C1.frozen 0
    have f1 := C1.frozen 1
    have f2 := C1.frozen 2
    have f3 := C1.frozen 3
    have f4 := C1.frozen 4
    have f5 := C1.frozen 5
    have f6 := C1.frozen 6
    have f7 := C1.frozen 7
    simp at t0 t1 t2 t3 t4 t5 t6 t7
    have g0 := (B1.cell (p := ⟨b, off + j * 8, none⟩) hbn).trans d0
    have g1 := (B1.cell (p := ⟨b, off + j * 8 + 1, none⟩) hbn).trans d1
    have g2 := (B1.cell (p := ⟨b, off + j * 8 + 2, none⟩) hbn).trans d2
    have g3 := (B1.cell (p := ⟨b, off + j * 8 + 3, none⟩) hbn).trans d3
    have g4 := (B1.cell (p := ⟨b, off + j * 8 + 4, none⟩) hbn).trans d4
    have g5 := (B1.cell (p := ⟨b, off + j * 8 + 5, none⟩) hbn).trans d5
    have g6 := (B1.cell (p := ⟨b, off + j * 8 + 6, none⟩) hbn).trans d6
    have g7 := (B1.cell (p := ⟨b, off + j * 8 + 7, none⟩) hbn).trans d7
    clear b1 HI hK hp d0 d1 d2 d3 d4 d5 d6 d7
    go_wp2
    (try simp only [Exit.inBlock, Exit.then])
    have hF : CellsAt ((((((((w1.setCell ⟨w.heap.size, 0, none⟩ (.string N)).setCell ⟨w.heap.size, 1, none⟩ (.int .i64 ma)).setCell ⟨w.heap.size, 2, none⟩ (.int .i64 mi)).setCell ⟨w.heap.size, 3, none⟩ (.string T)).setCell ⟨w.heap.size, 4, none⟩ (.slice pe es.length ke)).setCell ⟨w.heap.size, 5, none⟩ (.slice pi is.length ki)).setCell ⟨w.heap.size, 6, none⟩ (.slice pp ps.length kp)).setCell ⟨w.heap.size, 7, none⟩ (.int .i64 fi)) w.heap.size 56 #[.string N, .int .i64 ma, .int .i64 mi, .string T, .slice pe es.length ke, .slice pi is.length ki, .slice pp ps.length kp, .int .i64 fi] := ((((((((C1.set 0 (.string N)).set 1 (.int .i64 ma)).set 2 (.int .i64 mi)).set 3 (.string T)).set 4 (.slice pe es.length ke)).set 5 (.slice pi is.length ki)).set 6 (.slice pp ps.length kp)).set 7 (.int .i64 fi))
    refine bodyPost_ret (results_cell_tmp_row rfl _ _ _ _ _ _ _ rfl hF Try.underlying56 rfl (by kernel_rfl)) rfl ?_
    exact ⟨rfl, ((((((((B1.setCell (Nat.le_refl _) _).setCell (Nat.le_refl _) _).setCell (Nat.le_refl _) _).setCell (Nat.le_refl _) _).setCell (Nat.le_refl _) _).setCell (Nat.le_refl _) _).setCell (Nat.le_refl _) _).setCell (Nat.le_refl _) _)⟩

end Go.Proofs.Ytaklbnabgcglhab
