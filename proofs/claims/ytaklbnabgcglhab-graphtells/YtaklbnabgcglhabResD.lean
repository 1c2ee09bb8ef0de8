/- The contracts of resolve.meant and its function. -/
import Derived.Test.YtaklbnabgcglhabResC
import Derived.Test.YtaklbnabgcglhabOrd
namespace Go.Proofs.Ytaklbnabgcglhab
open Go.RowKit Go.PlainAid

set_option maxRecDepth 100000

set_option maxHeartbeats 1000000 in
theorem addr_any (fi : Int) (w : World) (g0 : 0 ≤ fi) (g1 : fi ≤ 15) : Calls Try.prog 108 #[.int .i64 fi] w fun e w' => e = .returned (.int .i64 (4096 + fi * 64)) ∧ w' = w := by
  go_enter Try.func108, Try.ntmps108
  go_wp2
  go_ret
  exact ⟨rfl, rfl⟩

set_option maxHeartbeats 1000000 in
theorem isNamed_any (B : Nat) (name : ByteArray) (x : PV) (w : World) (hlt : B < w.heap.size) (hB : w.cell? ⟨B, 0, none⟩ = some (.string name)) :
    Calls Try.prog 107 #[x.val, .pointer (some ⟨B, 0, none⟩)] w fun e w' => e = .returned (.bool (x.mod.name == name)) ∧ Below w.heap.size w w' := by
  rw [← toList_beq2]
  obtain ⟨⟨N, ma, mi, T, es, is, ps⟩, ve, vi, vp, fi⟩ := x
  dsimp only [PV.val]
  go_enter Try.func107, Try.ntmps107
  go_wp2
  go_ret
  exact ⟨rfl, (Below.refl _ _).alloc (Nat.le_refl _) _⟩

set_option maxHeartbeats 1000000 in
theorem isCalled_any (B : Nat) (name : ByteArray) (x : Exp) (w : World) (hlt : B < w.heap.size) (hB : w.cell? ⟨B, 1, none⟩ = some (.string name)) :
    Calls Try.prog 78 #[.agg #[.string x.name, .int .i64 x.pos], .pointer (some ⟨B, 0, none⟩)] w fun e w' => e = .returned (.bool (x.name == name)) ∧ Below w.heap.size w w' := by
  rw [← toList_beq2]
  obtain ⟨N, ps⟩ := x
  dsimp only
  go_enter Try.func78, Try.ntmps78
  go_wp2
  go_ret
  exact ⟨rfl, (Below.refl _ _).alloc (Nat.le_refl _) _⟩

def TgtV (n₀ : Nat) (W : World) (r : Value) : Option Tgt → Prop
  | none => r = .tuple #[.agg #[.int .i64 0, .int .i64 0, .int .i64 0, .slice none 0 0], .bool false]
  | some t => ∃ ve, r = .tuple #[.agg #[.int .i64 t.major, .int .i64 t.minor, .int .i64 t.beg, ve], .bool true] ∧ RowOf 2 Exp.cell n₀ W ve t.exps

theorem tgt_cases (K : Ker) (l : List PV) (name : ByteArray) : ((name == kernelName) = true ∧ tgtOf K (l.map PV.plc) name = some ⟨K.major, K.minor, 0, K.exps⟩) ∨
    ((name == kernelName) = false ∧ (l.find? (fun x => x.mod.name == name) = none ∧ tgtOf K (l.map PV.plc) name = none ∨ ∃ x, l.find? (fun x => x.mod.name == name) = some x ∧ tgtOf K (l.map PV.plc) name = some ⟨x.mod.major, x.mod.minor, 4096 + x.first * 64, x.mod.exps⟩)) := by
  unfold tgtOf
  cases h : name == kernelName
  · refine .inr ⟨rfl, ?_⟩
    rw [if_neg (by decide), List.find?_map]
    have e : ((fun p : Plc => p.mod.name == name) ∘ PV.plc) = fun x : PV => x.mod.name == name := rfl
    rw [e]
    cases hf : l.find? (fun x => x.mod.name == name) with
    | none => exact .inl ⟨rfl, rfl⟩
    | some x => exact .inr ⟨x, rfl, rfl⟩
  · exact .inl ⟨rfl, by rw [if_pos rfl]⟩

set_option maxHeartbeats 2000000 in
theorem meant_any (K : Ker) (vk : Value) (l : List PV) (v : Value) (name : ByteArray) (w : World) (hK : IsKer w.heap.size w vk K) (hrow : IsPlcs w.heap.size w v l) (hfst : ∀ x ∈ l, 0 ≤ x.first ∧ x.first ≤ 15) :
    Calls Try.prog 76 #[vk, v, .string name] w fun e w' => (∃ r, e = .returned r ∧ TgtV w.heap.size w r (tgtOf K (l.map PV.plc) name)) ∧ Below w.heap.size w w' := by
  obtain ⟨vke, rfl, hE⟩ := hK
  have hE0 := hE
  obtain ⟨pe, ke, rfl, _, _⟩ := hE
  have HF : Hid (∀ W B, Below w.heap.size w W → B < W.heap.size → W.cell? ⟨B, 0, none⟩ = some (.string name) → Calls Try.prog 106 #[v, .func (.func 107) #[] #[.pointer (some ⟨B, 0, none⟩)]] W fun e w' => e = .returned (optPlc (l.find? fun x => x.mod.name == name)) ∧ Below W.heap.size W w') := by
    intro W B hb hlt hB
    exact firstPlc_any l v 107 (.pointer (some ⟨B, 0, none⟩)) (fun w x => enters_of Try.func107 (by kernel_rfl) rfl _ w) _ W ((hrow.below hb).more hb.size) (fun x _ W' hb' => isNamed_any B name x W' (Nat.lt_of_lt_of_le hlt hb'.size) ((hb'.cell (p := ⟨B, 0, none⟩) hlt).trans hB))
  have hat := hrow.2
  obtain ⟨⟨a, cap, rfl, _, _⟩, _⟩ := hrow
  rcases tgt_cases K l name with ⟨h1, h2⟩ | ⟨h1, ⟨h2, h3⟩ | ⟨x, h2, h3⟩⟩
  · rw [h2]
    rw [← kern_form] at h1
    obtain ⟨ma, mi, es⟩ := K
    dsimp only at *
    clear HF hat
    go_enter Try.func76, Try.ntmps76
    go_wp2
    (try simp only [Exit.inBlock, Exit.then])
    have hF : CellsAt (((w.alloc (.cells #[.int .i64 ma, .int .i64 mi, .slice pe es.length ke] 37)).alloc (.cells #[.string name] 9)).alloc (.cells #[.int .i64 ma, .int .i64 mi, .int .i64 0, .slice pe es.length ke] 114)) (w.heap.size + 1 + 1) 114 #[.int .i64 ma, .int .i64 mi, .int .i64 0, .slice pe es.length ke] := by
      have := CellsAt.new ((w.alloc (.cells #[.int .i64 ma, .int .i64 mi, .slice pe es.length ke] 37)).alloc (.cells #[.string name] 9)) 114 #[.int .i64 ma, .int .i64 mi, .int .i64 0, .slice pe es.length ke]
      rw [World.size_alloc, World.size_alloc] at this
      exact this
    refine bodyPost_ret (results_cell_tmp_row rfl _ _ _ _ _ _ _ rfl hF Try.underlying114 rfl (by kernel_rfl)) rfl ?_
    exact ⟨⟨_, rfl, _, rfl, hE0⟩, (((Below.refl _ _).alloc (Nat.le_refl _) _).alloc (by simp) _).alloc (by simp; omega) _⟩
  · rw [h3]
    rw [h2] at HF
    rw [← kern_form] at h1
    obtain ⟨ma, mi, es⟩ := K
    dsimp only [optPlc] at *
    clear hat
    have HN : Hid ((((w.alloc (.cells #[.int .i64 ma, .int .i64 mi, .slice pe es.length ke] 37)).alloc (.cells #[.string name] 9)).alloc (.cells #[.int .i64 0, .int .i64 0, .int .i64 0, .slice none 0 0] 114)).cell? ⟨w.heap.size + 1, 0, none⟩ = some (.string name)) := by
      have := (CellsAt.new (w.alloc (.cells #[.int .i64 ma, .int .i64 mi, .slice pe es.length ke] 37)) 9 #[.string name]).kept (World.grownBy_alloc _ (.cells #[.int .i64 0, .int .i64 0, .int .i64 0, .slice none 0 0] 114) none) (by simp)
      rw [World.size_alloc] at this
      exact this.cell 0
    have HC3 : Hid (CellsAt (((w.alloc (.cells #[.int .i64 ma, .int .i64 mi, .slice pe es.length ke] 37)).alloc (.cells #[.string name] 9)).alloc (.cells #[.int .i64 0, .int .i64 0, .int .i64 0, .slice none 0 0] 114)) (w.heap.size + 1 + 1) 114 #[.int .i64 0, .int .i64 0, .int .i64 0, .slice none 0 0]) := by
      have := CellsAt.new ((w.alloc (.cells #[.int .i64 ma, .int .i64 mi, .slice pe es.length ke] 37)).alloc (.cells #[.string name] 9)) 114 #[.int .i64 0, .int .i64 0, .int .i64 0, .slice none 0 0]
      rw [World.size_alloc, World.size_alloc] at this
      exact this
    have HB3 : Hid (Below w.heap.size w (((w.alloc (.cells #[.int .i64 ma, .int .i64 mi, .slice pe es.length ke] 37)).alloc (.cells #[.string name] 9)).alloc (.cells #[.int .i64 0, .int .i64 0, .int .i64 0, .slice none 0 0] 114))) := (((Below.refl _ _).alloc (Nat.le_refl _) _).alloc (by simp) _).alloc (by simp; omega) _
    go_enter Try.func76, Try.ntmps76
    go_wp2_with fail
    refine (HF.out _ _ (((Below.refl _ _).alloc (Nat.le_refl _) _).alloc (by simp) _ |>.alloc (by simp; omega) _) (by simp) HN.out).mono ?_
    rintro e w4 ⟨rfl, b4⟩
    have C4 := HC3.out.below b4 (by simp)
    have B4 := HB3.out.trans (b4.mono HB3.out.size)
    have hz4 := C4.lt
    have t0 := C4.cell 0
    have t1 := C4.cell 1
    have t2 := C4.cell 2
    have t3 := C4.cell 3
    have f0 := C4.frozen 0
    have f1 := C4.frozen 1
    have f2 := C4.frozen 2
    have f3 := C4.frozen 3
    simp at t0 t1 t2 t3
    clear b4 HF HC3 HB3 HN
    go_wp2
    (try simp only [Exit.inBlock, Exit.then])
    have hF : CellsAt (((((w4.setCell ⟨w.heap.size + 1 + 1, 0, none⟩ (.int .i64 0)).setCell ⟨w.heap.size + 1 + 1, 1, none⟩ (.int .i64 0)).setCell ⟨w.heap.size + 1 + 1, 2, none⟩ (.int .i64 0)).setCell ⟨w.heap.size + 1 + 1, 3, none⟩ (.slice none 0 0)).alloc (.cells #[.string ⟨#[]⟩, .int .i64 0, .int .i64 0, .string ⟨#[]⟩, .slice none 0 0, .slice none 0 0, .slice none 0 0, .int .i64 0] 56)) (w.heap.size + 1 + 1) 114 #[.int .i64 0, .int .i64 0, .int .i64 0, .slice none 0 0] := CellsAt.kept ((((C4.set 0 (.int .i64 0)).set 1 (.int .i64 0)).set 2 (.int .i64 0)).set 3 (.slice none 0 0)) (World.grownBy_alloc _ _ none) (by simp)
    refine bodyPost_ret (results_cell_tmp_row rfl _ _ _ _ _ _ _ rfl hF Try.underlying114 rfl (by kernel_rfl)) rfl ?_
    exact ⟨⟨_, rfl, rfl⟩, ((((B4.setCell (by simp; omega) _).setCell (by simp; omega) _).setCell (by simp; omega) _).setCell (by simp; omega) _).alloc (by simp; omega) _⟩
  · rw [h3]
    rw [h2] at HF
    rw [← kern_form] at h1
    have hx := List.mem_of_find?_eq_some h2
    obtain ⟨g0, g1⟩ := hfst x hx
    have hE1 := (hat x hx).1
    obtain ⟨⟨qe, je, e4, _⟩, ⟨qi, ji, e5, _⟩, ⟨qp, jp, e6, _⟩⟩ := hat x hx
    obtain ⟨⟨N, xa, xi, T, xs, is, ps⟩, ve, vi, vp, fi⟩ := x
    obtain ⟨ma, mi, es⟩ := K
    dsimp only [optPlc, PV.val] at *
    subst e4 e5 e6
    clear hat h2 h3 hx
    generalize is.length = li at *
    generalize ps.length = lp at *
    have HN : Hid ((((w.alloc (.cells #[.int .i64 ma, .int .i64 mi, .slice pe es.length ke] 37)).alloc (.cells #[.string name] 9)).alloc (.cells #[.int .i64 0, .int .i64 0, .int .i64 0, .slice none 0 0] 114)).cell? ⟨w.heap.size + 1, 0, none⟩ = some (.string name)) := by
      have := (CellsAt.new (w.alloc (.cells #[.int .i64 ma, .int .i64 mi, .slice pe es.length ke] 37)) 9 #[.string name]).kept (World.grownBy_alloc _ (.cells #[.int .i64 0, .int .i64 0, .int .i64 0, .slice none 0 0] 114) none) (by simp)
      rw [World.size_alloc] at this
      exact this.cell 0
    have HC3 : Hid (CellsAt (((w.alloc (.cells #[.int .i64 ma, .int .i64 mi, .slice pe es.length ke] 37)).alloc (.cells #[.string name] 9)).alloc (.cells #[.int .i64 0, .int .i64 0, .int .i64 0, .slice none 0 0] 114)) (w.heap.size + 1 + 1) 114 #[.int .i64 0, .int .i64 0, .int .i64 0, .slice none 0 0]) := by
      have := CellsAt.new ((w.alloc (.cells #[.int .i64 ma, .int .i64 mi, .slice pe es.length ke] 37)).alloc (.cells #[.string name] 9)) 114 #[.int .i64 0, .int .i64 0, .int .i64 0, .slice none 0 0]
      rw [World.size_alloc, World.size_alloc] at this
      exact this
    have HB3 : Hid (Below w.heap.size w (((w.alloc (.cells #[.int .i64 ma, .int .i64 mi, .slice pe es.length ke] 37)).alloc (.cells #[.string name] 9)).alloc (.cells #[.int .i64 0, .int .i64 0, .int .i64 0, .slice none 0 0] 114))) := (((Below.refl _ _).alloc (Nat.le_refl _) _).alloc (by simp) _).alloc (by simp; omega) _
    go_enter Try.func76, Try.ntmps76
    go_wp2_with fail
    refine (HF.out _ _ (((Below.refl _ _).alloc (Nat.le_refl _) _).alloc (by simp) _ |>.alloc (by simp; omega) _) (by simp) HN.out).mono ?_
    rintro e w4 ⟨rfl, b4⟩
    have C4 := HC3.out.below b4 (by simp)
    have B4 := HB3.out.trans (b4.mono HB3.out.size)
    have hz4 := C4.lt
    have t0 := C4.cell 0
    have t1 := C4.cell 1
    have t2 := C4.cell 2
    have t3 := C4.cell 3
    have f0 := C4.frozen 0
    have f1 := C4.frozen 1
    have f2 := C4.frozen 2
    have f3 := C4.frozen 3
    simp at t0 t1 t2 t3
    clear b4 HF HC3 HB3 HN t0 t1 t2 t3 f0 f1 f2 f3
    go_wp2_with fail
    refine wp_region_noPanic ?_
    refine wp_region_L (S := fun w' => w'.cell? ⟨w4.heap.size, 1, none⟩ = some (.int .i64 xa) ∧ w'.cell? ⟨w4.heap.size, 2, none⟩ = some (.int .i64 xi) ∧ w'.cell? ⟨w4.heap.size, 7, none⟩ = some (.int .i64 fi) ∧ w'.cell? ⟨w4.heap.size, 4, none⟩ = some (.slice qe xs.length je)) (x := 14) (by kernel_rfl) ?_
    have C5' : CellsAt (w4.alloc (.cells #[.string N, .int .i64 xa, .int .i64 xi, .string T, .slice qe xs.length je, .slice qi li ji, .slice qp lp jp, .int .i64 fi] 56)) (w.heap.size + 1 + 1) 114 #[.int .i64 0, .int .i64 0, .int .i64 0, .slice none 0 0] := C4.kept (World.grownBy_alloc w4 (.cells #[.string N, .int .i64 xa, .int .i64 xi, .string T, .slice qe xs.length je, .slice qi li ji, .slice qp lp jp, .int .i64 fi] 56) none) (by simp)
    have C5 : CellsAt (w4.alloc (.cells #[.string N, .int .i64 xa, .int .i64 xi, .string T, .slice qe xs.length je, .slice qi li ji, .slice qp lp jp, .int .i64 fi] 56)).drew (w.heap.size + 1 + 1) 114 #[.int .i64 0, .int .i64 0, .int .i64 0, .slice none 0 0] := C5'
    clear C5'
    have P5 : CellsAt (w4.alloc (.cells #[.string N, .int .i64 xa, .int .i64 xi, .string T, .slice qe xs.length je, .slice qi li ji, .slice qp lp jp, .int .i64 fi] 56)).drew w4.heap.size 56 #[.string N, .int .i64 xa, .int .i64 xi, .string T, .slice qe xs.length je, .slice qi li ji, .slice qp lp jp, .int .i64 fi] := CellsAt.new w4 56 #[.string N, .int .i64 xa, .int .i64 xi, .string T, .slice qe xs.length je, .slice qi li ji, .slice qp lp jp, .int .i64 fi]
    have B5 : Below w.heap.size w (w4.alloc (.cells #[.string N, .int .i64 xa, .int .i64 xi, .string T, .slice qe xs.length je, .slice qi li ji, .slice qp lp jp, .int .i64 fi] 56)).drew := (B4.alloc B4.size _).drew
    have s5 : w4.heap.size < (w4.alloc (.cells #[.string N, .int .i64 xa, .int .i64 xi, .string T, .slice qe xs.length je, .slice qi li ji, .slice qp lp jp, .int .i64 fi] 56)).drew.heap.size := P5.lt
    generalize (w4.alloc (.cells #[.string N, .int .i64 xa, .int .i64 xi, .string T, .slice qe xs.length je, .slice qi li ji, .slice qp lp jp, .int .i64 fi] 56)).drew = w5 at C5 P5 B5 s5 ⊢
    have hS0 : w5.cell? ⟨w4.heap.size, 1, none⟩ = some (.int .i64 xa) ∧ w5.cell? ⟨w4.heap.size, 2, none⟩ = some (.int .i64 xi) ∧ w5.cell? ⟨w4.heap.size, 7, none⟩ = some (.int .i64 fi) ∧ w5.cell? ⟨w4.heap.size, 4, none⟩ = some (.slice qe xs.length je) := ⟨P5.cell 1, P5.cell 2, P5.cell 7, P5.cell 4⟩
    refine wpL_take 0 28 (.pointer (some ⟨w4.heap.size, 0, none⟩)) rfl (by kernel_rfl) (fun _ _ _ h => h) hS0 rfl rfl (fun w' hSw => by (try dsimp only at hSw); go_simp) ?_
    simp only [List.setIfInBounds_toArray, List.set_cons_zero, List.set_cons_succ]
    refine wpL_take 1 29 (.pointer (some ⟨w4.heap.size, 1, none⟩)) rfl (by kernel_rfl) (fun _ _ _ h => h) hS0 rfl rfl (fun w' hSw => by (try dsimp only at hSw); go_simp) ?_
    simp only [List.setIfInBounds_toArray, List.set_cons_zero, List.set_cons_succ]
    refine wpL_take 2 30 (.int .i64 xa) rfl (by kernel_rfl) (fun _ _ _ h => h) hS0 rfl rfl (fun w' hSw => by (try dsimp only at hSw); go_simp) ?_
    simp only [List.setIfInBounds_toArray, List.set_cons_zero, List.set_cons_succ]
    refine wpL_take 3 31 (.pointer (some ⟨w4.heap.size, 0, none⟩)) rfl (by kernel_rfl) (fun _ _ _ h => h) hS0 rfl rfl (fun w' hSw => by (try dsimp only at hSw); go_simp) ?_
    simp only [List.setIfInBounds_toArray, List.set_cons_zero, List.set_cons_succ]
    refine wpL_take 4 32 (.pointer (some ⟨w4.heap.size, 2, none⟩)) rfl (by kernel_rfl) (fun _ _ _ h => h) hS0 rfl rfl (fun w' hSw => by (try dsimp only at hSw); go_simp) ?_
    simp only [List.setIfInBounds_toArray, List.set_cons_zero, List.set_cons_succ]
    refine wpL_take 5 33 (.int .i64 xi) rfl (by kernel_rfl) (fun _ _ _ h => h) hS0 rfl rfl (fun w' hSw => by (try dsimp only at hSw); go_simp) ?_
    simp only [List.setIfInBounds_toArray, List.set_cons_zero, List.set_cons_succ]
    refine wpL_take 6 34 (.pointer (some ⟨w4.heap.size, 7, none⟩)) rfl (by kernel_rfl) (fun _ _ _ h => h) hS0 rfl rfl (fun w' hSw => by (try dsimp only at hSw); go_simp) ?_
    simp only [List.setIfInBounds_toArray, List.set_cons_zero, List.set_cons_succ]
    refine wpL_take 7 35 (.int .i64 fi) rfl (by kernel_rfl) (fun _ _ _ h => h) hS0 rfl rfl (fun w' hSw => by (try dsimp only at hSw); go_simp) ?_
    simp only [List.setIfInBounds_toArray, List.set_cons_zero, List.set_cons_succ]
    refine wpL_take 9 37 (.pointer (some ⟨w4.heap.size, 0, none⟩)) rfl (by kernel_rfl) (fun _ _ _ h => h) hS0 rfl rfl (fun w' hSw => by (try dsimp only at hSw); go_simp) ?_
    simp only [List.setIfInBounds_toArray, List.set_cons_zero, List.set_cons_succ]
    refine wpL_take 10 38 (.pointer (some ⟨w4.heap.size, 4, none⟩)) rfl (by kernel_rfl) (fun _ _ _ h => h) hS0 rfl rfl (fun w' hSw => by (try dsimp only at hSw); go_simp) ?_
    simp only [List.setIfInBounds_toArray, List.set_cons_zero, List.set_cons_succ]
    refine wpL_take 11 39 (.slice qe xs.length je) rfl (by kernel_rfl) (fun _ _ _ h => h) hS0 rfl rfl (fun w' hSw => by (try dsimp only at hSw); go_simp) ?_
    simp only [List.setIfInBounds_toArray, List.set_cons_zero, List.set_cons_succ]
    refine wpL_step (i := 8) rfl (by kernel_rfl) (fun K hK => ?_)
    go_simp
    refine (addr_any fi w5 g0 g1).mono ?_
    rintro e w6 ⟨rfl, rfl⟩
    go_simp
    refine hK.out _ _ hS0 (fun _ => ?_)
    clear hK K
    refine wpL_take 12 40 (.agg #[.int .i64 xa, .int .i64 xi, .int .i64 (4096 + fi * 64), .slice qe xs.length je]) rfl (by kernel_rfl) (fun _ _ _ h => h) hS0 rfl rfl (fun w' hSw => by (try dsimp only at hSw); go_simp) ?_
    simp only [List.setIfInBounds_toArray, List.set_cons_zero, List.set_cons_succ]
    have t0 := C5.cell 0
    have t1 := C5.cell 1
    have t2 := C5.cell 2
    have t3 := C5.cell 3
    have f0 := C5.frozen 0
    have f1 := C5.frozen 1
    have f2 := C5.frozen 2
    have f3 := C5.frozen 3
    simp at t0 t1 t2 t3
    refine wpL_step (i := 13) rfl (by kernel_rfl) (fun K hK => ?_)
    go_simp
    have hne : some w4.heap.size ≠ some (w.heap.size + 1 + 1) := fun e => by
      injection e with e
      omega
    have P6 := (((P5.kept (grown_set w6 (w.heap.size + 1 + 1) 0 (.int .i64 xa)) hne).kept (grown_set _ (w.heap.size + 1 + 1) 1 (.int .i64 xi)) hne).kept (grown_set _ (w.heap.size + 1 + 1) 2 (.int .i64 (4096 + fi * 64))) hne).kept (grown_set _ (w.heap.size + 1 + 1) 3 (.slice qe xs.length je)) hne
    have C6 := (((C5.set 0 (.int .i64 xa)).set 1 (.int .i64 xi)).set 2 (.int .i64 (4096 + fi * 64))).set 3 (.slice qe xs.length je)
    have B6 : Below w.heap.size w ((((w6.setCell ⟨w.heap.size + 1 + 1, 0, none⟩ (.int .i64 xa)).setCell ⟨w.heap.size + 1 + 1, 1, none⟩ (.int .i64 xi)).setCell ⟨w.heap.size + 1 + 1, 2, none⟩ (.int .i64 (4096 + fi * 64))).setCell ⟨w.heap.size + 1 + 1, 3, none⟩ (.slice qe xs.length je)) := (((B5.setCell (by simp; omega) _).setCell (by simp; omega) _).setCell (by simp; omega) _).setCell (by simp; omega) _
    refine hK.out _ _ ⟨P6.cell 1, P6.cell 2, P6.cell 7, P6.cell 4⟩ (fun _ => ?_)
    clear hK K hS0 t0 t1 t2 t3 f0 f1 f2 f3
    generalize (((w6.setCell ⟨w.heap.size + 1 + 1, 0, none⟩ (.int .i64 xa)).setCell ⟨w.heap.size + 1 + 1, 1, none⟩ (.int .i64 xi)).setCell ⟨w.heap.size + 1 + 1, 2, none⟩ (.int .i64 (4096 + fi * 64))).setCell ⟨w.heap.size + 1 + 1, 3, none⟩ (.slice qe xs.length je) = w7 at C6 B6 ⊢
    refine wpL_last (x := 14) rfl (by kernel_rfl) (by kernel_rfl) (fun K hK => ?_)
    go_simp
    refine hK.out _ _ ?_
    refine NoPanic.normal ?_
    clear hK K
    go_wp2
    (try simp only [Exit.inBlock, Exit.then])
    have hF : CellsAt w7 (w.heap.size + 1 + 1) 114 #[.int .i64 xa, .int .i64 xi, .int .i64 (4096 + fi * 64), .slice qe xs.length je] := C6
    refine bodyPost_ret (results_cell_tmp_row rfl _ _ _ _ _ _ _ rfl hF Try.underlying114 rfl (by kernel_rfl)) rfl ?_
    exact ⟨⟨_, rfl, _, rfl, hE1⟩, B6⟩

end Go.Proofs.Ytaklbnabgcglhab
