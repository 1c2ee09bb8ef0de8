/- Texts that are laid together. -/
import Derived.Test.YthmohjgdcjafkaeGreatMrgD
import Derived.Test.YthmohjgdcjafkaeGreatMrgE
import Derived.Laws.EntriesVeiled

/- The contracts of slices.IndexFunc and first, at exports and at placed modules. -/
namespace Go.Proofs.YthmohjgdcjafkaeGreat
open Go.RowKit Go.PlainAid

set_option maxRecDepth 100000

set_option maxHeartbeats 1000000 in
theorem idxExp_any (l : List Exp) (v : Value) (K : FuncId) (c : Value) (hK : ∀ w x, Sem.run Tryz.prog (callFunc K #[x, c]) w = .ok (.enter K #[x, c]) w) (p : Exp → Bool) (w : World) (hrow : RowOf 2 Exp.cell w.heap.size w v l)
    (hp : ∀ x ∈ l, ∀ W, Below w.heap.size w W → Calls Tryz.prog K #[.agg #[.string x.name, .int .i64 x.pos], c] W fun e W' => e = .returned (.bool (p x)) ∧ Below W.heap.size W W') :
    Calls Tryz.prog 205 #[v, .func (.func K) #[] #[c]] w fun e w' => e = .returned (.int .i64 (idxFrom p 0 l)) ∧ Below w.heap.size w w' := by
  obtain ⟨a, cap, rfl, _, hrow⟩ := hrow
  go_enter Tryz.func205, Tryz.ntmps205
  go_wp2
  go_loopw [8] (fun i wr => ∃ (k : Nat), k ≤ l.length ∧ i = .int .i64 k ∧ Hid (idxFrom p 0 l = idxFrom p k (l.drop k)) ∧ Below w.heap.size w wr) (fun i _ => l.length - (intOf i).toNat)
  case atStart => exact ⟨0, Nat.zero_le _, rfl, by show idxFrom p 0 l = idxFrom p 0 (l.drop 0); rfl, Below.refl _ _⟩
  case round =>
    obtain ⟨k, hk, rfl, HC, B⟩ := hrel
    by_cases hlt : k < l.length
    · obtain ⟨x, hx⟩ : ∃ x, l[k]? = some x := ⟨_, List.getElem?_eq_getElem hlt⟩
      rcases hrow with h | ⟨b, off, rfl, hbn, hcells⟩
      · subst h; simp at hlt
      have HP := hp x (List.mem_of_getElem? hx)
      obtain ⟨nm, ps⟩ := x
      have c0 := (B.cell (p := ⟨b, off + k * 2 + 0, none⟩) hbn).trans (hcells k _ hx 0 (by omega))
      have c1 := (B.cell (p := ⟨b, off + k * 2 + 1, none⟩) hbn).trans (hcells k _ hx 1 (by omega))
      dsimp only [Exp.cell] at c0 c1
      rw [Nat.add_zero] at c0
      have HR : Hid (idxFrom p 0 l = if p ⟨nm, ps⟩ then (k : Int) else idxFrom p (k + 1) (l.drop (k + 1))) := by
        show idxFrom p 0 l = _
        rw [HC.out, drop_at hx]; rfl
      have HP' : Hid (∀ W, Below w.heap.size w W → Calls Tryz.prog K #[.agg #[.string nm, .int .i64 ps], c] W fun e W' => e = .returned (.bool (p ⟨nm, ps⟩)) ∧ Below W.heap.size W W') := HP
      clear HC hcells hx HP
      generalize p ⟨nm, ps⟩ = t at HR HP'
      go_wp2_with fail
      refine Calls.mono (HP'.out _ B) ?_
      rintro e w2 ⟨rfl, b2⟩
      have B2 := B.trans (b2.mono B.size)
      clear b2 HP' c0 c1
      cases t
      · go_wp2
        exact ⟨⟨k + 1, by omega, by go_num, HR.out, B2⟩, by simp [intOf]; omega⟩
      · go_wp2
        go_ret
        exact ⟨by rw [HR.out]; rfl, B2⟩
    · obtain rfl : k = l.length := by omega
      have HZ : Hid (idxFrom p 0 l = -1) := by
        show idxFrom p 0 l = -1
        rw [HC.out, List.drop_length]; rfl
      go_wp2
      go_ret
      exact ⟨by rw [HZ.out]; rfl, B⟩

set_option maxHeartbeats 1000000 in
theorem idxPlc_any (l : List PV) (v : Value) (K : FuncId) (c : Value) (hK : ∀ w x, Sem.run Tryz.prog (callFunc K #[x, c]) w = .ok (.enter K #[x, c]) w) (p : PV → Bool) (w : World) (hrow : RowOf 8 PV.cell w.heap.size w v l)
    (hp : ∀ x ∈ l, ∀ W, Below w.heap.size w W → Calls Tryz.prog K #[x.val, c] W fun e W' => e = .returned (.bool (p x)) ∧ Below W.heap.size W W') :
    Calls Tryz.prog 71 #[v, .func (.func K) #[] #[c]] w fun e w' => e = .returned (.int .i64 (idxFrom p 0 l)) ∧ Below w.heap.size w w' := by
  obtain ⟨a, cap, rfl, _, hrow⟩ := hrow
  go_enter Tryz.func71, Tryz.ntmps71
  go_wp2
  go_loopw [8] (fun i wr => ∃ (k : Nat), k ≤ l.length ∧ i = .int .i64 k ∧ Hid (idxFrom p 0 l = idxFrom p k (l.drop k)) ∧ Below w.heap.size w wr) (fun i _ => l.length - (intOf i).toNat)
  case atStart => exact ⟨0, Nat.zero_le _, rfl, by show idxFrom p 0 l = idxFrom p 0 (l.drop 0); rfl, Below.refl _ _⟩
  case round =>
    obtain ⟨k, hk, rfl, HC, B⟩ := hrel
    by_cases hlt : k < l.length
    · obtain ⟨x, hx⟩ : ∃ x, l[k]? = some x := ⟨_, List.getElem?_eq_getElem hlt⟩
      rcases hrow with h | ⟨b, off, rfl, hbn, hcells⟩
      · subst h; simp at hlt
      have c0 := (B.cell (p := ⟨b, off + k * 8 + 0, none⟩) hbn).trans (hcells k _ hx 0 (by omega))
      have c1 := (B.cell (p := ⟨b, off + k * 8 + 1, none⟩) hbn).trans (hcells k _ hx 1 (by omega))
      have c2 := (B.cell (p := ⟨b, off + k * 8 + 2, none⟩) hbn).trans (hcells k _ hx 2 (by omega))
      have c3 := (B.cell (p := ⟨b, off + k * 8 + 3, none⟩) hbn).trans (hcells k _ hx 3 (by omega))
      have c4 := (B.cell (p := ⟨b, off + k * 8 + 4, none⟩) hbn).trans (hcells k _ hx 4 (by omega))
      have c5 := (B.cell (p := ⟨b, off + k * 8 + 5, none⟩) hbn).trans (hcells k _ hx 5 (by omega))
      have c6 := (B.cell (p := ⟨b, off + k * 8 + 6, none⟩) hbn).trans (hcells k _ hx 6 (by omega))
      have c7 := (B.cell (p := ⟨b, off + k * 8 + 7, none⟩) hbn).trans (hcells k _ hx 7 (by omega))
      dsimp only [PV.cell] at c0 c1 c2 c3 c4 c5 c6 c7
      rw [Nat.add_zero] at c0
      have HR : Hid (idxFrom p 0 l = if p x then (k : Int) else idxFrom p (k + 1) (l.drop (k + 1))) := by
        show idxFrom p 0 l = _
        rw [HC.out, drop_at hx]; rfl
      have HP' : Hid (∀ W, Below w.heap.size w W → Calls Tryz.prog K #[.agg #[.string x.mod.name, .int .i64 x.mod.major, .int .i64 x.mod.minor, .string x.mod.text, x.ve, x.vi, x.vp, .int .i64 x.first], c] W fun e W' => e = .returned (.bool (p x)) ∧ Below W.heap.size W W') := hp x (List.mem_of_getElem? hx)
      clear HC hcells hx
      generalize p x = t at HR HP'
      go_wp2_with fail
      refine Calls.mono (HP'.out _ B) ?_
      rintro e w2 ⟨rfl, b2⟩
      have B2 := B.trans (b2.mono B.size)
      clear b2 HP' c0 c1 c2 c3 c4 c5 c6 c7
      cases t
      · go_wp2
        exact ⟨⟨k + 1, by omega, by go_num, HR.out, B2⟩, by simp [intOf]; omega⟩
      · go_wp2
        go_ret
        exact ⟨by rw [HR.out]; rfl, B2⟩
    · obtain rfl : k = l.length := by omega
      have HZ : Hid (idxFrom p 0 l = -1) := by
        show idxFrom p 0 l = -1
        rw [HC.out, List.drop_length]; rfl
      go_wp2
      go_ret
      exact ⟨by rw [HZ.out]; rfl, B⟩

theorem idx_find {α : Type} (p : α → Bool) : ∀ (l : List α) (k : Nat), (l.find? p = none ∧ idxFrom p k l = -1) ∨ ∃ j x, l.find? p = some x ∧ l[j]? = some x ∧ idxFrom p k l = ((k + j : Nat) : Int)
  | [], _ => .inl ⟨rfl, rfl⟩
  | y :: l, k => by
    unfold idxFrom
    cases hy : p y
    · rcases idx_find p l (k + 1) with ⟨h1, h2⟩ | ⟨j, x, h1, h2, h3⟩
      · exact .inl ⟨by rw [List.find?_cons, hy]; exact h1, by simpa using h2⟩
      · refine .inr ⟨j + 1, x, by rw [List.find?_cons, hy]; exact h1, by simpa using h2, ?_⟩
        rw [if_neg (by decide), h3]
        congr 1; omega
    · exact .inr ⟨0, y, by rw [List.find?_cons, hy], rfl, by simp⟩

/-- first: an export, or none. -/
def optExp : Option Exp → Value
  | none => .tuple #[.agg #[.string ⟨#[]⟩, .int .i64 0], .bool false]
  | some x => .tuple #[.agg #[.string x.name, .int .i64 x.pos], .bool true]
def optPlc : Option PV → Value
  | none => .tuple #[.agg #[.string ⟨#[]⟩, .int .i64 0, .int .i64 0, .string ⟨#[]⟩, .slice none 0 0, .slice none 0 0, .slice none 0 0, .int .i64 0], .bool false]
  | some x => .tuple #[x.val, .bool true]

end Go.Proofs.YthmohjgdcjafkaeGreat

/- The contracts of resolve.first. -/
namespace Go.Proofs.YthmohjgdcjafkaeGreat
open Go.RowKit Go.PlainAid

set_option maxRecDepth 100000

set_option maxHeartbeats 1000000 in
theorem firstExp_any (l : List Exp) (v : Value) (K : FuncId) (c : Value) (hK : ∀ w x, Sem.run Tryz.prog (callFunc K #[x, c]) w = .ok (.enter K #[x, c]) w) (p : Exp → Bool) (w : World) (hrow : RowOf 2 Exp.cell w.heap.size w v l)
    (hp : ∀ x ∈ l, ∀ W, Below w.heap.size w W → Calls Tryz.prog K #[.agg #[.string x.name, .int .i64 x.pos], c] W fun e W' => e = .returned (.bool (p x)) ∧ Below W.heap.size W W') :
    Calls Tryz.prog 180 #[v, .func (.func K) #[] #[c]] w fun e w' => e = .returned (optExp (l.find? p)) ∧ Below w.heap.size w w' := by
  have HI : Hid (∀ W, Below w.heap.size w W → Calls Tryz.prog 205 #[v, .func (.func K) #[] #[c]] W fun e w' => e = .returned (.int .i64 (idxFrom p 0 l)) ∧ Below W.heap.size W w') := by
    intro W hb
    exact idxExp_any l v K c hK p W ((hrow.below hb).more hb.size) (fun x hx W' hb' => hp x hx W' (hb.trans (hb'.mono hb.size)))
  obtain ⟨a, cap, rfl, _, hrow⟩ := hrow
  rcases idx_find p l 0 with ⟨h1, h2⟩ | ⟨j, x, h1, h2, h3⟩
  · rw [h1]
    rw [h2] at HI
    go_enter Tryz.func180, Tryz.ntmps180
    go_wp2_with fail
    refine (HI.out _ ((Below.refl _ _).alloc (Nat.le_refl _) _)).mono ?_
    rintro e w1 ⟨rfl, b1⟩
    have C1 := (CellsAt.new w 128 #[.string ⟨#[]⟩, .int .i64 0]).below b1 (by simp)
    have B1 : Below w.heap.size w w1 := ((Below.refl _ _).alloc (Nat.le_refl _) _).trans (b1.mono (by simp))
    have hz1 := C1.lt
    have t0 := C1.cell 0
    have t1 := C1.cell 1
    have t2 := C1.frozen 0
    have t3 := C1.frozen 1
    simp at t0 t1
    clear b1 HI hK hp
    go_wp2
    (try simp only [Exit.inBlock, Exit.then])
    have hF : CellsAt (((w1.setCell ⟨w.heap.size, 0, none⟩ (.string ⟨#[]⟩)).setCell ⟨w.heap.size, 1, none⟩ (.int .i64 0)).alloc (.cells #[.string ⟨#[]⟩, .int .i64 0] 128)) w.heap.size 128 #[.string ⟨#[]⟩, .int .i64 0] := ((C1.set 0 (.string ⟨#[]⟩)).set 1 (.int .i64 0)).kept (World.grownBy_alloc _ _ none) (by simp)
    refine bodyPost_ret (results_cell_tmp_row rfl _ _ _ _ _ _ _ rfl hF Tryz.underlying128 rfl (by kernel_rfl)) rfl ?_
    exact ⟨rfl, ((B1.setCell (Nat.le_refl _) _).setCell (Nat.le_refl _) _).alloc (by simp; omega) _⟩
  · rw [h1]
    rw [h3] at HI
    rcases hrow with h | ⟨b, off, rfl, hbn, hcells⟩
    · subst h; simp at h2
    have hj : j < l.length := (List.getElem?_eq_some_iff.1 h2).1
    rw [Nat.zero_add] at HI
    obtain ⟨nm, ps⟩ := x
    have d0 := hcells j _ h2 0 (by omega)
    have d1 := hcells j _ h2 1 (by omega)
    dsimp only [Exp.cell] at d0 d1
    rw [Nat.add_zero] at d0
    clear hcells h1 h2 h3
    go_enter Tryz.func180, Tryz.ntmps180
    go_wp2_with fail
    refine (HI.out _ ((Below.refl _ _).alloc (Nat.le_refl _) _)).mono ?_
    rintro e w1 ⟨rfl, b1⟩
    have C1 := (CellsAt.new w 128 #[.string ⟨#[]⟩, .int .i64 0]).below b1 (by simp)
    have B1 : Below w.heap.size w w1 := ((Below.refl _ _).alloc (Nat.le_refl _) _).trans (b1.mono (by simp))
    have hz1 := C1.lt
    have t0 := C1.cell 0
    have t1 := C1.cell 1
    have t2 := C1.frozen 0
    have t3 := C1.frozen 1
    simp at t0 t1
    have e0 := (B1.cell (p := ⟨b, off + j * 2, none⟩) hbn).trans d0
    have e1 := (B1.cell (p := ⟨b, off + j * 2 + 1, none⟩) hbn).trans d1
    clear b1 HI hK hp d0 d1
    go_wp2
    (try simp only [Exit.inBlock, Exit.then])
    have hF : CellsAt ((w1.setCell ⟨w.heap.size, 0, none⟩ (.string nm)).setCell ⟨w.heap.size, 1, none⟩ (.int .i64 ps)) w.heap.size 128 #[.string nm, .int .i64 ps] := (C1.set 0 (.string nm)).set 1 (.int .i64 ps)
    refine bodyPost_ret (results_cell_tmp_row rfl _ _ _ _ _ _ _ rfl hF Tryz.underlying128 rfl (by kernel_rfl)) rfl ?_
    exact ⟨rfl, (B1.setCell (Nat.le_refl _) _).setCell (Nat.le_refl _) _⟩

set_option maxHeartbeats 2000000 in
theorem firstPlc_any (l : List PV) (v : Value) (K : FuncId) (c : Value) (hK : ∀ w x, Sem.run Tryz.prog (callFunc K #[x, c]) w = .ok (.enter K #[x, c]) w) (p : PV → Bool) (w : World) (hrow : IsPlcs w.heap.size w v l)
    (hp : ∀ x ∈ l, ∀ W, Below w.heap.size w W → Calls Tryz.prog K #[x.val, c] W fun e W' => e = .returned (.bool (p x)) ∧ Below W.heap.size W W') :
    Calls Tryz.prog 203 #[v, .func (.func K) #[] #[c]] w fun e w' => e = .returned (optPlc (l.find? p)) ∧ Below w.heap.size w w' := by
  have HI : Hid (∀ W, Below w.heap.size w W → Calls Tryz.prog 71 #[v, .func (.func K) #[] #[c]] W fun e w' => e = .returned (.int .i64 (idxFrom p 0 l)) ∧ Below W.heap.size W w') := by
    intro W hb
    exact idxPlc_any l v K c hK p W ((hrow.1.below hb).more hb.size) (fun x hx W' hb' => hp x hx W' (hb.trans (hb'.mono hb.size)))
  obtain ⟨⟨a, cap, rfl, _, hrow⟩, hat⟩ := hrow
  rcases idx_find p l 0 with ⟨h1, h2⟩ | ⟨j, x, h1, h2, h3⟩
  · rw [h1]
    rw [h2] at HI
    go_enter Tryz.func203, Tryz.ntmps203
    go_wp2_with fail
    refine (HI.out _ ((Below.refl _ _).alloc (Nat.le_refl _) _)).mono ?_
    rintro e w1 ⟨rfl, b1⟩
    have C1 := (CellsAt.new w 54 #[.string ⟨#[]⟩, .int .i64 0, .int .i64 0, .string ⟨#[]⟩, .slice none 0 0, .slice none 0 0, .slice none 0 0, .int .i64 0]).below b1 (by simp)
    have B1 : Below w.heap.size w w1 := ((Below.refl _ _).alloc (Nat.le_refl _) _).trans (b1.mono (by simp))
    have hz1 := C1.lt
    have t0 := C1.cell 0
    have t1 := C1.cell 1
    have t2 := C1.cell 2
    have t3 := C1.cell 3
    have t4 := C1.cell 4
    have t5 := C1.cell 5
    have t6 := C1.cell 6
    have t7 := C1.cell 7
    have f0 := C1.frozen 0
    have f1 := C1.frozen 1
    have f2 := C1.frozen 2
    have f3 := C1.frozen 3
    have f4 := C1.frozen 4
    have f5 := C1.frozen 5
    have f6 := C1.frozen 6
    have f7 := C1.frozen 7
    simp at t0 t1 t2 t3 t4 t5 t6 t7
    clear b1 HI hK hp hat hrow
    go_wp2
    (try simp only [Exit.inBlock, Exit.then])
    have hF : CellsAt (((((((((w1.setCell ⟨w.heap.size, 0, none⟩ (.string ⟨#[]⟩)).setCell ⟨w.heap.size, 1, none⟩ (.int .i64 0)).setCell ⟨w.heap.size, 2, none⟩ (.int .i64 0)).setCell ⟨w.heap.size, 3, none⟩ (.string ⟨#[]⟩)).setCell ⟨w.heap.size, 4, none⟩ (.slice none 0 0)).setCell ⟨w.heap.size, 5, none⟩ (.slice none 0 0)).setCell ⟨w.heap.size, 6, none⟩ (.slice none 0 0)).setCell ⟨w.heap.size, 7, none⟩ (.int .i64 0)).alloc (.cells #[.string ⟨#[]⟩, .int .i64 0, .int .i64 0, .string ⟨#[]⟩, .slice none 0 0, .slice none 0 0, .slice none 0 0, .int .i64 0] 54)) w.heap.size 54 #[.string ⟨#[]⟩, .int .i64 0, .int .i64 0, .string ⟨#[]⟩, .slice none 0 0, .slice none 0 0, .slice none 0 0, .int .i64 0] := CellsAt.kept ((((((((C1.set 0 (.string ⟨#[]⟩)).set 1 (.int .i64 0)).set 2 (.int .i64 0)).set 3 (.string ⟨#[]⟩)).set 4 (.slice none 0 0)).set 5 (.slice none 0 0)).set 6 (.slice none 0 0)).set 7 (.int .i64 0)) (World.grownBy_alloc _ _ none) (by simp)
    refine bodyPost_ret (results_cell_tmp_row rfl _ _ _ _ _ _ _ rfl hF Tryz.underlying54 rfl (by kernel_rfl)) rfl ?_
    exact ⟨rfl, ((((((((B1.setCell (Nat.le_refl _) _).setCell (Nat.le_refl _) _).setCell (Nat.le_refl _) _).setCell (Nat.le_refl _) _).setCell (Nat.le_refl _) _).setCell (Nat.le_refl _) _).setCell (Nat.le_refl _) _).setCell (Nat.le_refl _) _).alloc (by simp; omega) _⟩
  · rw [h1]
    rw [h3] at HI
    rcases hrow with h | ⟨b, off, rfl, hbn, hcells⟩
    · subst h; simp at h2
    have hj : j < l.length := (List.getElem?_eq_some_iff.1 h2).1
    rw [Nat.zero_add] at HI
    obtain ⟨⟨pe, ke, e4, _⟩, ⟨pi, ki, e5, _⟩, ⟨pp, kp, e6, _⟩⟩ := hat x (List.mem_of_getElem? h2)
    obtain ⟨⟨N, ma, mi, T, es, is, ps⟩, ve, vi, vp, fi⟩ := x
    dsimp only at e4 e5 e6
    subst e4 e5 e6
    have d0 := hcells j _ h2 0 (by omega)
    have d1 := hcells j _ h2 1 (by omega)
    have d2 := hcells j _ h2 2 (by omega)
    have d3 := hcells j _ h2 3 (by omega)
    have d4 := hcells j _ h2 4 (by omega)
    have d5 := hcells j _ h2 5 (by omega)
    have d6 := hcells j _ h2 6 (by omega)
    have d7 := hcells j _ h2 7 (by omega)
    dsimp only [PV.cell] at d0 d1 d2 d3 d4 d5 d6 d7
    rw [Nat.add_zero] at d0
    clear hcells h1 h2 h3 hat
    go_enter Tryz.func203, Tryz.ntmps203
    go_wp2_with fail
    refine (HI.out _ ((Below.refl _ _).alloc (Nat.le_refl _) _)).mono ?_
    rintro e w1 ⟨rfl, b1⟩
    have C1 := (CellsAt.new w 54 #[.string ⟨#[]⟩, .int .i64 0, .int .i64 0, .string ⟨#[]⟩, .slice none 0 0, .slice none 0 0, .slice none 0 0, .int .i64 0]).below b1 (by simp)
    have B1 : Below w.heap.size w w1 := ((Below.refl _ _).alloc (Nat.le_refl _) _).trans (b1.mono (by simp))
    have hz1 := C1.lt
    have t0 := C1.cell 0
    have t1 := C1.cell 1
    have t2 := C1.cell 2
    have t3 := C1.cell 3
    have t4 := C1.cell 4
    have t5 := C1.cell 5
    have t6 := C1.cell 6
    have t7 := C1.cell 7
    have f0 := C1.frozen 0
    have f1 := C1.frozen 1
    have f2 := C1.frozen 2
    have f3 := C1.frozen 3
    have f4 := C1.frozen 4
    have f5 := C1.frozen 5
    have f6 := C1.frozen 6
    have f7 := C1.frozen 7
    simp at t0 t1 t2 t3 t4 t5 t6 t7
    have g0 := (B1.cell (p := ⟨b, off + j * 8, none⟩) hbn).trans d0
    have g1 := (B1.cell (p := ⟨b, off + j * 8 + 1, none⟩) hbn).trans d1
    have g2 := (B1.cell (p := ⟨b, off + j * 8 + 2, none⟩) hbn).trans d2
    have g3 := (B1.cell (p := ⟨b, off + j * 8 + 3, none⟩) hbn).trans d3
    have g4 := (B1.cell (p := ⟨b, off + j * 8 + 4, none⟩) hbn).trans d4
    have g5 := (B1.cell (p := ⟨b, off + j * 8 + 5, none⟩) hbn).trans d5
    have g6 := (B1.cell (p := ⟨b, off + j * 8 + 6, none⟩) hbn).trans d6
    have g7 := (B1.cell (p := ⟨b, off + j * 8 + 7, none⟩) hbn).trans d7
    clear b1 HI hK hp d0 d1 d2 d3 d4 d5 d6 d7
    go_wp2
    (try simp only [Exit.inBlock, Exit.then])
    have hF : CellsAt ((((((((w1.setCell ⟨w.heap.size, 0, none⟩ (.string N)).setCell ⟨w.heap.size, 1, none⟩ (.int .i64 ma)).setCell ⟨w.heap.size, 2, none⟩ (.int .i64 mi)).setCell ⟨w.heap.size, 3, none⟩ (.string T)).setCell ⟨w.heap.size, 4, none⟩ (.slice pe es.length ke)).setCell ⟨w.heap.size, 5, none⟩ (.slice pi is.length ki)).setCell ⟨w.heap.size, 6, none⟩ (.slice pp ps.length kp)).setCell ⟨w.heap.size, 7, none⟩ (.int .i64 fi)) w.heap.size 54 #[.string N, .int .i64 ma, .int .i64 mi, .string T, .slice pe es.length ke, .slice pi is.length ki, .slice pp ps.length kp, .int .i64 fi] := ((((((((C1.set 0 (.string N)).set 1 (.int .i64 ma)).set 2 (.int .i64 mi)).set 3 (.string T)).set 4 (.slice pe es.length ke)).set 5 (.slice pi is.length ki)).set 6 (.slice pp ps.length kp)).set 7 (.int .i64 fi))
    refine bodyPost_ret (results_cell_tmp_row rfl _ _ _ _ _ _ _ rfl hF Tryz.underlying54 rfl (by kernel_rfl)) rfl ?_
    exact ⟨rfl, ((((((((B1.setCell (Nat.le_refl _) _).setCell (Nat.le_refl _) _).setCell (Nat.le_refl _) _).setCell (Nat.le_refl _) _).setCell (Nat.le_refl _) _).setCell (Nat.le_refl _) _).setCell (Nat.le_refl _) _).setCell (Nat.le_refl _) _)⟩

end Go.Proofs.YthmohjgdcjafkaeGreat

/- Placed modules and the runs that they leave, as data. -/
namespace Go.Proofs.YthmohjgdcjafkaeGreat
open Go.RowKit Go.PlainAid

/-- What is wrong with placed modules, where each is held to its own and to one thing more. -/
def chkBy (q : Plc → Int) : List Plc → Int
  | [] => 0
  | p :: l => if chkMod p.mod ≠ 0 then chkMod p.mod else if q p ≠ 0 then q p else chkBy q l
theorem chkBy_step (q : Plc → Int) (p : Plc) (l : List Plc) : (chkMod p.mod ≠ 0 ∧ chkBy q (p :: l) = chkMod p.mod) ∨ (chkMod p.mod = 0 ∧ q p ≠ 0 ∧ chkBy q (p :: l) = q p) ∨ (chkMod p.mod = 0 ∧ q p = 0 ∧ chkBy q (p :: l) = chkBy q l) := by
  have hs : chkBy q (p :: l) = if chkMod p.mod ≠ 0 then chkMod p.mod else if q p ≠ 0 then q p else chkBy q l := rfl
  rw [hs]
  by_cases h : chkMod p.mod = 0
  · by_cases h2 : q p = 0
    · exact .inr (.inr ⟨h, h2, by rw [if_neg (by simpa using h), if_neg (by simpa using h2)]⟩)
    · exact .inr (.inl ⟨h, h2, by rw [if_neg (by simpa using h), if_pos h2]⟩)
  · exact .inl ⟨h, by rw [if_pos h]⟩
theorem chkBy_zero {q : Plc → Int} : ∀ {l : List Plc}, chkBy q l = 0 ↔ ∀ p ∈ l, chkMod p.mod = 0 ∧ q p = 0
  | [] => by simp [chkBy]
  | p :: l => by
    rcases chkBy_step q p l with ⟨h, e⟩ | ⟨h, h2, e⟩ | ⟨h, h2, e⟩
    · rw [e]
      exact ⟨fun h' => absurd h' h, fun h' => (h' p (by simp)).1⟩
    · rw [e]
      exact ⟨fun h' => absurd h' h2, fun h' => (h' p (by simp)).2⟩
    · rw [e, chkBy_zero]
      constructor
      · intro h' x hx
        rcases List.mem_cons.1 hx with rfl | hx
        · exact ⟨h, h2⟩
        · exact h' x hx
      · exact fun h' x hx => h' x (List.mem_cons_of_mem _ hx)
theorem chkBy_congr {q q' : Plc → Int} (h : ∀ p, q p = q' p) (l : List Plc) : chkBy q l = chkBy q' l := by
  rw [show q = q' from funext h]
def farErr (p : Plc) : Int := if betw p.first 0 15 = false then 3 else 0
theorem chkPls_by : ∀ l : List Plc, chkPls l = chkBy farErr l
  | [] => rfl
  | p :: l => by
    have h1 : chkPls (p :: l) = if chkMod p.mod ≠ 0 then chkMod p.mod else if betw p.first 0 15 = false then 3 else chkPls l := rfl
    have h2 : chkBy farErr (p :: l) = if chkMod p.mod ≠ 0 then chkMod p.mod else if (if betw p.first 0 15 = false then (3 : Int) else 0) ≠ 0 then (if betw p.first 0 15 = false then (3 : Int) else 0) else chkBy farErr l := rfl
    rw [h1, h2, chkPls_by l]
    generalize chkBy farErr l = x
    cases betw p.first 0 15
    · simp
    · simp

/-- How many sectors a module needs. -/
def szM (m : Mod) : Nat := (m.text.size + 63) / 64
theorem szM_bd {m : Mod} (h : chkMod m = 0) : 1 ≤ szM m ∧ szM m ≤ 4 ∧ m.text.size ≤ 256 ∧ 1 ≤ m.text.size := by
  have h1 := (chkMod_exps h).2.1
  have h2 : m.text.size ≠ 0 := by
    intro h0
    unfold chkMod at h
    split at h
    · omega
    split at h
    · omega
    split at h
    · omega
    split at h
    · omega
    · rename_i _ _ _ h4
      exact h4 (.inl h0)
  unfold szM
  omega
def outErr (p : Plc) : Int := if p.first < 0 ∨ 16 - (szM p.mod : Int) < p.first then 3 else 0
/-- Does each begin behind the one ahead? -/
def behind : Int → List Plc → Bool
  | _, [] => true
  | e, p :: l => !decide (p.first < e) && behind (p.first + szM p.mod) l
def chkReg (l : List Plc) : Int := if 8 < l.length then 2 else if chkBy outErr l ≠ 0 then chkBy outErr l else if behind 0 l = false then 4 else 0
def okPl : Int → List Plc → Prop
  | e, [] => e ≤ 16
  | e, p :: l => e ≤ p.first ∧ 1 ≤ szM p.mod ∧ p.first + szM p.mod ≤ 16 ∧ okPl (p.first + szM p.mod) l
theorem behind_ok : ∀ {l : List Plc} {e : Int}, e ≤ 16 → (∀ p ∈ l, 1 ≤ szM p.mod ∧ p.first + szM p.mod ≤ 16) → behind e l = true → okPl e l
  | [], _, he, _, _ => he
  | p :: l, e, he, h, hb => by
    unfold behind at hb
    simp at hb
    obtain ⟨h1, h2⟩ := h p (by simp)
    exact ⟨hb.1, h1, h2, behind_ok h2 (fun x hx => h x (List.mem_cons_of_mem _ hx)) hb.2⟩
theorem ok_behind : ∀ {l : List Plc} {e : Int}, okPl e l → behind e l = true
  | [], _, _ => rfl
  | p :: l, e, h => by
    obtain ⟨h1, _, _, h4⟩ := h
    unfold behind
    simp [ok_behind h4]
    omega
theorem okPl_first : ∀ {l : List Plc} {e : Int}, okPl e l → ∀ p ∈ l, e ≤ p.first ∧ 1 ≤ szM p.mod ∧ p.first + szM p.mod ≤ 16
  | [], _, _, p, hp => by simp at hp
  | x :: l, e, h, p, hp => by
    obtain ⟨h1, h2, h3, h4⟩ := h
    rcases List.mem_cons.1 hp with rfl | hp
    · exact ⟨h1, h2, h3⟩
    · have := okPl_first h4 p hp
      omega
theorem okPl_end : ∀ {l : List Plc} {e : Int}, okPl e l → e ≤ 16
  | [], _, h => h
  | p :: l, e, h => by
    have := okPl_end h.2.2.2
    have h1 := h.1
    omega
theorem chkReg_zero {l : List Plc} : chkReg l = 0 ↔ l.length ≤ 8 ∧ (∀ p ∈ l, chkMod p.mod = 0) ∧ okPl 0 l := by
  unfold chkReg
  constructor
  · intro h
    split at h
    · omega
    rename_i h8
    split at h
    · omega
    rename_i hb
    have hb : chkBy outErr l = 0 := by omega
    have hz := chkBy_zero.1 hb
    split at h
    · omega
    rename_i hh
    have hh : behind 0 l = true := by simpa using hh
    refine ⟨by omega, fun p hp => (hz p hp).1, behind_ok (by decide) ?_ hh⟩
    intro p hp
    obtain ⟨h1, h2⟩ := hz p hp
    have := szM_bd h1
    unfold outErr at h2
    split at h2
    · omega
    · omega
  · rintro ⟨h1, h2, h3⟩
    have hb : chkBy outErr l = 0 := chkBy_zero.2 fun p hp => ⟨h2 p hp, by
      have := okPl_first h3 p hp
      unfold outErr
      rw [if_neg (by omega)]⟩
    rw [if_neg (by omega), hb, if_neg (by simp), ok_behind h3]
    simp

/-- The runs that are left from a sector on. -/
def gapOf (a b : Int) : List (Int × Int) := if a = b then [] else [(a, b - a)]
def runsFrom : Int → List Plc → List (Int × Int)
  | e, [] => gapOf e 16
  | e, p :: l => gapOf e p.first ++ runsFrom (p.first + szM p.mod) l
def sumRuns (l : List (Int × Int)) : Int := (l.map Prod.snd).sum
def sumSz (l : List Plc) : Int := (l.map fun p => (szM p.mod : Int)).sum
theorem sum_gap (a b : Int) : sumRuns (gapOf a b) = b - a := by
  unfold gapOf sumRuns
  split <;> simp <;> omega
theorem sumRuns_append (a b : List (Int × Int)) : sumRuns (a ++ b) = sumRuns a + sumRuns b := by
  simp [sumRuns]
theorem sum_runs : ∀ (l : List Plc) (e : Int), sumRuns (runsFrom e l) + sumSz l = 16 - e
  | [], e => by simp [runsFrom, sum_gap, sumSz]
  | p :: l, e => by
    have := sum_runs l (p.first + szM p.mod)
    unfold runsFrom
    rw [sumRuns_append, sum_gap]
    simp [sumSz] at *
    omega
/-- Runs rise, and none begins where another one ends. -/
def rises : Int → List (Int × Int) → Prop
  | _, [] => True
  | e, r :: l => e ≤ r.1 ∧ 1 ≤ r.2 ∧ r.1 + r.2 ≤ 16 ∧ rises (r.1 + r.2 + 1) l
theorem rises_le : ∀ {l : List (Int × Int)} {e e' : Int}, e' ≤ e → rises e l → rises e' l
  | [], _, _, _, _ => trivial
  | r :: l, e, e', h, hr => ⟨by have := hr.1; omega, hr.2.1, hr.2.2.1, hr.2.2.2⟩
theorem runs_rise : ∀ {l : List Plc} {e : Int}, okPl e l → rises e (runsFrom e l)
  | [], e, h => by
    unfold runsFrom gapOf
    have h : e ≤ 16 := h
    split
    · trivial
    · exact ⟨by simp, by simp; omega, by simp; omega, trivial⟩
  | p :: l, e, h => by
    obtain ⟨h1, h2, h3, h4⟩ := h
    have := runs_rise h4
    unfold runsFrom gapOf
    split
    · exact rises_le (by omega) this
    · refine ⟨by simp, by simp; omega, by simp; omega, rises_le ?_ this⟩
      simp
      omega
theorem runs_len : ∀ (l : List Plc) (e : Int), (runsFrom e l).length ≤ l.length + 1
  | [], e => by unfold runsFrom gapOf; split <;> simp
  | p :: l, e => by
    have := runs_len l (p.first + szM p.mod)
    unfold runsFrom gapOf
    split <;> simp <;> omega

/-- Is nobody in the way from a sector on? -/
def clearAt (many : Int) (l : List Plc) (x : Int) : Prop := ∀ p ∈ l, p.first + szM p.mod ≤ x ∨ x + many ≤ p.first
def fitOf (many : Int) (l : List (Int × Int)) : Option (Int × Int) := l.find? fun r => decide (many ≤ r.2)
theorem fit_spec {many : Int} (hm : 1 ≤ many) : ∀ {l : List Plc} {e : Int}, okPl e l →
    (∃ r, fitOf many (runsFrom e l) = some r ∧ e ≤ r.1 ∧ r.1 + many ≤ 16 ∧ clearAt many l r.1 ∧ ∀ x, e ≤ x → x < r.1 → ¬ clearAt many l x) ∨
    (fitOf many (runsFrom e l) = none ∧ ∀ x, e ≤ x → x + many ≤ 16 → ¬ clearAt many l x)
  | [], e, h => by
    have h : e ≤ 16 := h
    unfold runsFrom gapOf fitOf
    split
    · rename_i h0
      refine .inr ⟨rfl, fun x h1 h2 => by omega⟩
    · by_cases hx : many ≤ 16 - e
      · refine .inl ⟨(e, 16 - e), by simp [hx], by simp, by simp; omega, fun p hp => by simp at hp, fun x h1 h2 => by simp at h2; omega⟩
      · refine .inr ⟨by simp [hx], fun x h1 h2 => by omega⟩
  | p :: l, e, h => by
    obtain ⟨h1, h2, h3, h4⟩ := h
    by_cases hx : many ≤ p.first - e
    · refine .inl ⟨(e, p.first - e), ?_, by simp, by simp; omega, ?_, fun x h1 h2 => by simp at h2; omega⟩
      · unfold runsFrom gapOf fitOf
        rw [if_neg (by omega)]
        simp [hx]
      · intro q hq
        rcases List.mem_cons.1 hq with rfl | hq
        · right; simp; omega
        · have := okPl_first h4 q hq
          right; simp; omega
    · have hf : fitOf many (runsFrom e (p :: l)) = fitOf many (runsFrom (p.first + szM p.mod) l) := by
        conv => lhs; unfold runsFrom gapOf
        unfold fitOf
        split
        · simp
        · simp [hx]
      have hn : ∀ x, e ≤ x → x < p.first + szM p.mod → ¬ clearAt many (p :: l) x := by
        intro x g1 g2 g3
        rcases g3 p (by simp) with g | g
        · omega
        · omega
      have hc : ∀ x, p.first + szM p.mod ≤ x → clearAt many l x → clearAt many (p :: l) x := by
        intro x g1 g2 q hq
        rcases List.mem_cons.1 hq with rfl | hq
        · exact .inl g1
        · exact g2 q hq
      have hc' : ∀ x, clearAt many (p :: l) x → clearAt many l x := fun x g q hq => g q (List.mem_cons_of_mem _ hq)
      rw [hf]
      rcases fit_spec hm h4 with ⟨r, g1, g2, g3, g4, g5⟩ | ⟨g1, g2⟩
      · refine .inl ⟨r, g1, by omega, g3, hc _ g2 g4, fun x k1 k2 k3 => ?_⟩
        by_cases k : x < p.first + szM p.mod
        · exact hn x k1 k k3
        · exact g5 x (by omega) k2 (hc' _ k3)
      · refine .inr ⟨g1, fun x k1 k2 k3 => ?_⟩
        by_cases k : x < p.first + szM p.mod
        · exact hn x k1 k k3
        · exact g2 x (by omega) k2 (hc' _ k3)

/-- Without one of them. -/
theorem ok_less : ∀ {l : List Plc} {e : Int} (i : Nat), okPl e l → okPl e (l.eraseIdx i)
  | [], _, i, h => by simpa using h
  | p :: l, e, 0, h => by
    obtain ⟨h1, h2, h3, h4⟩ := h
    rw [List.eraseIdx_cons_zero]
    cases l with
    | nil => exact (show e ≤ 16 by omega)
    | cons q l =>
      obtain ⟨g1, g2, g3, g4⟩ := h4
      exact ⟨by omega, g2, g3, g4⟩
  | p :: l, e, i + 1, h => by
    obtain ⟨h1, h2, h3, h4⟩ := h
    rw [List.eraseIdx_cons_succ]
    exact ⟨h1, h2, h3, ok_less i h4⟩
theorem sum_less : ∀ {l : List Plc} {i : Nat} {p : Plc}, l[i]? = some p → sumSz (l.eraseIdx i) + szM p.mod = sumSz l
  | [], i, p, h => by simp at h
  | x :: l, 0, p, h => by
    simp at h
    subst h
    simp [sumSz]
    omega
  | x :: l, i + 1, p, h => by
    simp at h
    have := sum_less h
    simp [sumSz] at *
    omega
theorem chkReg_less {l : List Plc} (i : Nat) (h : chkReg l = 0) : chkReg (l.eraseIdx i) = 0 := by
  obtain ⟨h1, h2, h3⟩ := chkReg_zero.1 h
  refine chkReg_zero.2 ⟨Nat.le_trans (List.length_eraseIdx_le _ _) h1, fun p hp => h2 p (List.mem_of_mem_eraseIdx hp), ok_less i h3⟩

end Go.Proofs.YthmohjgdcjafkaeGreat

/- The contract of placed.Wrong: nothing more is asked of a module, or one thing more. -/
namespace Go.Proofs.YthmohjgdcjafkaeGreat
open Go.RowKit Go.PlainAid

set_option maxRecDepth 100000

theorem plc_new (wr : World) (x : PV) (t : TypeId) : CellsAt (wr.alloc (.cells #[.string x.mod.name, .int .i64 x.mod.major, .int .i64 x.mod.minor, .string x.mod.text, x.ve, x.vi, x.vp, .int .i64 x.first] t)) wr.heap.size t #[.string x.mod.name, .int .i64 x.mod.major, .int .i64 x.mod.minor, .string x.mod.text, x.ve, x.vi, x.vp, .int .i64 x.first] := CellsAt.new _ _ _

set_option maxHeartbeats 2000000 in
theorem placedWrong_nil (l : List PV) (v : Value) (w : World) (hrow : IsPlcs w.heap.size w v l) (hfit : ∀ x ∈ l, x.mod.fits) :
    Calls Tryz.prog 107 #[v, .slice none 0 0] w fun e w' => e = .returned (.int .i64 (if 8 < l.length then 2 else chkBy (fun _ => 0) (l.map PV.plc))) ∧ Below w.heap.size w w' := by
  have HC0 : Hid (∀ x ∈ l, ∀ W, Below w.heap.size w W → Calls Tryz.prog 70 #[x.modV] W fun e w' => e = .returned (.int .i64 (chkMod x.mod)) ∧ Below W.heap.size W w') := fun x hx W hb => check_any x.mod x.modV W (((hrow.2 x hx).below hb).more hb.size |>.isMod) (hfit x hx)
  have hat := hrow.2
  obtain ⟨⟨a, cap, rfl, _, hrow⟩, _⟩ := hrow
  by_cases h8 : 8 < l.length
  · rw [if_pos h8]
    have h8' : (8 : Int) < l.length := by omega
    clear HC0 hat hrow
    go_enter Tryz.func107, Tryz.ntmps107
    go_wp2
    go_ret
    exact ⟨rfl, Below.refl _ _⟩
  · rw [if_neg h8]
    have h8' : decide ((8 : Int) < l.length) = false := decide_eq_false (by omega)
    have h8'' : decide (8 < l.length) = false := decide_eq_false (by omega)
    go_enter Tryz.func107, Tryz.ntmps107
    go_wp2_with fail
    go_loopw [16] (fun i wr => ∃ (k : Nat), k ≤ l.length ∧ i = .int .i64 k ∧ Hid (chkBy (fun _ => 0) (l.map PV.plc) = chkBy (fun _ => 0) ((l.drop k).map PV.plc)) ∧ Below w.heap.size w wr) (fun i _ => l.length - (intOf i).toNat)
    case atStart => exact ⟨0, Nat.zero_le _, rfl, by show chkBy _ (l.map PV.plc) = chkBy _ ((l.drop 0).map PV.plc); rfl, Below.refl _ _⟩
    case round =>
      obtain ⟨k, hk, rfl, HC, B⟩ := hrel
      by_cases hlt : k < l.length
      · obtain ⟨x, hx⟩ : ∃ x, l[k]? = some x := ⟨_, List.getElem?_eq_getElem hlt⟩
        rcases hrow with h | ⟨b, off, rfl, hbn, hcells⟩
        · subst h; simp at hlt
        have key := chkBy_step (fun _ => 0) x.plc ((l.drop (k + 1)).map PV.plc)
        have HR : Hid (chkBy (fun _ => 0) (l.map PV.plc) = chkBy (fun _ => 0) (x.plc :: (l.drop (k + 1)).map PV.plc)) := by
          show chkBy _ (l.map PV.plc) = _
          rw [HC.out, drop_at hx]; rfl
        have HM : Hid (∀ W, Below w.heap.size w W → Calls Tryz.prog 70 #[x.modV] W fun e w' => e = .returned (.int .i64 (chkMod x.mod)) ∧ Below W.heap.size W w') := HC0.out x (List.mem_of_getElem? hx)
        obtain ⟨⟨pe, ke, e4, _⟩, ⟨pi, ki, e5, _⟩, ⟨pp, kp, e6, _⟩⟩ := hat x (List.mem_of_getElem? hx)
        obtain ⟨⟨N, ma, mi, T, es, is, ps⟩, ve, vi, vp, fi⟩ := x
        dsimp only at e4 e5 e6
        subst e4 e5 e6
        have c0 := (B.cell (p := ⟨b, off + k * 8 + 0, none⟩) hbn).trans (hcells k _ hx 0 (by omega))
        have c1 := (B.cell (p := ⟨b, off + k * 8 + 1, none⟩) hbn).trans (hcells k _ hx 1 (by omega))
        have c2 := (B.cell (p := ⟨b, off + k * 8 + 2, none⟩) hbn).trans (hcells k _ hx 2 (by omega))
        have c3 := (B.cell (p := ⟨b, off + k * 8 + 3, none⟩) hbn).trans (hcells k _ hx 3 (by omega))
        have c4 := (B.cell (p := ⟨b, off + k * 8 + 4, none⟩) hbn).trans (hcells k _ hx 4 (by omega))
        have c5 := (B.cell (p := ⟨b, off + k * 8 + 5, none⟩) hbn).trans (hcells k _ hx 5 (by omega))
        have c6 := (B.cell (p := ⟨b, off + k * 8 + 6, none⟩) hbn).trans (hcells k _ hx 6 (by omega))
        have c7 := (B.cell (p := ⟨b, off + k * 8 + 7, none⟩) hbn).trans (hcells k _ hx 7 (by omega))
        dsimp only [PV.cell, PV.modV] at c0 c1 c2 c3 c4 c5 c6 c7 HM
        rw [Nat.add_zero] at c0
        clear HC HC0 hcells hx hat
        dsimp only [PV.plc] at key HR
        generalize chkMod ⟨N, ma, mi, T, es, is, ps⟩ = cm at key HM
        generalize chkBy (fun _ => 0) (⟨⟨N, ma, mi, T, es, is, ps⟩, fi⟩ :: (l.drop (k + 1)).map PV.plc) = R at key HR
        generalize es.length = le at *
        generalize is.length = li at *
        generalize ps.length = lp at *
        have HBB : Hid (Below w.heap.size w (wr.alloc (.cells #[.string N, .int .i64 ma, .int .i64 mi, .string T, .slice pe le ke, .slice pi li ki, .slice pp lp kp, .int .i64 fi] 54))) := B.alloc B.size _
        go_wp2_with fail
        refine (HM.out _ HBB.out).mono ?_
        rintro e w2 ⟨rfl, b2⟩
        have B2 := HBB.out.trans (b2.mono HBB.out.size)
        clear HBB b2 c0 c1 c2 c3 c4 c5 c6 c7
        rcases key with ⟨h1, rfl⟩ | ⟨rfl, h2, _⟩ | ⟨rfl, _, rfl⟩
        · have h1' : (R != 0) = true := by simpa using h1
          go_wp2
          go_ret
          exact ⟨by rw [HR.out]; rfl, B2⟩
        · exact absurd rfl h2
        · go_wp2_with fail
          go_loopw [28] (fun j wq => j = .int .i64 0 ∧ Below w.heap.size w wq) (fun _ _ => 0)
          case atStart => exact ⟨rfl, B2⟩
          case round =>
            obtain ⟨rfl, B3⟩ := hrel
            go_wp2
            exact ⟨⟨k + 1, by omega, by go_num, HR.out, B3⟩, by simp [intOf]; omega⟩
      · obtain rfl : k = l.length := by omega
        have HZ : Hid (chkBy (fun _ => 0) (l.map PV.plc) = 0) := by
          show chkBy _ (l.map PV.plc) = 0
          rw [HC.out, List.drop_length]; rfl
        go_wp2
        go_ret
        exact ⟨by rw [HZ.out]; rfl, B⟩

set_option maxHeartbeats 4000000 in
theorem placedWrong_one (l : List PV) (v : Value) (b1 : Nat) (K : FuncId) (q : Plc → Int) (w : World) (hrow : IsPlcs w.heap.size w v l) (hfit : ∀ x ∈ l, x.mod.fits)
    (hb1 : b1 < w.heap.size) (hcell : w.cell? ⟨b1, 0, none⟩ = some (.func (.func K) #[] #[]))
    (hK : ∀ w x, Sem.run Tryz.prog (callFunc K #[x]) w = .ok (.enter K #[x]) w)
    (hq : ∀ x ∈ l, chkMod x.mod = 0 → ∀ W, Below w.heap.size w W → Calls Tryz.prog K #[x.val] W fun e w' => e = .returned (.int .i64 (q x.plc)) ∧ Below W.heap.size W w') :
    Calls Tryz.prog 107 #[v, .slice (some ⟨b1, 0, none⟩) 1 1] w fun e w' => e = .returned (.int .i64 (if 8 < l.length then 2 else chkBy q (l.map PV.plc))) ∧ Below w.heap.size w w' := by
  have HC0 : Hid (∀ x ∈ l, ∀ W, Below w.heap.size w W → Calls Tryz.prog 70 #[x.modV] W fun e w' => e = .returned (.int .i64 (chkMod x.mod)) ∧ Below W.heap.size W w') := fun x hx W hb => check_any x.mod x.modV W (((hrow.2 x hx).below hb).more hb.size |>.isMod) (hfit x hx)
  have HQ0 : Hid (∀ x ∈ l, chkMod x.mod = 0 → ∀ W, Below w.heap.size w W → Calls Tryz.prog K #[x.val] W fun e w' => e = .returned (.int .i64 (q x.plc)) ∧ Below W.heap.size W w') := hq
  clear hq
  have hat := hrow.2
  obtain ⟨⟨a, cap, rfl, _, hrow⟩, _⟩ := hrow
  by_cases h8 : 8 < l.length
  · rw [if_pos h8]
    have h8' : (8 : Int) < l.length := by omega
    clear HC0 HQ0 hat hrow
    go_enter Tryz.func107, Tryz.ntmps107
    go_wp2
    go_ret
    exact ⟨rfl, Below.refl _ _⟩
  · rw [if_neg h8]
    have h8' : decide ((8 : Int) < l.length) = false := decide_eq_false (by omega)
    have h8'' : decide (8 < l.length) = false := decide_eq_false (by omega)
    go_enter Tryz.func107, Tryz.ntmps107
    go_wp2_with fail
    go_loopw [16] (fun i wr => ∃ (k : Nat), k ≤ l.length ∧ i = .int .i64 k ∧ Hid (chkBy q (l.map PV.plc) = chkBy q ((l.drop k).map PV.plc)) ∧ Below w.heap.size w wr) (fun i _ => l.length - (intOf i).toNat)
    case atStart => exact ⟨0, Nat.zero_le _, rfl, by show chkBy q (l.map PV.plc) = chkBy q ((l.drop 0).map PV.plc); rfl, Below.refl _ _⟩
    case round =>
      obtain ⟨k, hk, rfl, HC, B⟩ := hrel
      by_cases hlt : k < l.length
      · obtain ⟨x, hx⟩ : ∃ x, l[k]? = some x := ⟨_, List.getElem?_eq_getElem hlt⟩
        rcases hrow with h | ⟨b, off, rfl, hbn, hcells⟩
        · subst h; simp at hlt
        have key := chkBy_step q x.plc ((l.drop (k + 1)).map PV.plc)
        have HR : Hid (chkBy q (l.map PV.plc) = chkBy q (x.plc :: (l.drop (k + 1)).map PV.plc)) := by
          show chkBy q (l.map PV.plc) = _
          rw [HC.out, drop_at hx]; rfl
        have HM : Hid (∀ W, Below w.heap.size w W → Calls Tryz.prog 70 #[x.modV] W fun e w' => e = .returned (.int .i64 (chkMod x.mod)) ∧ Below W.heap.size W w') := HC0.out x (List.mem_of_getElem? hx)
        have HQ : Hid (chkMod x.mod = 0 → ∀ W, Below w.heap.size w W → Calls Tryz.prog K #[x.val] W fun e w' => e = .returned (.int .i64 (q x.plc)) ∧ Below W.heap.size W w') := HQ0.out x (List.mem_of_getElem? hx)
        obtain ⟨⟨pe, ke, e4, _⟩, ⟨pi, ki, e5, _⟩, ⟨pp, kp, e6, _⟩⟩ := hat x (List.mem_of_getElem? hx)
        obtain ⟨⟨N, ma, mi, T, es, is, ps⟩, ve, vi, vp, fi⟩ := x
        dsimp only at e4 e5 e6
        subst e4 e5 e6
        have c0 := (B.cell (p := ⟨b, off + k * 8 + 0, none⟩) hbn).trans (hcells k _ hx 0 (by omega))
        have c1 := (B.cell (p := ⟨b, off + k * 8 + 1, none⟩) hbn).trans (hcells k _ hx 1 (by omega))
        have c2 := (B.cell (p := ⟨b, off + k * 8 + 2, none⟩) hbn).trans (hcells k _ hx 2 (by omega))
        have c3 := (B.cell (p := ⟨b, off + k * 8 + 3, none⟩) hbn).trans (hcells k _ hx 3 (by omega))
        have c4 := (B.cell (p := ⟨b, off + k * 8 + 4, none⟩) hbn).trans (hcells k _ hx 4 (by omega))
        have c5 := (B.cell (p := ⟨b, off + k * 8 + 5, none⟩) hbn).trans (hcells k _ hx 5 (by omega))
        have c6 := (B.cell (p := ⟨b, off + k * 8 + 6, none⟩) hbn).trans (hcells k _ hx 6 (by omega))
        have c7 := (B.cell (p := ⟨b, off + k * 8 + 7, none⟩) hbn).trans (hcells k _ hx 7 (by omega))
        dsimp only [PV.cell, PV.modV] at c0 c1 c2 c3 c4 c5 c6 c7 HM
        dsimp only [PV.val] at HQ
        rw [Nat.add_zero] at c0
        clear HC HC0 HQ0 hcells hx hat
        dsimp only [PV.plc] at key HR HQ
        generalize chkMod ⟨N, ma, mi, T, es, is, ps⟩ = cm at key HM HQ
        generalize chkBy q (⟨⟨N, ma, mi, T, es, is, ps⟩, fi⟩ :: (l.drop (k + 1)).map PV.plc) = R at key HR
        generalize q ⟨⟨N, ma, mi, T, es, is, ps⟩, fi⟩ = qx at key HQ
        generalize es.length = le at *
        generalize is.length = li at *
        generalize ps.length = lp at *
        have HBB : Hid (Below w.heap.size w (wr.alloc (.cells #[.string N, .int .i64 ma, .int .i64 mi, .string T, .slice pe le ke, .slice pi li ki, .slice pp lp kp, .int .i64 fi] 54))) := B.alloc B.size _
        have HCA : Hid (CellsAt (wr.alloc (.cells #[.string N, .int .i64 ma, .int .i64 mi, .string T, .slice pe le ke, .slice pi li ki, .slice pp lp kp, .int .i64 fi] 54)) wr.heap.size 54 #[.string N, .int .i64 ma, .int .i64 mi, .string T, .slice pe le ke, .slice pi li ki, .slice pp lp kp, .int .i64 fi]) := CellsAt.new _ _ _
        go_wp2_with fail
        refine (HM.out _ HBB.out).mono ?_
        rintro e w2 ⟨rfl, b2⟩
        have B2 := HBB.out.trans (b2.mono HBB.out.size)
        have C2 := HCA.out.below b2 HCA.out.lt
        clear HBB HCA b2 c0 c1 c2 c3 c4 c5 c6 c7
        rcases key with ⟨h1, rfl⟩ | ⟨rfl, h2, rfl⟩ | ⟨rfl, rfl, rfl⟩
        · have h1' : (R != 0) = true := by simpa using h1
          clear C2
          go_wp2
          go_ret
          exact ⟨by rw [HR.out]; rfl, B2⟩
        · go_wp2_with fail
          go_loopw [28] (fun j wq => j = .int .i64 0 ∧ Below w2.heap.size w2 wq) (fun j _ => 1 - (intOf j).toNat)
          case atStart => exact ⟨rfl, Below.refl _ _⟩
          case round =>
            obtain ⟨rfl, B3⟩ := hrel
            have BB := B2.trans (B3.mono B2.size)
            have C3 := C2.below B3 C2.lt
            have t0 := C3.cell 0
            have t1 := C3.cell 1
            have t2 := C3.cell 2
            have t3 := C3.cell 3
            have t4 := C3.cell 4
            have t5 := C3.cell 5
            have t6 := C3.cell 6
            have t7 := C3.cell 7
            simp at t0 t1 t2 t3 t4 t5 t6 t7
            have tf := (BB.cell (p := ⟨b1, 0, none⟩) hb1).trans hcell
            clear C2 C3
            go_wp2_with fail
            refine Calls.mono (HQ.out (by first | rfl | trivial) _ BB) ?_
            rintro e w4 ⟨rfl, b4⟩
            have B4 := BB.trans (b4.mono BB.size)
            have B34 := B3.trans (b4.mono B3.size)
            clear HQ t0 t1 t2 t3 t4 t5 t6 t7 tf b4
            have h2' : (R != 0) = true := by simpa using h2
            go_wp2
            go_ret
            exact ⟨by rw [HR.out]; rfl, B4⟩
        · go_wp2_with fail
          go_loopw [28] (fun j wq => ((j = .int .i64 0 ∧ True) ∨ (j = .int .i64 1 ∧ True)) ∧ Below w2.heap.size w2 wq) (fun j _ => 1 - (intOf j).toNat)
          case atStart => exact ⟨.inl ⟨rfl, trivial⟩, Below.refl _ _⟩
          case round =>
            obtain ⟨hj, B3⟩ := hrel
            rcases hj with ⟨rfl, _⟩ | ⟨rfl, _⟩
            · have BB := B2.trans (B3.mono B2.size)
              have C3 := C2.below B3 C2.lt
              have t0 := C3.cell 0
              have t1 := C3.cell 1
              have t2 := C3.cell 2
              have t3 := C3.cell 3
              have t4 := C3.cell 4
              have t5 := C3.cell 5
              have t6 := C3.cell 6
              have t7 := C3.cell 7
              simp at t0 t1 t2 t3 t4 t5 t6 t7
              have tf := (BB.cell (p := ⟨b1, 0, none⟩) hb1).trans hcell
              clear C2 C3
              go_wp2_with fail
              refine Calls.mono (HQ.out (by first | rfl | trivial) _ BB) ?_
              rintro e w4 ⟨rfl, b4⟩
              have B4 := BB.trans (b4.mono BB.size)
              have B34 := B3.trans (b4.mono B3.size)
              clear HQ t0 t1 t2 t3 t4 t5 t6 t7 tf b4
              go_wp2
              exact ⟨⟨.inr ⟨rfl, trivial⟩, B34⟩, by simp [intOf]⟩
            · have BB := B2.trans (B3.mono B2.size)
              clear C2
              go_wp2
              exact ⟨⟨k + 1, by omega, by go_num, HR.out, BB⟩, by simp [intOf]; omega⟩
      · obtain rfl : k = l.length := by omega
        have HZ : Hid (chkBy q (l.map PV.plc) = 0) := by
          show chkBy q (l.map PV.plc) = 0
          rw [HC.out, List.drop_length]; rfl
        go_wp2
        go_ret
        exact ⟨by rw [HZ.out]; rfl, B⟩

end Go.Proofs.YthmohjgdcjafkaeGreat

/- The contracts of resolve.Kernel and wrongPlaces. -/
namespace Go.Proofs.YthmohjgdcjafkaeGreat
open Go.RowKit Go.PlainAid

set_option maxRecDepth 100000

set_option maxHeartbeats 1000000 in
theorem kernel_any (K : Ker) (v : Value) (w : World) (hK : IsKer w.heap.size w v K) (hf : K.fits) :
    Calls Tryz.prog 56 #[v] w fun e w' => e = .returned (.int .i64 (chkKer K)) ∧ Below w.heap.size w w' := by
  obtain ⟨ve, rfl, hE⟩ := hK
  have HE : Hid (∀ w', Below w.heap.size w w' → K.exps.length ≤ 8 → Calls Tryz.prog 99 #[ve, .int .i64 4096] w' fun e w'' => e = .returned (.int .i64 (chkExps 4096 [] K.exps)) ∧ Below w'.heap.size w' w'') :=
    fun w' hb hl => wrongExports_any K.exps ve _ w' ((hE.below hb).more hb.size) hf hl
  obtain ⟨pe, ke, rfl, _, hE⟩ := hE
  clear hE hf
  have key : (isVer K.major K.minor = false ∧ chkKer K = 3) ∨ (isVer K.major K.minor = true ∧ 8 < K.exps.length ∧ chkKer K = 2) ∨ (isVer K.major K.minor = true ∧ K.exps.length ≤ 8 ∧ chkKer K = chkExps 4096 [] K.exps) := by
    unfold chkKer
    cases h1 : isVer K.major K.minor
    · exact .inl ⟨rfl, rfl⟩
    · by_cases h2 : 8 < K.exps.length
      · exact .inr (.inl ⟨rfl, h2, by rw [if_neg (by decide), if_pos h2]⟩)
      · exact .inr (.inr ⟨rfl, by omega, by rw [if_neg (by decide), if_neg h2]⟩)
  generalize chkKer K = R at *
  generalize chkExps 4096 [] K.exps = ce at *
  obtain ⟨ma, mi, es⟩ := K
  dsimp only at *
  generalize es.length = le at *
  have HW1 : Hid (Below w.heap.size w (w.alloc (.cells #[.int .i64 ma, .int .i64 mi, .slice pe le ke] 24))) := (Below.refl _ _).alloc (Nat.le_refl _) _
  rcases key with ⟨h1, rfl⟩ | ⟨h1, h2, rfl⟩ | ⟨h1, h2, rfl⟩
  · go_enter Tryz.func56, Tryz.ntmps56
    go_wp2_with (go_at_call 98; refine (isVersion_any _ _ _).mono ?_; rintro e w' ⟨rfl, rfl⟩)
    go_ret
    exact ⟨rfl, HW1.out⟩
  · have h2' : (8 : Int) < le := by omega
    go_enter Tryz.func56, Tryz.ntmps56
    go_wp2_with (go_at_call 98; refine (isVersion_any _ _ _).mono ?_; rintro e w' ⟨rfl, rfl⟩)
    go_ret
    exact ⟨rfl, HW1.out⟩
  · have h2' : decide ((8 : Int) < le) = false := decide_eq_false (by omega)
    have h2'' : decide (8 < le) = false := decide_eq_false (by omega)
    go_enter Tryz.func56, Tryz.ntmps56
    go_wp2_with (go_at_call 98; refine (isVersion_any _ _ _).mono ?_; rintro e w' ⟨rfl, rfl⟩)
    refine (HE.out _ HW1.out h2).mono ?_
    rintro e w1 ⟨rfl, b1⟩
    go_wp2
    go_ret
    exact ⟨rfl, HW1.out.trans (b1.mono HW1.out.size)⟩

set_option maxHeartbeats 1000000 in
theorem far_any (x : PV) (n₀ : Nat) (w : World) (hat : PlcAt n₀ w x) :
    Calls Tryz.prog 178 #[x.val] w fun e w' => e = .returned (.int .i64 (farErr x.plc)) ∧ Below w.heap.size w w' := by
  have key : (x.first < 0 ∧ farErr x.plc = 3) ∨ (0 ≤ x.first ∧ 15 < x.first ∧ farErr x.plc = 3) ∨ (0 ≤ x.first ∧ x.first ≤ 15 ∧ farErr x.plc = 0) := by
    unfold farErr PV.plc
    dsimp only
    by_cases g1 : x.first < 0
    · exact .inl ⟨g1, by rw [betw_false (.inl g1), if_pos rfl]⟩
    by_cases g2 : 15 < x.first
    · exact .inr (.inl ⟨by omega, g2, by rw [betw_false (.inr g2), if_pos rfl]⟩)
    · exact .inr (.inr ⟨by omega, by omega, by rw [betw_true (by omega) (by omega), if_neg (by decide)]⟩)
  generalize farErr x.plc = oe at *
  unfold PV.val
  obtain ⟨⟨pe, ke, e4, _⟩, ⟨pi, ki, e5, _⟩, ⟨pp, kp, e6, _⟩⟩ := hat
  obtain ⟨⟨N, ma, mi, T, es, is, ps⟩, ve, vi, vp, fi⟩ := x
  dsimp only at *
  subst e4 e5 e6
  generalize es.length = le at *
  generalize is.length = li at *
  generalize ps.length = lp at *
  have B2 : Hid (Below w.heap.size w (w.alloc (.cells #[.string N, .int .i64 ma, .int .i64 mi, .string T, .slice pe le ke, .slice pi li ki, .slice pp lp kp, .int .i64 fi] 54))) := (Below.refl _ _).alloc (Nat.le_refl _) _
  rcases key with ⟨h1, rfl⟩ | ⟨h1, h2, rfl⟩ | ⟨h1, h2, rfl⟩
  · go_enter Tryz.func178, Tryz.ntmps178
    go_wp2
    go_ret
    exact ⟨rfl, B2.out⟩
  · have h1' : decide (fi < 0) = false := decide_eq_false (by omega)
    have h2' : (16 : Int) ≤ fi := by omega
    go_enter Tryz.func178, Tryz.ntmps178
    go_wp2
    go_ret
    exact ⟨rfl, B2.out⟩
  · have h1' : decide (fi < 0) = false := decide_eq_false (by omega)
    have h2' : decide ((16 : Int) ≤ fi) = false := decide_eq_false (by omega)
    go_enter Tryz.func178, Tryz.ntmps178
    go_wp2
    go_ret
    exact ⟨rfl, B2.out⟩

set_option maxHeartbeats 2000000 in
theorem wrongPlaces_any (K : Ker) (vk : Value) (l : List PV) (v : Value) (w : World) (hK : IsKer w.heap.size w vk K) (hf : K.fits) (hrow : IsPlcs w.heap.size w v l) (hfit : ∀ x ∈ l, x.mod.fits) :
    Calls Tryz.prog 152 #[vk, v] w fun e w' => e = .returned (.int .i64 (chkFind K (l.map PV.plc))) ∧ Below w.heap.size w w' := by
  have HK : Hid (∀ w', Below w.heap.size w w' → Calls Tryz.prog 56 #[vk] w' fun e w'' => e = .returned (.int .i64 (chkKer K)) ∧ Below w'.heap.size w' w'') := fun w' hb => kernel_any K vk w' ((hK.below hb).more hb.size) hf
  have HP : Hid (∀ (W : World) (t : TypeId), Below w.heap.size w W → Calls Tryz.prog 107 #[v, .slice (some ⟨W.heap.size, 0, none⟩) 1 1] (W.alloc (.cells #[.func (.func 178) #[] #[]] t)) fun e w' => e = .returned (.int .i64 (chkPlaced (l.map PV.plc))) ∧ Below (W.heap.size + 1) (W.alloc (.cells #[.func (.func 178) #[] #[]] t)) w') := by
    intro W t hb
    have hb1 : Below w.heap.size w (W.alloc (.cells #[.func (.func 178) #[] #[]] t)) := hb.alloc hb.size _
    have := placedWrong_one l v W.heap.size 178 farErr (W.alloc (.cells #[.func (.func 178) #[] #[]] t)) ((hrow.below hb1).more hb1.size) hfit (by simp) (by simp) (fun w x => enters_of Tryz.func178 (by kernel_rfl) rfl _ w) (fun x hx _ W' hb' => far_any x _ W' (((hrow.2 x hx).below hb1).more hb1.size |>.below hb'))
    refine this.mono ?_
    rintro e w' ⟨rfl, b⟩
    refine ⟨?_, by simpa using b⟩
    unfold chkPlaced
    rw [chkPls_by, List.length_map]
  obtain ⟨vke, ek, hE⟩ := hK
  obtain ⟨⟨a, cap, rfl, _, hrow⟩, _⟩ := hrow
  have key : (chkKer K ≠ 0 ∧ chkFind K (l.map PV.plc) = chkKer K) ∨ (chkKer K = 0 ∧ chkFind K (l.map PV.plc) = chkPlaced (l.map PV.plc)) := by
    unfold chkFind
    by_cases h : chkKer K = 0
    · exact .inr ⟨h, by rw [if_neg (by omega)]⟩
    · exact .inl ⟨h, by rw [if_pos h]⟩
  generalize chkFind K (l.map PV.plc) = R at *
  generalize chkPlaced (l.map PV.plc) = cp at *
  generalize chkKer K = ck at *
  subst ek
  clear hrow
  obtain ⟨pe, ke, rfl, _, _⟩ := hE
  have HW1 : Hid (Below w.heap.size w (w.alloc (.cells #[.int .i64 K.major, .int .i64 K.minor, .slice pe K.exps.length ke] 24))) := (Below.refl _ _).alloc (Nat.le_refl _) _
  go_enter Tryz.func152, Tryz.ntmps152
  go_wp2_with fail
  refine (HK.out _ HW1.out).mono ?_
  rintro e w1 ⟨rfl, b1⟩
  have B1 := HW1.out.trans (b1.mono HW1.out.size)
  clear HW1 b1 HK
  rcases key with ⟨h0, rfl⟩ | ⟨rfl, rfl⟩
  · have h0' : (R != 0) = true := by simpa using h0
    clear HP
    go_wp2
    go_ret
    exact ⟨rfl, B1⟩
  · go_wp2_with fail
    refine (HP.out w1 _ B1).mono ?_
    rintro e w2 ⟨rfl, b2⟩
    have B2 := (B1.alloc B1.size _).trans (b2.mono (by have := B1.size; omega))
    clear HP b2
    go_wp2
    go_ret
    exact ⟨rfl, B2⟩

end Go.Proofs.YthmohjgdcjafkaeGreat
