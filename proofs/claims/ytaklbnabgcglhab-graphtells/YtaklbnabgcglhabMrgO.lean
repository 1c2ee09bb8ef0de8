/- Texts that are laid together. -/
import Derived.Test.YtaklbnabgcglhabMrgE
import Derived.Test.YtaklbnabgcglhabMrgN
import Derived.Test.YtaklbnabgcglhabMrgF
import Derived.Laws.EntriesVeiled
import Derived.Test.YtaklbnabgcglhabMrgI

/- The contracts of slices.IndexFunc and first, at exports and at placed modules. -/
namespace Go.Proofs.Ytaklbnabgcglhab
open Go.RowKit Go.PlainAid

set_option maxRecDepth 100000

set_option maxHeartbeats 1000000 in
theorem idxExp_any (l : List Exp) (v : Value) (K : FuncId) (c : Value) (hK : ∀ w x, Sem.run Try.prog (callFunc K #[x, c]) w = .ok (.enter K #[x, c]) w) (p : Exp → Bool) (w : World) (hrow : RowOf 2 Exp.cell w.heap.size w v l)
    (hp : ∀ x ∈ l, ∀ W, Below w.heap.size w W → Calls Try.prog K #[.agg #[.string x.name, .int .i64 x.pos], c] W fun e W' => e = .returned (.bool (p x)) ∧ Below W.heap.size W W') :
    Calls Try.prog 109 #[v, .func (.func K) #[] #[c]] w fun e w' => e = .returned (.int .i64 (idxFrom p 0 l)) ∧ Below w.heap.size w w' := by
  obtain ⟨a, cap, rfl, _, hrow⟩ := hrow
  go_enter Try.func109, Try.ntmps109
  go_wp2
  go_loopw [8] (fun i wr => ∃ (k : Nat), k ≤ l.length ∧ i = .int .i64 k ∧ Hid (idxFrom p 0 l = idxFrom p k (l.drop k)) ∧ Below w.heap.size w wr) (fun i _ => l.length - (intOf i).toNat)
  case atStart => exact ⟨0, Nat.zero_le _, rfl, by show idxFrom p 0 l = idxFrom p 0 (l.drop 0); rfl, Below.refl _ _⟩
  case round =>
    obtain ⟨k, hk, rfl, HC, B⟩ := hrel
    by_cases hlt : k < l.length
    · obtain ⟨x, hx⟩ : ∃ x, l[k]? = some x := ⟨_, List.getElem?_eq_getElem hlt⟩
      rcases hrow with h | ⟨b, off, rfl, hbn, hcells⟩
      · subst h; simp at hlt
      have HP := hp x (List.mem_of_getElem? hx)
      obtain ⟨nm, ps⟩ := x
      have c0 := (B.cell (p := ⟨b, off + k * 2 + 0, none⟩) hbn).trans (hcells k _ hx 0 (by omega))
      have c1 := (B.cell (p := ⟨b, off + k * 2 + 1, none⟩) hbn).trans (hcells k _ hx 1 (by omega))
      dsimp only [Exp.cell] at c0 c1
      rw [Nat.add_zero] at c0
      have HR : Hid (idxFrom p 0 l = if p ⟨nm, ps⟩ then (k : Int) else idxFrom p (k + 1) (l.drop (k + 1))) := by
        show idxFrom p 0 l = _
        rw [HC.out, drop_at hx]; rfl
      have HP' : Hid (∀ W, Below w.heap.size w W → Calls Try.prog K #[.agg #[.string nm, .int .i64 ps], c] W fun e W' => e = .returned (.bool (p ⟨nm, ps⟩)) ∧ Below W.heap.size W W') := HP
      clear HC hcells hx HP
      generalize p ⟨nm, ps⟩ = t at HR HP'
      go_wp2_with fail
      refine Calls.mono (HP'.out _ B) ?_
      rintro e w2 ⟨rfl, b2⟩
      have B2 := B.trans (b2.mono B.size)
      clear b2 HP' c0 c1
      cases t
      · go_wp2
        exact ⟨⟨k + 1, by omega, by go_num, HR.out, B2⟩, by simp [intOf]; omega⟩
      · go_wp2
        go_ret
        exact ⟨by rw [HR.out]; rfl, B2⟩
    · obtain rfl : k = l.length := by omega
      have HZ : Hid (idxFrom p 0 l = -1) := by
        show idxFrom p 0 l = -1
        rw [HC.out, List.drop_length]; rfl
      go_wp2
      go_ret
      exact ⟨by rw [HZ.out]; rfl, B⟩

set_option maxHeartbeats 1000000 in
theorem idxPlc_any (l : List PV) (v : Value) (K : FuncId) (c : Value) (hK : ∀ w x, Sem.run Try.prog (callFunc K #[x, c]) w = .ok (.enter K #[x, c]) w) (p : PV → Bool) (w : World) (hrow : RowOf 8 PV.cell w.heap.size w v l)
    (hp : ∀ x ∈ l, ∀ W, Below w.heap.size w W → Calls Try.prog K #[x.val, c] W fun e W' => e = .returned (.bool (p x)) ∧ Below W.heap.size W W') :
    Calls Try.prog 83 #[v, .func (.func K) #[] #[c]] w fun e w' => e = .returned (.int .i64 (idxFrom p 0 l)) ∧ Below w.heap.size w w' := by
  obtain ⟨a, cap, rfl, _, hrow⟩ := hrow
  go_enter Try.func83, Try.ntmps83
  go_wp2
  go_loopw [8] (fun i wr => ∃ (k : Nat), k ≤ l.length ∧ i = .int .i64 k ∧ Hid (idxFrom p 0 l = idxFrom p k (l.drop k)) ∧ Below w.heap.size w wr) (fun i _ => l.length - (intOf i).toNat)
  case atStart => exact ⟨0, Nat.zero_le _, rfl, by show idxFrom p 0 l = idxFrom p 0 (l.drop 0); rfl, Below.refl _ _⟩
  case round =>
    obtain ⟨k, hk, rfl, HC, B⟩ := hrel
    by_cases hlt : k < l.length
    · obtain ⟨x, hx⟩ : ∃ x, l[k]? = some x := ⟨_, List.getElem?_eq_getElem hlt⟩
      rcases hrow with h | ⟨b, off, rfl, hbn, hcells⟩
      · subst h; simp at hlt
      have c0 := (B.cell (p := ⟨b, off + k * 8 + 0, none⟩) hbn).trans (hcells k _ hx 0 (by omega))
      have c1 := (B.cell (p := ⟨b, off + k * 8 + 1, none⟩) hbn).trans (hcells k _ hx 1 (by omega))
      have c2 := (B.cell (p := ⟨b, off + k * 8 + 2, none⟩) hbn).trans (hcells k _ hx 2 (by omega))
      have c3 := (B.cell (p := ⟨b, off + k * 8 + 3, none⟩) hbn).trans (hcells k _ hx 3 (by omega))
      have c4 := (B.cell (p := ⟨b, off + k * 8 + 4, none⟩) hbn).trans (hcells k _ hx 4 (by omega))
      have c5 := (B.cell (p := ⟨b, off + k * 8 + 5, none⟩) hbn).trans (hcells k _ hx 5 (by omega))
      have c6 := (B.cell (p := ⟨b, off + k * 8 + 6, none⟩) hbn).trans (hcells k _ hx 6 (by omega))
      have c7 := (B.cell (p := ⟨b, off + k * 8 + 7, none⟩) hbn).trans (hcells k _ hx 7 (by omega))
      dsimp only [PV.cell] at c0 c1 c2 c3 c4 c5 c6 c7
      rw [Nat.add_zero] at c0
      have HR : Hid (idxFrom p 0 l = if p x then (k : Int) else idxFrom p (k + 1) (l.drop (k + 1))) := by
        show idxFrom p 0 l = _
        rw [HC.out, drop_at hx]; rfl
      have HP' : Hid (∀ W, Below w.heap.size w W → Calls Try.prog K #[.agg #[.string x.mod.name, .int .i64 x.mod.major, .int .i64 x.mod.minor, .string x.mod.text, x.ve, x.vi, x.vp, .int .i64 x.first], c] W fun e W' => e = .returned (.bool (p x)) ∧ Below W.heap.size W W') := hp x (List.mem_of_getElem? hx)
      clear HC hcells hx
      generalize p x = t at HR HP'
      go_wp2_with fail
      refine Calls.mono (HP'.out _ B) ?_
      rintro e w2 ⟨rfl, b2⟩
      have B2 := B.trans (b2.mono B.size)
      clear b2 HP' c0 c1 c2 c3 c4 c5 c6 c7
      cases t
      · go_wp2
        exact ⟨⟨k + 1, by omega, by go_num, HR.out, B2⟩, by simp [intOf]; omega⟩
      · go_wp2
        go_ret
        exact ⟨by rw [HR.out]; rfl, B2⟩
    · obtain rfl : k = l.length := by omega
      have HZ : Hid (idxFrom p 0 l = -1) := by
        show idxFrom p 0 l = -1
        rw [HC.out, List.drop_length]; rfl
      go_wp2
      go_ret
      exact ⟨by rw [HZ.out]; rfl, B⟩

theorem idx_find {α : Type} (p : α → Bool) : ∀ (l : List α) (k : Nat), (l.find? p = none ∧ idxFrom p k l = -1) ∨ ∃ j x, l.find? p = some x ∧ l[j]? = some x ∧ idxFrom p k l = ((k + j : Nat) : Int)
  | [], _ => .inl ⟨rfl, rfl⟩
  | y :: l, k => by
    unfold idxFrom
    cases hy : p y
    · rcases idx_find p l (k + 1) with ⟨h1, h2⟩ | ⟨j, x, h1, h2, h3⟩
      · exact .inl ⟨by rw [List.find?_cons, hy]; exact h1, by simpa using h2⟩
      · refine .inr ⟨j + 1, x, by rw [List.find?_cons, hy]; exact h1, by simpa using h2, ?_⟩
        rw [if_neg (by decide), h3]
        congr 1; omega
    · exact .inr ⟨0, y, by rw [List.find?_cons, hy], rfl, by simp⟩

/-- first: an export, or none. -/
def optExp : Option Exp → Value
  | none => .tuple #[.agg #[.string ⟨#[]⟩, .int .i64 0], .bool false]
  | some x => .tuple #[.agg #[.string x.name, .int .i64 x.pos], .bool true]
def optPlc : Option PV → Value
  | none => .tuple #[.agg #[.string ⟨#[]⟩, .int .i64 0, .int .i64 0, .string ⟨#[]⟩, .slice none 0 0, .slice none 0 0, .slice none 0 0, .int .i64 0], .bool false]
  | some x => .tuple #[x.val, .bool true]

end Go.Proofs.Ytaklbnabgcglhab

/- The contracts of resolve.first. -/
namespace Go.Proofs.Ytaklbnabgcglhab
open Go.RowKit Go.PlainAid

set_option maxRecDepth 100000

set_option maxHeartbeats 1000000 in
theorem firstExp_any (l : List Exp) (v : Value) (K : FuncId) (c : Value) (hK : ∀ w x, Sem.run Try.prog (callFunc K #[x, c]) w = .ok (.enter K #[x, c]) w) (p : Exp → Bool) (w : World) (hrow : RowOf 2 Exp.cell w.heap.size w v l)
    (hp : ∀ x ∈ l, ∀ W, Below w.heap.size w W → Calls Try.prog K #[.agg #[.string x.name, .int .i64 x.pos], c] W fun e W' => e = .returned (.bool (p x)) ∧ Below W.heap.size W W') :
    Calls Try.prog 77 #[v, .func (.func K) #[] #[c]] w fun e w' => e = .returned (optExp (l.find? p)) ∧ Below w.heap.size w w' := by
  have HI : Hid (∀ W, Below w.heap.size w W → Calls Try.prog 109 #[v, .func (.func K) #[] #[c]] W fun e w' => e = .returned (.int .i64 (idxFrom p 0 l)) ∧ Below W.heap.size W w') := by
    intro W hb
    exact idxExp_any l v K c hK p W ((hrow.below hb).more hb.size) (fun x hx W' hb' => hp x hx W' (hb.trans (hb'.mono hb.size)))
  obtain ⟨a, cap, rfl, _, hrow⟩ := hrow
  rcases idx_find p l 0 with ⟨h1, h2⟩ | ⟨j, x, h1, h2, h3⟩
  · rw [h1]
    rw [h2] at HI
    go_enter Try.func77, Try.ntmps77
    go_wp2_with fail
    refine (HI.out _ ((Below.refl _ _).alloc (Nat.le_refl _) _)).mono ?_
    rintro e w1 ⟨rfl, b1⟩
    have C1 := (CellsAt.new w 118 #[.string ⟨#[]⟩, .int .i64 0]).below b1 (by simp)
    have B1 : Below w.heap.size w w1 := ((Below.refl _ _).alloc (Nat.le_refl _) _).trans (b1.mono (by simp))
    have hz1 := C1.lt
    have t0 := C1.cell 0
    have t1 := C1.cell 1
    have t2 := C1.frozen 0
    have t3 := C1.frozen 1
    simp at t0 t1
    clear b1 HI hK hp
    go_wp2
    (try simp only [Exit.inBlock, Exit.then])
    have hF : CellsAt (((w1.setCell ⟨w.heap.size, 0, none⟩ (.string ⟨#[]⟩)).setCell ⟨w.heap.size, 1, none⟩ (.int .i64 0)).alloc (.cells #[.string ⟨#[]⟩, .int .i64 0] 118)) w.heap.size 118 #[.string ⟨#[]⟩, .int .i64 0] := ((C1.set 0 (.string ⟨#[]⟩)).set 1 (.int .i64 0)).kept (World.grownBy_alloc _ _ none) (by simp)
    refine bodyPost_ret (results_cell_tmp_row rfl _ _ _ _ _ _ _ rfl hF Try.underlying118 rfl (by kernel_rfl)) rfl ?_
    exact ⟨rfl, ((B1.setCell (Nat.le_refl _) _).setCell (Nat.le_refl _) _).alloc (by simp; omega) _⟩
  · rw [h1]
    rw [h3] at HI
    rcases hrow with h | ⟨b, off, rfl, hbn, hcells⟩
    · subst h; simp at h2
    have hj : j < l.length := (List.getElem?_eq_some_iff.1 h2).1
    rw [Nat.zero_add] at HI
    obtain ⟨nm, ps⟩ := x
    have d0 := hcells j _ h2 0 (by omega)
    have d1 := hcells j _ h2 1 (by omega)
    dsimp only [Exp.cell] at d0 d1
    rw [Nat.add_zero] at d0
    clear hcells h1 h2 h3
    go_enter Try.func77, Try.ntmps77
    go_wp2_with fail
    refine (HI.out _ ((Below.refl _ _).alloc (Nat.le_refl _) _)).mono ?_
    rintro e w1 ⟨rfl, b1⟩
    have C1 := (CellsAt.new w 118 #[.string ⟨#[]⟩, .int .i64 0]).below b1 (by simp)
    have B1 : Below w.heap.size w w1 := ((Below.refl _ _).alloc (Nat.le_refl _) _).trans (b1.mono (by simp))
    have hz1 := C1.lt
    have t0 := C1.cell 0
    have t1 := C1.cell 1
    have t2 := C1.frozen 0
    have t3 := C1.frozen 1
    simp at t0 t1
    have e0 := (B1.cell (p := ⟨b, off + j * 2, none⟩) hbn).trans d0
    have e1 := (B1.cell (p := ⟨b, off + j * 2 + 1, none⟩) hbn).trans d1
    clear b1 HI hK hp d0 d1
    go_wp2
    (try simp only [Exit.inBlock, Exit.then])
    have hF : CellsAt ((w1.setCell ⟨w.heap.size, 0, none⟩ (.string nm)).setCell ⟨w.heap.size, 1, none⟩ (.int .i64 ps)) w.heap.size 118 #[.string nm, .int .i64 ps] := (C1.set 0 (.string nm)).set 1 (.int .i64 ps)
    refine bodyPost_ret (results_cell_tmp_row rfl _ _ _ _ _ _ _ rfl hF Try.underlying118 rfl (by kernel_rfl)) rfl ?_
    exact ⟨rfl, (B1.setCell (Nat.le_refl _) _).setCell (Nat.le_refl _) _⟩

set_option maxHeartbeats 2000000 in
theorem firstPlc_any (l : List PV) (v : Value) (K : FuncId) (c : Value) (hK : ∀ w x, Sem.run Try.prog (callFunc K #[x, c]) w = .ok (.enter K #[x, c]) w) (p : PV → Bool) (w : World) (hrow : IsPlcs w.heap.size w v l)
    (hp : ∀ x ∈ l, ∀ W, Below w.heap.size w W → Calls Try.prog K #[x.val, c] W fun e W' => e = .returned (.bool (p x)) ∧ Below W.heap.size W W') :
    Calls Try.prog 106 #[v, .func (.func K) #[] #[c]] w fun e w' => e = .returned (optPlc (l.find? p)) ∧ Below w.heap.size w w' := by
  have HI : Hid (∀ W, Below w.heap.size w W → Calls Try.prog 83 #[v, .func (.func K) #[] #[c]] W fun e w' => e = .returned (.int .i64 (idxFrom p 0 l)) ∧ Below W.heap.size W w') := by
    intro W hb
    exact idxPlc_any l v K c hK p W ((hrow.1.below hb).more hb.size) (fun x hx W' hb' => hp x hx W' (hb.trans (hb'.mono hb.size)))
  obtain ⟨⟨a, cap, rfl, _, hrow⟩, hat⟩ := hrow
  rcases idx_find p l 0 with ⟨h1, h2⟩ | ⟨j, x, h1, h2, h3⟩
  · rw [h1]
    rw [h2] at HI
    go_enter Try.func106, Try.ntmps106
    go_wp2_with fail
    refine (HI.out _ ((Below.refl _ _).alloc (Nat.le_refl _) _)).mono ?_
    rintro e w1 ⟨rfl, b1⟩
    have C1 := (CellsAt.new w 56 #[.string ⟨#[]⟩, .int .i64 0, .int .i64 0, .string ⟨#[]⟩, .slice none 0 0, .slice none 0 0, .slice none 0 0, .int .i64 0]).below b1 (by simp)
    have B1 : Below w.heap.size w w1 := ((Below.refl _ _).alloc (Nat.le_refl _) _).trans (b1.mono (by simp))
    have hz1 := C1.lt
    have t0 := C1.cell 0
    have t1 := C1.cell 1
    have t2 := C1.cell 2
    have t3 := C1.cell 3
    have t4 := C1.cell 4
    have t5 := C1.cell 5
    have t6 := C1.cell 6
    have t7 := C1.cell 7
    have f0 := C1.frozen 0
    have f1 := C1.frozen 1
    have f2 := C1.frozen 2
    have f3 := C1.frozen 3
    have f4 := C1.frozen 4
    have f5 := C1.frozen 5
    have f6 := C1.frozen 6
    have f7 := C1.frozen 7
    simp at t0 t1 t2 t3 t4 t5 t6 t7
    clear b1 HI hK hp hat hrow
    go_wp2
    (try simp only [Exit.inBlock, Exit.then])
    have hF : CellsAt (((((((((w1.setCell ⟨w.heap.size, 0, none⟩ (.string ⟨#[]⟩)).setCell ⟨w.heap.size, 1, none⟩ (.int .i64 0)).setCell ⟨w.heap.size, 2, none⟩ (.int .i64 0)).setCell ⟨w.heap.size, 3, none⟩ (.string ⟨#[]⟩)).setCell ⟨w.heap.size, 4, none⟩ (.slice none 0 0)).setCell ⟨w.heap.size, 5, none⟩ (.slice none 0 0)).setCell ⟨w.heap.size, 6, none⟩ (.slice none 0 0)).setCell ⟨w.heap.size, 7, none⟩ (.int .i64 0)).alloc (.cells #[.string ⟨#[]⟩, .int .i64 0, .int .i64 0, .string ⟨#[]⟩, .slice none 0 0, .slice none 0 0, .slice none 0 0, .int .i64 0] 56)) w.heap.size 56 #[.string ⟨#[]⟩, .int .i64 0, .int .i64 0, .string ⟨#[]⟩, .slice none 0 0, .slice none 0 0, .slice none 0 0, .int .i64 0] := CellsAt.kept ((((((((C1.set 0 (.string ⟨#[]⟩)).set 1 (.int .i64 0)).set 2 (.int .i64 0)).set 3 (.string ⟨#[]⟩)).set 4 (.slice none 0 0)).set 5 (.slice none 0 0)).set 6 (.slice none 0 0)).set 7 (.int .i64 0)) (World.grownBy_alloc _ _ none) (by simp)
    refine bodyPost_ret (results_cell_tmp_row rfl _ _ _ _ _ _ _ rfl hF Try.underlying56 rfl (by kernel_rfl)) rfl ?_
    exact ⟨rfl, ((((((((B1.setCell (Nat.le_refl _) _).setCell (Nat.le_refl _) _).setCell (Nat.le_refl _) _).setCell (Nat.le_refl _) _).setCell (Nat.le_refl _) _).setCell (Nat.le_refl _) _).setCell (Nat.le_refl _) _).setCell (Nat.le_refl _) _).alloc (by simp; omega) _⟩
  · rw [h1]
    rw [h3] at HI
    rcases hrow with h | ⟨b, off, rfl, hbn, hcells⟩
    · subst h; simp at h2
    have hj : j < l.length := (List.getElem?_eq_some_iff.1 h2).1
    rw [Nat.zero_add] at HI
    obtain ⟨⟨pe, ke, e4, _⟩, ⟨pi, ki, e5, _⟩, ⟨pp, kp, e6, _⟩⟩ := hat x (List.mem_of_getElem? h2)
    obtain ⟨⟨N, ma, mi, T, es, is, ps⟩, ve, vi, vp, fi⟩ := x
    dsimp only at e4 e5 e6
    subst e4 e5 e6
    have d0 := hcells j _ h2 0 (by omega)
    have d1 := hcells j _ h2 1 (by omega)
    have d2 := hcells j _ h2 2 (by omega)
    have d3 := hcells j _ h2 3 (by omega)
    have d4 := hcells j _ h2 4 (by omega)
    have d5 := hcells j _ h2 5 (by omega)
    have d6 := hcells j _ h2 6 (by omega)
    have d7 := hcells j _ h2 7 (by omega)
    dsimp only [PV.cell] at d0 d1 d2 d3 d4 d5 d6 d7
    rw [Nat.add_zero] at d0
    clear hcells h1 h2 h3 hat
    go_enter Try.func106, Try.ntmps106
    go_wp2_with fail
    refine (HI.out _ ((Below.refl _ _).alloc (Nat.le_refl _) _)).mono ?_
    rintro e w1 ⟨rfl, b1⟩
    have C1 := (CellsAt.new w 56 #[.string ⟨#[]⟩, .int .i64 0, .int .i64 0, .string ⟨#[]⟩, .slice none 0 0, .slice none 0 0, .slice none 0 0, .int .i64 0]).below b1 (by simp)
    have B1 : Below w.heap.size w w1 := ((Below.refl _ _).alloc (Nat.le_refl _) _).trans (b1.mono (by simp))
    have hz1 := C1.lt
    have t0 := C1.cell 0
    have t1 := C1.cell 1
    have t2 := C1.cell 2
    have t3 := C1.cell 3
    have t4 := C1.cell 4
    have t5 := C1.cell 5
    have t6 := C1.cell 6
    have t7 := C1.cell 7
    have f0 := C1.frozen 0
    have f1 := C1.frozen 1
    have f2 := C1.frozen 2
    have f3 := C1.frozen 3
    have f4 := C1.frozen 4
    have f5 := C1.frozen 5
    have f6 := C1.frozen 6
    have f7 := C1.frozen 7
    simp at t0 t1 t2 t3 t4 t5 t6 t7
    have g0 := (B1.cell (p := ⟨b, off + j * 8, none⟩) hbn).trans d0
    have g1 := (B1.cell (p := ⟨b, off + j * 8 + 1, none⟩) hbn).trans d1
    have g2 := (B1.cell (p := ⟨b, off + j * 8 + 2, none⟩) hbn).trans d2
    have g3 := (B1.cell (p := ⟨b, off + j * 8 + 3, none⟩) hbn).trans d3
    have g4 := (B1.cell (p := ⟨b, off + j * 8 + 4, none⟩) hbn).trans d4
    have g5 := (B1.cell (p := ⟨b, off + j * 8 + 5, none⟩) hbn).trans d5
    have g6 := (B1.cell (p := ⟨b, off + j * 8 + 6, none⟩) hbn).trans d6
    have g7 := (B1.cell (p := ⟨b, off + j * 8 + 7, none⟩) hbn).trans d7
    clear b1 HI hK hp d0 d1 d2 d3 d4 d5 d6 d7
    go_wp2
    (try simp only [Exit.inBlock, Exit.then])
    have hF : CellsAt ((((((((w1.setCell ⟨w.heap.size, 0, none⟩ (.string N)).setCell ⟨w.heap.size, 1, none⟩ (.int .i64 ma)).setCell ⟨w.heap.size, 2, none⟩ (.int .i64 mi)).setCell ⟨w.heap.size, 3, none⟩ (.string T)).setCell ⟨w.heap.size, 4, none⟩ (.slice pe es.length ke)).setCell ⟨w.heap.size, 5, none⟩ (.slice pi is.length ki)).setCell ⟨w.heap.size, 6, none⟩ (.slice pp ps.length kp)).setCell ⟨w.heap.size, 7, none⟩ (.int .i64 fi)) w.heap.size 56 #[.string N, .int .i64 ma, .int .i64 mi, .string T, .slice pe es.length ke, .slice pi is.length ki, .slice pp ps.length kp, .int .i64 fi] := ((((((((C1.set 0 (.string N)).set 1 (.int .i64 ma)).set 2 (.int .i64 mi)).set 3 (.string T)).set 4 (.slice pe es.length ke)).set 5 (.slice pi is.length ki)).set 6 (.slice pp ps.length kp)).set 7 (.int .i64 fi))
    refine bodyPost_ret (results_cell_tmp_row rfl _ _ _ _ _ _ _ rfl hF Try.underlying56 rfl (by kernel_rfl)) rfl ?_
    exact ⟨rfl, ((((((((B1.setCell (Nat.le_refl _) _).setCell (Nat.le_refl _) _).setCell (Nat.le_refl _) _).setCell (Nat.le_refl _) _).setCell (Nat.le_refl _) _).setCell (Nat.le_refl _) _).setCell (Nat.le_refl _) _).setCell (Nat.le_refl _) _)⟩

end Go.Proofs.Ytaklbnabgcglhab

/- The contracts of resolve.Kernel and wrongPlaces. -/
namespace Go.Proofs.Ytaklbnabgcglhab
open Go.RowKit Go.PlainAid

set_option maxRecDepth 100000

set_option maxHeartbeats 1000000 in
theorem kernel_any (K : Ker) (v : Value) (w : World) (hK : IsKer w.heap.size w v K) (hf : K.fits) :
    Calls Try.prog 24 #[v] w fun e w' => e = .returned (.int .i64 (chkKer K)) ∧ Below w.heap.size w w' := by
  obtain ⟨ve, rfl, hE⟩ := hK
  have HE : Hid (∀ w', Below w.heap.size w w' → K.exps.length ≤ 8 → Calls Try.prog 57 #[ve, .int .i64 4096] w' fun e w'' => e = .returned (.int .i64 (chkExps 4096 [] K.exps)) ∧ Below w'.heap.size w' w'') :=
    fun w' hb hl => wrongExports_any K.exps ve _ w' ((hE.below hb).more hb.size) hf hl
  obtain ⟨pe, ke, rfl, _, hE⟩ := hE
  clear hE hf
  have key : (isVer K.major K.minor = false ∧ chkKer K = 3) ∨ (isVer K.major K.minor = true ∧ 8 < K.exps.length ∧ chkKer K = 2) ∨ (isVer K.major K.minor = true ∧ K.exps.length ≤ 8 ∧ chkKer K = chkExps 4096 [] K.exps) := by
    unfold chkKer
    cases h1 : isVer K.major K.minor
    · exact .inl ⟨rfl, rfl⟩
    · by_cases h2 : 8 < K.exps.length
      · exact .inr (.inl ⟨rfl, h2, by rw [if_neg (by decide), if_pos h2]⟩)
      · exact .inr (.inr ⟨rfl, by omega, by rw [if_neg (by decide), if_neg h2]⟩)
  generalize chkKer K = R at *
  generalize chkExps 4096 [] K.exps = ce at *
  obtain ⟨ma, mi, es⟩ := K
  dsimp only at *
  generalize es.length = le at *
  have HW1 : Hid (Below w.heap.size w (w.alloc (.cells #[.int .i64 ma, .int .i64 mi, .slice pe le ke] 37))) := (Below.refl _ _).alloc (Nat.le_refl _) _
  rcases key with ⟨h1, rfl⟩ | ⟨h1, h2, rfl⟩ | ⟨h1, h2, rfl⟩
  · go_enter Try.func24, Try.ntmps24
    go_wp2_with (go_at_call 56; refine (isVersion_any _ _ _).mono ?_; rintro e w' ⟨rfl, rfl⟩)
    go_ret
    exact ⟨rfl, HW1.out⟩
  · have h2' : (8 : Int) < le := by omega
    go_enter Try.func24, Try.ntmps24
    go_wp2_with (go_at_call 56; refine (isVersion_any _ _ _).mono ?_; rintro e w' ⟨rfl, rfl⟩)
    go_ret
    exact ⟨rfl, HW1.out⟩
  · have h2' : decide ((8 : Int) < le) = false := decide_eq_false (by omega)
    have h2'' : decide (8 < le) = false := decide_eq_false (by omega)
    go_enter Try.func24, Try.ntmps24
    go_wp2_with (go_at_call 56; refine (isVersion_any _ _ _).mono ?_; rintro e w' ⟨rfl, rfl⟩)
    refine (HE.out _ HW1.out h2).mono ?_
    rintro e w1 ⟨rfl, b1⟩
    go_wp2
    go_ret
    exact ⟨rfl, HW1.out.trans (b1.mono HW1.out.size)⟩

set_option maxHeartbeats 1000000 in
theorem far_any (x : PV) (n₀ : Nat) (w : World) (hat : PlcAt n₀ w x) :
    Calls Try.prog 74 #[x.val] w fun e w' => e = .returned (.int .i64 (farErr x.plc)) ∧ Below w.heap.size w w' := by
  have key : (x.first < 0 ∧ farErr x.plc = 3) ∨ (0 ≤ x.first ∧ 15 < x.first ∧ farErr x.plc = 3) ∨ (0 ≤ x.first ∧ x.first ≤ 15 ∧ farErr x.plc = 0) := by
    unfold farErr PV.plc
    dsimp only
    by_cases g1 : x.first < 0
    · exact .inl ⟨g1, by rw [betw_false (.inl g1), if_pos rfl]⟩
    by_cases g2 : 15 < x.first
    · exact .inr (.inl ⟨by omega, g2, by rw [betw_false (.inr g2), if_pos rfl]⟩)
    · exact .inr (.inr ⟨by omega, by omega, by rw [betw_true (by omega) (by omega), if_neg (by decide)]⟩)
  generalize farErr x.plc = oe at *
  unfold PV.val
  obtain ⟨⟨pe, ke, e4, _⟩, ⟨pi, ki, e5, _⟩, ⟨pp, kp, e6, _⟩⟩ := hat
  obtain ⟨⟨N, ma, mi, T, es, is, ps⟩, ve, vi, vp, fi⟩ := x
  dsimp only at *
  subst e4 e5 e6
  generalize es.length = le at *
  generalize is.length = li at *
  generalize ps.length = lp at *
  have B2 : Hid (Below w.heap.size w (w.alloc (.cells #[.string N, .int .i64 ma, .int .i64 mi, .string T, .slice pe le ke, .slice pi li ki, .slice pp lp kp, .int .i64 fi] 56))) := (Below.refl _ _).alloc (Nat.le_refl _) _
  rcases key with ⟨h1, rfl⟩ | ⟨h1, h2, rfl⟩ | ⟨h1, h2, rfl⟩
  · go_enter Try.func74, Try.ntmps74
    go_wp2
    go_ret
    exact ⟨rfl, B2.out⟩
  · have h1' : decide (fi < 0) = false := decide_eq_false (by omega)
    have h2' : (16 : Int) ≤ fi := by omega
    go_enter Try.func74, Try.ntmps74
    go_wp2
    go_ret
    exact ⟨rfl, B2.out⟩
  · have h1' : decide (fi < 0) = false := decide_eq_false (by omega)
    have h2' : decide ((16 : Int) ≤ fi) = false := decide_eq_false (by omega)
    go_enter Try.func74, Try.ntmps74
    go_wp2
    go_ret
    exact ⟨rfl, B2.out⟩

set_option maxHeartbeats 2000000 in
theorem wrongPlaces_any (K : Ker) (vk : Value) (l : List PV) (v : Value) (w : World) (hK : IsKer w.heap.size w vk K) (hf : K.fits) (hrow : IsPlcs w.heap.size w v l) (hfit : ∀ x ∈ l, x.mod.fits) :
    Calls Try.prog 43 #[vk, v] w fun e w' => e = .returned (.int .i64 (chkFind K (l.map PV.plc))) ∧ Below w.heap.size w w' := by
  have HK : Hid (∀ w', Below w.heap.size w w' → Calls Try.prog 24 #[vk] w' fun e w'' => e = .returned (.int .i64 (chkKer K)) ∧ Below w'.heap.size w' w'') := fun w' hb => kernel_any K vk w' ((hK.below hb).more hb.size) hf
  have HP : Hid (∀ (W : World) (t : TypeId), Below w.heap.size w W → Calls Try.prog 73 #[v, .slice (some ⟨W.heap.size, 0, none⟩) 1 1] (W.alloc (.cells #[.func (.func 74) #[] #[]] t)) fun e w' => e = .returned (.int .i64 (chkPlaced (l.map PV.plc))) ∧ Below (W.heap.size + 1) (W.alloc (.cells #[.func (.func 74) #[] #[]] t)) w') := by
    intro W t hb
    have hb1 : Below w.heap.size w (W.alloc (.cells #[.func (.func 74) #[] #[]] t)) := hb.alloc hb.size _
    have := placedWrong_one l v W.heap.size 74 farErr (W.alloc (.cells #[.func (.func 74) #[] #[]] t)) ((hrow.below hb1).more hb1.size) hfit (by simp) (by simp) (fun w x => enters_of Try.func74 (by kernel_rfl) rfl _ w) (fun x hx _ W' hb' => far_any x _ W' (((hrow.2 x hx).below hb1).more hb1.size |>.below hb'))
    refine this.mono ?_
    rintro e w' ⟨rfl, b⟩
    refine ⟨?_, by simpa using b⟩
    unfold chkPlaced
    rw [chkPls_by, List.length_map]
  obtain ⟨vke, ek, hE⟩ := hK
  obtain ⟨⟨a, cap, rfl, _, hrow⟩, _⟩ := hrow
  have key : (chkKer K ≠ 0 ∧ chkFind K (l.map PV.plc) = chkKer K) ∨ (chkKer K = 0 ∧ chkFind K (l.map PV.plc) = chkPlaced (l.map PV.plc)) := by
    unfold chkFind
    by_cases h : chkKer K = 0
    · exact .inr ⟨h, by rw [if_neg (by omega)]⟩
    · exact .inl ⟨h, by rw [if_pos h]⟩
  generalize chkFind K (l.map PV.plc) = R at *
  generalize chkPlaced (l.map PV.plc) = cp at *
  generalize chkKer K = ck at *
  subst ek
  clear hrow
  obtain ⟨pe, ke, rfl, _, _⟩ := hE
  have HW1 : Hid (Below w.heap.size w (w.alloc (.cells #[.int .i64 K.major, .int .i64 K.minor, .slice pe K.exps.length ke] 37))) := (Below.refl _ _).alloc (Nat.le_refl _) _
  go_enter Try.func43, Try.ntmps43
  go_wp2_with fail
  refine (HK.out _ HW1.out).mono ?_
  rintro e w1 ⟨rfl, b1⟩
  have B1 := HW1.out.trans (b1.mono HW1.out.size)
  clear HW1 b1 HK
  rcases key with ⟨h0, rfl⟩ | ⟨rfl, rfl⟩
  · have h0' : (R != 0) = true := by simpa using h0
    clear HP
    go_wp2
    go_ret
    exact ⟨rfl, B1⟩
  · go_wp2_with fail
    refine (HP.out w1 _ B1).mono ?_
    rintro e w2 ⟨rfl, b2⟩
    have B2 := (B1.alloc B1.size _).trans (b2.mono (by have := B1.size; omega))
    clear HP b2
    go_wp2
    go_ret
    exact ⟨rfl, B2⟩

end Go.Proofs.Ytaklbnabgcglhab

/- The contracts of resolve.meant and its function. -/
namespace Go.Proofs.Ytaklbnabgcglhab
open Go.RowKit Go.PlainAid

set_option maxRecDepth 100000

set_option maxHeartbeats 1000000 in
theorem addr_any (fi : Int) (w : World) (g0 : 0 ≤ fi) (g1 : fi ≤ 15) : Calls Try.prog 108 #[.int .i64 fi] w fun e w' => e = .returned (.int .i64 (4096 + fi * 64)) ∧ w' = w := by
  go_enter Try.func108, Try.ntmps108
  go_wp2
  go_ret
  exact ⟨rfl, rfl⟩

set_option maxHeartbeats 1000000 in
theorem isNamed_any (B : Nat) (name : ByteArray) (x : PV) (w : World) (hlt : B < w.heap.size) (hB : w.cell? ⟨B, 0, none⟩ = some (.string name)) :
    Calls Try.prog 107 #[x.val, .pointer (some ⟨B, 0, none⟩)] w fun e w' => e = .returned (.bool (x.mod.name == name)) ∧ Below w.heap.size w w' := by
  rw [← toList_beq2]
  obtain ⟨⟨N, ma, mi, T, es, is, ps⟩, ve, vi, vp, fi⟩ := x
  dsimp only [PV.val]
  go_enter Try.func107, Try.ntmps107
  go_wp2
  go_ret
  exact ⟨rfl, (Below.refl _ _).alloc (Nat.le_refl _) _⟩

set_option maxHeartbeats 1000000 in
theorem isCalled_any (B : Nat) (name : ByteArray) (x : Exp) (w : World) (hlt : B < w.heap.size) (hB : w.cell? ⟨B, 1, none⟩ = some (.string name)) :
    Calls Try.prog 78 #[.agg #[.string x.name, .int .i64 x.pos], .pointer (some ⟨B, 0, none⟩)] w fun e w' => e = .returned (.bool (x.name == name)) ∧ Below w.heap.size w w' := by
  rw [← toList_beq2]
  obtain ⟨N, ps⟩ := x
  dsimp only
  go_enter Try.func78, Try.ntmps78
  go_wp2
  go_ret
  exact ⟨rfl, (Below.refl _ _).alloc (Nat.le_refl _) _⟩

def TgtV (n₀ : Nat) (W : World) (r : Value) : Option Tgt → Prop
  | none => r = .tuple #[.agg #[.int .i64 0, .int .i64 0, .int .i64 0, .slice none 0 0], .bool false]
  | some t => ∃ ve, r = .tuple #[.agg #[.int .i64 t.major, .int .i64 t.minor, .int .i64 t.beg, ve], .bool true] ∧ RowOf 2 Exp.cell n₀ W ve t.exps

theorem tgt_cases (K : Ker) (l : List PV) (name : ByteArray) : ((name == kernelName) = true ∧ tgtOf K (l.map PV.plc) name = some ⟨K.major, K.minor, 0, K.exps⟩) ∨
    ((name == kernelName) = false ∧ (l.find? (fun x => x.mod.name == name) = none ∧ tgtOf K (l.map PV.plc) name = none ∨ ∃ x, l.find? (fun x => x.mod.name == name) = some x ∧ tgtOf K (l.map PV.plc) name = some ⟨x.mod.major, x.mod.minor, 4096 + x.first * 64, x.mod.exps⟩)) := by
  unfold tgtOf
  cases h : name == kernelName
  · refine .inr ⟨rfl, ?_⟩
    rw [if_neg (by decide), List.find?_map]
    have e : ((fun p : Plc => p.mod.name == name) ∘ PV.plc) = fun x : PV => x.mod.name == name := rfl
    rw [e]
    cases hf : l.find? (fun x => x.mod.name == name) with
    | none => exact .inl ⟨rfl, rfl⟩
    | some x => exact .inr ⟨x, rfl, rfl⟩
  · exact .inl ⟨rfl, by rw [if_pos rfl]⟩

set_option maxHeartbeats 2000000 in
theorem meant_any (K : Ker) (vk : Value) (l : List PV) (v : Value) (name : ByteArray) (w : World) (hK : IsKer w.heap.size w vk K) (hrow : IsPlcs w.heap.size w v l) (hfst : ∀ x ∈ l, 0 ≤ x.first ∧ x.first ≤ 15) :
    Calls Try.prog 76 #[vk, v, .string name] w fun e w' => (∃ r, e = .returned r ∧ TgtV w.heap.size w r (tgtOf K (l.map PV.plc) name)) ∧ Below w.heap.size w w' := by
  obtain ⟨vke, rfl, hE⟩ := hK
  have hE0 := hE
  obtain ⟨pe, ke, rfl, _, _⟩ := hE
  have HF : Hid (∀ W B, Below w.heap.size w W → B < W.heap.size → W.cell? ⟨B, 0, none⟩ = some (.string name) → Calls Try.prog 106 #[v, .func (.func 107) #[] #[.pointer (some ⟨B, 0, none⟩)]] W fun e w' => e = .returned (optPlc (l.find? fun x => x.mod.name == name)) ∧ Below W.heap.size W w') := by
    intro W B hb hlt hB
    exact firstPlc_any l v 107 (.pointer (some ⟨B, 0, none⟩)) (fun w x => enters_of Try.func107 (by kernel_rfl) rfl _ w) _ W ((hrow.below hb).more hb.size) (fun x _ W' hb' => isNamed_any B name x W' (Nat.lt_of_lt_of_le hlt hb'.size) ((hb'.cell (p := ⟨B, 0, none⟩) hlt).trans hB))
  have hat := hrow.2
  obtain ⟨⟨a, cap, rfl, _, _⟩, _⟩ := hrow
  rcases tgt_cases K l name with ⟨h1, h2⟩ | ⟨h1, ⟨h2, h3⟩ | ⟨x, h2, h3⟩⟩
  · rw [h2]
    rw [← kern_form] at h1
    obtain ⟨ma, mi, es⟩ := K
    dsimp only at *
    clear HF hat
    go_enter Try.func76, Try.ntmps76
    go_wp2
    (try simp only [Exit.inBlock, Exit.then])
    have hF : CellsAt (((w.alloc (.cells #[.int .i64 ma, .int .i64 mi, .slice pe es.length ke] 37)).alloc (.cells #[.string name] 9)).alloc (.cells #[.int .i64 ma, .int .i64 mi, .int .i64 0, .slice pe es.length ke] 114)) (w.heap.size + 1 + 1) 114 #[.int .i64 ma, .int .i64 mi, .int .i64 0, .slice pe es.length ke] := by
      have := CellsAt.new ((w.alloc (.cells #[.int .i64 ma, .int .i64 mi, .slice pe es.length ke] 37)).alloc (.cells #[.string name] 9)) 114 #[.int .i64 ma, .int .i64 mi, .int .i64 0, .slice pe es.length ke]
      rw [World.size_alloc, World.size_alloc] at this
      exact this
    refine bodyPost_ret (results_cell_tmp_row rfl _ _ _ _ _ _ _ rfl hF Try.underlying114 rfl (by kernel_rfl)) rfl ?_
    exact ⟨⟨_, rfl, _, rfl, hE0⟩, (((Below.refl _ _).alloc (Nat.le_refl _) _).alloc (by simp) _).alloc (by simp; omega) _⟩
  · rw [h3]
    rw [h2] at HF
    rw [← kern_form] at h1
    obtain ⟨ma, mi, es⟩ := K
    dsimp only [optPlc] at *
    clear hat
    have HN : Hid ((((w.alloc (.cells #[.int .i64 ma, .int .i64 mi, .slice pe es.length ke] 37)).alloc (.cells #[.string name] 9)).alloc (.cells #[.int .i64 0, .int .i64 0, .int .i64 0, .slice none 0 0] 114)).cell? ⟨w.heap.size + 1, 0, none⟩ = some (.string name)) := by
      have := (CellsAt.new (w.alloc (.cells #[.int .i64 ma, .int .i64 mi, .slice pe es.length ke] 37)) 9 #[.string name]).kept (World.grownBy_alloc _ (.cells #[.int .i64 0, .int .i64 0, .int .i64 0, .slice none 0 0] 114) none) (by simp)
      rw [World.size_alloc] at this
      exact this.cell 0
    have HC3 : Hid (CellsAt (((w.alloc (.cells #[.int .i64 ma, .int .i64 mi, .slice pe es.length ke] 37)).alloc (.cells #[.string name] 9)).alloc (.cells #[.int .i64 0, .int .i64 0, .int .i64 0, .slice none 0 0] 114)) (w.heap.size + 1 + 1) 114 #[.int .i64 0, .int .i64 0, .int .i64 0, .slice none 0 0]) := by
      have := CellsAt.new ((w.alloc (.cells #[.int .i64 ma, .int .i64 mi, .slice pe es.length ke] 37)).alloc (.cells #[.string name] 9)) 114 #[.int .i64 0, .int .i64 0, .int .i64 0, .slice none 0 0]
      rw [World.size_alloc, World.size_alloc] at this
      exact this
    have HB3 : Hid (Below w.heap.size w (((w.alloc (.cells #[.int .i64 ma, .int .i64 mi, .slice pe es.length ke] 37)).alloc (.cells #[.string name] 9)).alloc (.cells #[.int .i64 0, .int .i64 0, .int .i64 0, .slice none 0 0] 114))) := (((Below.refl _ _).alloc (Nat.le_refl _) _).alloc (by simp) _).alloc (by simp; omega) _
    go_enter Try.func76, Try.ntmps76
    go_wp2_with fail
    refine (HF.out _ _ (((Below.refl _ _).alloc (Nat.le_refl _) _).alloc (by simp) _ |>.alloc (by simp; omega) _) (by simp) HN.out).mono ?_
    rintro e w4 ⟨rfl, b4⟩
    have C4 := HC3.out.below b4 (by simp)
    have B4 := HB3.out.trans (b4.mono HB3.out.size)
    have hz4 := C4.lt
    have t0 := C4.cell 0
    have t1 := C4.cell 1
    have t2 := C4.cell 2
    have t3 := C4.cell 3
    have f0 := C4.frozen 0
    have f1 := C4.frozen 1
    have f2 := C4.frozen 2
    have f3 := C4.frozen 3
    simp at t0 t1 t2 t3
    clear b4 HF HC3 HB3 HN
    go_wp2
    (try simp only [Exit.inBlock, Exit.then])
    have hF : CellsAt (((((w4.setCell ⟨w.heap.size + 1 + 1, 0, none⟩ (.int .i64 0)).setCell ⟨w.heap.size + 1 + 1, 1, none⟩ (.int .i64 0)).setCell ⟨w.heap.size + 1 + 1, 2, none⟩ (.int .i64 0)).setCell ⟨w.heap.size + 1 + 1, 3, none⟩ (.slice none 0 0)).alloc (.cells #[.string ⟨#[]⟩, .int .i64 0, .int .i64 0, .string ⟨#[]⟩, .slice none 0 0, .slice none 0 0, .slice none 0 0, .int .i64 0] 56)) (w.heap.size + 1 + 1) 114 #[.int .i64 0, .int .i64 0, .int .i64 0, .slice none 0 0] := CellsAt.kept ((((C4.set 0 (.int .i64 0)).set 1 (.int .i64 0)).set 2 (.int .i64 0)).set 3 (.slice none 0 0)) (World.grownBy_alloc _ _ none) (by simp)
    refine bodyPost_ret (results_cell_tmp_row rfl _ _ _ _ _ _ _ rfl hF Try.underlying114 rfl (by kernel_rfl)) rfl ?_
    exact ⟨⟨_, rfl, rfl⟩, ((((B4.setCell (by simp; omega) _).setCell (by simp; omega) _).setCell (by simp; omega) _).setCell (by simp; omega) _).alloc (by simp; omega) _⟩
  · rw [h3]
    rw [h2] at HF
    rw [← kern_form] at h1
    have hx := List.mem_of_find?_eq_some h2
    obtain ⟨g0, g1⟩ := hfst x hx
    have hE1 := (hat x hx).1
    obtain ⟨⟨qe, je, e4, _⟩, ⟨qi, ji, e5, _⟩, ⟨qp, jp, e6, _⟩⟩ := hat x hx
    obtain ⟨⟨N, xa, xi, T, xs, is, ps⟩, ve, vi, vp, fi⟩ := x
    obtain ⟨ma, mi, es⟩ := K
    dsimp only [optPlc, PV.val] at *
    subst e4 e5 e6
    clear hat h2 h3 hx
    generalize is.length = li at *
    generalize ps.length = lp at *
    have HN : Hid ((((w.alloc (.cells #[.int .i64 ma, .int .i64 mi, .slice pe es.length ke] 37)).alloc (.cells #[.string name] 9)).alloc (.cells #[.int .i64 0, .int .i64 0, .int .i64 0, .slice none 0 0] 114)).cell? ⟨w.heap.size + 1, 0, none⟩ = some (.string name)) := by
      have := (CellsAt.new (w.alloc (.cells #[.int .i64 ma, .int .i64 mi, .slice pe es.length ke] 37)) 9 #[.string name]).kept (World.grownBy_alloc _ (.cells #[.int .i64 0, .int .i64 0, .int .i64 0, .slice none 0 0] 114) none) (by simp)
      rw [World.size_alloc] at this
      exact this.cell 0
    have HC3 : Hid (CellsAt (((w.alloc (.cells #[.int .i64 ma, .int .i64 mi, .slice pe es.length ke] 37)).alloc (.cells #[.string name] 9)).alloc (.cells #[.int .i64 0, .int .i64 0, .int .i64 0, .slice none 0 0] 114)) (w.heap.size + 1 + 1) 114 #[.int .i64 0, .int .i64 0, .int .i64 0, .slice none 0 0]) := by
      have := CellsAt.new ((w.alloc (.cells #[.int .i64 ma, .int .i64 mi, .slice pe es.length ke] 37)).alloc (.cells #[.string name] 9)) 114 #[.int .i64 0, .int .i64 0, .int .i64 0, .slice none 0 0]
      rw [World.size_alloc, World.size_alloc] at this
      exact this
    have HB3 : Hid (Below w.heap.size w (((w.alloc (.cells #[.int .i64 ma, .int .i64 mi, .slice pe es.length ke] 37)).alloc (.cells #[.string name] 9)).alloc (.cells #[.int .i64 0, .int .i64 0, .int .i64 0, .slice none 0 0] 114))) := (((Below.refl _ _).alloc (Nat.le_refl _) _).alloc (by simp) _).alloc (by simp; omega) _
    go_enter Try.func76, Try.ntmps76
    go_wp2_with fail
    refine (HF.out _ _ (((Below.refl _ _).alloc (Nat.le_refl _) _).alloc (by simp) _ |>.alloc (by simp; omega) _) (by simp) HN.out).mono ?_
    rintro e w4 ⟨rfl, b4⟩
    have C4 := HC3.out.below b4 (by simp)
    have B4 := HB3.out.trans (b4.mono HB3.out.size)
    have hz4 := C4.lt
    have t0 := C4.cell 0
    have t1 := C4.cell 1
    have t2 := C4.cell 2
    have t3 := C4.cell 3
    have f0 := C4.frozen 0
    have f1 := C4.frozen 1
    have f2 := C4.frozen 2
    have f3 := C4.frozen 3
    simp at t0 t1 t2 t3
    clear b4 HF HC3 HB3 HN t0 t1 t2 t3 f0 f1 f2 f3
    go_wp2_with fail
    refine wp_region_noPanic ?_
    refine wp_region_L (S := fun w' => w'.cell? ⟨w4.heap.size, 1, none⟩ = some (.int .i64 xa) ∧ w'.cell? ⟨w4.heap.size, 2, none⟩ = some (.int .i64 xi) ∧ w'.cell? ⟨w4.heap.size, 7, none⟩ = some (.int .i64 fi) ∧ w'.cell? ⟨w4.heap.size, 4, none⟩ = some (.slice qe xs.length je)) (x := 14) (by kernel_rfl) ?_
    have C5' : CellsAt (w4.alloc (.cells #[.string N, .int .i64 xa, .int .i64 xi, .string T, .slice qe xs.length je, .slice qi li ji, .slice qp lp jp, .int .i64 fi] 56)) (w.heap.size + 1 + 1) 114 #[.int .i64 0, .int .i64 0, .int .i64 0, .slice none 0 0] := C4.kept (World.grownBy_alloc w4 (.cells #[.string N, .int .i64 xa, .int .i64 xi, .string T, .slice qe xs.length je, .slice qi li ji, .slice qp lp jp, .int .i64 fi] 56) none) (by simp)
    have C5 : CellsAt (w4.alloc (.cells #[.string N, .int .i64 xa, .int .i64 xi, .string T, .slice qe xs.length je, .slice qi li ji, .slice qp lp jp, .int .i64 fi] 56)).drew (w.heap.size + 1 + 1) 114 #[.int .i64 0, .int .i64 0, .int .i64 0, .slice none 0 0] := C5'
    clear C5'
    have P5 : CellsAt (w4.alloc (.cells #[.string N, .int .i64 xa, .int .i64 xi, .string T, .slice qe xs.length je, .slice qi li ji, .slice qp lp jp, .int .i64 fi] 56)).drew w4.heap.size 56 #[.string N, .int .i64 xa, .int .i64 xi, .string T, .slice qe xs.length je, .slice qi li ji, .slice qp lp jp, .int .i64 fi] := CellsAt.new w4 56 #[.string N, .int .i64 xa, .int .i64 xi, .string T, .slice qe xs.length je, .slice qi li ji, .slice qp lp jp, .int .i64 fi]
    have B5 : Below w.heap.size w (w4.alloc (.cells #[.string N, .int .i64 xa, .int .i64 xi, .string T, .slice qe xs.length je, .slice qi li ji, .slice qp lp jp, .int .i64 fi] 56)).drew := (B4.alloc B4.size _).drew
    have s5 : w4.heap.size < (w4.alloc (.cells #[.string N, .int .i64 xa, .int .i64 xi, .string T, .slice qe xs.length je, .slice qi li ji, .slice qp lp jp, .int .i64 fi] 56)).drew.heap.size := P5.lt
    generalize (w4.alloc (.cells #[.string N, .int .i64 xa, .int .i64 xi, .string T, .slice qe xs.length je, .slice qi li ji, .slice qp lp jp, .int .i64 fi] 56)).drew = w5 at C5 P5 B5 s5 ⊢
    have hS0 : w5.cell? ⟨w4.heap.size, 1, none⟩ = some (.int .i64 xa) ∧ w5.cell? ⟨w4.heap.size, 2, none⟩ = some (.int .i64 xi) ∧ w5.cell? ⟨w4.heap.size, 7, none⟩ = some (.int .i64 fi) ∧ w5.cell? ⟨w4.heap.size, 4, none⟩ = some (.slice qe xs.length je) := ⟨P5.cell 1, P5.cell 2, P5.cell 7, P5.cell 4⟩
    refine wpL_take 0 28 (.pointer (some ⟨w4.heap.size, 0, none⟩)) rfl (by kernel_rfl) (fun _ _ _ h => h) hS0 rfl rfl (fun w' hSw => by (try dsimp only at hSw); go_simp) ?_
    simp only [List.setIfInBounds_toArray, List.set_cons_zero, List.set_cons_succ]
    refine wpL_take 1 29 (.pointer (some ⟨w4.heap.size, 1, none⟩)) rfl (by kernel_rfl) (fun _ _ _ h => h) hS0 rfl rfl (fun w' hSw => by (try dsimp only at hSw); go_simp) ?_
    simp only [List.setIfInBounds_toArray, List.set_cons_zero, List.set_cons_succ]
    refine wpL_take 2 30 (.int .i64 xa) rfl (by kernel_rfl) (fun _ _ _ h => h) hS0 rfl rfl (fun w' hSw => by (try dsimp only at hSw); go_simp) ?_
    simp only [List.setIfInBounds_toArray, List.set_cons_zero, List.set_cons_succ]
    refine wpL_take 3 31 (.pointer (some ⟨w4.heap.size, 0, none⟩)) rfl (by kernel_rfl) (fun _ _ _ h => h) hS0 rfl rfl (fun w' hSw => by (try dsimp only at hSw); go_simp) ?_
    simp only [List.setIfInBounds_toArray, List.set_cons_zero, List.set_cons_succ]
    refine wpL_take 4 32 (.pointer (some ⟨w4.heap.size, 2, none⟩)) rfl (by kernel_rfl) (fun _ _ _ h => h) hS0 rfl rfl (fun w' hSw => by (try dsimp only at hSw); go_simp) ?_
    simp only [List.setIfInBounds_toArray, List.set_cons_zero, List.set_cons_succ]
    refine wpL_take 5 33 (.int .i64 xi) rfl (by kernel_rfl) (fun _ _ _ h => h) hS0 rfl rfl (fun w' hSw => by (try dsimp only at hSw); go_simp) ?_
    simp only [List.setIfInBounds_toArray, List.set_cons_zero, List.set_cons_succ]
    refine wpL_take 6 34 (.pointer (some ⟨w4.heap.size, 7, none⟩)) rfl (by kernel_rfl) (fun _ _ _ h => h) hS0 rfl rfl (fun w' hSw => by (try dsimp only at hSw); go_simp) ?_
    simp only [List.setIfInBounds_toArray, List.set_cons_zero, List.set_cons_succ]
    refine wpL_take 7 35 (.int .i64 fi) rfl (by kernel_rfl) (fun _ _ _ h => h) hS0 rfl rfl (fun w' hSw => by (try dsimp only at hSw); go_simp) ?_
    simp only [List.setIfInBounds_toArray, List.set_cons_zero, List.set_cons_succ]
    refine wpL_take 9 37 (.pointer (some ⟨w4.heap.size, 0, none⟩)) rfl (by kernel_rfl) (fun _ _ _ h => h) hS0 rfl rfl (fun w' hSw => by (try dsimp only at hSw); go_simp) ?_
    simp only [List.setIfInBounds_toArray, List.set_cons_zero, List.set_cons_succ]
    refine wpL_take 10 38 (.pointer (some ⟨w4.heap.size, 4, none⟩)) rfl (by kernel_rfl) (fun _ _ _ h => h) hS0 rfl rfl (fun w' hSw => by (try dsimp only at hSw); go_simp) ?_
    simp only [List.setIfInBounds_toArray, List.set_cons_zero, List.set_cons_succ]
    refine wpL_take 11 39 (.slice qe xs.length je) rfl (by kernel_rfl) (fun _ _ _ h => h) hS0 rfl rfl (fun w' hSw => by (try dsimp only at hSw); go_simp) ?_
    simp only [List.setIfInBounds_toArray, List.set_cons_zero, List.set_cons_succ]
    refine wpL_step (i := 8) rfl (by kernel_rfl) (fun K hK => ?_)
    go_simp
    refine (addr_any fi w5 g0 g1).mono ?_
    rintro e w6 ⟨rfl, rfl⟩
    go_simp
    refine hK.out _ _ hS0 (fun _ => ?_)
    clear hK K
    refine wpL_take 12 40 (.agg #[.int .i64 xa, .int .i64 xi, .int .i64 (4096 + fi * 64), .slice qe xs.length je]) rfl (by kernel_rfl) (fun _ _ _ h => h) hS0 rfl rfl (fun w' hSw => by (try dsimp only at hSw); go_simp) ?_
    simp only [List.setIfInBounds_toArray, List.set_cons_zero, List.set_cons_succ]
    have t0 := C5.cell 0
    have t1 := C5.cell 1
    have t2 := C5.cell 2
    have t3 := C5.cell 3
    have f0 := C5.frozen 0
    have f1 := C5.frozen 1
    have f2 := C5.frozen 2
    have f3 := C5.frozen 3
    simp at t0 t1 t2 t3
    refine wpL_step (i := 13) rfl (by kernel_rfl) (fun K hK => ?_)
    go_simp
    have hne : some w4.heap.size ≠ some (w.heap.size + 1 + 1) := fun e => by
      injection e with e
      omega
    have P6 := (((P5.kept (grown_set w6 (w.heap.size + 1 + 1) 0 (.int .i64 xa)) hne).kept (grown_set _ (w.heap.size + 1 + 1) 1 (.int .i64 xi)) hne).kept (grown_set _ (w.heap.size + 1 + 1) 2 (.int .i64 (4096 + fi * 64))) hne).kept (grown_set _ (w.heap.size + 1 + 1) 3 (.slice qe xs.length je)) hne
    have C6 := (((C5.set 0 (.int .i64 xa)).set 1 (.int .i64 xi)).set 2 (.int .i64 (4096 + fi * 64))).set 3 (.slice qe xs.length je)
    have B6 : Below w.heap.size w ((((w6.setCell ⟨w.heap.size + 1 + 1, 0, none⟩ (.int .i64 xa)).setCell ⟨w.heap.size + 1 + 1, 1, none⟩ (.int .i64 xi)).setCell ⟨w.heap.size + 1 + 1, 2, none⟩ (.int .i64 (4096 + fi * 64))).setCell ⟨w.heap.size + 1 + 1, 3, none⟩ (.slice qe xs.length je)) := (((B5.setCell (by simp; omega) _).setCell (by simp; omega) _).setCell (by simp; omega) _).setCell (by simp; omega) _
    refine hK.out _ _ ⟨P6.cell 1, P6.cell 2, P6.cell 7, P6.cell 4⟩ (fun _ => ?_)
    clear hK K hS0 t0 t1 t2 t3 f0 f1 f2 f3
    generalize (((w6.setCell ⟨w.heap.size + 1 + 1, 0, none⟩ (.int .i64 xa)).setCell ⟨w.heap.size + 1 + 1, 1, none⟩ (.int .i64 xi)).setCell ⟨w.heap.size + 1 + 1, 2, none⟩ (.int .i64 (4096 + fi * 64))).setCell ⟨w.heap.size + 1 + 1, 3, none⟩ (.slice qe xs.length je) = w7 at C6 B6 ⊢
    refine wpL_last (x := 14) rfl (by kernel_rfl) (by kernel_rfl) (fun K hK => ?_)
    go_simp
    refine hK.out _ _ ?_
    refine NoPanic.normal ?_
    clear hK K
    go_wp2
    (try simp only [Exit.inBlock, Exit.then])
    have hF : CellsAt w7 (w.heap.size + 1 + 1) 114 #[.int .i64 xa, .int .i64 xi, .int .i64 (4096 + fi * 64), .slice qe xs.length je] := C6
    refine bodyPost_ret (results_cell_tmp_row rfl _ _ _ _ _ _ _ rfl hF Try.underlying114 rfl (by kernel_rfl)) rfl ?_
    exact ⟨⟨_, rfl, _, rfl, hE1⟩, B6⟩

end Go.Proofs.Ytaklbnabgcglhab
