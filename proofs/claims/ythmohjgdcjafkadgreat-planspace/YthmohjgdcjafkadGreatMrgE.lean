/- Texts that are laid together. -/
import Derived.Test.YthmohjgdcjafkadGreatMrgD
import Derived.Shelf.RegionOpenPlain
import Derived.Lib.SliceRun
import Derived.Lib.Walk
import Derived.Laws.IdiomCopy
import Derived.Lib.AppendZerosOnto
import Derived.Deep.RegionLaw

/- The contracts of slices.Clone at exports, imports, patches and placed modules: a row of one's own. -/
namespace Go.Proofs.YthmohjgdcjafkadGreat
open Go.RowKit Go.PlainAid Go.Lib

set_option maxRecDepth 100000

theorem add_none (b off j : Nat) : (⟨b, off, none⟩ : Addr).add j = ⟨b, off + j, none⟩ := by unfold Addr.add; split <;> simp_all

theorem infoExpC : (Tryz.prog.info? 120).map (fun i => (i.zero, i.size, i.bytes)) = some (some (.agg #[.string ⟨#[]⟩, .int .i64 0]), 2, 24) := by kernel_rfl
theorem infoExp_parts : ∃ i, Tryz.prog.info? 120 = some i ∧ i.zero = some (.agg #[.string ⟨#[]⟩, .int .i64 0]) ∧ i.size = 2 ∧ i.bytes = 24 := by
  have h := infoExpC
  cases hi : Tryz.prog.info? 120 with
  | none => rw [hi] at h; cases h
  | some i =>
    rw [hi] at h
    simp at h
    exact ⟨i, rfl, h.1, h.2.1, h.2.2⟩
theorem oneExp (l : List Exp) : ∀ u ∈ l.flatMap expC, u.oneCell' = true := by
  intro u hu
  obtain ⟨x, _, hx⟩ := List.mem_flatMap.1 hu
  simp only [expC, List.mem_cons, List.not_mem_nil, or_false] at hx
  rcases hx with rfl | rfl <;> rfl
set_option maxHeartbeats 2000000 in
theorem cloneExp_any (l : List Exp) (v : Value) (w : World) (h : RowOf 2 Exp.cell w.heap.size w v l) (hl : l.length ≤ 255) :
    Calls Tryz.prog 88 #[v] w fun e w' => (∃ r, e = .returned r ∧ w'.ownsRow w.heap.size 120 2 r l.length (l.flatMap expC)) ∧ Below w.heap.size w w' := by
  obtain ⟨i0, hi0, hz0, hz1, hz2⟩ := infoExp_parts
  obtain ⟨a, cap, rfl, _, h⟩ := h
  have q0 : ∀ (w : World) (a : Option Addr) (n c n' c' : Nat), (binOp .eql 22 (.slice a n c) (.slice none n' c')).run Tryz.prog w = .ok (.bool a.isNone) w := fun w a n c n' c' => Lib.run_eql_slice_nil w _ _ a n c n' c' Tryz.underlying22
  have HN : Hid (∀ ad, a = some ad → ∀ j u, (l.flatMap expC)[j]? = some u → w.cell? (ad.add j) = some u) := by
    intro ad ha j u hu
    rcases h with h | ⟨b, off, rfl, hbn, hcells⟩
    · subst h; simp at hu
    · obtain rfl := Option.some.inj ha
      exact news_row (C := expC) (cells := Exp.cell) (sz := 2) (by decide) (fun _ => rfl) expC_at hcells j u hu
  have HL : Hid ((l.flatMap expC).length = l.length * 2) := flat_len (C := expC) (sz := 2) (fun _ => rfl) l
  have HO : Hid (∀ u ∈ l.flatMap expC, u.oneCell' = true) := (oneExp l)
  have HE : Hid (a = none → l = []) := fun e => by
    rcases h with h | ⟨b, off, h, _⟩
    · exact h
    · rw [e] at h; cases h
  clear h
  rcases a with _ | ad
  · have := HE.out rfl
    subst this
    clear HN HL HO HE
    go_enter Tryz.func88, Tryz.ntmps88
    go_wp2
    go_ret
    exact ⟨⟨_, rfl, World.ownsRow_nil _ _ _ _⟩, Below.refl _ _⟩
  · have HN2 : Hid (∀ j u, (l.flatMap expC)[j]? = some u → w.cell? (ad.add j) = some u) := HN.out ad rfl
    clear HN HE
    generalize l.flatMap expC = news at *
    go_enter Tryz.func88, Tryz.ntmps88
    go_wp2_with (at_builtin; refine wpList_append_own _ rfl _ _ 22 rfl w.heap.size 120 i0 (.agg #[.string ⟨#[]⟩, .int .i64 0]) 2 24 Tryz.underlying22 hi0 hz0 hz1 hz2 rfl (by decide) _ _ _ rfl (World.ownsRow_made w #[] 0 (Nat.le_refl _) (Nat.zero_le _) (by simp)) ad l.length cap news rfl ?qc1 ?qc2 ?qc3 ?qc4 ?qc5 ?qc6 ?_)
    case qc1 => exact HL.out
    case qc2 =>
      intro j u hj
      exact Lib.cell?_alloc_some _ (HN2.out j u hj)
    case qc3 => exact HO.out
    case qc4 => unfold maxLen; omega
    case qc5 => omega
    case qc6 => simp
    intro v' w1 hown hgrow hnil
    go_wp2
    go_ret
    refine ⟨⟨v', rfl, by simpa using hown⟩, ?_⟩
    exact ((Below.refl _ w).alloc (Nat.le_refl _) _).grown hgrow (by simp) (by intro k hk; simp [Value.ownBlock] at hk; omega)

theorem infoImpC : (Tryz.prog.info? 84).map (fun i => (i.zero, i.size, i.bytes)) = some (some (.agg #[.string ⟨#[]⟩, .string ⟨#[]⟩, .int .i64 0, .int .i64 0]), 4, 48) := by kernel_rfl
theorem infoImp_parts : ∃ i, Tryz.prog.info? 84 = some i ∧ i.zero = some (.agg #[.string ⟨#[]⟩, .string ⟨#[]⟩, .int .i64 0, .int .i64 0]) ∧ i.size = 4 ∧ i.bytes = 48 := by
  have h := infoImpC
  cases hi : Tryz.prog.info? 84 with
  | none => rw [hi] at h; cases h
  | some i =>
    rw [hi] at h
    simp at h
    exact ⟨i, rfl, h.1, h.2.1, h.2.2⟩
theorem oneImp (l : List Imp) : ∀ u ∈ l.flatMap impC, u.oneCell' = true := by
  intro u hu
  obtain ⟨x, _, hx⟩ := List.mem_flatMap.1 hu
  simp only [impC, List.mem_cons, List.not_mem_nil, or_false] at hx
  rcases hx with rfl | rfl | rfl | rfl <;> rfl
set_option maxHeartbeats 2000000 in
theorem cloneImp_any (l : List Imp) (v : Value) (w : World) (h : RowOf 4 Imp.cell w.heap.size w v l) (hl : l.length ≤ 255) :
    Calls Tryz.prog 89 #[v] w fun e w' => (∃ r, e = .returned r ∧ w'.ownsRow w.heap.size 84 4 r l.length (l.flatMap impC)) ∧ Below w.heap.size w w' := by
  obtain ⟨i0, hi0, hz0, hz1, hz2⟩ := infoImp_parts
  obtain ⟨a, cap, rfl, _, h⟩ := h
  have q0 : ∀ (w : World) (a : Option Addr) (n c n' c' : Nat), (binOp .eql 36 (.slice a n c) (.slice none n' c')).run Tryz.prog w = .ok (.bool a.isNone) w := fun w a n c n' c' => Lib.run_eql_slice_nil w _ _ a n c n' c' Tryz.underlying36
  have HN : Hid (∀ ad, a = some ad → ∀ j u, (l.flatMap impC)[j]? = some u → w.cell? (ad.add j) = some u) := by
    intro ad ha j u hu
    rcases h with h | ⟨b, off, rfl, hbn, hcells⟩
    · subst h; simp at hu
    · obtain rfl := Option.some.inj ha
      exact news_row (C := impC) (cells := Imp.cell) (sz := 4) (by decide) (fun _ => rfl) impC_at hcells j u hu
  have HL : Hid ((l.flatMap impC).length = l.length * 4) := flat_len (C := impC) (sz := 4) (fun _ => rfl) l
  have HO : Hid (∀ u ∈ l.flatMap impC, u.oneCell' = true) := (oneImp l)
  have HE : Hid (a = none → l = []) := fun e => by
    rcases h with h | ⟨b, off, h, _⟩
    · exact h
    · rw [e] at h; cases h
  clear h
  rcases a with _ | ad
  · have := HE.out rfl
    subst this
    clear HN HL HO HE
    go_enter Tryz.func89, Tryz.ntmps89
    go_wp2
    go_ret
    exact ⟨⟨_, rfl, World.ownsRow_nil _ _ _ _⟩, Below.refl _ _⟩
  · have HN2 : Hid (∀ j u, (l.flatMap impC)[j]? = some u → w.cell? (ad.add j) = some u) := HN.out ad rfl
    clear HN HE
    generalize l.flatMap impC = news at *
    go_enter Tryz.func89, Tryz.ntmps89
    go_wp2_with (at_builtin; refine wpList_append_own _ rfl _ _ 36 rfl w.heap.size 84 i0 (.agg #[.string ⟨#[]⟩, .string ⟨#[]⟩, .int .i64 0, .int .i64 0]) 4 48 Tryz.underlying36 hi0 hz0 hz1 hz2 rfl (by decide) _ _ _ rfl (World.ownsRow_made w #[] 0 (Nat.le_refl _) (Nat.zero_le _) (by simp)) ad l.length cap news rfl ?qc1 ?qc2 ?qc3 ?qc4 ?qc5 ?qc6 ?_)
    case qc1 => exact HL.out
    case qc2 =>
      intro j u hj
      exact Lib.cell?_alloc_some _ (HN2.out j u hj)
    case qc3 => exact HO.out
    case qc4 => unfold maxLen; omega
    case qc5 => omega
    case qc6 => simp
    intro v' w1 hown hgrow hnil
    go_wp2
    go_ret
    refine ⟨⟨v', rfl, by simpa using hown⟩, ?_⟩
    exact ((Below.refl _ w).alloc (Nat.le_refl _) _).grown hgrow (by simp) (by intro k hk; simp [Value.ownBlock] at hk; omega)

theorem infoPatC : (Tryz.prog.info? 43).map (fun i => (i.zero, i.size, i.bytes)) = some (some (.agg #[.int .i64 0, .int .i64 0, .int .i64 0, .int .i64 0]), 4, 32) := by kernel_rfl
theorem infoPat_parts : ∃ i, Tryz.prog.info? 43 = some i ∧ i.zero = some (.agg #[.int .i64 0, .int .i64 0, .int .i64 0, .int .i64 0]) ∧ i.size = 4 ∧ i.bytes = 32 := by
  have h := infoPatC
  cases hi : Tryz.prog.info? 43 with
  | none => rw [hi] at h; cases h
  | some i =>
    rw [hi] at h
    simp at h
    exact ⟨i, rfl, h.1, h.2.1, h.2.2⟩
theorem onePat (l : List Pat) : ∀ u ∈ l.flatMap patC, u.oneCell' = true := by
  intro u hu
  obtain ⟨x, _, hx⟩ := List.mem_flatMap.1 hu
  simp only [patC, List.mem_cons, List.not_mem_nil, or_false] at hx
  rcases hx with rfl | rfl | rfl | rfl <;> rfl
set_option maxHeartbeats 2000000 in
theorem clonePat_any (l : List Pat) (v : Value) (w : World) (h : RowOf 4 Pat.cell w.heap.size w v l) (hl : l.length ≤ 255) :
    Calls Tryz.prog 90 #[v] w fun e w' => (∃ r, e = .returned r ∧ w'.ownsRow w.heap.size 43 4 r l.length (l.flatMap patC)) ∧ Below w.heap.size w w' := by
  obtain ⟨i0, hi0, hz0, hz1, hz2⟩ := infoPat_parts
  obtain ⟨a, cap, rfl, _, h⟩ := h
  have q0 : ∀ (w : World) (a : Option Addr) (n c n' c' : Nat), (binOp .eql 37 (.slice a n c) (.slice none n' c')).run Tryz.prog w = .ok (.bool a.isNone) w := fun w a n c n' c' => Lib.run_eql_slice_nil w _ _ a n c n' c' Tryz.underlying37
  have HN : Hid (∀ ad, a = some ad → ∀ j u, (l.flatMap patC)[j]? = some u → w.cell? (ad.add j) = some u) := by
    intro ad ha j u hu
    rcases h with h | ⟨b, off, rfl, hbn, hcells⟩
    · subst h; simp at hu
    · obtain rfl := Option.some.inj ha
      exact news_row (C := patC) (cells := Pat.cell) (sz := 4) (by decide) (fun _ => rfl) patC_at hcells j u hu
  have HL : Hid ((l.flatMap patC).length = l.length * 4) := flat_len (C := patC) (sz := 4) (fun _ => rfl) l
  have HO : Hid (∀ u ∈ l.flatMap patC, u.oneCell' = true) := (onePat l)
  have HE : Hid (a = none → l = []) := fun e => by
    rcases h with h | ⟨b, off, h, _⟩
    · exact h
    · rw [e] at h; cases h
  clear h
  rcases a with _ | ad
  · have := HE.out rfl
    subst this
    clear HN HL HO HE
    go_enter Tryz.func90, Tryz.ntmps90
    go_wp2
    go_ret
    exact ⟨⟨_, rfl, World.ownsRow_nil _ _ _ _⟩, Below.refl _ _⟩
  · have HN2 : Hid (∀ j u, (l.flatMap patC)[j]? = some u → w.cell? (ad.add j) = some u) := HN.out ad rfl
    clear HN HE
    generalize l.flatMap patC = news at *
    go_enter Tryz.func90, Tryz.ntmps90
    go_wp2_with (at_builtin; refine wpList_append_own _ rfl _ _ 37 rfl w.heap.size 43 i0 (.agg #[.int .i64 0, .int .i64 0, .int .i64 0, .int .i64 0]) 4 32 Tryz.underlying37 hi0 hz0 hz1 hz2 rfl (by decide) _ _ _ rfl (World.ownsRow_made w #[] 0 (Nat.le_refl _) (Nat.zero_le _) (by simp)) ad l.length cap news rfl ?qc1 ?qc2 ?qc3 ?qc4 ?qc5 ?qc6 ?_)
    case qc1 => exact HL.out
    case qc2 =>
      intro j u hj
      exact Lib.cell?_alloc_some _ (HN2.out j u hj)
    case qc3 => exact HO.out
    case qc4 => unfold maxLen; omega
    case qc5 => omega
    case qc6 => simp
    intro v' w1 hown hgrow hnil
    go_wp2
    go_ret
    refine ⟨⟨v', rfl, by simpa using hown⟩, ?_⟩
    exact ((Below.refl _ w).alloc (Nat.le_refl _) _).grown hgrow (by simp) (by intro k hk; simp [Value.ownBlock] at hk; omega)

set_option maxHeartbeats 2000000 in
theorem clonePlc_any (l : List PV) (v : Value) (w : World) (h : RowOf 8 PV.cell w.heap.size w v l) (hl : l.length ≤ 255) (hone : ∀ u ∈ l.flatMap pvC, u.oneCell' = true) :
    Calls Tryz.prog 152 #[v] w fun e w' => (∃ r, e = .returned r ∧ w'.ownsRow w.heap.size 41 8 r l.length (l.flatMap pvC)) ∧ Below w.heap.size w w' := by
  obtain ⟨i0, hi0, hz0, hz1, hz2⟩ := infoPlc_parts
  obtain ⟨a, cap, rfl, _, h⟩ := h
  have q0 : ∀ (w : World) (a : Option Addr) (n c n' c' : Nat), (binOp .eql 25 (.slice a n c) (.slice none n' c')).run Tryz.prog w = .ok (.bool a.isNone) w := fun w a n c n' c' => Lib.run_eql_slice_nil w _ _ a n c n' c' Tryz.underlying25
  have HN : Hid (∀ ad, a = some ad → ∀ j u, (l.flatMap pvC)[j]? = some u → w.cell? (ad.add j) = some u) := by
    intro ad ha j u hu
    rcases h with h | ⟨b, off, rfl, hbn, hcells⟩
    · subst h; simp at hu
    · obtain rfl := Option.some.inj ha
      exact news_row (C := pvC) (cells := PV.cell) (sz := 8) (by decide) (fun _ => rfl) pvC_at hcells j u hu
  have HL : Hid ((l.flatMap pvC).length = l.length * 8) := flat_len (C := pvC) (sz := 8) (fun _ => rfl) l
  have HO : Hid (∀ u ∈ l.flatMap pvC, u.oneCell' = true) := hone
  have HE : Hid (a = none → l = []) := fun e => by
    rcases h with h | ⟨b, off, h, _⟩
    · exact h
    · rw [e] at h; cases h
  clear h
  rcases a with _ | ad
  · have := HE.out rfl
    subst this
    clear HN HL HO HE
    go_enter Tryz.func152, Tryz.ntmps152
    go_wp2
    go_ret
    exact ⟨⟨_, rfl, World.ownsRow_nil _ _ _ _⟩, Below.refl _ _⟩
  · have HN2 : Hid (∀ j u, (l.flatMap pvC)[j]? = some u → w.cell? (ad.add j) = some u) := HN.out ad rfl
    clear HN HE
    generalize l.flatMap pvC = news at *
    go_enter Tryz.func152, Tryz.ntmps152
    go_wp2_with (at_builtin; refine wpList_append_own _ rfl _ _ 25 rfl w.heap.size 41 i0 _ 8 128 Tryz.underlying25 hi0 hz0 hz1 hz2 rfl (by decide) _ _ _ rfl (World.ownsRow_made w #[] 0 (Nat.le_refl _) (Nat.zero_le _) (by simp)) ad l.length cap news rfl ?qc1 ?qc2 ?qc3 ?qc4 ?qc5 ?qc6 ?_)
    case qc1 => exact HL.out
    case qc2 =>
      intro j u hj
      exact Lib.cell?_alloc_some _ (HN2.out j u hj)
    case qc3 => exact HO.out
    case qc4 => unfold maxLen; omega
    case qc5 => omega
    case qc6 => simp
    intro v' w1 hown hgrow hnil
    go_wp2
    go_ret
    refine ⟨⟨v', rfl, by simpa using hown⟩, ?_⟩
    exact ((Below.refl _ w).alloc (Nat.le_refl _) _).grown hgrow (by simp) (by intro k hk; simp [Value.ownBlock] at hk; omega)

end Go.Proofs.YthmohjgdcjafkadGreat

/- Rows of one's own: rows of other types, and cells, lie apart from them. -/
namespace Go.Proofs.YthmohjgdcjafkadGreat
open Go.RowKit Go.PlainAid

theorem own_kind {W : World} {base : Nat} {e : TypeId} {size : Nat} {v : Value} {n : Nat} {xs : List Value} (h : W.ownsRow base e size v n xs) : ∀ k, v.ownBlock = some k → ∃ cur fr, W.heap[k]? = some (.cells cur e fr) := by
  intro k hk
  rcases h.2 with ⟨rfl, _⟩ | ⟨g, cap, cur, rfl, _, hc, _⟩
  · cases hk
  · simp [Value.ownBlock] at hk
    subst hk
    exact ⟨cur, _, hc⟩
theorem own_ne_own {W : World} {b1 b2 : Nat} {e1 e2 : TypeId} {s1 s2 : Nat} {v1 v2 : Value} {n1 n2 : Nat} {x1 x2 : List Value} (h1 : W.ownsRow b1 e1 s1 v1 n1 x1) (h2 : W.ownsRow b2 e2 s2 v2 n2 x2) (he : e1 ≠ e2) : v1.ownBlock = none ∨ v1.ownBlock ≠ v2.ownBlock := by
  cases hv : v1.ownBlock with
  | none => exact .inl rfl
  | some k =>
    refine .inr fun e => ?_
    obtain ⟨c1, f1, hc1⟩ := own_kind h1 k hv
    obtain ⟨c2, f2, hc2⟩ := own_kind h2 k e.symm
    rw [hc1] at hc2
    injection hc2 with hc2
    injection hc2 with _ h
    exact he h
theorem own_ne_cells {W : World} {b B : Nat} {e t : TypeId} {s : Nat} {v : Value} {n : Nat} {xs : List Value} {cs : Array Value} (h1 : W.ownsRow b e s v n xs) (hc : CellsAt W B t cs) (he : e ≠ t) : v.ownBlock ≠ some B := by
  intro hv
  obtain ⟨c1, f1, hc1⟩ := own_kind h1 B hv
  rw [show W.heap[B]? = _ from hc] at hc1
  injection hc1 with hc1
  injection hc1 with _ h
  exact he h.symm
theorem own_storeAt {W : World} {b B : Nat} {e t : TypeId} {s : Nat} {v : Value} {n : Nat} {xs : List Value} {cs : Array Value} (h : W.ownsRow b e s v n xs) (hc : CellsAt W B t cs) (he : e ≠ t) (i : Nat) (u : Value) : (W.setCell ⟨B, i, none⟩ u).ownsRow b e s v n xs :=
  h.kept (grown_set W B i u) (.inr (own_ne_cells h hc he))
theorem own_apart {v1 v2 : Value} (h : ∀ k, v1.ownBlock = some k → v2.ownBlock ≠ some k) : v2.ownBlock = none ∨ v2.ownBlock ≠ v1.ownBlock := by
  cases hv : v2.ownBlock with
  | none => exact .inl rfl
  | some k => exact .inr fun e => h k e.symm hv
/-- What a growth of another type's row leaves as it was. -/
theorem own_beside {W W' : World} {b1 b2 : Nat} {e1 e2 : TypeId} {s1 s2 : Nat} {v1 v2 : Value} {n1 n2 : Nat} {x1 x2 : List Value} (h1 : W.ownsRow b1 e1 s1 v1 n1 x1) (h2 : W.ownsRow b2 e2 s2 v2 n2 x2) (he : e1 ≠ e2) (hg : W.grownBy W' v2.ownBlock) : W'.ownsRow b1 e1 s1 v1 n1 x1 :=
  h1.kept hg (own_ne_own h1 h2 he)
theorem cells_beside {W W' : World} {b B : Nat} {e t : TypeId} {s : Nat} {v : Value} {n : Nat} {xs : List Value} {cs : Array Value} (hc : CellsAt W B t cs) (h : W.ownsRow b e s v n xs) (he : e ≠ t) (hg : W.grownBy W' v.ownBlock) : CellsAt W' B t cs :=
  hc.kept hg (fun e' => own_ne_cells h hc he e'.symm)
theorem own_down {W : World} {base b : Nat} {e : TypeId} {size : Nat} {v : Value} {n : Nat} {xs : List Value} (h : W.ownsRow base e size v n xs) (hb : b ≤ base) : W.ownsRow b e size v n xs :=
  ⟨h.1, h.2.imp id (fun ⟨g, cap, cur, h1, h2, h3⟩ => ⟨g, cap, cur, h1, Nat.le_trans hb h2, h3⟩)⟩

end Go.Proofs.YthmohjgdcjafkadGreat

/- An element of a row of one's own, stored anew. -/
namespace Go.Proofs.YthmohjgdcjafkadGreat
open Go.RowKit Go.PlainAid Go.Lib

theorem flat_put {α : Type} {C : α → List Value} {sz : Nat} (hC : ∀ x, (C x).length = sz) : ∀ (l : List α) (k : Nat) (x y : α) (i : Nat) (u : Value), l[k]? = some x → i < sz → (C x).set i u = C y → (l.flatMap C).set (k * sz + i) u = (l.set k y).flatMap C
  | [], k, x, y, i, u, h, _, _ => by simp at h
  | z :: l, 0, x, y, i, u, h, hi, he => by
    obtain rfl : z = x := by simpa using h
    rw [List.flatMap_cons, Nat.zero_mul, Nat.zero_add, List.set_append_left _ _ (by rw [hC]; exact hi), he]
    rfl
  | z :: l, k + 1, x, y, i, u, h, hi, he => by
    have h' : l[k]? = some x := by simpa using h
    have hz := hC z
    rw [List.flatMap_cons, List.set_append_right _ _ (by rw [hz, Nat.succ_mul]; omega), hz, show (k + 1) * sz + i - sz = k * sz + i by rw [Nat.succ_mul]; omega, flat_put hC l k x y i u h' hi he]
    rfl
theorem set_at {l : List PV} {j : Nat} {x : PV} (hx : l[j]? = some x) (y : PV) : (l.set j y)[j]? = some y := by
  rw [List.getElem?_set_self (List.getElem?_eq_some_iff.1 hx).1]
/-- A placed module where another one lay. -/
theorem own_put {W : World} {base g n cap : Nat} {l : List PV} {j : Nat} {x : PV} (h : W.ownsRow base 41 8 (.slice (some ⟨g, 0, none⟩) n cap) n (l.flatMap pvC)) (hx : l[j]? = some x) (y : PV) :
    ((((((((W.setCell ⟨g, j * 8, none⟩ (.string y.mod.name)).setCell ⟨g, j * 8 + 1, none⟩ (.int .i64 y.mod.major)).setCell ⟨g, j * 8 + 2, none⟩ (.int .i64 y.mod.minor)).setCell ⟨g, j * 8 + 3, none⟩ (.string y.mod.text)).setCell ⟨g, j * 8 + 4, none⟩ y.ve).setCell ⟨g, j * 8 + 5, none⟩ y.vi).setCell ⟨g, j * 8 + 6, none⟩ y.vp).setCell ⟨g, j * 8 + 7, none⟩ (.int .i64 y.first)).ownsRow base 41 8 (.slice (some ⟨g, 0, none⟩) n cap) n ((l.set j y).flatMap pvC) ∧
    W.grownBy ((((((((W.setCell ⟨g, j * 8, none⟩ (.string y.mod.name)).setCell ⟨g, j * 8 + 1, none⟩ (.int .i64 y.mod.major)).setCell ⟨g, j * 8 + 2, none⟩ (.int .i64 y.mod.minor)).setCell ⟨g, j * 8 + 3, none⟩ (.string y.mod.text)).setCell ⟨g, j * 8 + 4, none⟩ y.ve).setCell ⟨g, j * 8 + 5, none⟩ y.vi).setCell ⟨g, j * 8 + 6, none⟩ y.vp).setCell ⟨g, j * 8 + 7, none⟩ (.int .i64 y.first)) (some g) := by
  obtain ⟨⟨N, a, b, T, es, is, ps⟩, ve, vi, vp, fi⟩ := y
  have F := fun (l : List PV) (x y : PV) (i : Nat) (u : Value) => flat_put (C := pvC) (sz := 8) (fun _ => rfl) l j x y i u
  obtain ⟨o0, g0⟩ := h.stored (j * 8) (.string N)
  obtain ⟨o1, g1⟩ := o0.stored (j * 8 + 1) (.int .i64 a)
  obtain ⟨o2, g2⟩ := o1.stored (j * 8 + 2) (.int .i64 b)
  obtain ⟨o3, g3⟩ := o2.stored (j * 8 + 3) (.string T)
  obtain ⟨o4, g4⟩ := o3.stored (j * 8 + 4) ve
  obtain ⟨o5, g5⟩ := o4.stored (j * 8 + 5) vi
  obtain ⟨o6, g6⟩ := o5.stored (j * 8 + 6) vp
  obtain ⟨o7, g7⟩ := o6.stored (j * 8 + 7) (.int .i64 fi)
  refine ⟨?_, (((((((g0.trans g1).trans g2).trans g3).trans g4).trans g5).trans g6).trans g7)⟩
  have e : ((((((((l.flatMap pvC).set (j * 8) (.string N)).set (j * 8 + 1) (.int .i64 a)).set (j * 8 + 2) (.int .i64 b)).set (j * 8 + 3) (.string T)).set (j * 8 + 4) ve).set (j * 8 + 5) vi).set (j * 8 + 6) vp).set (j * 8 + 7) (.int .i64 fi) = (l.set j ⟨⟨N, a, b, T, es, is, ps⟩, ve, vi, vp, fi⟩).flatMap pvC := by
    obtain ⟨⟨N', a', b', T', es', is', ps'⟩, ve', vi', vp', fi'⟩ := x
    have G : ∀ (x y : PV) (z : PV) (i : Nat) (u : Value), l[j]? = some x → i < 8 → (pvC z).set i u = pvC y → ((l.set j z).flatMap pvC).set (j * 8 + i) u = (l.set j y).flatMap pvC := fun x y z i u hx hi he => by
      rw [F (l.set j z) z y i u (set_at hx z) hi he, List.set_set]
    have s0 := F l _ ⟨⟨N, a', b', T', es', is', ps'⟩, ve', vi', vp', fi'⟩ 0 (.string N) hx (by omega) rfl
    rw [Nat.add_zero] at s0
    have s1 := G _ ⟨⟨N, a, b', T', es', is', ps'⟩, ve', vi', vp', fi'⟩ ⟨⟨N, a', b', T', es', is', ps'⟩, ve', vi', vp', fi'⟩ 1 (.int .i64 a) hx (by omega) rfl
    have s2 := G _ ⟨⟨N, a, b, T', es', is', ps'⟩, ve', vi', vp', fi'⟩ ⟨⟨N, a, b', T', es', is', ps'⟩, ve', vi', vp', fi'⟩ 2 (.int .i64 b) hx (by omega) rfl
    have s3 := G _ ⟨⟨N, a, b, T, es', is', ps'⟩, ve', vi', vp', fi'⟩ ⟨⟨N, a, b, T', es', is', ps'⟩, ve', vi', vp', fi'⟩ 3 (.string T) hx (by omega) rfl
    have s4 := G _ ⟨⟨N, a, b, T, es', is', ps'⟩, ve, vi', vp', fi'⟩ ⟨⟨N, a, b, T, es', is', ps'⟩, ve', vi', vp', fi'⟩ 4 ve hx (by omega) rfl
    have s5 := G _ ⟨⟨N, a, b, T, es', is', ps'⟩, ve, vi, vp', fi'⟩ ⟨⟨N, a, b, T, es', is', ps'⟩, ve, vi', vp', fi'⟩ 5 vi hx (by omega) rfl
    have s6 := G _ ⟨⟨N, a, b, T, es', is', ps'⟩, ve, vi, vp, fi'⟩ ⟨⟨N, a, b, T, es', is', ps'⟩, ve, vi, vp', fi'⟩ 6 vp hx (by omega) rfl
    have s7 := G _ ⟨⟨N, a, b, T, es, is, ps⟩, ve, vi, vp, fi⟩ ⟨⟨N, a, b, T, es', is', ps'⟩, ve, vi, vp, fi'⟩ 7 (.int .i64 fi) hx (by omega) rfl
    rw [s0, s1, s2, s3, s4, s5, s6, s7]
  rw [e] at o7
  exact o7

end Go.Proofs.YthmohjgdcjafkadGreat

/- Rows of one's own that are cut, widened, and written into: within, and behind their end. -/
namespace Go.Proofs.YthmohjgdcjafkadGreat
open Go.RowKit Go.PlainAid Go.Lib

theorem grown_refl (W : World) (b : Option Nat) : W.grownBy W b := ⟨rfl, rfl, rfl, Nat.le_refl _, fun _ _ _ => rfl⟩
theorem grown_drew (W : World) (b : Option Nat) : W.grownBy W.drew b := ⟨rfl, rfl, rfl, Nat.le_refl _, fun _ _ _ => rfl⟩
theorem grown_up {W W' : World} {b : Option Nat} (h : W.grownBy W' none) : W.grownBy W' b := ⟨h.os, h.tape, h.output, h.size, fun k hk _ => h.block k hk (by simp)⟩
theorem own_beyond {base g n cap sz : Nat} {e : TypeId} {xs : List Value} : ∀ (vs : List Value) (o : Nat) (W : World), W.ownsRow base e sz (.slice (some ⟨g, 0, none⟩) n cap) n xs → n * sz ≤ o →
    (W.setCells g o vs).ownsRow base e sz (.slice (some ⟨g, 0, none⟩) n cap) n xs ∧ W.grownBy (W.setCells g o vs) (some g)
  | [], _, W, h, _ => ⟨h, grown_refl W _⟩
  | v :: r, o, W, h, ho => by
    obtain ⟨h1, g1⟩ := h.stored o v
    rw [List.set_eq_of_length_le (by rw [h.1]; exact ho)] at h1
    obtain ⟨h2, g2⟩ := own_beyond r (o + 1) _ h1 (by omega)
    exact ⟨h2, g1.trans g2⟩
/-- Some values laid over others, from a place on. -/
def layL : List Value → Nat → List Value → List Value
  | xs, _, [] => xs
  | xs, o, v :: r => layL (xs.set o v) (o + 1) r
theorem layL_eq : ∀ (vs : List Value) (xs : List Value) (o : Nat), o + vs.length ≤ xs.length → layL xs o vs = xs.take o ++ vs ++ xs.drop (o + vs.length)
  | [], xs, o, _ => by
    show xs = _
    simp
  | v :: r, xs, o, h => by
    rw [List.length_cons] at h
    show layL (xs.set o v) (o + 1) r = _
    rw [layL_eq r (xs.set o v) (o + 1) (by rw [List.length_set]; omega)]
    have h1 : (xs.set o v).take (o + 1) = xs.take o ++ [v] := by
      rw [List.take_add_one, List.take_set_of_le (Nat.le_refl _), List.getElem?_set_self (by omega)]
      rfl
    have h2 : (xs.set o v).drop (o + 1 + r.length) = xs.drop (o + (v :: r).length) := by
      rw [List.drop_set_of_lt (by omega), List.length_cons]
      congr 1; omega
    rw [h1, h2]
    simp
theorem own_lay {base g n cap sz : Nat} {e : TypeId} : ∀ (vs : List Value) (xs : List Value) (o : Nat) (W : World), W.ownsRow base e sz (.slice (some ⟨g, 0, none⟩) n cap) n xs →
    (W.setCells g o vs).ownsRow base e sz (.slice (some ⟨g, 0, none⟩) n cap) n (layL xs o vs) ∧ W.grownBy (W.setCells g o vs) (some g)
  | [], _, _, W, h => ⟨h, grown_refl W _⟩
  | v :: r, xs, o, W, h => by
    obtain ⟨h1, g1⟩ := h.stored o v
    obtain ⟨h2, g2⟩ := own_lay r (xs.set o v) (o + 1) _ h1
    exact ⟨h2, g1.trans g2⟩
theorem own_block_of {W : World} {base g n cap sz : Nat} {e : TypeId} {xs : List Value} (h : W.ownsRow base e sz (.slice (some ⟨g, 0, none⟩) n cap) n xs) :
    ∃ cur, base ≤ g ∧ W.heap[g]? = some (.cells cur e (0, 0)) ∧ n ≤ cap ∧ cap ≤ maxLen ∧ cur.size = cap * sz ∧ cur.toList.take (n * sz) = xs := by
  rcases h.2 with ⟨h', _⟩ | ⟨g', cap', cur, h', h1, h2, h3, h4, h5, h6⟩
  · simp at h'
  · simp only [Value.slice.injEq, Option.some.injEq, Addr.mk.injEq, and_true, true_and] at h'
    obtain ⟨rfl, rfl⟩ := h'
    exact ⟨cur, h1, h2, h3, h4, h5, h6⟩
theorem own_cut {W : World} {base g n cap sz i : Nat} {e : TypeId} {xs : List Value} (h : W.ownsRow base e sz (.slice (some ⟨g, 0, none⟩) n cap) n xs) (hi : i ≤ n) :
    W.ownsRow base e sz (.slice (some ⟨g, 0, none⟩) i cap) i (xs.take (i * sz)) := by
  obtain ⟨cur, h1, h2, h3, h4, h5, h6⟩ := own_block_of h
  have hm : i * sz ≤ n * sz := Nat.mul_le_mul_right _ hi
  refine ⟨by rw [List.length_take, h.1]; omega, .inr ⟨g, cap, cur, rfl, h1, h2, Nat.le_trans hi h3, h4, h5, ?_⟩⟩
  rw [← h6, List.take_take, Nat.min_eq_left hm]
theorem own_widen {W : World} {base g n cap sz : Nat} {e : TypeId} {xs : List Value} (h : W.ownsRow base e sz (.slice (some ⟨g, 0, none⟩) n cap) n xs) (hi : n + 1 ≤ cap) :
    ∃ sp : List Value, sp.length = sz ∧ W.ownsRow base e sz (.slice (some ⟨g, 0, none⟩) (n + 1) cap) (n + 1) (xs ++ sp) := by
  obtain ⟨cur, h1, h2, h3, h4, h5, h6⟩ := own_block_of h
  have hm : (n + 1) * sz ≤ cap * sz := Nat.mul_le_mul_right _ hi
  have hs : (n + 1) * sz = n * sz + sz := Nat.succ_mul n sz
  have hl : ((cur.toList.drop (n * sz)).take sz).length = sz := by rw [List.length_take, List.length_drop, Array.length_toList, h5]; omega
  refine ⟨(cur.toList.drop (n * sz)).take sz, hl, by rw [List.length_append, h.1, hl, hs], .inr ⟨g, cap, cur, rfl, h1, h2, hi, h4, h5, ?_⟩⟩
  rw [← h6, hs, List.take_add]
theorem own_spot {W : World} {base g n cap sz : Nat} {e : TypeId} {xs : List Value} (h : W.ownsRow base e sz (.slice (some ⟨g, 0, none⟩) n cap) n xs) (j : Nat) (hj : j < cap * sz) : (W.cell? ⟨g, j, none⟩).isSome = true ∧ W.frozen? ⟨g, j, none⟩ = false := by
  obtain ⟨cur, h1, h2, h3, h4, h5, h6⟩ := own_block_of h
  refine ⟨?_, h.frozenAt j⟩
  rw [cell_of_row W g j cur e (0, 0) h2]
  rw [Array.getElem?_eq_getElem (by omega)]
  rfl
theorem own_capB {W : World} {base g n cap sz : Nat} {e : TypeId} {xs : List Value} (h : W.ownsRow base e sz (.slice (some ⟨g, 0, none⟩) n cap) n xs) : n ≤ cap ∧ cap ≤ 9223372036854775807 := by
  obtain ⟨cur, h1, h2, h3, h4, h5, h6⟩ := own_block_of h
  exact ⟨h3, h4⟩
theorem own_cellAt {W : World} {base g n cap sz : Nat} {e : TypeId} {xs : List Value} (h : W.ownsRow base e sz (.slice (some ⟨g, 0, none⟩) n cap) n xs) {j : Nat} {u : Value} (hu : xs[j]? = some u) : W.cell? ⟨g, j, none⟩ = some u := by
  rw [h.cellAt j (by rw [← h.1]; exact (List.getElem?_eq_some_iff.1 hu).1)]
  exact hu
theorem own_shape {W : World} {base g n cap sz : Nat} {e : TypeId} {xs : List Value} (h : W.ownsRow base e sz (.slice (some ⟨g, 0, none⟩) n cap) n xs) : W.shape? g = some (e, cap * sz) := by
  obtain ⟨cur, h1, h2, h3, h4, h5, h6⟩ := own_block_of h
  unfold World.shape?
  rw [h2]
  simp [h5]
theorem cells_shape {W : World} {B : Nat} {t : TypeId} {cs : Array Value} (h : CellsAt W B t cs) : W.shape? B = some (t, cs.size) := by
  unfold World.shape?
  rw [show W.heap[B]? = _ from h]

theorem flat_take {α : Type} {C : α → List Value} {sz : Nat} (hC : ∀ x, (C x).length = sz) : ∀ (l : List α) (i : Nat), (l.flatMap C).take (i * sz) = (l.take i).flatMap C
  | [], i => by simp
  | x :: l, 0 => by simp
  | x :: l, i + 1 => by
    have hx := hC x
    rw [List.flatMap_cons, List.take_succ_cons, List.flatMap_cons, ← flat_take hC l i, Nat.succ_mul, List.take_append, List.take_of_length_le (by omega), show i * sz + sz - (C x).length = i * sz by omega]
theorem flat_drop {α : Type} {C : α → List Value} {sz : Nat} (hC : ∀ x, (C x).length = sz) : ∀ (l : List α) (i : Nat), (l.flatMap C).drop (i * sz) = (l.drop i).flatMap C
  | [], i => by simp
  | x :: l, 0 => by simp
  | x :: l, i + 1 => by
    have hx := hC x
    rw [List.flatMap_cons, List.drop_succ_cons, ← flat_drop hC l i, Nat.succ_mul, List.drop_append, List.drop_of_length_le (by omega), show i * sz + sz - (C x).length = i * sz by omega, List.nil_append]
/-- A copy into cells of one block, of elements of some size. -/
theorem run_copy_rows {P : Program} (w : World) (dT sT ty elem : TypeId) (i : TypeInfo) (sz : Nat) (b o dLen dCap : Nat) (a : Addr) (sLen sCap : Nat) (cs : List Value)
    (hu : P.underlying dT = some (.slice elem)) (hi : P.info? elem = some i) (hs : i.size = sz) (hn : cs.length = Nat.min sLen dLen * sz)
    (hsrc : ∀ j v, cs[j]? = some v → w.cell? (a.add j) = some v) (hc : ∀ j, j < cs.length → (w.cell? ⟨b, o + j, none⟩).isSome = true) (hf : ∀ j, j < cs.length → w.frozen? ⟨b, o + j, none⟩ = false) (h1 : ∀ v ∈ cs, v.oneCell' = true) :
    (Builtin.copy_ #[dT, sT] ty #[.slice (some ⟨b, o, none⟩) dLen dCap, .slice (some a) sLen sCap]).run P w = .ok (goInt (Nat.min sLen dLen)) (w.setCells b o cs) := by
  subst hs
  have hl := run_firstCells_some (P := P) w i.size (Nat.min sLen dLen) a sLen sCap cs hn hsrc
  have hst := run_storeCells_cells (P := P) b o cs 0 w (by simpa using hc) (by simpa using hf) h1
  simp only [Nat.add_zero] at hst
  simp [Builtin.copy_, run_underlying hu, Builtin.lenOf, sizeOf, typeInfo, hi, hl, hst]
/-- One element cleared. -/
theorem run_clear_one {P : Program} (w : World) (t e ty : TypeId) (z : Value) (zs : List Value) (ht : P.underlying t = some (.slice e)) (hv : ∀ w, (zeroValue e).run P w = .ok z w) (hz : (Builtin.zeroCells z.cells 1).toList = zs) (h1 : ∀ v ∈ zs, v.oneCell' = true) (b o c : Nat)
    (hc : ∀ j, j < zs.length → (w.cell? ⟨b, o + j, none⟩).isSome = true) (hf : ∀ j, j < zs.length → w.frozen? ⟨b, o + j, none⟩ = false) :
    (Builtin.clear_ #[t] ty #[.slice (some ⟨b, o, none⟩) 1 c]).run P w = .ok (.tuple #[]) (w.setCells b o zs) := by
  have hst := run_storeCells_cells (P := P) b o zs 0 w (by simpa using hc) (by simpa using hf) h1
  simp only [Nat.add_zero] at hst
  simp [Builtin.clear_, run_underlying ht, hv, hz, hst]
/-- An append whose run is known, as a step of a region that draws its order. -/
theorem step_append_run {P : Program} {ops : Array Oper} {o : Oper} {a : Act} {w : World} {K : Act → World → Prop} {Q : Exit → Act → World → Prop} {E : Prop}
    (hg : o.guard = none) (d x : Operand) (dT sT : TypeId) (hop : o.op = Op.call { callee := Callee.builtin Builtin.append, args := #[d, x], argTypes := #[dT, sT] })
    (v u : Value) (hd : a.eval d = v) (hx : a.eval x = u) {v' : Value} {w' : World} (hr : (Builtin.append_ #[dT, sT] o.type #[v, u]).run P w = .ok v' w') (hK : K (a.put o.dst v') w') :
    if Region.wanted o (yielded ops a.tmps) = true then Oper.wp P o a w K Q else E := by
  have hw : Region.wanted o (yielded ops a.tmps) = true := by simp [Region.wanted, hg]
  rw [if_pos hw]
  unfold Oper.wp
  simp [execOp, hop, resolve, invoke, builtin, hd, hx, hr, Result.andThen]
  exact hK
theorem step_copy_run2 {P : Program} {ops : Array Oper} {o : Oper} {a : Act} {w : World} {K : Act → World → Prop} {Q : Exit → Act → World → Prop} {E : Prop}
    (hg : o.guard = none) (d x : Operand) (dT sT : TypeId) (hop : o.op = Op.call { callee := Callee.builtin Builtin.copy, args := #[d, x], argTypes := #[dT, sT] })
    (v u : Value) (hd : a.eval d = v) (hx : a.eval x = u) {v' : Value} {w' : World} (hr : (Builtin.copy_ #[dT, sT] o.type #[v, u]).run P w = .ok v' w') (hK : K (a.put o.dst v') w') :
    if Region.wanted o (yielded ops a.tmps) = true then Oper.wp P o a w K Q else E := by
  have hw : Region.wanted o (yielded ops a.tmps) = true := by simp [Region.wanted, hg]
  rw [if_pos hw]
  unfold Oper.wp
  simp [execOp, hop, resolve, invoke, builtin, hd, hx, hr, Result.andThen]
  exact hK
theorem wpList_copy_run2 {P : Program} (w : World) {ops : Array Oper} {rest : List Oper} {o : Oper} {a : Act} {Q : Exit → Act → World → Prop} (hgd : o.guard = none) (d s : Operand) (t t' : TypeId)
    (ho : o.op = .call { callee := .builtin .copy, args := #[d, s], argTypes := #[t, t'] }) (v u : Value) (hd : a.eval d = v) (hs : a.eval s = u) {v' : Value} {w' : World}
    (hr : (Builtin.copy_ #[t, t'] o.type #[v, u]).run P w = .ok v' w') (h : wpList P ops Q rest (a.put o.dst v') w') : wpList P ops Q (o :: rest) a w :=
  wpList_plain hgd fun K hK => by
    refine (?_ : Oper.wp P o a w K Q)
    unfold Oper.wp execOp
    simp only [ho, resolve, invoke, builtin, Sem.run_bind, Sem.run_pure, Result.andThen_ok, List.map_toArray, List.map_cons, List.map_nil, hd, hs, hr]
    exact hK _ _ h

end Go.Proofs.YthmohjgdcjafkadGreat

/- The contract of slices.Delete at placed modules: one of a row of one's own is taken out. -/
namespace Go.Proofs.YthmohjgdcjafkadGreat
open Go.RowKit Go.PlainAid Go.Lib

set_option maxRecDepth 100000

def zeros8 : List Value := [.string ⟨#[]⟩, .int .i64 0, .int .i64 0, .string ⟨#[]⟩, .slice none 0 0, .slice none 0 0, .slice none 0 0, .int .i64 0]
theorem zero_placed (w : World) : (zeroValue 41).run Tryz.prog w = .ok (.agg #[.string ⟨#[]⟩, .int .i64 0, .int .i64 0, .string ⟨#[]⟩, .slice none 0 0, .slice none 0 0, .slice none 0 0, .int .i64 0]) w := by
  obtain ⟨i0, hi0, hz0, _, _⟩ := infoPlc_parts
  simp [zeroValue, typeInfo, hi0, hz0]
theorem zeros8_cells : (Builtin.zeroCells (Value.agg #[.string ⟨#[]⟩, .int .i64 0, .int .i64 0, .string ⟨#[]⟩, .slice none 0 0, .slice none 0 0, .slice none 0 0, .int .i64 0]).cells 1).toList = zeros8 := by kernel_rfl
theorem zeros8_one : ∀ v ∈ zeros8, v.oneCell' = true := by
  intro v hv
  simp only [zeros8, List.mem_cons, List.not_mem_nil, or_false] at hv
  rcases hv with rfl | rfl | rfl | rfl | rfl | rfl | rfl | rfl <;> rfl

set_option maxHeartbeats 4000000 in
theorem delPlc_any (g n cap i base : Nat) (l : List PV) (w : World) (hown : w.ownsRow base 41 8 (.slice (some ⟨g, 0, none⟩) n cap) n (l.flatMap pvC)) (hn : l.length = n) (hi : i < n) (hone : ∀ u ∈ l.flatMap pvC, u.oneCell' = true) (h255 : n ≤ 255) :
    Calls Tryz.prog 121 #[.slice (some ⟨g, 0, none⟩) n cap, .int .i64 i, .int .i64 ((i : Int) + 1)] w fun e w' => e = .returned (.slice (some ⟨g, 0, none⟩) (n - 1) cap) ∧ w'.ownsRow base 41 8 (.slice (some ⟨g, 0, none⟩) (n - 1) cap) (n - 1) ((l.eraseIdx i).flatMap pvC) ∧ w.grownBy w' (some g) := by
  obtain ⟨i0, hi0, hz0, hz1, hz2⟩ := infoPlc_parts
  have hcap := own_capB hown
  obtain ⟨m, hm⟩ : ∃ m, n = i + (m + 1) := ⟨n - i - 1, by omega⟩
  have hfl : (l.flatMap pvC).length = n * 8 := by rw [flat_len (C := pvC) (sz := 8) (fun _ => rfl), hn]
  have htake : (l.flatMap pvC).take (i * 8) = (l.take i).flatMap pvC := by rw [← flat_take (C := pvC) (sz := 8) (fun _ => rfl)]
  have hdrop : (l.flatMap pvC).drop ((i + 1) * 8) = (l.drop (i + 1)).flatMap pvC := by rw [← flat_drop (C := pvC) (sz := 8) (fun _ => rfl)]
  obtain ⟨A, hA, hsrc⟩ : ∃ A : Addr, (if cap = i + 1 then some (⟨g, 0, none⟩ : Addr) else some ⟨g, (i + 1) * 8, none⟩) = some A ∧ Hid (∀ t u, ((l.drop (i + 1)).flatMap pvC)[t]? = some u → w.drew.cell? (A.add t) = some u) := by
    by_cases h : cap = i + 1
    · refine ⟨⟨g, 0, none⟩, by simp [h], fun t u hu => ?_⟩
      have h0 : l.drop (i + 1) = [] := List.drop_eq_nil_iff.2 (by omega)
      rw [h0] at hu
      simp at hu
    · refine ⟨⟨g, (i + 1) * 8, none⟩, by simp [h], fun t u hu => ?_⟩
      rw [add_none]
      refine own_cellAt hown ?_
      rw [← hdrop, List.getElem?_drop] at hu
      exact hu
  have hlen : ((l.drop (i + 1)).flatMap pvC).length = m * 8 := by rw [flat_len (C := pvC) (sz := 8) (fun _ => rfl), List.length_drop, hn]; congr 1; omega
  have hoc : Hid (∀ u ∈ (l.drop (i + 1)).flatMap pvC, u.oneCell' = true) := fun u hu => by
    rw [← hdrop] at hu
    exact hone u (List.mem_of_mem_drop hu)
  obtain ⟨news, hnews⟩ : ∃ news, (l.drop (i + 1)).flatMap pvC = news := ⟨_, rfl⟩
  rw [hnews] at hlen hoc hsrc
  have hsp : Hid (∀ t, t < news.length → (w.drew.cell? ⟨g, 0 + i * 8 + t, none⟩).isSome = true ∧ w.drew.frozen? ⟨g, 0 + i * 8 + t, none⟩ = false) := by
    intro t ht
    rw [hlen] at ht
    rw [Nat.zero_add]
    exact own_spot hown _ (by omega)
  obtain ⟨W1, hW1⟩ : ∃ W1, W1 = w.drew.setCells g (0 + i * 8) news := ⟨_, rfl⟩
  have hlay := own_lay news (l.flatMap pvC) (i * 8) w.drew hown.drew
  rw [layL_eq _ _ _ (by rw [hlen, hfl]; omega), htake] at hlay
  rw [Nat.zero_add] at hW1
  rw [← hW1] at hlay
  have ho1 : W1.ownsRow base 41 8 (.slice (some ⟨g, 0, none⟩) (n - 1) cap) (n - 1) ((l.eraseIdx i).flatMap pvC) := by
    have := own_cut (i := n - 1) hlay.1 (by omega)
    rw [List.append_assoc, ← List.append_assoc, List.take_append_of_le_length (by rw [List.length_append, hlen, flat_len (C := pvC) (sz := 8) (fun _ => rfl), List.length_take, hn]; omega), List.take_of_length_le (by rw [List.length_append, hlen, flat_len (C := pvC) (sz := 8) (fun _ => rfl), List.length_take, hn]; omega), ← hnews, ← List.flatMap_append, ← List.eraseIdx_eq_take_drop_succ] at this
    exact this
  have hg1 := hlay.2
  have hcl : ∀ ty c, (Builtin.clear_ #[25] ty #[.slice (some ⟨g, (n - 1) * 8, none⟩) 1 c]).run Tryz.prog W1 = .ok (.tuple #[]) (W1.setCells g ((n - 1) * 8) zeros8) := fun ty c =>
    run_clear_one W1 _ _ ty _ zeros8 Tryz.underlying25 zero_placed zeros8_cells zeros8_one g ((n - 1) * 8) c (fun j hj => (own_spot ho1 _ (by have : zeros8.length = 8 := rfl; omega)).1) (fun j hj => (own_spot ho1 _ (by have : zeros8.length = 8 := rfl; omega)).2)
  have hb2 := own_beyond zeros8 ((n - 1) * 8) W1 ho1 (Nat.le_refl _)
  have HO2 : Hid _ := hb2.1
  have HG2 : Hid (w.drew.grownBy (W1.setCells g ((n - 1) * 8) zeros8) (some g)) := hg1.trans hb2.2
  have HW : Hid (W1 = w.drew.setCells g (0 + i * 8) news) := by rw [Nat.zero_add]; exact hW1
  have s1 : Hid (news.length = m * 8) := hlen
  have hle : Hid (i + m ≤ cap) := by show _ ≤ _; omega
  clear hb2 hg1 ho1 hlay hW1 hlen hown hone hfl htake hdrop hnews
  subst hm
  have e1 : i + (m + 1) - 1 = i + m := by omega
  rw [e1] at hcl HO2 HG2 ⊢
  clear e1
  have hij : ¬ ((i : Int) = (i : Int) + 1) := by omega
  have hw1 : IntKind.i64.wrap ((i : Int) + 1) = (i : Int) + 1 := by rw [IntKind.wrap_i64]; omega
  have hne : ¬ (cap = i + m) := by omega
  have hic : i ≤ cap := by omega
  have hk1 : (1 : Int) ≤ (m : Int) + 1 := by omega
  have hmm : i + (m + 1) - (i + 1) = m := by omega
  have mixed : Tryz.prog.follows Departure.mixedOrders = true := by kernel_rfl
  have hjc : i + 1 ≤ cap := by omega
  have hjn : ((i : Int) + 1).toNat = i + 1 := by omega
  have hj0 : (0 : Int) ≤ (i : Int) + 1 := by omega
  have h1e : i + (m + 1) - (i + m) = 1 := by omega
  go_enter Tryz.func121, Tryz.ntmps121
  go_wp2_with fail
  go_region_law_o (refine step_append_room rfl _ _ 25 rfl 41 i0 8 Tryz.underlying25 hi0 hz1 g 0 i cap (by simp [Act.eval, Act.put]) A m (cap - (i + 1)) news (by simp [Act.eval, Act.put]) s1.out hsrc.out hoc.out hle.out hsp.out ?_; rw [← HW.out])
  go_wp2
  go_ret
  exact ⟨rfl, HO2.out, (grown_drew w _).trans HG2.out⟩

end Go.Proofs.YthmohjgdcjafkadGreat
