/- Rows that are appended to: placed modules. -/
import Derived.Test.YtmhlebinfepheabResI
import Derived.Test.YtmhlebinfepheabOrd
namespace Go.Proofs.Ytmhlebinfepheab
open Go.RowKit Go.PlainAid

set_option maxRecDepth 100000

theorem own_rows {α : Type} {C : α → List Value} {cells : α → Nat → Value} {sz : Nat} (hC : ∀ x, (C x).length = sz) (hc : ∀ x i, i < sz → (C x)[i]? = some (cells x i)) {W : World} {base : Nat} {e : TypeId} {v : Value} {l : List α}
    (h : W.ownsRow base e sz v l.length (l.flatMap C)) (hl : l.length ≤ 9223372036854775807) : RowOf sz cells W.heap.size W v l := by
  rcases h.2 with ⟨rfl, hn⟩ | ⟨g, cap, cur, rfl, hg, hb, hcap, hm, hsz, htk⟩
  · obtain rfl : l = [] := List.length_eq_zero_iff.1 hn
    exact ⟨none, 0, rfl, by simp, .inl rfl⟩
  · refine ⟨_, cap, rfl, hl, .inr ⟨g, 0, rfl, (Array.getElem?_eq_some_iff.1 hb).1, fun j x hj i hi => ?_⟩⟩
    have h1 := flat_at hC l j x i hj hi
    rw [hc x i hi] at h1
    have := h.cells (g := g) rfl (j * sz + i) _ h1
    have hadd : (⟨g, 0, none⟩ : Addr).add (j * sz + i) = ⟨g, j * sz + i, none⟩ := by unfold Addr.add; split <;> simp_all
    rw [hadd] at this
    rw [Nat.zero_add]
    exact this

theorem flat_len {α : Type} {C : α → List Value} {sz : Nat} (hC : ∀ x, (C x).length = sz) : ∀ l : List α, (l.flatMap C).length = l.length * sz
  | [] => by simp
  | x :: l => by rw [List.flatMap_cons, List.length_append, flat_len hC l, hC, List.length_cons, Nat.succ_mul]; omega

theorem news_row {α : Type} {C : α → List Value} {cells : α → Nat → Value} {sz : Nat} (h0 : 0 < sz) (hC : ∀ x, (C x).length = sz) (hc : ∀ x i, i < sz → (C x)[i]? = some (cells x i)) {W : World} {b off : Nat} {l : List α}
    (h : ∀ j x, l[j]? = some x → ∀ i, i < sz → W.cell? ⟨b, off + j * sz + i, none⟩ = some (cells x i)) : ∀ j u, (l.flatMap C)[j]? = some u → W.cell? ((⟨b, off, none⟩ : Addr).add j) = some u := by
  intro j u hu
  have hj : j < l.length * sz := by
    have := (List.getElem?_eq_some_iff.1 hu).1
    rwa [flat_len hC] at this
  have hq : j / sz < l.length := (Nat.div_lt_iff_lt_mul h0).2 hj
  obtain ⟨x, hx⟩ : ∃ x, l[j / sz]? = some x := ⟨_, List.getElem?_eq_getElem hq⟩
  have hr : j % sz < sz := Nat.mod_lt _ h0
  have e : j / sz * sz + j % sz = j := by rw [Nat.mul_comm]; exact Nat.div_add_mod j sz
  have h1 := flat_at hC l (j / sz) x (j % sz) hx hr
  rw [hc x _ hr, e, hu] at h1
  have h2 := h (j / sz) x hx (j % sz) hr
  rw [Nat.add_assoc, e, ← h1] at h2
  have hadd : (⟨b, off, none⟩ : Addr).add j = ⟨b, off + j, none⟩ := by unfold Addr.add; split <;> simp_all
  rw [hadd]
  exact h2

theorem pv_one {n₀ : Nat} {W : World} {x : PV} (h : PlcAt n₀ W x) : ∀ u ∈ pvC x, u.oneCell' = true := by
  obtain ⟨⟨pe, ke, e4, _⟩, ⟨pi, ki, e5, _⟩, ⟨pp, kp, e6, _⟩⟩ := h
  intro u hu
  unfold pvC at hu
  rw [e4, e5, e6] at hu
  simp at hu
  rcases hu with rfl | rfl | rfl | rfl | rfl | rfl | rfl | rfl <;> rfl
theorem pvs_one {n₀ : Nat} {W : World} {l : List PV} (h : ∀ x ∈ l, PlcAt n₀ W x) : ∀ u ∈ l.flatMap pvC, u.oneCell' = true := by
  intro u hu
  obtain ⟨x, hx, hux⟩ := List.mem_flatMap.1 hu
  exact pv_one (h x hx) u hux

theorem infoPlc : (Try.prog.info? 56).map (fun i => (i.zero, i.size, i.bytes)) = some (some (.agg #[.string ⟨#[]⟩, .int .i64 0, .int .i64 0, .string ⟨#[]⟩, .slice none 0 0, .slice none 0 0, .slice none 0 0, .int .i64 0]), 8, 128) := by kernel_rfl
theorem infoPlc_parts : ∃ i, Try.prog.info? 56 = some i ∧ i.zero = some (.agg #[.string ⟨#[]⟩, .int .i64 0, .int .i64 0, .string ⟨#[]⟩, .slice none 0 0, .slice none 0 0, .slice none 0 0, .int .i64 0]) ∧ i.size = 8 ∧ i.bytes = 128 := by
  have h := infoPlc
  cases hi : Try.prog.info? 56 with
  | none => rw [hi] at h; cases h
  | some i =>
    rw [hi] at h
    simp at h
    exact ⟨i, rfl, h.1, h.2.1, h.2.2⟩

/-- Another module behind all changes nothing of what is found. -/
theorem find_more (k : Ker) (l : List Plc) (x : Plc) (i : Imp) (h : (findRes k l i).2 = 0) : (findRes k (l ++ [x]) i).2 ≠ 0 ∨ (findRes k (l ++ [x]) i).1 = (findRes k l i).1 := by
  by_cases h9 : (findRes k (l ++ [x]) i).2 = 0
  · right
    rcases findRes_cases k l i with ⟨h1, e⟩ | ⟨_, h1, e⟩ | ⟨_, _, e⟩
    · rw [e] at h; exact absurd h h1
    · rw [e] at h; exact absurd h h1
    rcases findRes_cases k (l ++ [x]) i with ⟨h1, e'⟩ | ⟨_, h1, e'⟩ | ⟨_, _, e'⟩
    · rw [e'] at h9; exact absurd h9 h1
    · rw [e'] at h9; exact absurd h9 h1
    rw [e] at h ⊢
    rw [e']
    rcases addrOf_cases k l i with ⟨_, e2⟩ | ⟨t, ht, _⟩
    · rw [e2] at h; exact absurd h (by decide)
    have ht' : tgtOf k (l ++ [x]) i.mod = some t := by
      unfold tgtOf at ht ⊢
      split
      · rename_i hk
        rw [if_pos hk] at ht
        exact ht
      · rename_i hk
        rw [if_neg hk] at ht
        obtain ⟨p, hp, hpt⟩ := Option.map_eq_some_iff.1 ht
        rw [List.find?_append, hp]
        exact congrArg some hpt
    unfold addrOf
    rw [ht, ht']
  · exact .inl h9

theorem keep_own {W W' : World} {B base n : Nat} {t e : TypeId} {cs : Array Value} {v : Value} {xs : List Value} {sz : Nat} (h : CellsAt W B t cs) (O : W.ownsRow base e sz v n xs) (hg : W.grownBy W' v.ownBlock) (hB : B < base) : CellsAt W' B t cs :=
  h.kept hg (fun e => by have := own_block O B e.symm; omega)
theorem own_empty {W : World} {base : Nat} {e : TypeId} (hb : base ≤ W.heap.size) {sz : Nat} : (W.alloc (.cells #[] e)).ownsRow base e sz (.slice (some ⟨W.heap.size, 0, none⟩) 0 0) 0 [] :=
  ⟨by simp, .inr ⟨W.heap.size, 0, #[], rfl, hb, CellsAt.new W e #[], Nat.le_refl _, Nat.zero_le _, by simp, by simp⟩⟩
theorem own_lt {W : World} {base n c g sz : Nat} {e : TypeId} {xs : List Value} (h : W.ownsRow base e sz (.slice (some ⟨g, 0, none⟩) n c) n xs) : g < W.heap.size := by
  rcases h.2 with ⟨e, _⟩ | ⟨g', cap, cur, e, _, hb, _⟩
  · cases e
  · injection e with e _ _
    injection e with e
    injection e with e
    subst e
    exact (Array.getElem?_eq_some_iff.1 hb).1

end Go.Proofs.Ytmhlebinfepheab
