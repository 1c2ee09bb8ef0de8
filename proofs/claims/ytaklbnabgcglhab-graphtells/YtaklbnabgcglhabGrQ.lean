/- A row of numbers that is taken from ahead and appended to behind. -/
import Derived.Test.YtaklbnabgcglhabOwnA
import Derived.ArgAppend
namespace Go.Proofs.Ytaklbnabgcglhab
open Go.RowKit Go.PlainAid

set_option maxRecDepth 100000

def QRow (W : World) (base : Nat) (v : Value) (xs : List Nat) : Prop := ∃ g o cap cur, v = .slice (some ⟨g, o, none⟩) xs.length cap ∧ base ≤ g ∧ CellsAt W g 3 cur ∧ xs.length ≤ cap ∧ o + cap ≤ cur.size ∧ cap ≤ 9223372036854775807 ∧ ∀ (j x : Nat), xs[j]? = some x → cur[o + j]? = some (.int .i64 x)
theorem QRow.kept {W W' : World} {base : Nat} {v : Value} {xs : List Nat} {row : Option Nat} (h : QRow W base v xs) (hg : W.grownBy W' row) (hne : ∀ g, v.ownBlock = some g → some g ≠ row) : QRow W' base v xs := by
  obtain ⟨g, o, cap, cur, rfl, h1, h2, h3⟩ := h
  exact ⟨g, o, cap, cur, rfl, h1, h2.kept hg (hne g rfl), h3⟩
theorem QRow.below {W W' : World} {base n : Nat} {v : Value} {xs : List Nat} (h : QRow W base v xs) (hb : Below n W W') (hn : W.heap.size ≤ n) : QRow W' base v xs := by
  obtain ⟨g, o, cap, cur, rfl, h1, h2, h3⟩ := h
  exact ⟨g, o, cap, cur, rfl, h1, h2.below hb (Nat.lt_of_lt_of_le h2.lt hn), h3⟩
theorem QRow.base {W : World} {base : Nat} {v : Value} {xs : List Nat} (h : QRow W base v xs) : ∀ g, v.ownBlock = some g → base ≤ g ∧ g < W.heap.size := by
  obtain ⟨g, o, cap, cur, rfl, h1, h2, h3⟩ := h
  intro k hk
  have : g = k := by simpa [Value.ownBlock] using hk
  subst this
  exact ⟨h1, h2.lt⟩
theorem QRow.form {W : World} {base : Nat} {v : Value} {xs : List Nat} (h : QRow W base v xs) : ∃ g o cap, v = .slice (some ⟨g, o, none⟩) xs.length cap ∧ xs.length ≤ cap ∧ cap ≤ 9223372036854775807 ∧ g < W.heap.size := by
  obtain ⟨g, o, cap, cur, rfl, h1, h2, h3, h4, h5, _⟩ := h
  exact ⟨g, o, cap, rfl, h3, h5, h2.lt⟩
/-- The first one, and the rest. -/
theorem QRow.pop {W : World} {base g o cap : Nat} {x : Nat} {xs : List Nat} (h : QRow W base (.slice (some ⟨g, o, none⟩) (x :: xs).length cap) (x :: xs)) :
    W.cell? ⟨g, o, none⟩ = some (.int .i64 x) ∧ ∃ o2, (if cap = 1 then some (⟨g, o, none⟩ : Addr) else some ⟨g, o + 1, none⟩) = some ⟨g, o2, none⟩ ∧ QRow W base (.slice (some ⟨g, o2, none⟩) xs.length (cap - 1)) xs := by
  obtain ⟨g', o', cap', cur, he, h1, h2, h3, h4, h5, h6⟩ := h
  injection he with q1 q2 q3
  injection q1 with q1
  injection q1 with q1 q4
  subst q1 q3 q4
  have c0 := h2.cell o
  have h60 := h6 0 x rfl
  rw [Nat.add_zero] at h60
  refine ⟨c0.trans h60, ?_⟩
  simp at h3
  by_cases hc : cap = 1
  · obtain rfl : xs = [] := List.length_eq_zero_iff.1 (by omega)
    exact ⟨o, by rw [if_pos hc], g, o, cap - 1, cur, rfl, h1, h2, by simp, by omega, by omega, fun j y hj => by simp at hj⟩
  · refine ⟨o + 1, by rw [if_neg hc], g, o + 1, cap - 1, cur, rfl, h1, h2, by omega, by omega, by omega, fun j y hj => ?_⟩
    have := h6 (j + 1) y (by simpa using hj)
    rw [show o + 1 + j = o + (j + 1) by omega]
    exact this

theorem wpList_queue (w : World) {ops : Array Oper} {rest : List Oper} {o : Oper} {a : Act} {Q : Exit → Act → World → Prop}
    (hg : o.guard = none) (s x : Operand) (hop : o.op = Op.call { callee := Callee.builtin Builtin.append, args := #[s, x], argTypes := #[46, 46] })
    (base : Nat) (v : Value) (xs : List Nat) (hs : a.eval s = v) (hq : QRow w base v xs) (B : Nat) (y : Nat) (hx : a.eval x = .slice (some ⟨B, 0, none⟩) 1 1) (hB : w.cell? ⟨B, 0, none⟩ = some (.int .i64 y)) (hl : xs.length ≤ 1000) (hbase : base ≤ w.heap.size)
    (h : ∀ v' w', QRow w' base v' (xs ++ [y]) → w.grownBy w' v.ownBlock → (∀ k, v'.ownBlock = some k → v.ownBlock = some k ∨ w.heap.size ≤ k) → wpList Try.prog ops Q rest (a.put o.dst v') w') : wpList Try.prog ops Q (o :: rest) a w := by
  obtain ⟨ii, hii, hz0, hz1, hz2⟩ := infoInt_parts
  obtain ⟨g, of, cap, cur, rfl, h1, h2, h3, h4, h5, h6⟩ := hq
  refine wpList_append_arg (P := Try.prog) w hg s x 46 hop 3 ii (.int .i64 0) 1 8 Try.underlying46 hii hz0 hz1 hz2 rfl (by omega) g of xs.length cap (xs.map fun n : Nat => Value.int .i64 (n : Int)) hs (by simp) ?_ ⟨B, 0, none⟩ 1 1 [.int .i64 (y : Int)] hx rfl ?_ (by simp [Value.oneCell']) ?_ (by unfold maxLen; omega) (by omega) ?_ ?_
  · intro j u hj
    rw [List.getElem?_map] at hj
    obtain ⟨n, hn, rfl⟩ := Option.map_eq_some_iff.1 hj
    exact (h2.cell (of + j)).trans (h6 j n hn)
  · intro j u hj
    cases j with
    | zero =>
      simp at hj
      subst hj
      exact hB
    | succ j => simp at hj
  · intro hr j hj
    simp at hj
    subst hj
    refine ⟨?_, h2.frozen _⟩
    rw [h2.cell]
    have : of + xs.length * 1 + 0 < cur.size := by omega
    rw [Array.getElem?_eq_getElem this]
    rfl
  · intro hr
    have e1 : w.setCells g (of + xs.length * 1) [.int .i64 (y : Int)] = w.setCell ⟨g, of + xs.length, none⟩ (.int .i64 (y : Int)) := by simp [World.setCells]
    rw [e1]
    refine h _ _ ⟨g, of, cap, cur.setIfInBounds (of + xs.length) (.int .i64 (y : Int)), by simp, h1, h2.set _ _, by simp; omega, by simpa using h4, h5, ?_⟩ (grown_set _ _ _ _) (fun k hk => .inl hk)
    intro j n hj
    rw [Array.getElem?_setIfInBounds]
    by_cases hjl : j = xs.length
    · subst hjl
      rw [if_pos rfl, if_pos (by omega)]
      simp at hj
      rw [hj]
    · rw [if_neg (by omega)]
      have hj' : j < xs.length := by
        have := (List.getElem?_eq_some_iff.1 hj).1
        simp at this
        omega
      exact h6 j n (by rw [List.getElem?_append_left hj'] at hj; exact hj)
  · intro hr v' w' hown hgr
    refine h v' w' ?_ (hgr.but _) (fun k hk => .inr (own_block hown k hk))
    rcases hown.2 with ⟨_, h0⟩ | ⟨g', cap', cur', rfl, hg', hb', hn', hm', hs', ht'⟩
    · omega
    · refine ⟨g', 0, cap', cur', by simp, by omega, hb', by simp; omega, by omega, by unfold maxLen at hm'; omega, ?_⟩
      intro j n hj
      have hjl : j < xs.length + 1 := by
        have := (List.getElem?_eq_some_iff.1 hj).1
        simpa using this
      have e2 : (xs.map fun n : Nat => Value.int .i64 (n : Int)) ++ [.int .i64 (y : Int)] = (xs ++ [y]).map fun n : Nat => Value.int .i64 (n : Int) := by simp
      rw [e2] at ht'
      have h7 : ((xs ++ [y]).map fun n : Nat => Value.int .i64 (n : Int))[j]? = some (.int .i64 (n : Int)) := by rw [List.getElem?_map, hj]; rfl
      rw [← ht', List.getElem?_take, if_pos (by omega)] at h7
      rw [Nat.zero_add]
      simpa using h7

end Go.Proofs.Ytaklbnabgcglhab
