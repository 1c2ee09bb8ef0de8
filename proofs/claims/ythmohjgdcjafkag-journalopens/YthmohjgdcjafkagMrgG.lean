/- Texts that are laid together. -/
import Derived.Test.YthmohjgdcjafkagMrgF
import Derived.Deep.AppendLies
import Derived.PlainAid
import Derived.MapKept
import Derived.Test.YthmohjgdcjafkagMrgB

/- Rows that a call made, and that are appended to. -/
namespace Go.Proofs.Ythmohjgdcjafkag
open Go.RowKit Go.PlainAid

set_option maxRecDepth 100000

def intCell (x : Int) (_ : Nat) : Value := .int .i64 x
def intC (x : Int) : List Value := [.int .i64 x]

theorem own_below {W W' : World} {base : Nat} {e : TypeId} {size : Nat} {v : Value} {n : Nat} {xs : List Value} (h : W.ownsRow base e size v n xs) (hb : Below W.heap.size W W') : W'.ownsRow base e size v n xs := by
  obtain ⟨h1, ⟨rfl, rfl⟩ | ⟨g, cap, cur, rfl, hg, hc, hr⟩⟩ := h
  · exact ⟨h1, .inl ⟨rfl, rfl⟩⟩
  · exact ⟨h1, .inr ⟨g, cap, cur, rfl, hg, (hb.block g (Array.getElem?_eq_some_iff.1 hc).1).trans hc, hr⟩⟩
theorem own_block {W : World} {base : Nat} {e : TypeId} {size : Nat} {v : Value} {n : Nat} {xs : List Value} (h : W.ownsRow base e size v n xs) : ∀ k, v.ownBlock = some k → base ≤ k := by
  intro k hk
  rcases h.2 with ⟨rfl, _⟩ | ⟨g, cap, cur, rfl, hg, _⟩
  · cases hk
  · simp [Value.ownBlock] at hk
    omega
theorem own_form {W : World} {base : Nat} {e : TypeId} {size : Nat} {v : Value} {n : Nat} {xs : List Value} (h : W.ownsRow base e size v n xs) : ∃ a cap, v = .slice a n cap := by
  rcases h.2 with ⟨rfl, rfl⟩ | ⟨g, cap, cur, rfl, _⟩
  · exact ⟨none, 0, rfl⟩
  · exact ⟨_, cap, rfl⟩
theorem own_ints {W : World} {base : Nat} {v : Value} {l : List Int} (h : W.ownsRow base 3 1 v l.length (l.flatMap intC)) (hl : l.length ≤ 255) : RowOf 1 intCell W.heap.size W v l := by
  rcases h.2 with ⟨rfl, hn⟩ | ⟨g, cap, cur, rfl, hg, hb, hcap, hm, hsz, htk⟩
  · obtain rfl : l = [] := List.length_eq_zero_iff.1 hn
    exact ⟨none, 0, rfl, by simp, .inl rfl⟩
  · refine ⟨_, cap, rfl, by omega, .inr ⟨g, 0, rfl, (Array.getElem?_eq_some_iff.1 hb).1, fun j x hj i hi => ?_⟩⟩
    have h1 := flat_at (C := intC) (sz := 1) (fun _ => rfl) l j x i hj hi
    obtain rfl : i = 0 := by omega
    have h2 : (l.flatMap intC)[j * 1 + 0]? = some (.int .i64 x) := h1
    have := h.cells (g := g) rfl (j * 1 + 0) _ h2
    have hadd : (⟨g, 0, none⟩ : Addr).add (j * 1 + 0) = ⟨g, j * 1 + 0, none⟩ := by unfold Addr.add; split <;> simp_all
    rw [hadd] at this
    rw [Nat.zero_add]
    exact this

theorem infoInt : (Try.prog.info? 3).map (fun i => (i.zero, i.size, i.bytes)) = some (some (.int .i64 0), 1, 8) := by kernel_rfl
theorem infoInt_parts : ∃ i, Try.prog.info? 3 = some i ∧ i.zero = some (.int .i64 0) ∧ i.size = 1 ∧ i.bytes = 8 := by
  have h := infoInt
  cases hi : Try.prog.info? 3 with
  | none => rw [hi] at h; cases h
  | some i =>
    rw [hi] at h
    simp at h
    exact ⟨i, rfl, h.1, h.2.1, h.2.2⟩

theorem intC_at (x : Int) (i : Nat) (hi : i < 1) : (intC x)[i]? = some (intCell x i) := by
  obtain rfl : i = 0 := by omega
  rfl

theorem own_rows {α : Type} {C : α → List Value} {cells : α → Nat → Value} {sz : Nat} (hC : ∀ x, (C x).length = sz) (hc : ∀ x i, i < sz → (C x)[i]? = some (cells x i)) {W : World} {base : Nat} {e : TypeId} {v : Value} {l : List α}
    (h : W.ownsRow base e sz v l.length (l.flatMap C)) (hl : l.length ≤ 9223372036854775807) : RowOf sz cells W.heap.size W v l := by
  rcases h.2 with ⟨rfl, hn⟩ | ⟨g, cap, cur, rfl, hg, hb, hcap, hm, hsz, htk⟩
  · obtain rfl : l = [] := List.length_eq_zero_iff.1 hn
    exact ⟨none, 0, rfl, by simp, .inl rfl⟩
  · refine ⟨_, cap, rfl, hl, .inr ⟨g, 0, rfl, (Array.getElem?_eq_some_iff.1 hb).1, fun j x hj i hi => ?_⟩⟩
    have h1 := flat_at hC l j x i hj hi
    rw [hc x i hi] at h1
    have := h.cells (g := g) rfl (j * sz + i) _ h1
    have hadd : (⟨g, 0, none⟩ : Addr).add (j * sz + i) = ⟨g, j * sz + i, none⟩ := by unfold Addr.add; split <;> simp_all
    rw [hadd] at this
    rw [Nat.zero_add]
    exact this

theorem flat_len {α : Type} {C : α → List Value} {sz : Nat} (hC : ∀ x, (C x).length = sz) : ∀ l : List α, (l.flatMap C).length = l.length * sz
  | [] => by simp
  | x :: l => by rw [List.flatMap_cons, List.length_append, flat_len hC l, hC, List.length_cons, Nat.succ_mul]; omega

theorem news_row {α : Type} {C : α → List Value} {cells : α → Nat → Value} {sz : Nat} (h0 : 0 < sz) (hC : ∀ x, (C x).length = sz) (hc : ∀ x i, i < sz → (C x)[i]? = some (cells x i)) {W : World} {b off : Nat} {l : List α}
    (h : ∀ j x, l[j]? = some x → ∀ i, i < sz → W.cell? ⟨b, off + j * sz + i, none⟩ = some (cells x i)) : ∀ j u, (l.flatMap C)[j]? = some u → W.cell? ((⟨b, off, none⟩ : Addr).add j) = some u := by
  intro j u hu
  have hj : j < l.length * sz := by
    have := (List.getElem?_eq_some_iff.1 hu).1
    rwa [flat_len hC] at this
  have hq : j / sz < l.length := (Nat.div_lt_iff_lt_mul h0).2 hj
  obtain ⟨x, hx⟩ : ∃ x, l[j / sz]? = some x := ⟨_, List.getElem?_eq_getElem hq⟩
  have hr : j % sz < sz := Nat.mod_lt _ h0
  have e : j / sz * sz + j % sz = j := by rw [Nat.mul_comm]; exact Nat.div_add_mod j sz
  have h1 := flat_at hC l (j / sz) x (j % sz) hx hr
  rw [hc x _ hr, e, hu] at h1
  have h2 := h (j / sz) x hx (j % sz) hr
  rw [Nat.add_assoc, e, ← h1] at h2
  have hadd : (⟨b, off, none⟩ : Addr).add j = ⟨b, off + j, none⟩ := by unfold Addr.add; split <;> simp_all
  rw [hadd]
  exact h2

theorem keep_own {W W' : World} {B base n : Nat} {t e : TypeId} {cs : Array Value} {v : Value} {xs : List Value} {sz : Nat} (h : CellsAt W B t cs) (O : W.ownsRow base e sz v n xs) (hg : W.grownBy W' v.ownBlock) (hB : B < base) : CellsAt W' B t cs :=
  h.kept hg (fun e => by have := own_block O B e.symm; omega)
theorem own_empty {W : World} {base : Nat} {e : TypeId} (hb : base ≤ W.heap.size) {sz : Nat} : (W.alloc (.cells #[] e)).ownsRow base e sz (.slice (some ⟨W.heap.size, 0, none⟩) 0 0) 0 [] :=
  ⟨by simp, .inr ⟨W.heap.size, 0, #[], rfl, hb, CellsAt.new W e #[], Nat.le_refl _, Nat.zero_le _, by simp, by simp⟩⟩
theorem own_lt {W : World} {base n c g sz : Nat} {e : TypeId} {xs : List Value} (h : W.ownsRow base e sz (.slice (some ⟨g, 0, none⟩) n c) n xs) : g < W.heap.size := by
  rcases h.2 with ⟨e, _⟩ | ⟨g', cap, cur, e, _, hb, _⟩
  · cases e
  · injection e with e _ _
    injection e with e
    injection e with e
    subst e
    exact (Array.getElem?_eq_some_iff.1 hb).1

end Go.Proofs.Ythmohjgdcjafkag

/- One is come to from another one, in one step or more; a table of that. -/
namespace Go.Proofs.Ythmohjgdcjafkag
open Go.RowKit Go.PlainAid

/-- One is come to from another one, in one step or more: it is in all that holds the first steps and is closed under steps. -/
def Via (E : Nat → Nat → Prop) (i k : Nat) : Prop := ∀ S : Nat → Prop, (∀ q, E i q → S q) → (∀ j q, S j → E j q → S q) → S k
theorem Via.one {E : Nat → Nat → Prop} {i k : Nat} (e : E i k) : Via E i k := fun _ h0 _ => h0 _ e
theorem Via.more {E : Nat → Nat → Prop} {i j k : Nat} (h : Via E i j) (e : E j k) : Via E i k := fun S h0 h1 => h1 _ _ (h S h0 h1) e
theorem Via.walk {E : Nat → Nat → Prop} {i : Nat} {M : Nat → Prop} (one : ∀ k, E i k → M k) (more : ∀ j k, Via E i j → M j → E j k → M k) {k : Nat} (h : Via E i k) : M k :=
  (h (fun q => Via E i q ∧ M q) (fun q e => ⟨.one e, one q e⟩) (fun j q hj e => ⟨hj.1.more e, more j q hj.1 hj.2 e⟩)).2
theorem Via.trans {E : Nat → Nat → Prop} {i j k : Nat} (h : Via E i j) (g : Via E j k) : Via E i k :=
  g.walk (M := fun k => Via E i k) (fun _ e => h.more e) (fun _ _ _ ih e => ih.more e)
theorem Via.turn {E : Nat → Nat → Prop} {i k : Nat} (h : Via E i k) : Via (fun a b => E b a) k i :=
  h.walk (M := fun k => Via (fun a b => E b a) k i) (fun _ e => .one e) (fun _ _ _ ih e => Via.trans (.one e) ih)
/-- What is closed under single steps is closed under many. -/
theorem Via.closed {E : Nat → Nat → Prop} {S : Nat → Prop} {i : Nat} (h0 : ∀ k, E i k → S k) (hS : ∀ j k, S j → E j k → S k) {k : Nat} (h : Via E i k) : S k := h S h0 hS

/-- One is come to from another one, by way of those below a number alone. -/
def ViaB (E : Nat → Nat → Prop) (m i k : Nat) : Prop := ∀ S : Nat → Prop, (∀ q, E i q → S q) → (∀ j q, S j → j < m → E j q → S q) → S k
theorem ViaB.one {E : Nat → Nat → Prop} {m i k : Nat} (e : E i k) : ViaB E m i k := fun _ h0 _ => h0 _ e
theorem ViaB.more {E : Nat → Nat → Prop} {m i j k : Nat} (h : ViaB E m i j) (hj : j < m) (e : E j k) : ViaB E m i k := fun S h0 h1 => h1 _ _ (h S h0 h1) hj e
theorem ViaB.none {E : Nat → Nat → Prop} {i k : Nat} (h : ViaB E 0 i k) : E i k := h (fun q => E i q) (fun _ e => e) (fun _ _ _ hj _ => absurd hj (by omega))
/-- By way of one number more: without it, or to it and from it on. -/
theorem ViaB.part {E : Nat → Nat → Prop} {m i k : Nat} (h : ViaB E (m + 1) i k) : ViaB E m i k ∨ (ViaB E m i m ∧ ViaB E m m k) := by
  refine h (fun q => ViaB E m i q ∨ (ViaB E m i m ∧ ViaB E m m q)) (fun q e => .inl (.one e)) (fun j q ih hj e => ?_)
  by_cases hjm : j = m
  · subst hjm
    rcases ih with ih | ⟨ih, _⟩
    · exact .inr ⟨ih, .one e⟩
    · exact .inr ⟨ih, .one e⟩
  · rcases ih with ih | ⟨ih1, ih2⟩
    · exact .inl (ih.more (by omega) e)
    · exact .inr ⟨ih1, ih2.more (by omega) e⟩
theorem Via.bound {E : Nat → Nat → Prop} {n i k : Nat} (hE : ∀ i k, E i k → i < n) (h : Via E i k) : ViaB E n i k :=
  h.walk (M := fun k => ViaB E n i k) (fun _ e => .one e) (fun _ _ _ ih e => ih.more (hE _ _ e) e)

/-- A table that is filled up number by number, row by row, place by place. -/
structure Fill (E : Nat → Nat → Prop) (n m i k : Nat) (T : Nat → Nat → Bool) : Prop where
  snd : ∀ a b, a < n → b < n → T a b = true → Via E a b
  low : ∀ a b, a < n → b < n → ViaB E m a b → T a b = true
  row : ∀ a b, a < n → b < n → a < i → ViaB E (m + 1) a b → T a b = true
  cel : ∀ b, i < n → b < n → b < k → ViaB E (m + 1) i b → T i b = true
def setT (T : Nat → Nat → Bool) (i k : Nat) (v : Bool) : Nat → Nat → Bool := fun a b => if a = i ∧ b = k then v else T a b
theorem setT_at (T : Nat → Nat → Bool) (i k : Nat) (v : Bool) : setT T i k v i k = v := by unfold setT; rw [if_pos ⟨rfl, rfl⟩]
theorem setT_ne {T : Nat → Nat → Bool} {i k a b : Nat} {v : Bool} (h : ¬ (a = i ∧ b = k)) : setT T i k v a b = T a b := by unfold setT; rw [if_neg h]
theorem setT_grow {T : Nat → Nat → Bool} {i k a b : Nat} {v : Bool} (hv : T i k = true → v = true) (h : T a b = true) : setT T i k v a b = true := by
  by_cases e : a = i ∧ b = k
  · obtain ⟨rfl, rfl⟩ := e
    rw [setT_at]; exact hv h
  · rw [setT_ne e]; exact h
theorem Fill.step {E : Nat → Nat → Prop} {n m i k : Nat} {T : Nat → Nat → Bool} (h : Fill E n m i k T) (hm : m < n) (hi : i < n) (hk : k < n) : Fill E n m i (k + 1) (setT T i k (T i k || (T i m && T m k))) := by
  have hv : T i k = true → (T i k || (T i m && T m k)) = true := fun h => by rw [h]; rfl
  refine ⟨fun a b ha hb hT => ?_, fun a b ha hb hV => setT_grow hv (h.low a b ha hb hV), fun a b ha hb hai hV => setT_grow hv (h.row a b ha hb hai hV), fun b hi' hb hbk hV => ?_⟩
  · by_cases e : a = i ∧ b = k
    · obtain ⟨rfl, rfl⟩ := e
      rw [setT_at, Bool.or_eq_true, Bool.and_eq_true] at hT
      rcases hT with hT | ⟨h1, h2⟩
      · exact h.snd _ _ ha hb hT
      · exact (h.snd _ _ ha hm h1).trans (h.snd _ _ hm hb h2)
    · rw [setT_ne e] at hT
      exact h.snd a b ha hb hT
  · by_cases e : b = k
    · subst e
      rw [setT_at, Bool.or_eq_true, Bool.and_eq_true]
      rcases hV.part with h1 | ⟨h1, h2⟩
      · exact .inl (h.low _ _ hi hb h1)
      · exact .inr ⟨h.low _ _ hi hm h1, h.low _ _ hm hb h2⟩
    · exact setT_grow hv (h.cel b hi' hb (by omega) hV)
theorem Fill.nextRow {E : Nat → Nat → Prop} {n m i : Nat} {T : Nat → Nat → Bool} (h : Fill E n m i n T) : Fill E n m (i + 1) 0 T :=
  ⟨h.snd, h.low, fun a b ha hb hai hV => by
    by_cases e : a = i
    · subst e; exact h.cel b ha hb hb hV
    · exact h.row a b ha hb (by omega) hV, fun b _ _ hb _ => by omega⟩
theorem Fill.nextNum {E : Nat → Nat → Prop} {n m : Nat} {T : Nat → Nat → Bool} (h : Fill E n m n 0 T) : Fill E n (m + 1) 0 0 T :=
  ⟨h.snd, fun a b ha hb hV => h.row a b ha hb ha hV, fun a b _ _ ha _ => by omega, fun b _ _ hb _ => by omega⟩
theorem Fill.start {E : Nat → Nat → Prop} {n : Nat} {T : Nat → Nat → Bool} (h : ∀ a b, a < n → b < n → (T a b = true ↔ E a b)) : Fill E n 0 0 0 T :=
  ⟨fun a b ha hb hT => .one ((h a b ha hb).1 hT), fun a b ha hb hV => (h a b ha hb).2 hV.none, fun a b _ _ ha _ => by omega, fun b _ _ hb _ => by omega⟩
theorem Fill.all {E : Nat → Nat → Prop} {n : Nat} {T : Nat → Nat → Bool} (h : Fill E n n 0 0 T) (hE : ∀ i k, E i k → i < n) {a b : Nat} (ha : a < n) (hb : b < n) : T a b = true ↔ Via E a b :=
  ⟨h.snd a b ha hb, fun hV => h.low a b ha hb (hV.bound hE)⟩

end Go.Proofs.Ythmohjgdcjafkag

/- Names that rise; modules in an order in which each stands behind all that it asks. -/
namespace Go.Proofs.Ythmohjgdcjafkag
open Go.RowKit Go.PlainAid

/-- One name stands ahead of another one. -/
def Ahead (a b : ByteArray) : Prop := a.data.toList < b.data.toList
theorem bytes_ext {a b : ByteArray} (h : a.data.toList = b.data.toList) : a = b := ByteArray.ext (Array.toList_inj.1 h)
theorem Ahead.irrefl (a : ByteArray) : ¬ Ahead a a := List.lt_irrefl _
theorem Ahead.trans {a b c : ByteArray} (h : Ahead a b) (g : Ahead b c) : Ahead a c := List.lt_trans h g
theorem Ahead.asymm {a b : ByteArray} (h : Ahead a b) (g : Ahead b a) : False := Ahead.irrefl a (h.trans g)
theorem Ahead.total (a b : ByteArray) : Ahead a b ∨ a = b ∨ Ahead b a := by
  by_cases h1 : a.data.toList < b.data.toList
  · exact .inl h1
  by_cases h2 : b.data.toList < a.data.toList
  · exact .inr (.inr h2)
  · exact .inr (.inl (bytes_ext (List.le_antisymm (List.not_lt.1 h2) (List.not_lt.1 h1))))

def Rising (ss : List ByteArray) : Prop := ss.Pairwise Ahead
theorem Ahead.ne {a b : ByteArray} (h : Ahead a b) : a ≠ b := fun e => Ahead.irrefl a (by rw [← e] at h; exact h)
theorem Rising.nodup {ss : List ByteArray} (h : Rising ss) : ss.Nodup := List.Pairwise.imp Ahead.ne h
theorem Rising.same {a b : List ByteArray} (ha : Rising a) (hb : Rising b) (h : ∀ x, x ∈ a ↔ x ∈ b) : a = b :=
  List.Perm.eq_of_pairwise (le := Ahead) (fun _ _ _ _ h1 h2 => (h1.asymm h2).elim) ha hb ((List.perm_ext_iff_of_nodup ha.nodup hb.nodup).2 h)

theorem full_mem {α : Type} {l₁ l₂ : List α} (d : l₁.Nodup) (s : ∀ x ∈ l₁, x ∈ l₂) (h : l₂.length ≤ l₁.length) : ∀ x ∈ l₂, x ∈ l₁ := by
  intro x hx
  refine Classical.byContradiction fun hn => ?_
  have h1 : (x :: l₁).length ≤ l₂.length := List.Nodup.length_le_of_subset (List.nodup_cons.2 ⟨hn, d⟩) (fun y hy => by
    rcases List.mem_cons.1 hy with rfl | hy
    · exact hx
    · exact s y hy)
  simp at h1
  omega

theorem any_mem {met : List ByteArray} {n : ByteArray} : (met.any fun y => y == n) = true ↔ n ∈ met := by
  rw [List.any_eq_true]
  constructor
  · rintro ⟨x, hx, he⟩
    rw [← (Go.MapKept.bytes_beq x n).1 he]
    exact hx
  · exact fun h => ⟨n, h, (Go.MapKept.bytes_beq n n).2 rfl⟩

/-- Has a module an import from the one of that name? -/
def asksM (m : Mod) (n : ByteArray) : Bool := m.imps.any fun i => i.mod == n
def waitsB (met : List ByteArray) (m : Mod) : Bool := !(met.any fun y => y == m.name)
def mayB (Rs : List Mod) (met : List ByteArray) (m : Mod) : Bool := waitsB met m && !(Rs.any fun o => waitsB met o && asksM m o.name)
def orderFrom (Rs : List Mod) : Nat → List ByteArray → Option (List ByteArray)
  | 0, met => some met
  | n + 1, met => match Rs.find? (mayB Rs met) with | none => none | some m => orderFrom Rs n (met ++ [m.name])

theorem waits_iff {met : List ByteArray} {m : Mod} : waitsB met m = true ↔ m.name ∉ met := by
  unfold waitsB
  rw [Bool.not_eq_true', ← Bool.not_eq_true, List.any_eq_true]
  constructor
  · exact fun h hm => h ⟨_, hm, (Go.MapKept.bytes_beq _ _).2 rfl⟩
  · rintro h ⟨x, hx, he⟩
    rw [(Go.MapKept.bytes_beq _ _).1 he] at hx
    exact h hx
theorem may_iff {Rs : List Mod} {met : List ByteArray} {m : Mod} : mayB Rs met m = true ↔ m.name ∉ met ∧ ∀ o ∈ Rs, asksM m o.name = true → o.name ∈ met := by
  unfold mayB
  rw [Bool.and_eq_true, waits_iff, Bool.not_eq_true', ← Bool.not_eq_true, List.any_eq_true]
  constructor
  · rintro ⟨h1, h2⟩
    refine ⟨h1, fun o ho ha => Classical.byContradiction fun hn => h2 ⟨o, ho, ?_⟩⟩
    rw [Bool.and_eq_true, waits_iff]
    exact ⟨hn, ha⟩
  · rintro ⟨h1, h2⟩
    refine ⟨h1, ?_⟩
    rintro ⟨o, ho, hb⟩
    rw [Bool.and_eq_true, waits_iff] at hb
    exact hb.1 (h2 o ho hb.2)

/-- Each stands behind all that it asks. -/
def Stands (Rs : List Mod) (c : List ByteArray) : Prop := ∀ (i : Nat) (x : ByteArray), c[i]? = some x → ∃ m ∈ Rs, m.name = x ∧ x ∉ c.take i ∧ ∀ o ∈ Rs, asksM m o.name = true → o.name ∈ c.take i
theorem Stands.nil {Rs : List Mod} : Stands Rs [] := fun i x hx => by simp at hx
theorem Stands.at {Rs : List Mod} {c : List ByteArray} (h : Stands Rs c) : ∀ (i : Nat) (x : ByteArray), c[i]? = some x → ∃ m ∈ Rs, m.name = x ∧ x ∉ c.take i ∧ ∀ o ∈ Rs, asksM m o.name = true → o.name ∈ c.take i := h
theorem Stands.snoc {Rs : List Mod} {met : List ByteArray} {m : Mod} (h : Stands Rs met) (hm : m ∈ Rs) (hn : m.name ∉ met) (ha : ∀ o ∈ Rs, asksM m o.name = true → o.name ∈ met) : Stands Rs (met ++ [m.name]) := by
  intro i x hx
  by_cases hi : i < met.length
  · rw [List.getElem?_append_left hi] at hx
    rw [List.take_append_of_le_length (by omega)]
    exact h i x hx
  · have hi2 : i = met.length := by
      have := (List.getElem?_eq_some_iff.1 hx).1
      simp at this
      omega
    subst hi2
    have hx2 : m.name = x := by simpa using hx
    subst hx2
    rw [List.take_left' rfl]
    exact ⟨m, hm, rfl, hn, ha⟩
theorem Stands.nodup {Rs : List Mod} {c : List ByteArray} (h : Stands Rs c) : c.Nodup := by
  refine List.pairwise_iff_getElem.2 fun i j hi hj hij e => ?_
  obtain ⟨_, _, _, hn, _⟩ := h j c[j] (List.getElem?_eq_getElem hj)
  refine hn ?_
  rw [← e]
  exact List.mem_take_iff_getElem.2 ⟨i, by omega, rfl⟩
theorem Stands.names {Rs : List Mod} {c : List ByteArray} (h : Stands Rs c) : ∀ x ∈ c, ∃ m ∈ Rs, m.name = x := by
  intro x hx
  obtain ⟨i, hi⟩ := List.getElem?_of_mem hx
  obtain ⟨m, hm, hmx, _⟩ := h i x hi
  exact ⟨m, hm, hmx⟩
theorem order_stands {Rs : List Mod} : ∀ {n : Nat} {met c : List ByteArray}, Stands Rs met → orderFrom Rs n met = some c → Stands Rs c ∧ c.length = met.length + n ∧ c.take met.length = met
  | 0, met, c, h, he => by
    have : met = c := by simpa [orderFrom] using he
    subst this
    exact ⟨h, rfl, by simp⟩
  | n + 1, met, c, h, he => by
    unfold orderFrom at he
    split at he
    · cases he
    rename_i m hf
    have hm := List.mem_of_find?_eq_some hf
    have hp := may_iff.1 (List.find?_some hf)
    obtain ⟨h1, h2, h3⟩ := order_stands (.snoc h hm hp.1 hp.2) he
    refine ⟨h1, by simp at h2; omega, ?_⟩
    have h4 := congrArg (List.take met.length) h3
    rw [List.take_take, List.take_left' rfl] at h4
    rw [show min met.length (met ++ [m.name]).length = met.length by simp] at h4
    exact h4
/-- What is picked at each place. -/
theorem order_at {Rs : List Mod} : ∀ {n : Nat} {met c : List ByteArray}, Stands Rs met → orderFrom Rs n met = some c → ∀ j, met.length ≤ j → j < c.length → ∃ m, Rs.find? (mayB Rs (c.take j)) = some m ∧ c[j]? = some m.name
  | 0, met, c, h, he => by
    have : met = c := by simpa [orderFrom] using he
    subst this
    intro j h1 h2
    omega
  | n + 1, met, c, h, he => by
    have hall := (order_stands h he).2.2
    unfold orderFrom at he
    split at he
    · cases he
    rename_i m hf
    have hm := List.mem_of_find?_eq_some hf
    have hp := may_iff.1 (List.find?_some hf)
    have h0 : Stands Rs (met ++ [m.name]) := .snoc h hm hp.1 hp.2
    intro j h1 h2
    by_cases hj : j = met.length
    · subst hj
      refine ⟨m, by rw [hall]; exact hf, ?_⟩
      have h3 := (order_stands h0 he).2.2
      have h4 : (c.take (met ++ [m.name]).length)[met.length]? = some m.name := by rw [h3]; simp
      rw [List.getElem?_take] at h4
      rw [if_pos (by simp)] at h4
      exact h4
    · exact order_at h0 he j (by simp; omega) h2
theorem order_none {Rs : List Mod} : ∀ {n : Nat} {met : List ByteArray}, Stands Rs met → orderFrom Rs n met = none → ∃ met', Stands Rs met' ∧ met'.length < met.length + n ∧ ∀ m ∈ Rs, mayB Rs met' m = false
  | 0, met, h, he => by simp [orderFrom] at he
  | n + 1, met, h, he => by
    unfold orderFrom at he
    split at he
    · rename_i hf
      exact ⟨met, h, by omega, fun m hm => by simpa using List.find?_eq_none.1 hf m hm⟩
    · rename_i m hf
      have hm := List.mem_of_find?_eq_some hf
      have hp := may_iff.1 (List.find?_some hf)
      obtain ⟨m', h1, h2, h3⟩ := order_none (.snoc h hm hp.1 hp.2) he
      exact ⟨m', h1, by simp at h2; omega, h3⟩

theorem nodup_names {Rs : List Mod} (hd : (Rs.map (·.name)).Nodup) {a b : Mod} (ha : a ∈ Rs) (hb : b ∈ Rs) (h : a.name = b.name) : a = b := by
  obtain ⟨i, hi⟩ := List.getElem?_of_mem ha
  obtain ⟨k, hk⟩ := List.getElem?_of_mem hb
  have h1 : (Rs.map (·.name))[i]? = some a.name := by rw [List.getElem?_map, hi]; rfl
  have h2 : (Rs.map (·.name))[k]? = some a.name := by rw [List.getElem?_map, hk, h]; rfl
  have hil : i < (Rs.map (·.name)).length := (List.getElem?_eq_some_iff.1 h1).1
  have e := (List.getElem?_inj hil hd).1 (h1.trans h2.symm)
  subst e
  rw [hi] at hk
  exact Option.some.inj hk

/-- Those of which each asks one of them: one comes back to itself. -/
theorem comes_back {E : Nat → Nat → Prop} : ∀ (n : Nat) (W : List Nat), W.length ≤ n → W ≠ [] → (∀ i ∈ W, ∃ k ∈ W, E i k) → ∃ i ∈ W, Via E i i
  | 0, W, h1, h2, _ => absurd (List.length_eq_zero_iff.1 (by omega)) h2
  | n + 1, [], _, h2, _ => absurd rfl h2
  | n + 1, i :: W, h1, _, h3 => by
    by_cases hv : Via E i i
    · exact ⟨i, by simp, hv⟩
    · have hm : ∀ k, k ∈ W.filter (fun k => @decide (Via E i k) (Classical.propDecidable _)) ↔ k ∈ W ∧ Via E i k := fun k => by
        rw [List.mem_filter, @decide_eq_true_iff _ (Classical.propDecidable _)]
      obtain ⟨k, hk, he⟩ := h3 i (by simp)
      have hkW : k ∈ W := by
        rcases List.mem_cons.1 hk with rfl | hk
        · exact absurd (.one he) hv
        · exact hk
      obtain ⟨j, hj, hjv⟩ := comes_back n (W.filter (fun k => @decide (Via E i k) (Classical.propDecidable _))) (by
        have := List.length_filter_le (fun k => @decide (Via E i k) (Classical.propDecidable _)) W
        simp at h1
        omega) (List.ne_nil_of_mem ((hm k).2 ⟨hkW, .one he⟩)) (fun a ha => by
        obtain ⟨haW, hav⟩ := (hm a).1 ha
        obtain ⟨b, hb, hab⟩ := h3 a (by simp [haW])
        have hib := hav.more hab
        rcases List.mem_cons.1 hb with rfl | hb
        · exact absurd hib hv
        · exact ⟨b, (hm b).2 ⟨hb, hib⟩, hab⟩)
      exact ⟨j, by simp [((hm j).1 hj).1], hjv⟩

theorem find_least {Rs : List Mod} (hr : Rising (Rs.map (·.name))) {p : Mod → Bool} {m : Mod} (h : Rs.find? p = some m) : ∀ o ∈ Rs, p o = true → o = m ∨ Ahead m.name o.name := by
  obtain ⟨hp, i, hi, he, hlt⟩ := List.find?_eq_some_iff_getElem.1 h
  intro o ho hpo
  obtain ⟨k, hk, hko⟩ := List.getElem_of_mem ho
  by_cases hik : i < k
  · refine .inr ?_
    have h1 := List.pairwise_iff_getElem.1 hr i k (by simpa using hi) (by simpa using hk) hik
    rw [List.getElem_map, List.getElem_map, he, hko] at h1
    exact h1
  · by_cases hki : k = i
    · subst hki
      exact .inl (hko.symm.trans he)
    · have := hlt k (by omega)
      rw [hko, hpo] at this
      cases this

end Go.Proofs.Ythmohjgdcjafkag
