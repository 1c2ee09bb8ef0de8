/- The contract of DecodeOf. -/
import Derived.Test.YtaklbnabgcglhaaTkA
import Derived.Deep.CutBlock
import Derived.Deep.CutRange
import Derived.Deep.LoopGhost
namespace Go.Proofs.Ytaklbnabgcglhaa
open Go.RowKit Go.PlainAid Go.Lib

/-- All that DecodeOf has read so far. -/
structure TSt (base T Bm : Nat) (s N X : ByteArray) (a b : Int) (w0 W : World) (es : List Exp) (is : List Imp) (ps : List Pat) (τ : (Nat × Bool)) : Prop where
  rd : RdAt 79 W T s τ
  mod : ∃ ve vi vp, CellsAt W Bm 39 #[.string N, .int .i64 a, .int .i64 b, .string X, ve, vi, vp] ∧
    W.ownsRow base 77 2 ve es.length (es.flatMap expC) ∧ W.ownsRow base 74 4 vi is.length (is.flatMap impC) ∧ W.ownsRow base 48 4 vp ps.length (ps.flatMap patC)
  low : LowK base T Bm w0 W
  size : base ≤ W.heap.size
theorem TSt.read {base T Bm : Nat} {s N X : ByteArray} {a b : Int} {w0 W W' : World} {es : List Exp} {is : List Imp} {ps : List Pat} {τ τ' : (Nat × Bool)} (h : TSt base T Bm s N X a b w0 W es is ps τ) (hg : W.grownBy W' (some T)) (hr : RdAt 79 W' T s τ') (h1 : T < base) (h3 : T ≠ Bm) : TSt base T Bm s N X a b w0 W' es is ps τ' := by
  obtain ⟨_, ⟨ve, vi, vp, hm, hE, hI, hP⟩, hl, hz⟩ := h
  have hq : ∀ {e : TypeId} k, some T = some k → k < base ∨ ∃ cs t fz, t ≠ e ∧ W.heap[k]? = some (.cells cs t fz) := fun k e => .inl (by cases e; exact h1)
  exact ⟨hr, ⟨ve, vi, vp, hm.kept hg (fun e => h3 (by cases e; rfl)), row_grown hE hg hq, row_grown hI hg hq, row_grown hP hg hq⟩, hl.trans (LowK.grown hg hz (fun k e => by cases e; exact .inl rfl)), Nat.le_trans hz hg.size⟩
/-- The head's cells are set one by one. -/
theorem TSt.set {base T Bm : Nat} {s N X N' X' : ByteArray} {a b a' b' : Int} {w0 W : World} {es : List Exp} {is : List Imp} {ps : List Pat} {τ : (Nat × Bool)} (h : TSt base T Bm s N X a b w0 W es is ps τ) (i : Nat) (v : Value) (h1 : Bm < base) (h3 : T ≠ Bm)
    (hv : ∀ ve vi vp, (#[.string N, .int .i64 a, .int .i64 b, .string X, ve, vi, vp] : Array Value).setIfInBounds i v = #[.string N', .int .i64 a', .int .i64 b', .string X', ve, vi, vp]) : TSt base T Bm s N' X' a' b' w0 (W.setCell ⟨Bm, i, none⟩ v) es is ps τ := by
  obtain ⟨hr, ⟨ve, vi, vp, hm, hE, hI, hP⟩, hl, hz⟩ := h
  have hg := grown_set W Bm i v
  have hq : ∀ {e : TypeId} k, some Bm = some k → k < base ∨ ∃ cs t fz, t ≠ e ∧ W.heap[k]? = some (.cells cs t fz) := fun k e => .inl (by cases e; exact h1)
  have hm' := hm.set i v
  rw [hv] at hm'
  exact ⟨CellsAt.kept hr hg (fun e => h3 (by cases e; rfl)), ⟨ve, vi, vp, hm', row_grown hE hg hq, row_grown hI hg hq, row_grown hP hg hq⟩, hl.trans (LowK.grown hg hz (fun k e => by cases e; exact .inr (.inl rfl))), Nat.le_trans hz hg.size⟩
theorem TSt.facts {base T Bm : Nat} {s N X : ByteArray} {a b : Int} {w0 W : World} {es : List Exp} {is : List Imp} {ps : List Pat} {τ : (Nat × Bool)} (h : TSt base T Bm s N X a b w0 W es is ps τ) :
    (∀ i, W.frozen? ⟨Bm, i, none⟩ = false) ∧ W.cell? ⟨Bm, 0, none⟩ = some (.string N) ∧ W.cell? ⟨Bm, 1, none⟩ = some (.int .i64 a) ∧ W.cell? ⟨Bm, 2, none⟩ = some (.int .i64 b) ∧ W.cell? ⟨Bm, 3, none⟩ = some (.string X) ∧ W.cell? ⟨T, 1, none⟩ = some (.int .i64 τ.1) ∧ W.cell? ⟨T, 2, none⟩ = some (.bool τ.2) := by
  obtain ⟨hr, ⟨ve, vi, vp, hm, _⟩, _⟩ := h
  exact ⟨hm.frozen, hm.cell 0, hm.cell 1, hm.cell 2, hm.cell 3, hr.parts.2.1, hr.parts.2.2.1⟩

theorem tname_from (T : Nat) (s : ByteArray) (σ : (Nat × Bool)) (hs : s.size ≤ 140737488351232) (ha : σ.1 ≤ s.size) (w W : World) (h : RdAt 79 w T s σ) (hB : Below w.heap.size w W) :
    Calls Try.prog 45 #[.pointer (some ⟨T, 0, none⟩)] W fun e w1 => e = .returned (.string (rdName true s σ).1) ∧ RdAt 79 w1 T s (rdName true s σ).2 ∧ w.grownBy w1 (some T) :=
  (tname_any T s σ W (CellsAt.below h hB (CellsAt.lt h)) hs ha).mono fun _ _ ⟨h1, h2, h3⟩ => ⟨h1, h2, ((grown_of_below hB).but _).trans h3⟩
theorem tnum_from (T : Nat) (s : ByteArray) (σ : (Nat × Bool)) (m : Nat) (hm : m = 1 ∨ m = 2) (hs : s.size ≤ 140737488351232) (ha : σ.1 ≤ s.size) (M : Value) (hM : M = .int .i64 m) (w W : World) (h : RdAt 79 w T s σ) (hB : Below w.heap.size w W) :
    Calls Try.prog 46 #[.pointer (some ⟨T, 0, none⟩), M] W fun e w1 => e = .returned (.int .i64 (rdNum true s m σ).1) ∧ RdAt 79 w1 T s (rdNum true s m σ).2 ∧ w.grownBy w1 (some T) :=
  (tnum_any T s σ m hm W (CellsAt.below h hB (CellsAt.lt h)) hs ha M hM).mono fun _ _ ⟨h1, h2, h3⟩ => ⟨h1, h2, ((grown_of_below hB).but _).trans h3⟩
theorem ttext_from (T : Nat) (s : ByteArray) (σ : (Nat × Bool)) (hs : s.size ≤ 140737488351232) (ha : σ.1 ≤ s.size) (X : Int) (h0 : 0 ≤ X) (h1 : X < 65536) (w W : World) (h : RdAt 79 w T s σ) (hB : Below w.heap.size w W) :
    Calls Try.prog 47 #[.pointer (some ⟨T, 0, none⟩), .int .i64 X] W fun e w1 => e = .returned (.string (rdPiece true s X.toNat σ).1) ∧ RdAt 79 w1 T s (rdPiece true s X.toNat σ).2 ∧ w.grownBy w1 (some T) := by
  obtain ⟨n, rfl⟩ := Int.eq_ofNat_of_zero_le h0
  exact (text_any T s σ n (by omega) W (CellsAt.below h hB (CellsAt.lt h)) hs ha).mono fun _ _ ⟨h1, h2, h3⟩ => ⟨h1, h2, ((grown_of_below hB).but _).trans h3⟩


theorem push_exp {base T Bm : Nat} {s N X : ByteArray} {a b : Int} {w0 W w3 : World} {es : List Exp} {is : List Imp} {ps : List Pat} {τ : (Nat × Bool)} {ve vi vp v' : Value} {o : Obj} (rd : RdAt 79 W T s τ) (hm : CellsAt W Bm 39 #[.string N, .int .i64 a, .int .i64 b, .string X, ve, vi, vp])
    (hE : W.ownsRow base 77 2 ve es.length (es.flatMap expC)) (hI : W.ownsRow base 74 4 vi is.length (is.flatMap impC)) (hP : W.ownsRow base 48 4 vp ps.length (ps.flatMap patC)) (low : LowK base T Bm w0 W) (size : base ≤ W.heap.size) (hT : T < base) (hB : Bm < base) (hn : T ≠ Bm) (x : Exp)
    (hgrow : (W.alloc o).grownBy w3 ve.ownBlock) (hown3 : w3.ownsRow base 77 2 v' (es.length + 1) (es.flatMap expC ++ expC x)) : TSt base T Bm s N X a b w0 (w3.setCell ⟨Bm, 4, none⟩ v') (es ++ [x]) is ps τ := by
  have gs := grown_set w3 Bm 4 v'
  have ga := World.grownBy_alloc W o none
  have hX2 := row_block (hE.alloc o)
  have hX : ∀ k, k < base → some k ≠ ve.ownBlock := fun k hk e => by have := (hX2 k e.symm).1; omega
  have q2 : ∀ {e : TypeId} k, some Bm = some k → k < base ∨ ∃ cs t fz, t ≠ e ∧ w3.heap[k]? = some (.cells cs t fz) := fun k e => .inl (by cases e; exact hB)
  have q3 : ∀ {e : TypeId}, 77 ≠ e → ∀ k, ve.ownBlock = some k → k < base ∨ ∃ cs t fz, t ≠ e ∧ (W.alloc o).heap[k]? = some (.cells cs t fz) := fun hne k e => by
    obtain ⟨_, cs, fz, hh⟩ := hX2 k e
    exact .inr ⟨cs, _, fz, hne, hh⟩
  have hm3 := (hm.kept ga (by simp)).kept hgrow (hX Bm hB)
  have hown : (w3.setCell ⟨Bm, 4, none⟩ v').ownsRow base 77 2 v' (es ++ [x]).length ((es ++ [x]).flatMap expC) := by
    rw [List.flatMap_append, List.length_append]
    have := row_grown hown3 gs q2
    simpa using this
  have s2 := ga.size
  have s3 := hgrow.size
  refine ⟨CellsAt.kept (CellsAt.kept (CellsAt.kept rd ga (by simp)) hgrow (hX T hT)) gs (fun e => hn (by cases e; rfl)), ⟨v', vi, vp, hm3.set 4 _, hown, row_grown (row_grown (row_grown hI ga (by simp)) hgrow (q3 (by decide))) gs q2, row_grown (row_grown (row_grown hP ga (by simp)) hgrow (q3 (by decide))) gs q2⟩, ?_, ?_⟩
  · exact ((low.trans (LowK.grown ga (by omega) (by simp))).trans (LowK.grown hgrow (by omega) (fun k e => .inr (.inr (hX2 k e).1)))).trans (LowK.grown gs (by omega) (fun k e => by cases e; exact .inr (.inl rfl)))
  · have := gs.size
    omega

theorem push_imp {base T Bm : Nat} {s N X : ByteArray} {a b : Int} {w0 W w3 : World} {es : List Exp} {is : List Imp} {ps : List Pat} {τ : (Nat × Bool)} {ve vi vp v' : Value} {o : Obj} (rd : RdAt 79 W T s τ) (hm : CellsAt W Bm 39 #[.string N, .int .i64 a, .int .i64 b, .string X, ve, vi, vp])
    (hE : W.ownsRow base 77 2 ve es.length (es.flatMap expC)) (hI : W.ownsRow base 74 4 vi is.length (is.flatMap impC)) (hP : W.ownsRow base 48 4 vp ps.length (ps.flatMap patC)) (low : LowK base T Bm w0 W) (size : base ≤ W.heap.size) (hT : T < base) (hB : Bm < base) (hn : T ≠ Bm) (x : Imp)
    (hgrow : (W.alloc o).grownBy w3 vi.ownBlock) (hown3 : w3.ownsRow base 74 4 v' (is.length + 1) (is.flatMap impC ++ impC x)) : TSt base T Bm s N X a b w0 (w3.setCell ⟨Bm, 5, none⟩ v') es (is ++ [x]) ps τ := by
  have gs := grown_set w3 Bm 5 v'
  have ga := World.grownBy_alloc W o none
  have hX2 := row_block (hI.alloc o)
  have hX : ∀ k, k < base → some k ≠ vi.ownBlock := fun k hk e => by have := (hX2 k e.symm).1; omega
  have q2 : ∀ {e : TypeId} k, some Bm = some k → k < base ∨ ∃ cs t fz, t ≠ e ∧ w3.heap[k]? = some (.cells cs t fz) := fun k e => .inl (by cases e; exact hB)
  have q3 : ∀ {e : TypeId}, 74 ≠ e → ∀ k, vi.ownBlock = some k → k < base ∨ ∃ cs t fz, t ≠ e ∧ (W.alloc o).heap[k]? = some (.cells cs t fz) := fun hne k e => by
    obtain ⟨_, cs, fz, hh⟩ := hX2 k e
    exact .inr ⟨cs, _, fz, hne, hh⟩
  have hm3 := (hm.kept ga (by simp)).kept hgrow (hX Bm hB)
  have hown : (w3.setCell ⟨Bm, 5, none⟩ v').ownsRow base 74 4 v' (is ++ [x]).length ((is ++ [x]).flatMap impC) := by
    rw [List.flatMap_append, List.length_append]
    have := row_grown hown3 gs q2
    simpa using this
  have s2 := ga.size
  have s3 := hgrow.size
  refine ⟨CellsAt.kept (CellsAt.kept (CellsAt.kept rd ga (by simp)) hgrow (hX T hT)) gs (fun e => hn (by cases e; rfl)), ⟨ve, v', vp, hm3.set 5 _, row_grown (row_grown (row_grown hE ga (by simp)) hgrow (q3 (by decide))) gs q2, hown, row_grown (row_grown (row_grown hP ga (by simp)) hgrow (q3 (by decide))) gs q2⟩, ?_, ?_⟩
  · exact ((low.trans (LowK.grown ga (by omega) (by simp))).trans (LowK.grown hgrow (by omega) (fun k e => .inr (.inr (hX2 k e).1)))).trans (LowK.grown gs (by omega) (fun k e => by cases e; exact .inr (.inl rfl)))
  · have := gs.size
    omega

theorem push_pat {base T Bm : Nat} {s N X : ByteArray} {a b : Int} {w0 W w3 : World} {es : List Exp} {is : List Imp} {ps : List Pat} {τ : (Nat × Bool)} {ve vi vp v' : Value} {o : Obj} (rd : RdAt 79 W T s τ) (hm : CellsAt W Bm 39 #[.string N, .int .i64 a, .int .i64 b, .string X, ve, vi, vp])
    (hE : W.ownsRow base 77 2 ve es.length (es.flatMap expC)) (hI : W.ownsRow base 74 4 vi is.length (is.flatMap impC)) (hP : W.ownsRow base 48 4 vp ps.length (ps.flatMap patC)) (low : LowK base T Bm w0 W) (size : base ≤ W.heap.size) (hT : T < base) (hB : Bm < base) (hn : T ≠ Bm) (x : Pat)
    (hgrow : (W.alloc o).grownBy w3 vp.ownBlock) (hown3 : w3.ownsRow base 48 4 v' (ps.length + 1) (ps.flatMap patC ++ patC x)) : TSt base T Bm s N X a b w0 (w3.setCell ⟨Bm, 6, none⟩ v') es is (ps ++ [x]) τ := by
  have gs := grown_set w3 Bm 6 v'
  have ga := World.grownBy_alloc W o none
  have hX2 := row_block (hP.alloc o)
  have hX : ∀ k, k < base → some k ≠ vp.ownBlock := fun k hk e => by have := (hX2 k e.symm).1; omega
  have q2 : ∀ {e : TypeId} k, some Bm = some k → k < base ∨ ∃ cs t fz, t ≠ e ∧ w3.heap[k]? = some (.cells cs t fz) := fun k e => .inl (by cases e; exact hB)
  have q3 : ∀ {e : TypeId}, 48 ≠ e → ∀ k, vp.ownBlock = some k → k < base ∨ ∃ cs t fz, t ≠ e ∧ (W.alloc o).heap[k]? = some (.cells cs t fz) := fun hne k e => by
    obtain ⟨_, cs, fz, hh⟩ := hX2 k e
    exact .inr ⟨cs, _, fz, hne, hh⟩
  have hm3 := (hm.kept ga (by simp)).kept hgrow (hX Bm hB)
  have hown : (w3.setCell ⟨Bm, 6, none⟩ v').ownsRow base 48 4 v' (ps ++ [x]).length ((ps ++ [x]).flatMap patC) := by
    rw [List.flatMap_append, List.length_append]
    have := row_grown hown3 gs q2
    simpa using this
  have s2 := ga.size
  have s3 := hgrow.size
  refine ⟨CellsAt.kept (CellsAt.kept (CellsAt.kept rd ga (by simp)) hgrow (hX T hT)) gs (fun e => hn (by cases e; rfl)), ⟨ve, vi, v', hm3.set 6 _, row_grown (row_grown (row_grown hE ga (by simp)) hgrow (q3 (by decide))) gs q2, row_grown (row_grown (row_grown hI ga (by simp)) hgrow (q3 (by decide))) gs q2, hown⟩, ?_, ?_⟩
  · exact ((low.trans (LowK.grown ga (by omega) (by simp))).trans (LowK.grown hgrow (by omega) (fun k e => .inr (.inr (hX2 k e).1)))).trans (LowK.grown gs (by omega) (fun k e => by cases e; exact .inr (.inl rfl)))
  · have := gs.size
    omega

set_option maxRecDepth 100000 in
set_option maxHeartbeats 16000000 in
theorem decodeOf_any (s : ByteArray) (w : World) (hs : s.size ≤ 140737488351232) :
    Calls Try.prog 21 #[.string s] w fun e w' => ∃ v, e = .returned (.tuple #[v, .int .i64 (told s (rdMod true s (0, false))).2]) ∧ OwnsMod w.heap.size w' v (told s (rdMod true s (0, false))).1 ∧ Below w.heap.size w w' := by
  have HFT : Hid ((rdMod true s (0, false)).1.fits) := rdMod_fits _ _ _
  have H1 : Hid (∀ w1 W, RdAt 79 w1 (w.heap.size + 1) s ((0, false) : (Nat × Bool)) → Below w1.heap.size w1 W → Calls Try.prog 45 #[.pointer (some ⟨w.heap.size + 1, 0, none⟩)] W fun e w2 => e = .returned (.string (rdName true s (0, false)).1) ∧ RdAt 79 w2 (w.heap.size + 1) s (rdName true s (0, false)).2 ∧ w1.grownBy w2 (some (w.heap.size + 1))) := fun w1 W h hB => tname_from _ s _ hs (Nat.zero_le _) w1 W h hB
  have H2 : Hid (∀ w1 W, RdAt 79 w1 (w.heap.size + 1) s (rdName true s (0, false)).2 → Below w1.heap.size w1 W → Calls Try.prog 46 #[.pointer (some ⟨w.heap.size + 1, 0, none⟩), .int .i64 1] W fun e w2 => e = .returned (.int .i64 (rdNum true s 1 (rdName true s (0, false)).2).1) ∧ RdAt 79 w2 (w.heap.size + 1) s (rdNum true s 1 (rdName true s (0, false)).2).2 ∧ w1.grownBy w2 (some (w.heap.size + 1))) := fun w1 W h hB => tnum_from _ s _ 1 (.inl rfl) hs (rdName_le true s _ (Nat.zero_le _)) _ rfl w1 W h hB
  have H3 : Hid (∀ w1 W, RdAt 79 w1 (w.heap.size + 1) s (rdNum true s 1 (rdName true s (0, false)).2).2 → Below w1.heap.size w1 W → Calls Try.prog 46 #[.pointer (some ⟨w.heap.size + 1, 0, none⟩), .int .i64 1] W fun e w2 => e = .returned (.int .i64 (rdNum true s 1 (rdNum true s 1 (rdName true s (0, false)).2).2).1) ∧ RdAt 79 w2 (w.heap.size + 1) s (rdNum true s 1 (rdNum true s 1 (rdName true s (0, false)).2).2).2 ∧ w1.grownBy w2 (some (w.heap.size + 1))) := fun w1 W h hB => tnum_from _ s _ 1 (.inl rfl) hs (rdNum_le true s 1 _ (rdName_le true s _ (Nat.zero_le _))) _ rfl w1 W h hB
  have H4 : Hid (∀ w1 W, RdAt 79 w1 (w.heap.size + 1) s (rdNum true s 1 (rdNum true s 1 (rdName true s (0, false)).2).2).2 → Below w1.heap.size w1 W → Calls Try.prog 46 #[.pointer (some ⟨w.heap.size + 1, 0, none⟩), .int .i64 2] W fun e w2 => e = .returned (.int .i64 (rdNum true s 2 (rdNum true s 1 (rdNum true s 1 (rdName true s (0, false)).2).2).2).1) ∧ RdAt 79 w2 (w.heap.size + 1) s (rdNum true s 2 (rdNum true s 1 (rdNum true s 1 (rdName true s (0, false)).2).2).2).2 ∧ w1.grownBy w2 (some (w.heap.size + 1))) := fun w1 W h hB => tnum_from _ s _ 2 (.inr rfl) hs (rdNum_le true s 1 _ (rdNum_le true s 1 _ (rdName_le true s _ (Nat.zero_le _)))) _ rfl w1 W h hB
  have H5 : Hid (∀ w1 W, RdAt 79 w1 (w.heap.size + 1) s (rdNum true s 2 (rdNum true s 1 (rdNum true s 1 (rdName true s (0, false)).2).2).2).2 → Below w1.heap.size w1 W → Calls Try.prog 47 #[.pointer (some ⟨w.heap.size + 1, 0, none⟩), .int .i64 (rdNum true s 2 (rdNum true s 1 (rdNum true s 1 (rdName true s (0, false)).2).2).2).1] W fun e w2 => e = .returned (.string (rdPiece true s (rdNum true s 2 (rdNum true s 1 (rdNum true s 1 (rdName true s (0, false)).2).2).2).1.toNat (rdNum true s 2 (rdNum true s 1 (rdNum true s 1 (rdName true s (0, false)).2).2).2).2).1) ∧ RdAt 79 w2 (w.heap.size + 1) s (rdPiece true s (rdNum true s 2 (rdNum true s 1 (rdNum true s 1 (rdName true s (0, false)).2).2).2).1.toNat (rdNum true s 2 (rdNum true s 1 (rdNum true s 1 (rdName true s (0, false)).2).2).2).2).2 ∧ w1.grownBy w2 (some (w.heap.size + 1))) := fun w1 W h hB => ttext_from _ s _ hs (rdNum_le true s 2 _ (rdNum_le true s 1 _ (rdNum_le true s 1 _ (rdName_le true s _ (Nat.zero_le _))))) _ (rdNum_bd true s 2 _).1 (rdNum_bd true s 2 _).2 w1 W h hB
  have H6 : Hid (∀ w1 W, RdAt 79 w1 (w.heap.size + 1) s (rdPiece true s (rdNum true s 2 (rdNum true s 1 (rdNum true s 1 (rdName true s (0, false)).2).2).2).1.toNat (rdNum true s 2 (rdNum true s 1 (rdNum true s 1 (rdName true s (0, false)).2).2).2).2).2 → Below w1.heap.size w1 W → Calls Try.prog 46 #[.pointer (some ⟨w.heap.size + 1, 0, none⟩), .int .i64 1] W fun e w2 => e = .returned (.int .i64 (rdNum true s 1 (rdPiece true s (rdNum true s 2 (rdNum true s 1 (rdNum true s 1 (rdName true s (0, false)).2).2).2).1.toNat (rdNum true s 2 (rdNum true s 1 (rdNum true s 1 (rdName true s (0, false)).2).2).2).2).2).1) ∧ RdAt 79 w2 (w.heap.size + 1) s (rdNum true s 1 (rdPiece true s (rdNum true s 2 (rdNum true s 1 (rdNum true s 1 (rdName true s (0, false)).2).2).2).1.toNat (rdNum true s 2 (rdNum true s 1 (rdNum true s 1 (rdName true s (0, false)).2).2).2).2).2).2 ∧ w1.grownBy w2 (some (w.heap.size + 1))) := fun w1 W h hB => tnum_from _ s _ 1 (.inl rfl) hs (rdPiece_le true s _ _ (rdNum_le true s 2 _ (rdNum_le true s 1 _ (rdNum_le true s 1 _ (rdName_le true s _ (Nat.zero_le _)))))) _ rfl w1 W h hB
  have HLσ6 : Hid (((rdNum true s 1 (rdPiece true s (rdNum true s 2 (rdNum true s 1 (rdNum true s 1 (rdName true s (0, false)).2).2).2).1.toNat (rdNum true s 2 (rdNum true s 1 (rdNum true s 1 (rdName true s (0, false)).2).2).2).2).2).2).1 ≤ s.size) := (rdNum_le true s 1 _ (rdPiece_le true s _ _ (rdNum_le true s 2 _ (rdNum_le true s 1 _ (rdNum_le true s 1 _ (rdName_le true s _ (Nat.zero_le _)))))))
  have HB6 := rdNum_bd true s 1 (rdPiece true s (rdNum true s 2 (rdNum true s 1 (rdNum true s 1 (rdName true s (0, false)).2).2).2).1.toNat (rdNum true s 2 (rdNum true s 1 (rdNum true s 1 (rdName true s (0, false)).2).2).2).2).2
  have HV : Hid (rdMod true s (0, false) = (⟨(rdName true s (0, false)).1, (rdNum true s 1 (rdName true s (0, false)).2).1, (rdNum true s 1 (rdNum true s 1 (rdName true s (0, false)).2).2).1, (rdPiece true s (rdNum true s 2 (rdNum true s 1 (rdNum true s 1 (rdName true s (0, false)).2).2).2).1.toNat (rdNum true s 2 (rdNum true s 1 (rdNum true s 1 (rdName true s (0, false)).2).2).2).2).1, (rdTimes (rdExp true s) (rdNum true s 1 (rdPiece true s (rdNum true s 2 (rdNum true s 1 (rdNum true s 1 (rdName true s (0, false)).2).2).2).1.toNat (rdNum true s 2 (rdNum true s 1 (rdNum true s 1 (rdName true s (0, false)).2).2).2).2).2).1.toNat ([], (rdNum true s 1 (rdPiece true s (rdNum true s 2 (rdNum true s 1 (rdNum true s 1 (rdName true s (0, false)).2).2).2).1.toNat (rdNum true s 2 (rdNum true s 1 (rdNum true s 1 (rdName true s (0, false)).2).2).2).2).2).2)).1, (rdTimes (rdImp true s) (rdNum true s 1 (rdTimes (rdExp true s) (rdNum true s 1 (rdPiece true s (rdNum true s 2 (rdNum true s 1 (rdNum true s 1 (rdName true s (0, false)).2).2).2).1.toNat (rdNum true s 2 (rdNum true s 1 (rdNum true s 1 (rdName true s (0, false)).2).2).2).2).2).1.toNat ([], (rdNum true s 1 (rdPiece true s (rdNum true s 2 (rdNum true s 1 (rdNum true s 1 (rdName true s (0, false)).2).2).2).1.toNat (rdNum true s 2 (rdNum true s 1 (rdNum true s 1 (rdName true s (0, false)).2).2).2).2).2).2)).2).1.toNat ([], (rdNum true s 1 (rdTimes (rdExp true s) (rdNum true s 1 (rdPiece true s (rdNum true s 2 (rdNum true s 1 (rdNum true s 1 (rdName true s (0, false)).2).2).2).1.toNat (rdNum true s 2 (rdNum true s 1 (rdNum true s 1 (rdName true s (0, false)).2).2).2).2).2).1.toNat ([], (rdNum true s 1 (rdPiece true s (rdNum true s 2 (rdNum true s 1 (rdNum true s 1 (rdName true s (0, false)).2).2).2).1.toNat (rdNum true s 2 (rdNum true s 1 (rdNum true s 1 (rdName true s (0, false)).2).2).2).2).2).2)).2).2)).1, (rdTimes (rdPat true s) (rdNum true s 1 (rdTimes (rdImp true s) (rdNum true s 1 (rdTimes (rdExp true s) (rdNum true s 1 (rdPiece true s (rdNum true s 2 (rdNum true s 1 (rdNum true s 1 (rdName true s (0, false)).2).2).2).1.toNat (rdNum true s 2 (rdNum true s 1 (rdNum true s 1 (rdName true s (0, false)).2).2).2).2).2).1.toNat ([], (rdNum true s 1 (rdPiece true s (rdNum true s 2 (rdNum true s 1 (rdNum true s 1 (rdName true s (0, false)).2).2).2).1.toNat (rdNum true s 2 (rdNum true s 1 (rdNum true s 1 (rdName true s (0, false)).2).2).2).2).2).2)).2).1.toNat ([], (rdNum true s 1 (rdTimes (rdExp true s) (rdNum true s 1 (rdPiece true s (rdNum true s 2 (rdNum true s 1 (rdNum true s 1 (rdName true s (0, false)).2).2).2).1.toNat (rdNum true s 2 (rdNum true s 1 (rdNum true s 1 (rdName true s (0, false)).2).2).2).2).2).1.toNat ([], (rdNum true s 1 (rdPiece true s (rdNum true s 2 (rdNum true s 1 (rdNum true s 1 (rdName true s (0, false)).2).2).2).1.toNat (rdNum true s 2 (rdNum true s 1 (rdNum true s 1 (rdName true s (0, false)).2).2).2).2).2).2)).2).2)).2).1.toNat ([], (rdNum true s 1 (rdTimes (rdImp true s) (rdNum true s 1 (rdTimes (rdExp true s) (rdNum true s 1 (rdPiece true s (rdNum true s 2 (rdNum true s 1 (rdNum true s 1 (rdName true s (0, false)).2).2).2).1.toNat (rdNum true s 2 (rdNum true s 1 (rdNum true s 1 (rdName true s (0, false)).2).2).2).2).2).1.toNat ([], (rdNum true s 1 (rdPiece true s (rdNum true s 2 (rdNum true s 1 (rdNum true s 1 (rdName true s (0, false)).2).2).2).1.toNat (rdNum true s 2 (rdNum true s 1 (rdNum true s 1 (rdName true s (0, false)).2).2).2).2).2).2)).2).1.toNat ([], (rdNum true s 1 (rdTimes (rdExp true s) (rdNum true s 1 (rdPiece true s (rdNum true s 2 (rdNum true s 1 (rdNum true s 1 (rdName true s (0, false)).2).2).2).1.toNat (rdNum true s 2 (rdNum true s 1 (rdNum true s 1 (rdName true s (0, false)).2).2).2).2).2).1.toNat ([], (rdNum true s 1 (rdPiece true s (rdNum true s 2 (rdNum true s 1 (rdNum true s 1 (rdName true s (0, false)).2).2).2).1.toNat (rdNum true s 2 (rdNum true s 1 (rdNum true s 1 (rdName true s (0, false)).2).2).2).2).2).2)).2).2)).2).2)).1⟩, (rdTimes (rdPat true s) (rdNum true s 1 (rdTimes (rdImp true s) (rdNum true s 1 (rdTimes (rdExp true s) (rdNum true s 1 (rdPiece true s (rdNum true s 2 (rdNum true s 1 (rdNum true s 1 (rdName true s (0, false)).2).2).2).1.toNat (rdNum true s 2 (rdNum true s 1 (rdNum true s 1 (rdName true s (0, false)).2).2).2).2).2).1.toNat ([], (rdNum true s 1 (rdPiece true s (rdNum true s 2 (rdNum true s 1 (rdNum true s 1 (rdName true s (0, false)).2).2).2).1.toNat (rdNum true s 2 (rdNum true s 1 (rdNum true s 1 (rdName true s (0, false)).2).2).2).2).2).2)).2).1.toNat ([], (rdNum true s 1 (rdTimes (rdExp true s) (rdNum true s 1 (rdPiece true s (rdNum true s 2 (rdNum true s 1 (rdNum true s 1 (rdName true s (0, false)).2).2).2).1.toNat (rdNum true s 2 (rdNum true s 1 (rdNum true s 1 (rdName true s (0, false)).2).2).2).2).2).1.toNat ([], (rdNum true s 1 (rdPiece true s (rdNum true s 2 (rdNum true s 1 (rdNum true s 1 (rdName true s (0, false)).2).2).2).1.toNat (rdNum true s 2 (rdNum true s 1 (rdNum true s 1 (rdName true s (0, false)).2).2).2).2).2).2)).2).2)).2).1.toNat ([], (rdNum true s 1 (rdTimes (rdImp true s) (rdNum true s 1 (rdTimes (rdExp true s) (rdNum true s 1 (rdPiece true s (rdNum true s 2 (rdNum true s 1 (rdNum true s 1 (rdName true s (0, false)).2).2).2).1.toNat (rdNum true s 2 (rdNum true s 1 (rdNum true s 1 (rdName true s (0, false)).2).2).2).2).2).1.toNat ([], (rdNum true s 1 (rdPiece true s (rdNum true s 2 (rdNum true s 1 (rdNum true s 1 (rdName true s (0, false)).2).2).2).1.toNat (rdNum true s 2 (rdNum true s 1 (rdNum true s 1 (rdName true s (0, false)).2).2).2).2).2).2)).2).1.toNat ([], (rdNum true s 1 (rdTimes (rdExp true s) (rdNum true s 1 (rdPiece true s (rdNum true s 2 (rdNum true s 1 (rdNum true s 1 (rdName true s (0, false)).2).2).2).1.toNat (rdNum true s 2 (rdNum true s 1 (rdNum true s 1 (rdName true s (0, false)).2).2).2).2).2).1.toNat ([], (rdNum true s 1 (rdPiece true s (rdNum true s 2 (rdNum true s 1 (rdNum true s 1 (rdName true s (0, false)).2).2).2).1.toNat (rdNum true s 2 (rdNum true s 1 (rdNum true s 1 (rdName true s (0, false)).2).2).2).2).2).2)).2).2)).2).2)).2)) := rfl
  generalize rdMod true s (0, false) = E at *
  generalize (rdNum true s 1 (rdPiece true s (rdNum true s 2 (rdNum true s 1 (rdNum true s 1 (rdName true s (0, false)).2).2).2).1.toNat (rdNum true s 2 (rdNum true s 1 (rdNum true s 1 (rdName true s (0, false)).2).2).2).2).2).1 = X6 at *
  generalize (rdNum true s 1 (rdPiece true s (rdNum true s 2 (rdNum true s 1 (rdNum true s 1 (rdName true s (0, false)).2).2).2).1.toNat (rdNum true s 2 (rdNum true s 1 (rdNum true s 1 (rdName true s (0, false)).2).2).2).2).2).2 = σ6 at *
  generalize (rdPiece true s (rdNum true s 2 (rdNum true s 1 (rdNum true s 1 (rdName true s (0, false)).2).2).2).1.toNat (rdNum true s 2 (rdNum true s 1 (rdNum true s 1 (rdName true s (0, false)).2).2).2).2).1 = X5 at *
  generalize (rdPiece true s (rdNum true s 2 (rdNum true s 1 (rdNum true s 1 (rdName true s (0, false)).2).2).2).1.toNat (rdNum true s 2 (rdNum true s 1 (rdNum true s 1 (rdName true s (0, false)).2).2).2).2).2 = σ5 at *
  generalize (rdNum true s 2 (rdNum true s 1 (rdNum true s 1 (rdName true s (0, false)).2).2).2).1 = X4 at *
  generalize (rdNum true s 2 (rdNum true s 1 (rdNum true s 1 (rdName true s (0, false)).2).2).2).2 = σ4 at *
  generalize (rdNum true s 1 (rdNum true s 1 (rdName true s (0, false)).2).2).1 = X3 at *
  generalize (rdNum true s 1 (rdNum true s 1 (rdName true s (0, false)).2).2).2 = σ3 at *
  generalize (rdNum true s 1 (rdName true s (0, false)).2).1 = X2 at *
  generalize (rdNum true s 1 (rdName true s (0, false)).2).2 = σ2 at *
  generalize (rdName true s (0, false)).1 = X1 at *
  generalize (rdName true s (0, false)).2 = σ1 at *
  have HS0 : Hid (s.size ≤ 140737488351232) := hs
  have HW : Hid (∃ w1, w1 = (((w.alloc (.cells #[.string ⟨#[]⟩, .int .i64 0, .int .i64 0, .string ⟨#[]⟩, .slice none 0 0, .slice none 0 0, .slice none 0 0] 39)).alloc (.cells #[.string s, .int .i64 0, .bool false] 79)).alloc (.cells #[.string ⟨#[]⟩, .int .i64 0, .int .i64 0, .string ⟨#[]⟩, .slice none 0 0, .slice none 0 0, .slice none 0 0] 39)) ∧ Below w.heap.size w w1 ∧ CellsAt w1 w.heap.size 39 #[.string ⟨#[]⟩, .int .i64 0, .int .i64 0, .string ⟨#[]⟩, .slice none 0 0, .slice none 0 0, .slice none 0 0] ∧ TSt (w.heap.size + 3) (w.heap.size + 1) (w.heap.size + 2) s ⟨#[]⟩ ⟨#[]⟩ 0 0 w1 w1 [] [] [] (0, false) ∧ w1.heap.size = w.heap.size + 3) := by
    have hz : (w.alloc (.cells #[.string ⟨#[]⟩, .int .i64 0, .int .i64 0, .string ⟨#[]⟩, .slice none 0 0, .slice none 0 0, .slice none 0 0] 39)).heap.size = w.heap.size + 1 := by simp
    have hz2 : ((w.alloc (.cells #[.string ⟨#[]⟩, .int .i64 0, .int .i64 0, .string ⟨#[]⟩, .slice none 0 0, .slice none 0 0, .slice none 0 0] 39)).alloc (.cells #[.string s, .int .i64 0, .bool false] 79)).heap.size = w.heap.size + 2 := by simp
    have g2 := World.grownBy_alloc (w.alloc (.cells #[.string ⟨#[]⟩, .int .i64 0, .int .i64 0, .string ⟨#[]⟩, .slice none 0 0, .slice none 0 0, .slice none 0 0] 39)) (.cells #[.string s, .int .i64 0, .bool false] 79) none
    have g3 := World.grownBy_alloc ((w.alloc (.cells #[.string ⟨#[]⟩, .int .i64 0, .int .i64 0, .string ⟨#[]⟩, .slice none 0 0, .slice none 0 0, .slice none 0 0] 39)).alloc (.cells #[.string s, .int .i64 0, .bool false] 79)) (.cells #[.string ⟨#[]⟩, .int .i64 0, .int .i64 0, .string ⟨#[]⟩, .slice none 0 0, .slice none 0 0, .slice none 0 0] 39) none
    have c2 := CellsAt.new (w.alloc (.cells #[.string ⟨#[]⟩, .int .i64 0, .int .i64 0, .string ⟨#[]⟩, .slice none 0 0, .slice none 0 0, .slice none 0 0] 39)) 79 #[.string s, .int .i64 0, .bool false]
    have c3 := CellsAt.new ((w.alloc (.cells #[.string ⟨#[]⟩, .int .i64 0, .int .i64 0, .string ⟨#[]⟩, .slice none 0 0, .slice none 0 0, .slice none 0 0] 39)).alloc (.cells #[.string s, .int .i64 0, .bool false] 79)) 39 #[.string ⟨#[]⟩, .int .i64 0, .int .i64 0, .string ⟨#[]⟩, .slice none 0 0, .slice none 0 0, .slice none 0 0]
    rw [hz] at c2
    rw [hz2] at c3
    refine ⟨_, rfl, (((Below.refl _ _).alloc (Nat.le_refl _) _).alloc (by simp) _).alloc (by simp; omega) _, ((CellsAt.new w _ _).kept g2 (by simp)).kept g3 (by simp), ⟨c2.kept g3 (by simp), ⟨_, _, _, c3, ⟨rfl, .inl ⟨rfl, rfl⟩⟩, ⟨rfl, .inl ⟨rfl, rfl⟩⟩, ⟨rfl, .inl ⟨rfl, rfl⟩⟩⟩, LowK.refl _ _ _ _, by simp⟩, by simp⟩
  obtain ⟨iexp, hiexp, hz0exp, hz1exp, hz2exp⟩ := info_parts info77
  obtain ⟨iimp, hiimp, hz0imp, hz1imp, hz2imp⟩ := info_parts info74
  obtain ⟨ipat, hipat, hz0pat, hz1pat, hz2pat⟩ := info_parts info48
  clear hs
  go_enter Try.func21, Try.ntmps21
  go_wp2_with fail
  obtain ⟨w1, hw1, B1, ho1, h1, hz1⟩ := HW.out
  rw [← hw1]
  clear hw1 HW
  have cT : w.heap.size + 1 < w.heap.size + 3 := by omega
  have cM : w.heap.size + 2 < w.heap.size + 3 := by omega
  have nT : w.heap.size + 1 ≠ w.heap.size + 2 := by omega
  refine (H1.out w1 _ h1.rd (Below.refl _ _)).mono ?_
  rintro e u1 ⟨rfl, r1, j1⟩
  have t1 := h1.read j1 r1 cT nT
  have s1 : TSt (w.heap.size + 3) (w.heap.size + 1) (w.heap.size + 2) s X1 ⟨#[]⟩ 0 0 w1 (u1.setCell ⟨w.heap.size + 2, 0, none⟩ (.string X1)) [] [] [] σ1 := t1.set 0 _ cM nT (fun _ _ _ => rfl)
  obtain ⟨fz, y0, y1, y2, y3, yT, yB⟩ := t1.facts
  have HT1 : Hid (TSt (w.heap.size + 3) (w.heap.size + 1) (w.heap.size + 2) s X1 ⟨#[]⟩ 0 0 w1 (u1.setCell ⟨w.heap.size + 2, 0, none⟩ (.string X1)) [] [] [] σ1) := s1
  clear s1 t1 r1 j1 h1
  go_wp2_with fail
  have h2 := HT1.out
  clear HT1 fz y0 y1 y2 y3 yT yB
  generalize u1.setCell ⟨w.heap.size + 2, 0, none⟩ (.string X1) = w2 at h2 ⊢
  refine (H2.out w2 _ h2.rd (Below.refl _ _)).mono ?_
  rintro e u2 ⟨rfl, r2, j2⟩
  have t2 := h2.read j2 r2 cT nT
  have s2 : TSt (w.heap.size + 3) (w.heap.size + 1) (w.heap.size + 2) s X1 ⟨#[]⟩ X2 0 w1 (u2.setCell ⟨w.heap.size + 2, 1, none⟩ (.int .i64 X2)) [] [] [] σ2 := t2.set 1 _ cM nT (fun _ _ _ => rfl)
  obtain ⟨fz, y0, y1, y2, y3, yT, yB⟩ := t2.facts
  have HT2 : Hid (TSt (w.heap.size + 3) (w.heap.size + 1) (w.heap.size + 2) s X1 ⟨#[]⟩ X2 0 w1 (u2.setCell ⟨w.heap.size + 2, 1, none⟩ (.int .i64 X2)) [] [] [] σ2) := s2
  clear s2 t2 r2 j2 h2
  go_wp2_with fail
  have h3 := HT2.out
  clear HT2 fz y0 y1 y2 y3 yT yB
  generalize u2.setCell ⟨w.heap.size + 2, 1, none⟩ (.int .i64 X2) = w3 at h3 ⊢
  refine (H3.out w3 _ h3.rd (Below.refl _ _)).mono ?_
  rintro e u3 ⟨rfl, r3, j3⟩
  have t3 := h3.read j3 r3 cT nT
  have s3 : TSt (w.heap.size + 3) (w.heap.size + 1) (w.heap.size + 2) s X1 ⟨#[]⟩ X2 X3 w1 (u3.setCell ⟨w.heap.size + 2, 2, none⟩ (.int .i64 X3)) [] [] [] σ3 := t3.set 2 _ cM nT (fun _ _ _ => rfl)
  obtain ⟨fz, y0, y1, y2, y3, yT, yB⟩ := t3.facts
  have HT3 : Hid (TSt (w.heap.size + 3) (w.heap.size + 1) (w.heap.size + 2) s X1 ⟨#[]⟩ X2 X3 w1 (u3.setCell ⟨w.heap.size + 2, 2, none⟩ (.int .i64 X3)) [] [] [] σ3) := s3
  clear s3 t3 r3 j3 h3
  go_wp2_with fail
  have h4 := HT3.out
  clear HT3 fz y0 y1 y2 y3 yT yB
  generalize u3.setCell ⟨w.heap.size + 2, 2, none⟩ (.int .i64 X3) = w4 at h4 ⊢
  refine (H4.out w4 _ h4.rd (Below.refl _ _)).mono ?_
  rintro e u4 ⟨rfl, r4, j4⟩
  have t4 := h4.read j4 r4 cT nT
  have h5 : TSt (w.heap.size + 3) (w.heap.size + 1) (w.heap.size + 2) s X1 ⟨#[]⟩ X2 X3 w1 u4 [] [] [] σ4 := t4
  have HT4 : Hid (TSt (w.heap.size + 3) (w.heap.size + 1) (w.heap.size + 2) s X1 ⟨#[]⟩ X2 X3 w1 u4 [] [] [] σ4) := h5
  clear h5 t4 r4 j4 h4
  go_wp2_with fail
  have h5 := HT4.out
  clear HT4
  refine (H5.out u4 _ h5.rd (Below.refl _ _)).mono ?_
  rintro e u5 ⟨rfl, r5, j5⟩
  have t5 := h5.read j5 r5 cT nT
  have s5 : TSt (w.heap.size + 3) (w.heap.size + 1) (w.heap.size + 2) s X1 X5 X2 X3 w1 (u5.setCell ⟨w.heap.size + 2, 3, none⟩ (.string X5)) [] [] [] σ5 := t5.set 3 _ cM nT (fun _ _ _ => rfl)
  obtain ⟨fz, y0, y1, y2, y3, yT, yB⟩ := t5.facts
  have HT5 : Hid (TSt (w.heap.size + 3) (w.heap.size + 1) (w.heap.size + 2) s X1 X5 X2 X3 w1 (u5.setCell ⟨w.heap.size + 2, 3, none⟩ (.string X5)) [] [] [] σ5) := s5
  clear s5 t5 r5 j5 h5
  go_wp2_with fail
  have h6 := HT5.out
  clear HT5 fz y0 y1 y2 y3 yT yB
  generalize u5.setCell ⟨w.heap.size + 2, 3, none⟩ (.string X5) = w6 at h6 ⊢
  refine (H6.out w6 _ h6.rd (Below.refl _ _)).mono ?_
  rintro e u6 ⟨rfl, r6, j6⟩
  have t6 := h6.read j6 r6 cT nT
  have HT6 : Hid (TSt (w.heap.size + 3) (w.heap.size + 1) (w.heap.size + 2) s X1 X5 X2 X3 w1 u6 [] [] [] σ6) := t6
  clear t6 r6 j6 h6
  obtain ⟨n6, En6⟩ : ∃ n : Nat, X6 = n := ⟨X6.toNat, by omega⟩
  subst En6
  have hn6 : n6 < 256 := by omega
  rw [Int.toNat_natCast] at HV
  have HLEk : Hid (∀ k, (rdTimes (rdExp true s) k ([], σ6)).2.1 ≤ s.size) := rdTimes_le s _ (fun τ hτ => rdExp_le true s τ hτ) _ HLσ6.out
  have HLNk : Hid (∀ k, (rdTimes (rdExp true s) k ([], σ6)).1.length ≤ k) := fun k => by simpa using rdTimes_length (rdExp true s) ([], σ6) k
  have HT0 : Hid (TSt (w.heap.size + 3) (w.heap.size + 1) (w.heap.size + 2) s X1 X5 X2 X3 w1 u6 [] [] [] σ6) := HT6.out
  clear HB6
  go_upto_block 0 with fail
  go_cut [7] from 27 to 46 (fun _ wx => Hid (TSt (w.heap.size + 3) (w.heap.size + 1) (w.heap.size + 2) s X1 X5 X2 X3 w1 wx (rdTimes (rdExp true s) n6 ([], σ6)).1 [] [] (rdTimes (rdExp true s) n6 ([], σ6)).2))
  case first =>
    clear HV HFT ho1 B1 H1 H2 H3 H4 H5 H6
    go_wp2_with fail
    go_loopw [7] (fun i wr => ∃ k : Nat, k ≤ n6 ∧ i = .int .i64 k ∧ Hid (TSt (w.heap.size + 3) (w.heap.size + 1) (w.heap.size + 2) s X1 X5 X2 X3 w1 wr (rdTimes (rdExp true s) k ([], σ6)).1 [] [] (rdTimes (rdExp true s) k ([], σ6)).2)) (fun i _ => n6 - (intOf i).toNat)
    case atStart => exact ⟨0, Nat.zero_le _, rfl, HT0.out⟩
    case round =>
      obtain ⟨k, hk, rfl, hT⟩ := hrel
      by_cases hlt : k < n6
      · have hli : (k : Int) < n6 := by omega
        have yB := hT.out.facts.2.2.2.2.2.2
        by_cases hbad : (rdTimes (rdExp true s) k ([], σ6)).2.2 = true
        · have HE : Hid (rdTimes (rdExp true s) n6 ([], σ6) = rdTimes (rdExp true s) k ([], σ6)) := rdTimes_stop _ _ k hbad n6 hk
          rw [hbad] at yB
          clear hbad
          go_wp2
          go_meet
          case rel => rw [HE.out]; exact hT
        · have hgood : (rdTimes (rdExp true s) k ([], σ6)).2.2 = false := by simpa using hbad
          have HE : Hid (rdTimes (rdExp true s) (k + 1) ([], σ6) = _) := rdTimes_next _ _ k hgood
          have hle := HLEk.out k
          have hln := HLNk.out k
          rw [hgood] at yB
          generalize rdTimes (rdExp true s) k ([], σ6) = pk at *
          obtain ⟨l, τ⟩ := pk
          dsimp only at HE hle hln hT hgood
          have F1 : Hid (∀ u W, RdAt 79 u (w.heap.size + 1) s τ → Below u.heap.size u W → Calls Try.prog 45 #[.pointer (some ⟨w.heap.size + 1, 0, none⟩)] W fun e w2 => e = .returned (.string (rdName true s τ).1) ∧ RdAt 79 w2 (w.heap.size + 1) s (rdName true s τ).2 ∧ u.grownBy w2 (some (w.heap.size + 1))) := fun u W h hB => tname_from _ s _ HS0.out hle u W h hB
          have F2 : Hid (∀ u W, RdAt 79 u (w.heap.size + 1) s (rdName true s τ).2 → Below u.heap.size u W → Calls Try.prog 46 #[.pointer (some ⟨w.heap.size + 1, 0, none⟩), .int .i64 2] W fun e w2 => e = .returned (.int .i64 (rdNum true s 2 (rdName true s τ).2).1) ∧ RdAt 79 w2 (w.heap.size + 1) s (rdNum true s 2 (rdName true s τ).2).2 ∧ u.grownBy w2 (some (w.heap.size + 1))) := fun u W h hB => tnum_from _ s _ 2 (.inr rfl) HS0.out (rdName_le true s _ hle) _ rfl u W h hB
          have HX : Hid (rdExp true s τ = (⟨(rdName true s τ).1, (rdNum true s 2 (rdName true s τ).2).1⟩, (rdNum true s 2 (rdName true s τ).2).2)) := rfl
          rw [HX.out] at HE
          clear HX hle hbad
          generalize (rdNum true s 2 (rdName true s τ).2).1 = Y2 at *
          generalize (rdNum true s 2 (rdName true s τ).2).2 = ρ2 at *
          generalize (rdName true s τ).1 = Y1 at *
          generalize (rdName true s τ).2 = ρ1 at *
          have hwr := hT.out.size
          have c0 : CellsAt (wr.alloc (.cells #[.string ⟨#[]⟩, .int .i64 0] 77)) wr.heap.size 77 #[.string ⟨#[]⟩, .int .i64 0] := CellsAt.new wr _ _
          have r0 : RdAt 79 (wr.alloc (.cells #[.string ⟨#[]⟩, .int .i64 0] 77)) (w.heap.size + 1) s τ := CellsAt.kept hT.out.rd (World.grownBy_alloc wr _ none) (by simp)
          have G0 : wr.grownBy (wr.alloc (.cells #[.string ⟨#[]⟩, .int .i64 0] 77)) (some (w.heap.size + 1)) := World.grownBy_alloc wr _ _
          have HC0 : Hid (CellsAt _ _ _ _) := c0
          clear c0
          go_wp2_with fail
          refine (F1.out (wr.alloc (.cells #[.string ⟨#[]⟩, .int .i64 0] 77)) _ r0 (Below.refl _ _)).mono ?_
          rintro e u1 ⟨rfl, a1, j1⟩
          have c1 := CellsAt.kept HC0.out j1 (fun e => by have := Option.some.inj e; omega)
          have g1 := G0.trans j1
          have x1 := c1.cell 0
          have f1 := c1.frozen 0
          have C1 : Hid (CellsAt (u1.setCell ⟨wr.heap.size, 0, none⟩ (.string Y1)) wr.heap.size 77 #[.string Y1, .int .i64 0]) := c1.set 0 _
          have R1 : Hid (RdAt 79 (u1.setCell ⟨wr.heap.size, 0, none⟩ (.string Y1)) (w.heap.size + 1) s ρ1) := CellsAt.kept a1 (grown_set _ _ _ _) (fun e => by have := Option.some.inj e; omega)
          have D1 : Hid (wr.grownBy (u1.setCell ⟨wr.heap.size, 0, none⟩ (.string Y1)) (some (w.heap.size + 1))) := World.grownBy.andThen g1 (grown_set _ _ _ _) (fun j e => .inl (by have := Option.some.inj e; omega))
          clear c1 g1 a1 j1
          go_wp2_with fail
          have k1 := C1.out
          have r1 := R1.out
          have G1 := D1.out
          clear C1 R1 D1 x1 f1
          generalize u1.setCell ⟨wr.heap.size, 0, none⟩ (.string Y1) = v1 at k1 r1 G1 ⊢
          refine (F2.out v1 _ r1 (Below.refl _ _)).mono ?_
          rintro e u2 ⟨rfl, a2, j2⟩
          have c2 := CellsAt.kept k1 j2 (fun e => by have := Option.some.inj e; omega)
          have g2 := G1.trans j2
          have x2 := c2.cell 1
          have f2 := c2.frozen 1
          have C2 : Hid (CellsAt (u2.setCell ⟨wr.heap.size, 1, none⟩ (.int .i64 Y2)) wr.heap.size 77 #[.string Y1, .int .i64 Y2]) := c2.set 1 _
          have R2 : Hid (RdAt 79 (u2.setCell ⟨wr.heap.size, 1, none⟩ (.int .i64 Y2)) (w.heap.size + 1) s ρ2) := CellsAt.kept a2 (grown_set _ _ _ _) (fun e => by have := Option.some.inj e; omega)
          have D2 : Hid (wr.grownBy (u2.setCell ⟨wr.heap.size, 1, none⟩ (.int .i64 Y2)) (some (w.heap.size + 1))) := World.grownBy.andThen g2 (grown_set _ _ _ _) (fun j e => .inl (by have := Option.some.inj e; omega))
          clear c2 g2 a2 j2
          go_upto_region 15 with fail
          have k2 := C2.out
          have r2 := R2.out
          have G2 := D2.out
          clear C2 R2 D2 x2 f2
          generalize u2.setCell ⟨wr.heap.size, 1, none⟩ (.int .i64 Y2) = v2 at k2 r2 G2 ⊢
          have hS := hT.out.read G2 r2 cT nT
          obtain ⟨_, ⟨ve, vi, vp, hm, hE, hI, hP⟩, low, size⟩ := hS
          obtain ⟨av, kv, rfl⟩ := ownsRow_slice hE
          have z4 := hm.cell 4
          have b0 := k2.cell 0
          have b1 := k2.cell 1
          have HM : Hid (CellsAt v2 (w.heap.size + 2) 39 _) := hm
          have HE1 : Hid (_) := hE
          have HI1 : Hid (_) := hI
          have HP1 : Hid (_) := hP
          have HXX : Hid (∀ k, k < w.heap.size + 3 → some k ≠ (Value.slice av l.length kv).ownBlock) := fun k hk e => by have := (row_block hE k e.symm).1; omega
          have HRR : Hid (RdAt 79 v2 (w.heap.size + 1) s ρ2) := r2
          have hlen : l.length < 255 := by omega
          have hrow : v2.ownsRow (w.heap.size + 3) 77 2 (.slice av l.length kv) l.length (l.flatMap expC) := hE
          clear hE hI hP hm r2 k2 G2 hT
          go_wp2_with (at_builtin; refine wpList_append_lies _ rfl _ _ _ rfl (w.heap.size + 3) 77 iexp _ 2 24 Try.underlying35 hiexp hz0exp hz1exp hz2exp rfl (by omega) (.slice av l.length kv) l.length (l.flatMap expC) rfl (hrow.alloc _) ⟨v2.heap.size, 0, none⟩ 1 1 [.string Y1, .int .i64 Y2] rfl rfl (World.news_of_block (cs := #[.string Y1, .int .i64 Y2]) (t := 77) (fr := (0, 0)) (heap_alloc_new v2 _)) (by simp [Value.oneCell']) (by omega) (by unfold maxLen; omega) (by omega) (by simp; omega) (v2.heap.size + 1) (by simp) ?_; intro g cap w3 hown3 hgrow hat hltg; have m3 := CellsAt.kept (CellsAt.kept HM.out (World.grownBy_alloc v2 _ none) (by simp)) hgrow (HXX.out _ cM); have e4 := m3.cell 4; have ef := m3.frozen 4)
          refine ⟨⟨k + 1, by omega, by go_num, ?_⟩, by simp [intOf]; omega⟩
          show TSt (w.heap.size + 3) (w.heap.size + 1) (w.heap.size + 2) s X1 X5 X2 X3 w1 _ (rdTimes (rdExp true s) (k + 1) ([], σ6)).1 [] [] (rdTimes (rdExp true s) (k + 1) ([], σ6)).2
          rw [HE.out]
          exact push_exp HRR.out HM.out HE1.out HI1.out HP1.out low size cT cM nT _ hgrow hown3
      · obtain rfl : k = n6 := by omega
        go_wp2
        go_meet
        case rel => exact hT
  case rest =>
    have HLσ7 : Hid _ := HLEk.out n6
    have hles := Nat.le_trans (HLNk.out n6) (show n6 ≤ 255 by omega)
    clear HT0 HLEk HLNk HT6 H1 H2 H3 H4 H5 H6
    generalize (rdTimes (rdExp true s) n6 ([], σ6)).1 = es at *
    generalize (rdTimes (rdExp true s) n6 ([], σ6)).2 = σ7 at *
    have H7 : Hid (∀ w1 W, RdAt 79 w1 (w.heap.size + 1) s σ7 → Below w1.heap.size w1 W → Calls Try.prog 46 #[.pointer (some ⟨w.heap.size + 1, 0, none⟩), .int .i64 1] W fun e w2 => e = .returned (.int .i64 (rdNum true s 1 σ7).1) ∧ RdAt 79 w2 (w.heap.size + 1) s (rdNum true s 1 σ7).2 ∧ w1.grownBy w2 (some (w.heap.size + 1))) := fun w1 W h hB => tnum_from _ s _ 1 (.inl rfl) HS0.out HLσ7.out _ rfl w1 W h hB
    have HB8 := rdNum_bd true s 1 σ7
    have HLσ8 : Hid ((rdNum true s 1 σ7).2.1 ≤ s.size) := rdNum_le true s 1 _ HLσ7.out
    generalize (rdNum true s 1 σ7).1 = X8 at *
    generalize (rdNum true s 1 σ7).2 = σ8 at *
    go_wp2_with fail
    refine (H7.out wc _ hcut.out.rd (Below.refl _ _)).mono ?_
    rintro e y7 ⟨rfl, r7, j7⟩
    have t7 := hcut.out.read j7 r7 cT nT
    have HT7 : Hid (TSt (w.heap.size + 3) (w.heap.size + 1) (w.heap.size + 2) s X1 X5 X2 X3 w1 y7 es [] [] σ8) := t7
    clear t7 r7 j7 hcut H7
    obtain ⟨n8, En8⟩ : ∃ n : Nat, X8 = n := ⟨X8.toNat, by omega⟩
    subst En8
    have hn8 : n8 < 256 := by omega
    rw [Int.toNat_natCast] at HV
    have HLEk : Hid (∀ k, (rdTimes (rdImp true s) k ([], σ8)).2.1 ≤ s.size) := rdTimes_le s _ (fun τ hτ => rdImp_le true s τ hτ) _ HLσ8.out
    have HLNk : Hid (∀ k, (rdTimes (rdImp true s) k ([], σ8)).1.length ≤ k) := fun k => by simpa using rdTimes_length (rdImp true s) ([], σ8) k
    have HT0 : Hid (TSt (w.heap.size + 3) (w.heap.size + 1) (w.heap.size + 2) s X1 X5 X2 X3 w1 y7 es [] [] σ8) := HT7.out
    clear HB8
    go_upto_block 2 with fail
    go_cut [9] from 48 to 71 (fun _ wx => Hid (TSt (w.heap.size + 3) (w.heap.size + 1) (w.heap.size + 2) s X1 X5 X2 X3 w1 wx es (rdTimes (rdImp true s) n8 ([], σ8)).1 [] (rdTimes (rdImp true s) n8 ([], σ8)).2))
    case first =>
      clear HV HFT ho1 B1
      go_wp2_with fail
      go_loopw [9] (fun i wr => ∃ k : Nat, k ≤ n8 ∧ i = .int .i64 k ∧ Hid (TSt (w.heap.size + 3) (w.heap.size + 1) (w.heap.size + 2) s X1 X5 X2 X3 w1 wr es (rdTimes (rdImp true s) k ([], σ8)).1 [] (rdTimes (rdImp true s) k ([], σ8)).2)) (fun i _ => n8 - (intOf i).toNat)
      case atStart => exact ⟨0, Nat.zero_le _, rfl, HT0.out⟩
      case round =>
        obtain ⟨k, hk, rfl, hT⟩ := hrel
        by_cases hlt : k < n8
        · have hli : (k : Int) < n8 := by omega
          have yB := hT.out.facts.2.2.2.2.2.2
          by_cases hbad : (rdTimes (rdImp true s) k ([], σ8)).2.2 = true
          · have HE : Hid (rdTimes (rdImp true s) n8 ([], σ8) = rdTimes (rdImp true s) k ([], σ8)) := rdTimes_stop _ _ k hbad n8 hk
            rw [hbad] at yB
            clear hbad
            go_wp2
            go_meet
            case rel => rw [HE.out]; exact hT
          · have hgood : (rdTimes (rdImp true s) k ([], σ8)).2.2 = false := by simpa using hbad
            have HE : Hid (rdTimes (rdImp true s) (k + 1) ([], σ8) = _) := rdTimes_next _ _ k hgood
            have hle := HLEk.out k
            have hln := HLNk.out k
            rw [hgood] at yB
            generalize rdTimes (rdImp true s) k ([], σ8) = pk at *
            obtain ⟨l, τ⟩ := pk
            dsimp only at HE hle hln hT hgood
            have F1 : Hid (∀ u W, RdAt 79 u (w.heap.size + 1) s τ → Below u.heap.size u W → Calls Try.prog 45 #[.pointer (some ⟨w.heap.size + 1, 0, none⟩)] W fun e w2 => e = .returned (.string (rdName true s τ).1) ∧ RdAt 79 w2 (w.heap.size + 1) s (rdName true s τ).2 ∧ u.grownBy w2 (some (w.heap.size + 1))) := fun u W h hB => tname_from _ s _ HS0.out hle u W h hB
            have F2 : Hid (∀ u W, RdAt 79 u (w.heap.size + 1) s (rdName true s τ).2 → Below u.heap.size u W → Calls Try.prog 45 #[.pointer (some ⟨w.heap.size + 1, 0, none⟩)] W fun e w2 => e = .returned (.string (rdName true s (rdName true s τ).2).1) ∧ RdAt 79 w2 (w.heap.size + 1) s (rdName true s (rdName true s τ).2).2 ∧ u.grownBy w2 (some (w.heap.size + 1))) := fun u W h hB => tname_from _ s _ HS0.out (rdName_le true s _ hle) u W h hB
            have F3 : Hid (∀ u W, RdAt 79 u (w.heap.size + 1) s (rdName true s (rdName true s τ).2).2 → Below u.heap.size u W → Calls Try.prog 46 #[.pointer (some ⟨w.heap.size + 1, 0, none⟩), .int .i64 1] W fun e w2 => e = .returned (.int .i64 (rdNum true s 1 (rdName true s (rdName true s τ).2).2).1) ∧ RdAt 79 w2 (w.heap.size + 1) s (rdNum true s 1 (rdName true s (rdName true s τ).2).2).2 ∧ u.grownBy w2 (some (w.heap.size + 1))) := fun u W h hB => tnum_from _ s _ 1 (.inl rfl) HS0.out (rdName_le true s _ (rdName_le true s _ hle)) _ rfl u W h hB
            have F4 : Hid (∀ u W, RdAt 79 u (w.heap.size + 1) s (rdNum true s 1 (rdName true s (rdName true s τ).2).2).2 → Below u.heap.size u W → Calls Try.prog 46 #[.pointer (some ⟨w.heap.size + 1, 0, none⟩), .int .i64 1] W fun e w2 => e = .returned (.int .i64 (rdNum true s 1 (rdNum true s 1 (rdName true s (rdName true s τ).2).2).2).1) ∧ RdAt 79 w2 (w.heap.size + 1) s (rdNum true s 1 (rdNum true s 1 (rdName true s (rdName true s τ).2).2).2).2 ∧ u.grownBy w2 (some (w.heap.size + 1))) := fun u W h hB => tnum_from _ s _ 1 (.inl rfl) HS0.out (rdNum_le true s 1 _ (rdName_le true s _ (rdName_le true s _ hle))) _ rfl u W h hB
            have HX : Hid (rdImp true s τ = (⟨(rdName true s τ).1, (rdName true s (rdName true s τ).2).1, (rdNum true s 1 (rdName true s (rdName true s τ).2).2).1, (rdNum true s 1 (rdNum true s 1 (rdName true s (rdName true s τ).2).2).2).1⟩, (rdNum true s 1 (rdNum true s 1 (rdName true s (rdName true s τ).2).2).2).2)) := rfl
            rw [HX.out] at HE
            clear HX hle hbad
            generalize (rdNum true s 1 (rdNum true s 1 (rdName true s (rdName true s τ).2).2).2).1 = Y4 at *
            generalize (rdNum true s 1 (rdNum true s 1 (rdName true s (rdName true s τ).2).2).2).2 = ρ4 at *
            generalize (rdNum true s 1 (rdName true s (rdName true s τ).2).2).1 = Y3 at *
            generalize (rdNum true s 1 (rdName true s (rdName true s τ).2).2).2 = ρ3 at *
            generalize (rdName true s (rdName true s τ).2).1 = Y2 at *
            generalize (rdName true s (rdName true s τ).2).2 = ρ2 at *
            generalize (rdName true s τ).1 = Y1 at *
            generalize (rdName true s τ).2 = ρ1 at *
            have hwr := hT.out.size
            have c0 : CellsAt (wr.alloc (.cells #[.string ⟨#[]⟩, .string ⟨#[]⟩, .int .i64 0, .int .i64 0] 74)) wr.heap.size 74 #[.string ⟨#[]⟩, .string ⟨#[]⟩, .int .i64 0, .int .i64 0] := CellsAt.new wr _ _
            have r0 : RdAt 79 (wr.alloc (.cells #[.string ⟨#[]⟩, .string ⟨#[]⟩, .int .i64 0, .int .i64 0] 74)) (w.heap.size + 1) s τ := CellsAt.kept hT.out.rd (World.grownBy_alloc wr _ none) (by simp)
            have G0 : wr.grownBy (wr.alloc (.cells #[.string ⟨#[]⟩, .string ⟨#[]⟩, .int .i64 0, .int .i64 0] 74)) (some (w.heap.size + 1)) := World.grownBy_alloc wr _ _
            have HC0 : Hid (CellsAt _ _ _ _) := c0
            clear c0
            go_wp2_with fail
            refine (F1.out (wr.alloc (.cells #[.string ⟨#[]⟩, .string ⟨#[]⟩, .int .i64 0, .int .i64 0] 74)) _ r0 (Below.refl _ _)).mono ?_
            rintro e u1 ⟨rfl, a1, j1⟩
            have c1 := CellsAt.kept HC0.out j1 (fun e => by have := Option.some.inj e; omega)
            have g1 := G0.trans j1
            have x1 := c1.cell 0
            have f1 := c1.frozen 0
            have C1 : Hid (CellsAt (u1.setCell ⟨wr.heap.size, 0, none⟩ (.string Y1)) wr.heap.size 74 #[.string Y1, .string ⟨#[]⟩, .int .i64 0, .int .i64 0]) := c1.set 0 _
            have R1 : Hid (RdAt 79 (u1.setCell ⟨wr.heap.size, 0, none⟩ (.string Y1)) (w.heap.size + 1) s ρ1) := CellsAt.kept a1 (grown_set _ _ _ _) (fun e => by have := Option.some.inj e; omega)
            have D1 : Hid (wr.grownBy (u1.setCell ⟨wr.heap.size, 0, none⟩ (.string Y1)) (some (w.heap.size + 1))) := World.grownBy.andThen g1 (grown_set _ _ _ _) (fun j e => .inl (by have := Option.some.inj e; omega))
            clear c1 g1 a1 j1
            go_wp2_with fail
            have k1 := C1.out
            have r1 := R1.out
            have G1 := D1.out
            clear C1 R1 D1 x1 f1
            generalize u1.setCell ⟨wr.heap.size, 0, none⟩ (.string Y1) = v1 at k1 r1 G1 ⊢
            refine (F2.out v1 _ r1 (Below.refl _ _)).mono ?_
            rintro e u2 ⟨rfl, a2, j2⟩
            have c2 := CellsAt.kept k1 j2 (fun e => by have := Option.some.inj e; omega)
            have g2 := G1.trans j2
            have x2 := c2.cell 1
            have f2 := c2.frozen 1
            have C2 : Hid (CellsAt (u2.setCell ⟨wr.heap.size, 1, none⟩ (.string Y2)) wr.heap.size 74 #[.string Y1, .string Y2, .int .i64 0, .int .i64 0]) := c2.set 1 _
            have R2 : Hid (RdAt 79 (u2.setCell ⟨wr.heap.size, 1, none⟩ (.string Y2)) (w.heap.size + 1) s ρ2) := CellsAt.kept a2 (grown_set _ _ _ _) (fun e => by have := Option.some.inj e; omega)
            have D2 : Hid (wr.grownBy (u2.setCell ⟨wr.heap.size, 1, none⟩ (.string Y2)) (some (w.heap.size + 1))) := World.grownBy.andThen g2 (grown_set _ _ _ _) (fun j e => .inl (by have := Option.some.inj e; omega))
            clear c2 g2 a2 j2
            go_wp2_with fail
            have k2 := C2.out
            have r2 := R2.out
            have G2 := D2.out
            clear C2 R2 D2 x2 f2
            generalize u2.setCell ⟨wr.heap.size, 1, none⟩ (.string Y2) = v2 at k2 r2 G2 ⊢
            refine (F3.out v2 _ r2 (Below.refl _ _)).mono ?_
            rintro e u3 ⟨rfl, a3, j3⟩
            have c3 := CellsAt.kept k2 j3 (fun e => by have := Option.some.inj e; omega)
            have g3 := G2.trans j3
            have x3 := c3.cell 2
            have f3 := c3.frozen 2
            have C3 : Hid (CellsAt (u3.setCell ⟨wr.heap.size, 2, none⟩ (.int .i64 Y3)) wr.heap.size 74 #[.string Y1, .string Y2, .int .i64 Y3, .int .i64 0]) := c3.set 2 _
            have R3 : Hid (RdAt 79 (u3.setCell ⟨wr.heap.size, 2, none⟩ (.int .i64 Y3)) (w.heap.size + 1) s ρ3) := CellsAt.kept a3 (grown_set _ _ _ _) (fun e => by have := Option.some.inj e; omega)
            have D3 : Hid (wr.grownBy (u3.setCell ⟨wr.heap.size, 2, none⟩ (.int .i64 Y3)) (some (w.heap.size + 1))) := World.grownBy.andThen g3 (grown_set _ _ _ _) (fun j e => .inl (by have := Option.some.inj e; omega))
            clear c3 g3 a3 j3
            go_wp2_with fail
            have k3 := C3.out
            have r3 := R3.out
            have G3 := D3.out
            clear C3 R3 D3 x3 f3
            generalize u3.setCell ⟨wr.heap.size, 2, none⟩ (.int .i64 Y3) = v3 at k3 r3 G3 ⊢
            refine (F4.out v3 _ r3 (Below.refl _ _)).mono ?_
            rintro e u4 ⟨rfl, a4, j4⟩
            have c4 := CellsAt.kept k3 j4 (fun e => by have := Option.some.inj e; omega)
            have g4 := G3.trans j4
            have x4 := c4.cell 3
            have f4 := c4.frozen 3
            have C4 : Hid (CellsAt (u4.setCell ⟨wr.heap.size, 3, none⟩ (.int .i64 Y4)) wr.heap.size 74 #[.string Y1, .string Y2, .int .i64 Y3, .int .i64 Y4]) := c4.set 3 _
            have R4 : Hid (RdAt 79 (u4.setCell ⟨wr.heap.size, 3, none⟩ (.int .i64 Y4)) (w.heap.size + 1) s ρ4) := CellsAt.kept a4 (grown_set _ _ _ _) (fun e => by have := Option.some.inj e; omega)
            have D4 : Hid (wr.grownBy (u4.setCell ⟨wr.heap.size, 3, none⟩ (.int .i64 Y4)) (some (w.heap.size + 1))) := World.grownBy.andThen g4 (grown_set _ _ _ _) (fun j e => .inl (by have := Option.some.inj e; omega))
            clear c4 g4 a4 j4
            go_upto_region 25 with fail
            have k4 := C4.out
            have r4 := R4.out
            have G4 := D4.out
            clear C4 R4 D4 x4 f4
            generalize u4.setCell ⟨wr.heap.size, 3, none⟩ (.int .i64 Y4) = v4 at k4 r4 G4 ⊢
            have hS := hT.out.read G4 r4 cT nT
            obtain ⟨_, ⟨ve, vi, vp, hm, hE, hI, hP⟩, low, size⟩ := hS
            obtain ⟨av, kv, rfl⟩ := ownsRow_slice hI
            have z4 := hm.cell 5
            have b0 := k4.cell 0
            have b1 := k4.cell 1
            have b2 := k4.cell 2
            have b3 := k4.cell 3
            have HM : Hid (CellsAt v4 (w.heap.size + 2) 39 _) := hm
            have HE1 : Hid (_) := hE
            have HI1 : Hid (_) := hI
            have HP1 : Hid (_) := hP
            have HXX : Hid (∀ k, k < w.heap.size + 3 → some k ≠ (Value.slice av l.length kv).ownBlock) := fun k hk e => by have := (row_block hI k e.symm).1; omega
            have HRR : Hid (RdAt 79 v4 (w.heap.size + 1) s ρ4) := r4
            have hlen : l.length < 255 := by omega
            have hrow : v4.ownsRow (w.heap.size + 3) 74 4 (.slice av l.length kv) l.length (l.flatMap impC) := hI
            clear hE hI hP hm r4 k4 G4 hT
            go_wp2_with (at_builtin; refine wpList_append_lies _ rfl _ _ _ rfl (w.heap.size + 3) 74 iimp _ 4 48 Try.underlying36 hiimp hz0imp hz1imp hz2imp rfl (by omega) (.slice av l.length kv) l.length (l.flatMap impC) rfl (hrow.alloc _) ⟨v4.heap.size, 0, none⟩ 1 1 [.string Y1, .string Y2, .int .i64 Y3, .int .i64 Y4] rfl rfl (World.news_of_block (cs := #[.string Y1, .string Y2, .int .i64 Y3, .int .i64 Y4]) (t := 74) (fr := (0, 0)) (heap_alloc_new v4 _)) (by simp [Value.oneCell']) (by omega) (by unfold maxLen; omega) (by omega) (by simp; omega) (v4.heap.size + 1) (by simp) ?_; intro g cap w3 hown3 hgrow hat hltg; have m3 := CellsAt.kept (CellsAt.kept HM.out (World.grownBy_alloc v4 _ none) (by simp)) hgrow (HXX.out _ cM); have e4 := m3.cell 5; have ef := m3.frozen 5)
            refine ⟨⟨k + 1, by omega, by go_num, ?_⟩, by simp [intOf]; omega⟩
            show TSt (w.heap.size + 3) (w.heap.size + 1) (w.heap.size + 2) s X1 X5 X2 X3 w1 _ es (rdTimes (rdImp true s) (k + 1) ([], σ8)).1 [] (rdTimes (rdImp true s) (k + 1) ([], σ8)).2
            rw [HE.out]
            exact push_imp HRR.out HM.out HE1.out HI1.out HP1.out low size cT cM nT _ hgrow hown3
        · obtain rfl : k = n8 := by omega
          go_wp2
          go_meet
          case rel => exact hT
    case rest =>
      have HLσ9 : Hid _ := HLEk.out n8
      have hlis := Nat.le_trans (HLNk.out n8) (show n8 ≤ 255 by omega)
      clear HT0 HLEk HLNk HT7
      generalize (rdTimes (rdImp true s) n8 ([], σ8)).1 = is at *
      generalize (rdTimes (rdImp true s) n8 ([], σ8)).2 = σ9 at *
      have H9 : Hid (∀ w1 W, RdAt 79 w1 (w.heap.size + 1) s σ9 → Below w1.heap.size w1 W → Calls Try.prog 46 #[.pointer (some ⟨w.heap.size + 1, 0, none⟩), .int .i64 1] W fun e w2 => e = .returned (.int .i64 (rdNum true s 1 σ9).1) ∧ RdAt 79 w2 (w.heap.size + 1) s (rdNum true s 1 σ9).2 ∧ w1.grownBy w2 (some (w.heap.size + 1))) := fun w1 W h hB => tnum_from _ s _ 1 (.inl rfl) HS0.out HLσ9.out _ rfl w1 W h hB
      have HB10 := rdNum_bd true s 1 σ9
      have HLσ10 : Hid ((rdNum true s 1 σ9).2.1 ≤ s.size) := rdNum_le true s 1 _ HLσ9.out
      generalize (rdNum true s 1 σ9).1 = X10 at *
      generalize (rdNum true s 1 σ9).2 = σ10 at *
      go_wp2_with fail
      refine (H9.out wc _ hcut.out.rd (Below.refl _ _)).mono ?_
      rintro e y9 ⟨rfl, r9, j9⟩
      have t9 := hcut.out.read j9 r9 cT nT
      have HT9 : Hid (TSt (w.heap.size + 3) (w.heap.size + 1) (w.heap.size + 2) s X1 X5 X2 X3 w1 y9 es is [] σ10) := t9
      clear t9 r9 j9 hcut H9
      obtain ⟨n10, En10⟩ : ∃ n : Nat, X10 = n := ⟨X10.toNat, by omega⟩
      subst En10
      have hn10 : n10 < 256 := by omega
      rw [Int.toNat_natCast] at HV
      have HLEk : Hid (∀ k, (rdTimes (rdPat true s) k ([], σ10)).2.1 ≤ s.size) := rdTimes_le s _ (fun τ hτ => rdPat_le true s τ hτ) _ HLσ10.out
      have HLNk : Hid (∀ k, (rdTimes (rdPat true s) k ([], σ10)).1.length ≤ k) := fun k => by simpa using rdTimes_length (rdPat true s) ([], σ10) k
      have HT0 : Hid (TSt (w.heap.size + 3) (w.heap.size + 1) (w.heap.size + 2) s X1 X5 X2 X3 w1 y9 es is [] σ10) := HT9.out
      clear HB10
      go_upto_block 4 with fail
      go_cut [11] from 73 to 97 (fun _ wx => Hid (TSt (w.heap.size + 3) (w.heap.size + 1) (w.heap.size + 2) s X1 X5 X2 X3 w1 wx es is (rdTimes (rdPat true s) n10 ([], σ10)).1 (rdTimes (rdPat true s) n10 ([], σ10)).2))
      case first =>
        clear HV HFT ho1 B1
        go_wp2_with fail
        go_loopw [11] (fun i wr => ∃ k : Nat, k ≤ n10 ∧ i = .int .i64 k ∧ Hid (TSt (w.heap.size + 3) (w.heap.size + 1) (w.heap.size + 2) s X1 X5 X2 X3 w1 wr es is (rdTimes (rdPat true s) k ([], σ10)).1 (rdTimes (rdPat true s) k ([], σ10)).2)) (fun i _ => n10 - (intOf i).toNat)
        case atStart => exact ⟨0, Nat.zero_le _, rfl, HT0.out⟩
        case round =>
          obtain ⟨k, hk, rfl, hT⟩ := hrel
          by_cases hlt : k < n10
          · have hli : (k : Int) < n10 := by omega
            have yB := hT.out.facts.2.2.2.2.2.2
            by_cases hbad : (rdTimes (rdPat true s) k ([], σ10)).2.2 = true
            · have HE : Hid (rdTimes (rdPat true s) n10 ([], σ10) = rdTimes (rdPat true s) k ([], σ10)) := rdTimes_stop _ _ k hbad n10 hk
              rw [hbad] at yB
              clear hbad
              go_wp2
              go_meet
              case rel => rw [HE.out]; exact hT
            · have hgood : (rdTimes (rdPat true s) k ([], σ10)).2.2 = false := by simpa using hbad
              have HE : Hid (rdTimes (rdPat true s) (k + 1) ([], σ10) = _) := rdTimes_next _ _ k hgood
              have hle := HLEk.out k
              have hln := HLNk.out k
              rw [hgood] at yB
              generalize rdTimes (rdPat true s) k ([], σ10) = pk at *
              obtain ⟨l, τ⟩ := pk
              dsimp only at HE hle hln hT hgood
              have F1 : Hid (∀ u W, RdAt 79 u (w.heap.size + 1) s τ → Below u.heap.size u W → Calls Try.prog 46 #[.pointer (some ⟨w.heap.size + 1, 0, none⟩), .int .i64 1] W fun e w2 => e = .returned (.int .i64 (rdNum true s 1 τ).1) ∧ RdAt 79 w2 (w.heap.size + 1) s (rdNum true s 1 τ).2 ∧ u.grownBy w2 (some (w.heap.size + 1))) := fun u W h hB => tnum_from _ s _ 1 (.inl rfl) HS0.out hle _ rfl u W h hB
              have F2 : Hid (∀ u W, RdAt 79 u (w.heap.size + 1) s (rdNum true s 1 τ).2 → Below u.heap.size u W → Calls Try.prog 46 #[.pointer (some ⟨w.heap.size + 1, 0, none⟩), .int .i64 2] W fun e w2 => e = .returned (.int .i64 (rdNum true s 2 (rdNum true s 1 τ).2).1) ∧ RdAt 79 w2 (w.heap.size + 1) s (rdNum true s 2 (rdNum true s 1 τ).2).2 ∧ u.grownBy w2 (some (w.heap.size + 1))) := fun u W h hB => tnum_from _ s _ 2 (.inr rfl) HS0.out (rdNum_le true s 1 _ hle) _ rfl u W h hB
              have F3 : Hid (∀ u W, RdAt 79 u (w.heap.size + 1) s (rdNum true s 2 (rdNum true s 1 τ).2).2 → Below u.heap.size u W → Calls Try.prog 46 #[.pointer (some ⟨w.heap.size + 1, 0, none⟩), .int .i64 1] W fun e w2 => e = .returned (.int .i64 (rdNum true s 1 (rdNum true s 2 (rdNum true s 1 τ).2).2).1) ∧ RdAt 79 w2 (w.heap.size + 1) s (rdNum true s 1 (rdNum true s 2 (rdNum true s 1 τ).2).2).2 ∧ u.grownBy w2 (some (w.heap.size + 1))) := fun u W h hB => tnum_from _ s _ 1 (.inl rfl) HS0.out (rdNum_le true s 2 _ (rdNum_le true s 1 _ hle)) _ rfl u W h hB
              have hb3 := rdNum_bd true s 1 (rdNum true s 2 (rdNum true s 1 τ).2).2
              have i3 : wrap64 ((rdNum true s 1 (rdNum true s 2 (rdNum true s 1 τ).2).2).1 - 1) = (rdNum true s 1 (rdNum true s 2 (rdNum true s 1 τ).2).2).1 - 1 := by unfold wrap64; omega
              clear hb3
              have F4 : Hid (∀ u W, RdAt 79 u (w.heap.size + 1) s (rdNum true s 1 (rdNum true s 2 (rdNum true s 1 τ).2).2).2 → Below u.heap.size u W → Calls Try.prog 46 #[.pointer (some ⟨w.heap.size + 1, 0, none⟩), .int .i64 2] W fun e w2 => e = .returned (.int .i64 (rdNum true s 2 (rdNum true s 1 (rdNum true s 2 (rdNum true s 1 τ).2).2).2).1) ∧ RdAt 79 w2 (w.heap.size + 1) s (rdNum true s 2 (rdNum true s 1 (rdNum true s 2 (rdNum true s 1 τ).2).2).2).2 ∧ u.grownBy w2 (some (w.heap.size + 1))) := fun u W h hB => tnum_from _ s _ 2 (.inr rfl) HS0.out (rdNum_le true s 1 _ (rdNum_le true s 2 _ (rdNum_le true s 1 _ hle))) _ rfl u W h hB
              have HX : Hid (rdPat true s τ = (⟨(rdNum true s 1 τ).1, (rdNum true s 2 (rdNum true s 1 τ).2).1, (rdNum true s 1 (rdNum true s 2 (rdNum true s 1 τ).2).2).1 - 1, (rdNum true s 2 (rdNum true s 1 (rdNum true s 2 (rdNum true s 1 τ).2).2).2).1⟩, (rdNum true s 2 (rdNum true s 1 (rdNum true s 2 (rdNum true s 1 τ).2).2).2).2)) := rfl
              rw [HX.out] at HE
              clear HX hle hbad
              generalize (rdNum true s 2 (rdNum true s 1 (rdNum true s 2 (rdNum true s 1 τ).2).2).2).1 = Y4 at *
              generalize (rdNum true s 2 (rdNum true s 1 (rdNum true s 2 (rdNum true s 1 τ).2).2).2).2 = ρ4 at *
              generalize (rdNum true s 1 (rdNum true s 2 (rdNum true s 1 τ).2).2).1 = Y3 at *
              generalize (rdNum true s 1 (rdNum true s 2 (rdNum true s 1 τ).2).2).2 = ρ3 at *
              generalize (rdNum true s 2 (rdNum true s 1 τ).2).1 = Y2 at *
              generalize (rdNum true s 2 (rdNum true s 1 τ).2).2 = ρ2 at *
              generalize (rdNum true s 1 τ).1 = Y1 at *
              generalize (rdNum true s 1 τ).2 = ρ1 at *
              have hwr := hT.out.size
              have c0 : CellsAt (wr.alloc (.cells #[.int .i64 0, .int .i64 0, .int .i64 0, .int .i64 0] 48)) wr.heap.size 48 #[.int .i64 0, .int .i64 0, .int .i64 0, .int .i64 0] := CellsAt.new wr _ _
              have r0 : RdAt 79 (wr.alloc (.cells #[.int .i64 0, .int .i64 0, .int .i64 0, .int .i64 0] 48)) (w.heap.size + 1) s τ := CellsAt.kept hT.out.rd (World.grownBy_alloc wr _ none) (by simp)
              have G0 : wr.grownBy (wr.alloc (.cells #[.int .i64 0, .int .i64 0, .int .i64 0, .int .i64 0] 48)) (some (w.heap.size + 1)) := World.grownBy_alloc wr _ _
              have HC0 : Hid (CellsAt _ _ _ _) := c0
              clear c0
              go_wp2_with fail
              refine (F1.out (wr.alloc (.cells #[.int .i64 0, .int .i64 0, .int .i64 0, .int .i64 0] 48)) _ r0 (Below.refl _ _)).mono ?_
              rintro e u1 ⟨rfl, a1, j1⟩
              have c1 := CellsAt.kept HC0.out j1 (fun e => by have := Option.some.inj e; omega)
              have g1 := G0.trans j1
              have x1 := c1.cell 0
              have f1 := c1.frozen 0
              have C1 : Hid (CellsAt (u1.setCell ⟨wr.heap.size, 0, none⟩ (.int .i64 Y1)) wr.heap.size 48 #[.int .i64 Y1, .int .i64 0, .int .i64 0, .int .i64 0]) := c1.set 0 _
              have R1 : Hid (RdAt 79 (u1.setCell ⟨wr.heap.size, 0, none⟩ (.int .i64 Y1)) (w.heap.size + 1) s ρ1) := CellsAt.kept a1 (grown_set _ _ _ _) (fun e => by have := Option.some.inj e; omega)
              have D1 : Hid (wr.grownBy (u1.setCell ⟨wr.heap.size, 0, none⟩ (.int .i64 Y1)) (some (w.heap.size + 1))) := World.grownBy.andThen g1 (grown_set _ _ _ _) (fun j e => .inl (by have := Option.some.inj e; omega))
              clear c1 g1 a1 j1
              go_wp2_with fail
              have k1 := C1.out
              have r1 := R1.out
              have G1 := D1.out
              clear C1 R1 D1 x1 f1
              generalize u1.setCell ⟨wr.heap.size, 0, none⟩ (.int .i64 Y1) = v1 at k1 r1 G1 ⊢
              refine (F2.out v1 _ r1 (Below.refl _ _)).mono ?_
              rintro e u2 ⟨rfl, a2, j2⟩
              have c2 := CellsAt.kept k1 j2 (fun e => by have := Option.some.inj e; omega)
              have g2 := G1.trans j2
              have x2 := c2.cell 1
              have f2 := c2.frozen 1
              have C2 : Hid (CellsAt (u2.setCell ⟨wr.heap.size, 1, none⟩ (.int .i64 Y2)) wr.heap.size 48 #[.int .i64 Y1, .int .i64 Y2, .int .i64 0, .int .i64 0]) := c2.set 1 _
              have R2 : Hid (RdAt 79 (u2.setCell ⟨wr.heap.size, 1, none⟩ (.int .i64 Y2)) (w.heap.size + 1) s ρ2) := CellsAt.kept a2 (grown_set _ _ _ _) (fun e => by have := Option.some.inj e; omega)
              have D2 : Hid (wr.grownBy (u2.setCell ⟨wr.heap.size, 1, none⟩ (.int .i64 Y2)) (some (w.heap.size + 1))) := World.grownBy.andThen g2 (grown_set _ _ _ _) (fun j e => .inl (by have := Option.some.inj e; omega))
              clear c2 g2 a2 j2
              go_wp2_with fail
              have k2 := C2.out
              have r2 := R2.out
              have G2 := D2.out
              clear C2 R2 D2 x2 f2
              generalize u2.setCell ⟨wr.heap.size, 1, none⟩ (.int .i64 Y2) = v2 at k2 r2 G2 ⊢
              refine (F3.out v2 _ r2 (Below.refl _ _)).mono ?_
              rintro e u3 ⟨rfl, a3, j3⟩
              have c3 := CellsAt.kept k2 j3 (fun e => by have := Option.some.inj e; omega)
              have g3 := G2.trans j3
              have x3 := c3.cell 2
              have f3 := c3.frozen 2
              have C3 : Hid (CellsAt (u3.setCell ⟨wr.heap.size, 2, none⟩ (.int .i64 (Y3 - 1))) wr.heap.size 48 #[.int .i64 Y1, .int .i64 Y2, .int .i64 (Y3 - 1), .int .i64 0]) := c3.set 2 _
              have R3 : Hid (RdAt 79 (u3.setCell ⟨wr.heap.size, 2, none⟩ (.int .i64 (Y3 - 1))) (w.heap.size + 1) s ρ3) := CellsAt.kept a3 (grown_set _ _ _ _) (fun e => by have := Option.some.inj e; omega)
              have D3 : Hid (wr.grownBy (u3.setCell ⟨wr.heap.size, 2, none⟩ (.int .i64 (Y3 - 1))) (some (w.heap.size + 1))) := World.grownBy.andThen g3 (grown_set _ _ _ _) (fun j e => .inl (by have := Option.some.inj e; omega))
              clear c3 g3 a3 j3
              go_wp2_with fail
              have k3 := C3.out
              have r3 := R3.out
              have G3 := D3.out
              clear C3 R3 D3 x3 f3
              generalize u3.setCell ⟨wr.heap.size, 2, none⟩ (.int .i64 (Y3 - 1)) = v3 at k3 r3 G3 ⊢
              refine (F4.out v3 _ r3 (Below.refl _ _)).mono ?_
              rintro e u4 ⟨rfl, a4, j4⟩
              have c4 := CellsAt.kept k3 j4 (fun e => by have := Option.some.inj e; omega)
              have g4 := G3.trans j4
              have x4 := c4.cell 3
              have f4 := c4.frozen 3
              have C4 : Hid (CellsAt (u4.setCell ⟨wr.heap.size, 3, none⟩ (.int .i64 Y4)) wr.heap.size 48 #[.int .i64 Y1, .int .i64 Y2, .int .i64 (Y3 - 1), .int .i64 Y4]) := c4.set 3 _
              have R4 : Hid (RdAt 79 (u4.setCell ⟨wr.heap.size, 3, none⟩ (.int .i64 Y4)) (w.heap.size + 1) s ρ4) := CellsAt.kept a4 (grown_set _ _ _ _) (fun e => by have := Option.some.inj e; omega)
              have D4 : Hid (wr.grownBy (u4.setCell ⟨wr.heap.size, 3, none⟩ (.int .i64 Y4)) (some (w.heap.size + 1))) := World.grownBy.andThen g4 (grown_set _ _ _ _) (fun j e => .inl (by have := Option.some.inj e; omega))
              clear c4 g4 a4 j4
              go_upto_region 35 with fail
              have k4 := C4.out
              have r4 := R4.out
              have G4 := D4.out
              clear C4 R4 D4 x4 f4
              generalize u4.setCell ⟨wr.heap.size, 3, none⟩ (.int .i64 Y4) = v4 at k4 r4 G4 ⊢
              have hS := hT.out.read G4 r4 cT nT
              obtain ⟨_, ⟨ve, vi, vp, hm, hE, hI, hP⟩, low, size⟩ := hS
              obtain ⟨av, kv, rfl⟩ := ownsRow_slice hP
              have z4 := hm.cell 6
              have b0 := k4.cell 0
              have b1 := k4.cell 1
              have b2 := k4.cell 2
              have b3 := k4.cell 3
              have HM : Hid (CellsAt v4 (w.heap.size + 2) 39 _) := hm
              have HE1 : Hid (_) := hE
              have HI1 : Hid (_) := hI
              have HP1 : Hid (_) := hP
              have HXX : Hid (∀ k, k < w.heap.size + 3 → some k ≠ (Value.slice av l.length kv).ownBlock) := fun k hk e => by have := (row_block hP k e.symm).1; omega
              have HRR : Hid (RdAt 79 v4 (w.heap.size + 1) s ρ4) := r4
              have hlen : l.length < 255 := by omega
              have hrow : v4.ownsRow (w.heap.size + 3) 48 4 (.slice av l.length kv) l.length (l.flatMap patC) := hP
              clear hE hI hP hm r4 k4 G4 hT
              go_wp2_with (at_builtin; refine wpList_append_lies _ rfl _ _ _ rfl (w.heap.size + 3) 48 ipat _ 4 32 Try.underlying37 hipat hz0pat hz1pat hz2pat rfl (by omega) (.slice av l.length kv) l.length (l.flatMap patC) rfl (hrow.alloc _) ⟨v4.heap.size, 0, none⟩ 1 1 [.int .i64 Y1, .int .i64 Y2, .int .i64 (Y3 - 1), .int .i64 Y4] rfl rfl (World.news_of_block (cs := #[.int .i64 Y1, .int .i64 Y2, .int .i64 (Y3 - 1), .int .i64 Y4]) (t := 48) (fr := (0, 0)) (heap_alloc_new v4 _)) (by simp [Value.oneCell']) (by omega) (by unfold maxLen; omega) (by omega) (by simp; omega) (v4.heap.size + 1) (by simp) ?_; intro g cap w3 hown3 hgrow hat hltg; have m3 := CellsAt.kept (CellsAt.kept HM.out (World.grownBy_alloc v4 _ none) (by simp)) hgrow (HXX.out _ cM); have e4 := m3.cell 6; have ef := m3.frozen 6)
              refine ⟨⟨k + 1, by omega, by go_num, ?_⟩, by simp [intOf]; omega⟩
              show TSt (w.heap.size + 3) (w.heap.size + 1) (w.heap.size + 2) s X1 X5 X2 X3 w1 _ es is (rdTimes (rdPat true s) (k + 1) ([], σ10)).1 (rdTimes (rdPat true s) (k + 1) ([], σ10)).2
              rw [HE.out]
              exact push_pat HRR.out HM.out HE1.out HI1.out HP1.out low size cT cM nT _ hgrow hown3
          · obtain rfl : k = n10 := by omega
            go_wp2
            go_meet
            case rel => exact hT
      case rest =>
        have HLσ11 : Hid _ := HLEk.out n10
        have hlps := Nat.le_trans (HLNk.out n10) (show n10 ≤ 255 by omega)
        clear HT0 HLEk HLNk HT9
        generalize (rdTimes (rdPat true s) n10 ([], σ10)).1 = ps at *
        generalize (rdTimes (rdPat true s) n10 ([], σ10)).2 = σ11 at *
        obtain ⟨hr, ⟨ve, vi, vp, hm, hE, hI, hP⟩, low, hsz⟩ := hcut.out
        obtain ⟨pe, ke, rfl⟩ := ownsRow_slice hE
        obtain ⟨pi, ki, rfl⟩ := ownsRow_slice hI
        obtain ⟨pp, kp, rfl⟩ := ownsRow_slice hP
        have yA := hr.parts.2.1
        have yB := hr.parts.2.2.1
        have HOM : Hid (OwnsMod (w.heap.size + 3) wc (.agg #[.string X1, .int .i64 X2, .int .i64 X3, .string X5, .slice pe es.length ke, .slice pi is.length ki, .slice pp ps.length kp]) (⟨X1, X2, X3, X5, es, is, ps⟩ : Mod)) := ⟨_, _, _, rfl, ⟨hE, hI, hP⟩, hles, hlis, hlps⟩
        have ho : CellsAt wc w.heap.size 39 #[.string ⟨#[]⟩, .int .i64 0, .int .i64 0, .string ⟨#[]⟩, .slice none 0 0, .slice none 0 0, .slice none 0 0] := (low.block _ (by omega) (by omega) (by omega)).trans ho1
        have Bc : Below w.heap.size w wc := B1.trans ⟨low.os, low.tape, low.output, low.size, fun k hk => low.block k (by omega) (by omega) (by omega)⟩
        have HO : Hid (CellsAt wc w.heap.size 39 #[.string ⟨#[]⟩, .int .i64 0, .int .i64 0, .string ⟨#[]⟩, .slice none 0 0, .slice none 0 0, .slice none 0 0]) := ho
        have HMM : Hid (CellsAt wc (w.heap.size + 2) 39 #[.string X1, .int .i64 X2, .int .i64 X3, .string X5, .slice pe es.length ke, .slice pi is.length ki, .slice pp ps.length kp]) := hm
        have hmz := hm.lt
        have hatle := HLσ11.out
        clear hr hE hI hP low ho1 B1 hcut
        cases hbad : σ11.2 with
        | true =>
          have HT : Hid (told s E = (zeroMod, 1)) := by
            show told s E = _
            rw [HV.out]
            unfold told
            rw [if_neg (by dsimp only; rw [hbad]; simp)]
          rw [hbad] at yB
          clear hm hmz hbad
          obtain ⟨p0, p1, p2, p3, p4, p5, p6⟩ := box7 ho
          have f := ho.frozen
          have HFz : Hid (CellsAt _ w.heap.size 39 _) := sets7 ho (.string ⟨#[]⟩) (.int .i64 0) (.int .i64 0) (.string ⟨#[]⟩) (.slice none 0 0) (.slice none 0 0) (.slice none 0 0)
          have HGz : Hid (wc.grownBy _ (some w.heap.size)) := sets7_grown wc w.heap.size (.string ⟨#[]⟩) (.int .i64 0) (.int .i64 0) (.string ⟨#[]⟩) (.slice none 0 0) (.slice none 0 0) (.slice none 0 0)
          clear ho
          go_wp2
          clear p0 p1 p2 p3 p4 p5 p6 f
          have hF := HFz.out
          have hG := HGz.out
          clear HFz HGz
          generalize World.setCell _ ⟨w.heap.size, 6, none⟩ _ = wz at hF hG ⊢
          (try simp only [Exit.inBlock, Exit.then])
          refine bodyPost_ret (results_cell_tmp_row rfl _ _ _ _ _ _ _ rfl hF Try.underlying39 rfl (by kernel_rfl)) rfl ?_
          rw [HT.out]
          refine ⟨_, rfl, zero_owns _ _, ?_⟩
          exact Bc.trans ⟨hG.os, hG.tape, hG.output, hG.size, fun k hk => hG.block k (by omega) (fun e => by have := Option.some.inj e; omega)⟩
        | false =>
          rw [hbad] at yB
          by_cases hlt : σ11.1 < s.size
          · have HT : Hid (told s E = (zeroMod, 1)) := by
              show told s E = _
              rw [HV.out]
              unfold told
              rw [if_neg (by dsimp only; rw [hbad]; simp; omega)]
            have dl : decide ((σ11.1 : Int) < s.size) = true := decide_eq_true (by omega)
            clear hm hmz hbad
            obtain ⟨p0, p1, p2, p3, p4, p5, p6⟩ := box7 ho
            have f := ho.frozen
            have HFz : Hid (CellsAt _ w.heap.size 39 _) := sets7 ho (.string ⟨#[]⟩) (.int .i64 0) (.int .i64 0) (.string ⟨#[]⟩) (.slice none 0 0) (.slice none 0 0) (.slice none 0 0)
            have HGz : Hid (wc.grownBy _ (some w.heap.size)) := sets7_grown wc w.heap.size (.string ⟨#[]⟩) (.int .i64 0) (.int .i64 0) (.string ⟨#[]⟩) (.slice none 0 0) (.slice none 0 0) (.slice none 0 0)
            clear ho
            go_wp2
            clear p0 p1 p2 p3 p4 p5 p6 f
            have hF := HFz.out
            have hG := HGz.out
            clear HFz HGz
            generalize World.setCell _ ⟨w.heap.size, 6, none⟩ _ = wz at hF hG ⊢
            (try simp only [Exit.inBlock, Exit.then])
            refine bodyPost_ret (results_cell_tmp_row rfl _ _ _ _ _ _ _ rfl hF Try.underlying39 rfl (by kernel_rfl)) rfl ?_
            rw [HT.out]
            refine ⟨_, rfl, zero_owns _ _, ?_⟩
            exact Bc.trans ⟨hG.os, hG.tape, hG.output, hG.size, fun k hk => hG.block k (by omega) (fun e => by have := Option.some.inj e; omega)⟩
          · have hok : (!σ11.2 && ((σ11.1 : Int) == s.size)) = true := by
              rw [hbad, show (σ11.1 : Int) = s.size by omega]; simp
            have dl : decide ((σ11.1 : Int) < s.size) = false := decide_eq_false (by omega)
            have dl2 : ¬ ((σ11.1 : Int) < s.size) := by omega
            have HFT2 : Hid ((⟨X1, X2, X3, X5, es, is, ps⟩ : Mod).fits) := by have := HFT.out; rw [HV.out] at this; exact this
            have HC : Hid (Calls Try.prog 19 #[.agg #[.string X1, .int .i64 X2, .int .i64 X3, .string X5, .slice pe es.length ke, .slice pi is.length ki, .slice pp ps.length kp]] wc fun e w' => e = .returned (.int .i64 (chkMod (⟨X1, X2, X3, X5, es, is, ps⟩ : Mod))) ∧ Below wc.heap.size wc w') := checkModule_any _ _ wc HOM.out.isMod HFT2.out
            obtain ⟨q0, q1, q2, q3, q4, q5, q6⟩ := box7 hm
            by_cases h0 : chkMod (⟨X1, X2, X3, X5, es, is, ps⟩ : Mod) = 0
            · have HT : Hid (told s E = ((⟨X1, X2, X3, X5, es, is, ps⟩ : Mod), 0)) := by
                show told s E = _
                rw [HV.out]
                unfold told
                rw [if_pos hok, if_pos h0]
              rw [h0] at HC
              clear h0 hok ho hm hbad
              go_wp2_with fail
              clear q0 q1 q2 q3 q4 q5 q6
              refine Calls.mono HC.out ?_
              rintro e w5 ⟨rfl, b5⟩
              have hz5 := b5.size
              have ho5 : CellsAt w5 w.heap.size 39 #[.string ⟨#[]⟩, .int .i64 0, .int .i64 0, .string ⟨#[]⟩, .slice none 0 0, .slice none 0 0, .slice none 0 0] := CellsAt.below HO.out b5 (by omega)
              have hm5 : CellsAt w5 (w.heap.size + 2) 39 #[.string X1, .int .i64 X2, .int .i64 X3, .string X5, .slice pe es.length ke, .slice pi is.length ki, .slice pp ps.length kp] := CellsAt.below HMM.out b5 (by omega)
              have hI5 : Hid (OwnsMod (w.heap.size + 3) w5 (.agg #[.string X1, .int .i64 X2, .int .i64 X3, .string X5, .slice pe es.length ke, .slice pi is.length ki, .slice pp ps.length kp]) (⟨X1, X2, X3, X5, es, is, ps⟩ : Mod)) := HOM.out.below b5
              have B5 : Below w.heap.size w w5 := Bc.trans (b5.mono (by omega))
              obtain ⟨p0, p1, p2, p3, p4, p5, p6⟩ := box7 ho5
              obtain ⟨q0, q1, q2, q3, q4, q5, q6⟩ := box7 hm5
              have f := ho5.frozen
              have HFz : Hid (CellsAt _ w.heap.size 39 _) := sets7 ho5 (.string X1) (.int .i64 X2) (.int .i64 X3) (.string X5) (.slice pe es.length ke) (.slice pi is.length ki) (.slice pp ps.length kp)
              have HGz : Hid (w5.grownBy _ (some w.heap.size)) := sets7_grown w5 w.heap.size (.string X1) (.int .i64 X2) (.int .i64 X3) (.string X5) (.slice pe es.length ke) (.slice pi is.length ki) (.slice pp ps.length kp)
              clear ho5 hm5
              go_wp2
              clear p0 p1 p2 p3 p4 p5 p6 q0 q1 q2 q3 q4 q5 q6 f
              have hF := HFz.out
              have hG := HGz.out
              clear HFz HGz
              generalize World.setCell _ ⟨w.heap.size, 6, none⟩ _ = wz at hF hG ⊢
              (try simp only [Exit.inBlock, Exit.then])
              refine bodyPost_ret (results_cell_tmp_row rfl _ _ _ _ _ _ _ rfl hF Try.underlying39 rfl (by kernel_rfl)) rfl ?_
              rw [HT.out]
              have hIM5 := (hI5.out.grown hG (fun k e => by have := Option.some.inj e; omega)).less (show w.heap.size ≤ w.heap.size + 3 by omega)
              refine ⟨_, rfl, hIM5, ?_⟩
              exact B5.trans ⟨hG.os, hG.tape, hG.output, hG.size, fun k hk => hG.block k (by omega) (fun e => by have := Option.some.inj e; omega)⟩
            · have HT : Hid (told s E = (zeroMod, chkMod (⟨X1, X2, X3, X5, es, is, ps⟩ : Mod))) := by
                show told s E = _
                rw [HV.out]
                unfold told
                rw [if_pos hok, if_neg h0]
              have hne : (chkMod (⟨X1, X2, X3, X5, es, is, ps⟩ : Mod) != 0) = true := by simpa using h0
              generalize chkMod (⟨X1, X2, X3, X5, es, is, ps⟩ : Mod) = CK at *
              clear h0 hok ho hm hbad
              go_wp2_with fail
              clear q0 q1 q2 q3 q4 q5 q6
              refine Calls.mono HC.out ?_
              rintro e w5 ⟨rfl, b5⟩
              have hz5 := b5.size
              have ho5 : CellsAt w5 w.heap.size 39 #[.string ⟨#[]⟩, .int .i64 0, .int .i64 0, .string ⟨#[]⟩, .slice none 0 0, .slice none 0 0, .slice none 0 0] := CellsAt.below HO.out b5 (by omega)
              have hm5 : CellsAt w5 (w.heap.size + 2) 39 #[.string X1, .int .i64 X2, .int .i64 X3, .string X5, .slice pe es.length ke, .slice pi is.length ki, .slice pp ps.length kp] := CellsAt.below HMM.out b5 (by omega)
              have hI5 : Hid (OwnsMod (w.heap.size + 3) w5 (.agg #[.string X1, .int .i64 X2, .int .i64 X3, .string X5, .slice pe es.length ke, .slice pi is.length ki, .slice pp ps.length kp]) (⟨X1, X2, X3, X5, es, is, ps⟩ : Mod)) := HOM.out.below b5
              have B5 : Below w.heap.size w w5 := Bc.trans (b5.mono (by omega))
              obtain ⟨p0, p1, p2, p3, p4, p5, p6⟩ := box7 ho5
              obtain ⟨q0, q1, q2, q3, q4, q5, q6⟩ := box7 hm5
              have f := ho5.frozen
              have HFz : Hid (CellsAt _ w.heap.size 39 _) := sets7 ho5 (.string ⟨#[]⟩) (.int .i64 0) (.int .i64 0) (.string ⟨#[]⟩) (.slice none 0 0) (.slice none 0 0) (.slice none 0 0)
              have HGz : Hid (w5.grownBy _ (some w.heap.size)) := sets7_grown w5 w.heap.size (.string ⟨#[]⟩) (.int .i64 0) (.int .i64 0) (.string ⟨#[]⟩) (.slice none 0 0) (.slice none 0 0) (.slice none 0 0)
              clear ho5 hm5
              go_wp2
              clear p0 p1 p2 p3 p4 p5 p6 q0 q1 q2 q3 q4 q5 q6 f
              have hF := HFz.out
              have hG := HGz.out
              clear HFz HGz
              generalize World.setCell _ ⟨w.heap.size, 6, none⟩ _ = wz at hF hG ⊢
              (try simp only [Exit.inBlock, Exit.then])
              refine bodyPost_ret (results_cell_tmp_row rfl _ _ _ _ _ _ _ rfl hF Try.underlying39 rfl (by kernel_rfl)) rfl ?_
              rw [HT.out]
              refine ⟨_, rfl, zero_owns _ _, ?_⟩
              exact B5.trans ⟨hG.os, hG.tape, hG.output, hG.size, fun k hk => hG.block k (by omega) (fun e => by have := Option.some.inj e; omega)⟩

end Go.Proofs.Ytaklbnabgcglhaa
