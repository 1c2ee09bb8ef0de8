/- The contracts of the writer's small functions. -/
import Derived.Test.YtaklbnabgcglhaaWordD
import Derived.Test.YtaklbnabgcglhaaRefS
import Derived.Lib.AppendStr
namespace Go.Proofs.Ytaklbnabgcglhaa
open Go.RowKit Go.PlainAid Go.Lib

theorem info5 : (Try.prog.info? 5).map (fun i => (i.zero, i.size, i.bytes)) = some (some (.int .u8 0), 1, 1) := by kernel_rfl

/-- The writer in block B has written these bytes. -/
def Writes (W : World) (B : Nat) (l : List UInt8) : Prop := ∃ sv, Boxed W B 64 sv ∧ W.ownsRow (B + 1) 5 1 sv l.length (l.map fun b => Value.int .u8 b.toNat)

/-- What a writer's call keeps: all below it, and all that are no bytes. -/
structure KeepsW (B : Nat) (w w' : World) : Prop where
  below : Below B w w'
  other : ∀ k cs t fz, k ≠ B → t ≠ 5 → w.heap[k]? = some (.cells cs t fz) → w'.heap[k]? = some (.cells cs t fz)

theorem KeepsW.refl (B : Nat) (w : World) : KeepsW B w w := ⟨Below.refl _ _, fun _ _ _ _ _ _ h => h⟩
theorem KeepsW.trans {B : Nat} {a b c : World} (h : KeepsW B a b) (k : KeepsW B b c) : KeepsW B a c := ⟨h.below.trans k.below, fun j cs t fz h1 h2 h3 => k.other j cs t fz h1 h2 (h.other j cs t fz h1 h2 h3)⟩
theorem KeepsW.cell {B : Nat} {w w' : World} (h : KeepsW B w w') {k : Nat} {cs : Array Value} {t : TypeId} {fz : Nat × Nat} (hk : k ≠ B) (ht : t ≠ 5) (hh : w.heap[k]? = some (.cells cs t fz)) (o : Nat) : w'.cell? ⟨k, o, none⟩ = w.cell? ⟨k, o, none⟩ :=
  World.cell?_of_block (w := w) ((h.other k cs t fz hk ht hh).trans hh.symm)
theorem KeepsW.alloc {B : Nat} {a w : World} (h : KeepsW B a w) (hB : B ≤ w.heap.size) (o : Obj) : KeepsW B a (w.alloc o) :=
  ⟨h.below.alloc hB o, fun k cs t fz h1 h2 h3 => (Below.heap_alloc w o k (Array.getElem?_eq_some_iff.1 (h.other k cs t fz h1 h2 h3)).1).trans (h.other k cs t fz h1 h2 h3)⟩
theorem KeepsW.grown {B : Nat} {w w' : World} {row : Option Nat} (hg : w.grownBy w' row) (hB : B ≤ w.heap.size) (hr : ∀ k, row = some k → B ≤ k ∧ ∃ cs fz, w.heap[k]? = some (.cells cs 5 fz)) : KeepsW B w w' :=
  ⟨(Below.refl B w).grown hg hB (fun k e => (hr k e).1), fun k cs t fz _ h2 h3 => (hg.block k (Array.getElem?_eq_some_iff.1 h3).1 (fun e => by
    obtain ⟨_, cs', fz', h⟩ := hr k e.symm
    rw [h3] at h
    injection h with h
    injection h with h4 h5 h6
    exact h2 h5)).trans h3⟩
theorem KeepsW.set {B : Nat} {w : World} (v : Value) : KeepsW B w (w.setCell ⟨B, 0, none⟩ v) :=
  ⟨(Below.refl B w).setCell (p := ⟨B, 0, none⟩) (Nat.le_refl _) v, fun k _ _ _ h1 _ h3 => (Below.heap_setCell w ⟨B, 0, none⟩ v k h1).trans h3⟩

theorem ownBlock_row {W : World} {base : Nat} {sv : Value} {n : Nat} {xs : List Value} (h : W.ownsRow base 5 1 sv n xs) : ∀ k, sv.ownBlock = some k → base ≤ k ∧ ∃ cs fz, W.heap[k]? = some (.cells cs 5 fz) := by
  intro k hk
  rcases h.2 with ⟨rfl, _⟩ | ⟨g, cap, cur, rfl, hg, hb, _⟩
  · cases hk
  · simp [Value.ownBlock] at hk
    subst hk
    exact ⟨hg, cur, (0, 0), hb⟩

theorem ownsRow_slice {W : World} {base : Nat} {e : TypeId} {size : Nat} {v : Value} {n : Nat} {xs : List Value} (h : W.ownsRow base e size v n xs) : ∃ a cap, v = .slice a n cap := by
  rcases h.2 with ⟨rfl, rfl⟩ | ⟨g, cap, cur, rfl, _⟩
  · exact ⟨none, 0, rfl⟩
  · exact ⟨_, cap, rfl⟩
theorem box_not_row {W : World} {B : Nat} {sv : Value} {n : Nat} {xs : List Value} (h : W.ownsRow (B + 1) 5 1 sv n xs) : some B ≠ sv.ownBlock := by
  intro e
  have := (ownBlock_row h B e.symm).1
  omega

set_option maxHeartbeats 1000000 in
theorem add_any (B : Nat) (l : List UInt8) (s : ByteArray) (w : World) (h : Writes w B l) (hl : l.length + s.size ≤ 100000000) :
    Calls Try.prog 63 #[.pointer (some ⟨B, 0, none⟩), .string s] w fun e w' => e = .returned (.tuple #[]) ∧ Writes w' B (l ++ s.data.toList) ∧ KeepsW B w w' := by
  obtain ⟨sv, hbx, hrow⟩ := h
  obtain ⟨i0, hi, hz0, hz1, hz2⟩ := info_parts info5
  have hc := hbx.cell
  have hfz := hbx.frozen
  have hlt := hbx.lt
  go_enter Try.func63, Try.ntmps63
  go_wp2_with (at_builtin; refine wpList_append_own_string _ rfl _ _ 58 9 rfl (B + 1) 5 i0 Try.underlying58 Try.underlying9 hi hz0 hz1 hz2 _ _ _ rfl hrow s rfl (by unfold maxLen; omega) (by omega) (by omega) ?_; intro v' w1 hown' hgrow _; obtain ⟨av, kv, rfl⟩ := ownsRow_slice hown'; have hbx1 := hbx.kept hgrow (box_not_row hrow); have hc1 := hbx1.cell; have hf1 := hbx1.frozen)
  go_end0
  refine ⟨rfl, ⟨_, hbx1.set _, ?_⟩, ?_⟩
  · rw [List.length_append, List.map_append]
    have e : s.data.toList.length = s.size := by simp
    rw [e]
    exact hown'.kept (grownBy_setCell' _ _ _) (.inr (fun e => box_not_row hown' e.symm))
  · exact (KeepsW.grown hgrow (by omega) (fun k e => ⟨by have := (ownBlock_row hrow k e).1; omega, (ownBlock_row hrow k e).2⟩)).trans (KeepsW.set _)

end Go.Proofs.Ytaklbnabgcglhaa
