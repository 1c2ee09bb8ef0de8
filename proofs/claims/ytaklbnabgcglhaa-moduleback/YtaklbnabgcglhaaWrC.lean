/- The contracts of the writer's name and whole. -/
import Derived.Test.YtaklbnabgcglhaaWrB
import Derived.Lib.BufferRead
namespace Go.Proofs.Ytaklbnabgcglhaa
open Go.RowKit Go.PlainAid Go.Lib

theorem Writes.lt {w : World} {B : Nat} {l : List UInt8} (h : Writes w B l) : B < w.heap.size := by obtain ⟨_, hb, _⟩ := h; exact hb.lt

/-- One number, from a slice that was just made. -/
theorem num1 (B m : Nat) (hm : m = 1 ∨ m = 2) (n : Int) (l : List UInt8) (w : World) (h : Writes w B l) (hl : l.length ≤ 50000000) (M : Value) (hM : M = .int .i64 m) :
    Calls Try.prog 62 #[.pointer (some ⟨B, 0, none⟩), M, .slice (some ⟨w.heap.size, 0, none⟩) 1 1] (w.alloc (.cells #[.int .i64 n] 3)) fun e w' => e = .returned (.tuple #[]) ∧ Writes w' B (l ++ numsBytes m [n]) ∧ KeepsW B w w' := by
  subst hM
  have hb : Below w.heap.size w (w.alloc (.cells #[.int .i64 n] 3)) := (Below.refl _ _).alloc (Nat.le_refl _) _
  have hlt := h.lt
  exact (numbers_any B w.heap.size m hm [n] 1 l _ (h.below hb) (by omega) (World.alloc_heap_new w _) (by simp) hl).mono fun e w' ⟨h1, h2, h3⟩ => ⟨h1, h2, (KeepsW.of_below hb (by omega)).trans h3⟩
theorem num2 (B : Nat) (a b : Int) (l : List UInt8) (w : World) (h : Writes w B l) (hl : l.length ≤ 50000000) :
    Calls Try.prog 62 #[.pointer (some ⟨B, 0, none⟩), .int .i64 1, .slice (some ⟨w.heap.size, 0, none⟩) 2 2] (w.alloc (.cells #[.int .i64 a, .int .i64 b] 3)) fun e w' => e = .returned (.tuple #[]) ∧ Writes w' B (l ++ numsBytes 1 [a, b]) ∧ KeepsW B w w' := by
  have hb : Below w.heap.size w (w.alloc (.cells #[.int .i64 a, .int .i64 b] 3)) := (Below.refl _ _).alloc (Nat.le_refl _) _
  have hlt := h.lt
  exact (numbers_any B w.heap.size 1 (.inl rfl) [a, b] 2 l _ (h.below hb) (by omega) (World.alloc_heap_new w _) (by simp) hl).mono fun e w' ⟨h1, h2, h3⟩ => ⟨h1, h2, (KeepsW.of_below hb (by omega)).trans h3⟩

def nameB (s : ByteArray) : List UInt8 := numsBytes 1 [(s.size : Int)] ++ s.data.toList
theorem nameB_length (s : ByteArray) : (nameB s).length = 1 + s.size := by
  unfold nameB
  rw [List.length_append, numsBytes_length]
  simp

set_option maxHeartbeats 1000000 in
theorem wname_any (B : Nat) (s : ByteArray) (l : List UInt8) (w : World) (h : Writes w B l) (hl : l.length ≤ 49000000) (hs : s.size ≤ 1000000) :
    Calls Try.prog 61 #[.pointer (some ⟨B, 0, none⟩), .string s] w fun e w' => e = .returned (.tuple #[]) ∧ Writes w' B (l ++ nameB s) ∧ KeepsW B w w' := by
  have H1 : Hid (Calls Try.prog 62 #[.pointer (some ⟨B, 0, none⟩), .int .i64 1, .slice (some ⟨w.heap.size, 0, none⟩) 1 1] (w.alloc (.cells #[.int .i64 s.size] 3)) fun e w' => e = .returned (.tuple #[]) ∧ Writes w' B (l ++ numsBytes 1 [(s.size : Int)]) ∧ KeepsW B w w') := num1 B 1 (.inl rfl) s.size l w h (by omega) _ rfl
  have H2 : Hid (∀ w, Writes w B (l ++ numsBytes 1 [(s.size : Int)]) → Calls Try.prog 63 #[.pointer (some ⟨B, 0, none⟩), .string s] w fun e w' => e = .returned (.tuple #[]) ∧ Writes w' B (l ++ nameB s) ∧ KeepsW B w w') := by
    intro w hw
    have := add_any B _ s w hw (by rw [List.length_append, numsBytes_length]; simp; omega)
    rwa [List.append_assoc] at this
  clear hl hs
  go_enter Try.func61, Try.ntmps61
  go_wp2_with fail
  refine Calls.mono H1.out ?_
  rintro e w1 ⟨rfl, hW1, hK1⟩
  go_wp2_with fail
  refine (H2.out _ hW1).mono ?_
  rintro e w2 ⟨rfl, hW2, hK2⟩
  go_wp2
  go_end0
  exact ⟨rfl, hW2, hK1.trans hK2⟩

set_option maxHeartbeats 1000000 in
theorem whole_any (B : Nat) (l : List UInt8) (w : World) (h : Writes w B l) :
    Calls Try.prog 38 #[.pointer (some ⟨B, 0, none⟩)] w fun e w' => e = .returned (.string ⟨l.toArray⟩) ∧ w' = w := by
  obtain ⟨sv, hbx, hrow⟩ := h
  have hc := hbx.cell
  have hcv : Sem.run Try.prog (convert 58 9 sv) w = .ok (.string ⟨l.toArray⟩) w := by
    rcases hrow.2 with ⟨rfl, hn⟩ | ⟨g, cap, cur, rfl, hg, hb, hcap, hm, hsz, htk⟩
    · obtain rfl : l = [] := List.length_eq_zero_iff.1 hn
      exact run_convert_nil_bytes w 58 9 5 0 Try.underlying58 Try.underlying5 Try.underlying9
    · refine run_convert_bytes_back (P := Try.prog) w 58 9 5 ⟨g, 0, none⟩ cap l Try.underlying58 Try.underlying5 Try.underlying9 (fun j hj => ?_)
      have e : w.cell? ⟨g, j, none⟩ = some (.int .u8 (l[j].toNat : Int)) := by
        have := hrow.cells (g := g) rfl j (.int .u8 (l[j].toNat : Int)) (by simp [List.getElem?_eq_getElem hj])
        by_cases e : j = 0
        · subst e; simpa [Addr.add] using this
        · simpa [Addr.add, e] using this
      by_cases e' : j = 0
      · subst e'; simpa [Addr.add] using e
      · simpa [Addr.add, e'] using e
  obtain ⟨av, kv, rfl⟩ := ownsRow_slice hrow
  go_enter Try.func38, Try.ntmps38
  go_wp2
  go_ret
  exact ⟨rfl, rfl⟩

end Go.Proofs.Ytaklbnabgcglhaa
