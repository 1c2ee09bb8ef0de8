/- The contracts of the writer's numbers and name. -/
import Derived.Test.YtaklbnabgcglhaaWrA
import Derived.Test.YtaklbnabgcglhaaRefB
namespace Go.Proofs.Ytaklbnabgcglhaa
open Go.RowKit Go.PlainAid Go.Lib

theorem grown_of_below {w w' : World} (h : Below w.heap.size w w') : w.grownBy w' none := ⟨h.os, h.tape, h.output, h.size, fun k hk _ => h.block k hk⟩
theorem Writes.below {w w' : World} {B : Nat} {l : List UInt8} (h : Writes w B l) (hb : Below w.heap.size w w') : Writes w' B l := by
  obtain ⟨sv, h1, h2⟩ := h
  refine ⟨sv, h1.kept (grown_of_below hb) (by simp), h2.kept (grown_of_below hb) ?_⟩
  cases e : sv.ownBlock
  · exact .inl rfl
  · exact .inr (by simp)
theorem KeepsW.of_below {B : Nat} {w w' : World} (h : Below w.heap.size w w') (hB : B ≤ w.heap.size) : KeepsW B w w' :=
  ⟨h.mono hB, fun k _ _ _ _ _ h3 => (h.block k (Array.getElem?_eq_some_iff.1 h3).1).trans h3⟩

def zeros (m : Nat) : ByteArray := ⟨(List.replicate m (0 : UInt8)).toArray⟩
theorem zeros_size (m : Nat) : (zeros m).size = m := by
  show (List.replicate m (0 : UInt8)).toArray.size = m
  simp
theorem put_zeros (m : Nat) (n : Int) : putS (zeros m) 0 m n = bytesN n m := by
  refine ba_ext (by rw [putS_size, zeros_size, bytesN_size]) (fun i hi => ?_)
  rw [putS_size, zeros_size] at hi
  have := bt_put_in (zeros m) 0 m n i (by rw [zeros_size]; omega) hi
  rw [Nat.zero_add] at this
  rw [this, bt_list]
  have e : (bytesN n m).data.toList[i]? = some (byteOf n i) := by simp [bytesN, hi]
  rw [e]
  exact (byteOf_toNat n i).symm

def numsBytes (m : Nat) (ns : List Int) : List UInt8 := ns.flatMap fun n => (bytesN n m).data.toList
theorem numsBytes_snoc (m : Nat) (ns : List Int) (n : Int) : numsBytes m (ns ++ [n]) = numsBytes m ns ++ (bytesN n m).data.toList := by simp [numsBytes]
theorem bytesN_len (n : Int) (m : Nat) : (bytesN n m).data.toList.length = m := by
  have := bytesN_size n m
  simpa using this
theorem numsBytes_length (m : Nat) (ns : List Int) : (numsBytes m ns).length = m * ns.length := by
  induction ns with
  | nil => rfl
  | cons n ns ih =>
    show ((bytesN n m).data.toList ++ numsBytes m ns).length = _
    rw [List.length_append, bytesN_len, ih, List.length_cons, Nat.mul_succ]; omega

theorem zeros_conv (m : Nat) (W : World) (fz : Nat × Nat) : Sem.run Try.prog (convert 58 9 (.slice (some ⟨W.heap.size, 0, none⟩) m m)) (W.alloc (.cells (Array.replicate m (.int .u8 0)) 5 fz)) = .ok (.string (zeros m)) (W.alloc (.cells (Array.replicate m (.int .u8 0)) 5 fz)) := by
  have h := run_convert_bytes_back (P := Try.prog) (W.alloc (.cells (Array.replicate m (.int .u8 0)) 5 fz)) 58 9 5 ⟨W.heap.size, 0, none⟩ m (List.replicate m 0) Try.underlying58 Try.underlying5 Try.underlying9
    (fun j hj => by
      have hj' : j < m := by simpa using hj
      have := World.cell?_alloc_mark W (Array.replicate m (.int .u8 0)) 5 fz j
      have e2 : (Array.replicate m (Value.int .u8 0))[j]? = some (.int .u8 0) := by simp [hj']
      rw [e2] at this
      by_cases e : j = 0
      · subst e; simpa [Addr.add] using this
      · simpa [Addr.add, e] using this)
  rw [List.length_replicate] at h
  exact h

theorem make_conv (m : Nat) (hm : m = 1 ∨ m = 2) (W : World) : ∃ o : Obj, Sem.run Try.prog (Instr.makeSlice 58 (.int .i64 m) (.int .i64 m)) W = .ok (.slice (some ⟨W.heap.size, 0, none⟩) m m) (W.alloc o) ∧
    Sem.run Try.prog (convert 58 9 (.slice (some ⟨W.heap.size, 0, none⟩) m m)) (W.alloc o) = .ok (.string (zeros m)) (W.alloc o) := by
  obtain ⟨i0, hi, hz0, hz1, hz2⟩ := info_parts info5
  have h := run_make (P := Try.prog) W 58 5 i0 (.int .u8 0) Try.underlying58 hi hz0 .i64 .i64 m m (by omega) (by omega) (by rw [hz2]; omega) (by omega)
  have e : madeCells (Value.int .u8 0).cells (m * i0.size) = Array.replicate m (.int .u8 0) := by
    rw [hz1]
    rcases hm with rfl | rfl <;> kernel_rfl
  rw [Int.toNat_natCast, e] at h
  exact ⟨_, h, zeros_conv m W (0, 0)⟩

set_option maxRecDepth 100000 in
set_option maxHeartbeats 1000000 in
theorem numbers_any (B c : Nat) (m : Nat) (hm : m = 1 ∨ m = 2) (ns : List Int) (cap : Nat) (l : List UInt8) (w : World) (h : Writes w B l) (hcB : c ≠ B) (hc : w.heap[c]? = some (.cells (ns.map (Value.int .i64)).toArray 3 (0, 0))) (hn : ns.length ≤ 2) (hl : l.length ≤ 50000000) :
    Calls Try.prog 62 #[.pointer (some ⟨B, 0, none⟩), .int .i64 m, .slice (some ⟨c, 0, none⟩) ns.length cap] w fun e w' => e = .returned (.tuple #[]) ∧ Writes w' B (l ++ numsBytes m ns) ∧ KeepsW B w w' := by
  have HL : Hid (l.length ≤ 50000000) := hl
  clear hl
  go_enter Try.func62, Try.ntmps62
  go_wp2
  go_loopw [12] (fun i wr => ∃ (k : Nat), k ≤ ns.length ∧ i = .int .i64 k ∧ Writes wr B (l ++ numsBytes m (ns.take k)) ∧ KeepsW B w wr) (fun i _ => ns.length - (intOf i).toNat)
  case atStart => exact ⟨0, Nat.zero_le _, rfl, by simpa [numsBytes] using h, KeepsW.refl _ _⟩
  case round =>
    obtain ⟨k, hk, rfl, hW, hK⟩ := hrel
    by_cases hlt : k < ns.length
    · obtain ⟨n, hp⟩ : ∃ n, ns[k]? = some n := ⟨_, List.getElem?_eq_getElem hlt⟩
      have hcell : wr.cell? ⟨c, k, none⟩ = some (.int .i64 n) := by
        rw [hK.cell hcB (by decide) hc]
        simp [World.cell?, hc, hp]
      have htk : ns.take (k + 1) = ns.take k ++ [n] := by rw [List.take_add_one, hp]; simp
      have hlen := numsBytes_length m (ns.take k)
      have hle : (ns.take k).length ≤ 2 := by rw [List.length_take]; omega
      have hBw : B < wr.heap.size := by obtain ⟨_, hb, _⟩ := hW; exact hb.lt
      obtain ⟨o, mk, cv⟩ := make_conv m hm wr
      have HP : Hid (∀ w, Calls Try.prog 10 #[.string (zeros m), .int .i64 0, .int .i64 m, .int .i64 n] w fun e w' => e = .returned (.tuple #[.string (bytesN n m), .int .i64 0]) ∧ Below w.heap.size w w') := by
        intro w
        have := callsIn_wide.1 (put_ok_in (zeros m) 0 m n w (by rw [zeros_size]; omega) (by omega) (by omega) (by rw [zeros_size]; omega))
        rwa [put_zeros] at this
      have HA : Hid (∀ w, Writes w B (l ++ numsBytes m (ns.take k)) → Calls Try.prog 63 #[.pointer (some ⟨B, 0, none⟩), .string (bytesN n m)] w fun e w' => e = .returned (.tuple #[]) ∧ Writes w' B (l ++ numsBytes m (ns.take (k + 1))) ∧ KeepsW B w w') := by
        intro w hw
        have := add_any B _ (bytesN n m) w hw (by have := HL.out; rw [List.length_append, hlen, bytesN_size]; rcases hm with rfl | rfl <;> omega)
        rwa [List.append_assoc, ← numsBytes_snoc, ← htk] at this
      generalize hE : bytesN n m = E at *
      generalize zeros m = Z at *
      clear hE
      have HM : Hid (m = 1 ∨ m = 2) := hm
      clear hm hlen htk hp
      go_wp2_with fail
      refine (HP.out _).mono ?_
      rintro e w2 ⟨rfl, b2⟩
      have hb1 : Below wr.heap.size wr w2 := ((Below.refl _ wr).alloc (Nat.le_refl _) o).trans (b2.mono (by simp))
      have hW2 := hW.below hb1
      go_wp2_with fail
      refine (HA.out _ hW2).mono ?_
      rintro e w3 ⟨rfl, hW3, hK3⟩
      go_wp2
      exact ⟨⟨k + 1, by omega, by go_num, hW3, hK.trans ((KeepsW.of_below hb1 (Nat.le_of_lt hBw)).trans hK3)⟩, by simp [intOf]; omega⟩
    · obtain rfl : k = ns.length := by omega
      rw [List.take_length] at hW
      go_wp2
      go_end0
      exact ⟨rfl, hW, hK⟩

end Go.Proofs.Ytaklbnabgcglhaa
