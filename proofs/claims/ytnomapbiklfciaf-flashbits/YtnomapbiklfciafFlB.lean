/- The contracts of package flash's becomes, reach and turn. -/
import Derived.Test.YtnomapbiklfciafFlA
import Derived.Laws.EntriesVeiled
import Derived.Laws.IdiomCopy
namespace Go.Proofs.Ytnomapbiklfciaf
open Go.RowKit Go.PlainAid

set_option maxRecDepth 100000

/-- The first cells of block g hold these bytes, and may be written. -/
structure CellsB (W : World) (g : Nat) (c : List UInt8) : Prop where
  lt : g < W.heap.size
  holds : ∀ j x, c[j]? = some x → W.cell? ⟨g, j, none⟩ = some (.int .u8 (x.toNat : Int))
  free : ∀ j, j < c.length → W.frozen? ⟨g, j, none⟩ = false

theorem CellsB.kept {W W' : World} {g n : Nat} {c : List UInt8} (h : CellsB W g c) (hb : Below n W W') (hn : g < n) : CellsB W' g c :=
  ⟨Nat.lt_of_lt_of_le h.lt hb.size, fun j x hx => (hb.cell (p := ⟨g, j, none⟩) hn).trans (h.holds j x hx), fun j hj => (hb.frozen (p := ⟨g, j, none⟩) hn).trans (h.free j hj)⟩
theorem CellsB.below {W W' : World} {g : Nat} {c : List UInt8} (h : CellsB W g c) (hb : Below W.heap.size W W') : CellsB W' g c := h.kept hb h.lt
theorem cell_set_other (W : World) (g i j : Nat) (v : Value) (h : j ≠ i) : (W.setCell ⟨g, i, none⟩ v).cell? ⟨g, j, none⟩ = W.cell? ⟨g, j, none⟩ := by
  have := World.cell?_setCells_out g [v] i W ⟨g, j, none⟩ (fun _ _ => by simp; omega)
  simpa [World.setCells] using this
theorem cell_set_same (W : World) (g i : Nat) (v : Value) (h : (W.cell? ⟨g, i, none⟩).isSome = true) : (W.setCell ⟨g, i, none⟩ v).cell? ⟨g, i, none⟩ = some v := by
  have := World.cell?_setCells_in g [v] i W (fun j hj => by
    obtain rfl : j = 0 := by simpa using hj
    simpa using h) 0 (by simp)
  simpa [World.setCells] using this
theorem frozen_set (W : World) (g i : Nat) (v : Value) (x : Addr) : (W.setCell ⟨g, i, none⟩ v).frozen? x = W.frozen? x := by
  exact World.frozen?_setCells g [v] i W x
theorem CellsB.set {W : World} {g : Nat} {c : List UInt8} (h : CellsB W g c) (i : Nat) (b : UInt8) (hi : i < c.length) : CellsB (W.setCell ⟨g, i, none⟩ (.int .u8 (b.toNat : Int))) g (c.set i b) := by
  refine ⟨by simp only [World.setCell, Array.size_modify]; exact h.lt, fun j x hx => ?_, fun j hj => ?_⟩
  · rw [List.getElem?_set] at hx
    by_cases hij : i = j
    · subst hij
      rw [if_pos rfl, if_pos hi] at hx
      injection hx with hx
      subst hx
      exact cell_set_same W g i _ (by rw [h.holds i c[i] (List.getElem?_eq_getElem hi)]; rfl)
    · rw [if_neg hij] at hx
      rw [cell_set_other W g i j _ (by omega)]
      exact h.holds j x hx
  · rw [frozen_set]
    exact h.free j (by rwa [List.length_set] at hj)

/-- A deed that is right, at so many bytes. -/
theorem deed_right {n : Nat} {d : Deed} (h : chkDeed n d = 0) : 0 ≤ d.pos ∧ 0 ≤ d.val ∧ d.val ≤ 255 ∧ d.start + d.many ≤ n ∧ ((d.kind = 1 ∧ d.start = d.pos.toNat ∧ d.many = 1) ∨ (d.kind = 2 ∧ d.val = 0 ∧ d.start = d.pos.toNat * 128 ∧ d.many = 128)) := by
  rcases chkDeed_cases n d with ⟨e, _⟩ | ⟨hk, key⟩ | ⟨hk, key⟩
  · rw [e] at h; cases h
  · unfold Deed.start Deed.many
    rw [if_neg (by omega), if_neg (by omega)]
    rcases key with ⟨e, _⟩ | ⟨e, _⟩ | ⟨e, _⟩ | ⟨e, _⟩ | ⟨e, h1, h2, h3, h4⟩
    all_goals first | (rw [e] at h; cases h; done) | exact ⟨h1, h3, h4, by omega, .inl ⟨hk, rfl, rfl⟩⟩
  · unfold Deed.start Deed.many
    rw [if_pos hk, if_pos hk]
    rcases key with ⟨e, _⟩ | ⟨e, _⟩ | ⟨e, _⟩ | ⟨e, _⟩ | ⟨e, h1, h2, h3⟩
    all_goals first | (rw [e] at h; cases h; done) | exact ⟨h1, by omega, by omega, by omega, .inr ⟨hk, h3, rfl, rfl⟩⟩

set_option maxHeartbeats 1000000 in
theorem reach_any (g n cap : Nat) (d : Deed) (w : World) (hn : n ≤ 4096) (hc : n ≤ cap) (hm : cap ≤ 9223372036854775807) (h0 : chkDeed n d = 0) :
    Calls Try.prog 55 #[.slice (some ⟨g, 0, none⟩) n cap, d.value] w fun e w' => e = .returned (.slice (some ⟨g, d.start, none⟩) d.many (cap - d.start)) ∧ Below w.heap.size w w' := by
  obtain ⟨p0, v0, v1, hle, key⟩ := deed_right h0
  clear h0
  generalize d.start = st at *
  generalize d.many = mn at *
  obtain ⟨kd, ps, vl⟩ := d
  unfold Deed.value
  dsimp only at *
  obtain ⟨p, rfl⟩ : ∃ p : Nat, ps = p := ⟨ps.toNat, by omega⟩
  rw [Int.toNat_natCast] at key
  rcases key with ⟨rfl, rfl, rfl⟩ | ⟨rfl, rfl, rfl, rfl⟩
  · go_enter Try.func55, Try.ntmps55
    have hne : ¬ (cap = st) := by omega
    go_wp2
    go_ret
    refine ⟨?_, (Below.refl _ _).alloc (Nat.le_refl _) _⟩
    first | rfl | simp | trace_state
  · have e1 : IntKind.i64.wrap ((p : Int) * 128) = ((p * 128 : Nat) : Int) := by rw [i64_is]; unfold wrap64; omega
    generalize p * 128 = q at *
    have hne : ¬ (cap = q) := by omega
    go_enter Try.func55, Try.ntmps55
    go_wp2
    go_ret
    refine ⟨?_, (Below.refl _ _).alloc (Nat.le_refl _) _⟩
    first | rfl | simp | trace_state

set_option maxHeartbeats 1000000 in
theorem becomes_any (n : Nat) (d : Deed) (b : UInt8) (w : World) (h0 : chkDeed n d = 0) :
    Calls Try.prog 56 #[d.value, .int .u8 (b.toNat : Int)] w fun e w' => e = .returned (.int .u8 ((d.bec b).toNat : Int)) ∧ Below w.heap.size w w' := by
  obtain ⟨p0, v0, v1, hle, key⟩ := deed_right h0
  have HE : Hid (d.kind ≠ 2 → (bits .and .u8 (b.toNat : Int) d.val) = ((d.bec b).toNat : Int)) := by
    intro hk
    unfold Deed.bec
    rw [if_neg hk, ← bits_and_u8]
    congr 1
    have : (UInt8.ofNat d.val.toNat).toNat = d.val.toNat := by
      rw [UInt8.toNat_ofNat']; exact Nat.mod_eq_of_lt (by omega)
    omega
  have HT : Hid (d.kind = 2 → (255 : Int) = ((d.bec b).toNat : Int)) := by
    intro hk
    unfold Deed.bec
    rw [if_pos hk]; rfl
  clear h0 hle
  generalize d.bec b = r at *
  obtain ⟨kd, ps, vl⟩ := d
  unfold Deed.value
  dsimp only at *
  rcases key with ⟨rfl, _⟩ | ⟨rfl, rfl, _⟩
  · go_enter Try.func56, Try.ntmps56
    go_wp2
    go_ret
    refine ⟨?_, (Below.refl _ _).alloc (Nat.le_refl _) _⟩
    rw [← HE.out (by first | decide | trivial)]
    first | rfl | (congr 2; done) | trace_state
  · go_enter Try.func56, Try.ntmps56
    go_wp2
    go_ret
    refine ⟨?_, (Below.refl _ _).alloc (Nat.le_refl _) _⟩
    rw [← HT.out (by first | rfl | trivial)]
    rfl

end Go.Proofs.Ytnomapbiklfciaf
