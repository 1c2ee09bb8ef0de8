/- The contract of package flash's cells.flash. -/
import Derived.Test.YtnomapbiklfciafFlC
import Derived.Lib.SlBytesRow
namespace Go.Proofs.Ytnomapbiklfciaf
open Go.RowKit Go.PlainAid

set_option maxRecDepth 100000

theorem infoStrF : (Try.prog.info? 9).map (fun i => (i.zero, i.size, i.bytes)) = some (some (.string ⟨#[]⟩), 1, 16) := by kernel_rfl
theorem infoStrF_parts : ∃ i, Try.prog.info? 9 = some i ∧ i.zero = some (.string ⟨#[]⟩) ∧ i.size = 1 ∧ i.bytes = 16 := by
  have h := infoStrF
  cases hi : Try.prog.info? 9 with
  | none => rw [hi] at h; cases h
  | some i =>
    rw [hi] at h
    simp at h
    exact ⟨i, rfl, h.1, h.2.1, h.2.2⟩
theorem made_str (n : Nat) : (madeCells (Value.string ⟨#[]⟩).cells (n * 1)).toList = List.replicate n (.string ⟨#[]⟩) := by
  apply List.ext_getElem?
  intro i
  simp only [madeCells, Value.cells, List.getElem?_replicate]
  by_cases h : i < n
  · simp [h, Nat.mod_one]
  · simp [h]
theorem own_frozen {W : World} {base g n cap : Nat} {e : TypeId} {xs : List Value} (h : W.ownsRow base e 1 (.slice (some ⟨g, 0, none⟩) n cap) n xs) (j : Nat) : W.frozen? ⟨g, j, none⟩ = false := by
  rcases h.2 with ⟨e, _⟩ | ⟨g', cap', cur, e, _, hb, _⟩
  · cases e
  · injection e with e _ _
    injection e with e
    injection e with e
    subst e
    exact CellsAt.frozen (cs := cur) hb j
theorem own_cell {W : World} {base g n cap : Nat} {e : TypeId} {xs : List Value} (h : W.ownsRow base e 1 (.slice (some ⟨g, 0, none⟩) n cap) n xs) (j : Nat) (u : Value) (hu : xs[j]? = some u) : W.cell? ⟨g, j, none⟩ = some u := by
  have := h.cells (g := g) rfl j u hu
  have hadd : (⟨g, 0, none⟩ : Addr).add j = ⟨g, j, none⟩ := by unfold Addr.add; split <;> simp_all
  rwa [hadd] at this

/-- Rows that are filled from the front. -/
def filled (n k : Nat) (l : List ByteArray) : List Value := (l.take k).map Value.string ++ List.replicate (n - k) (.string ⟨#[]⟩)
theorem filled_next (n k : Nat) (l : List ByteArray) (x : ByteArray) (hk : k < n) (hx : l[k]? = some x) : (filled n k l).set k (.string x) = filled n (k + 1) l := by
  have hl := (List.getElem?_eq_some_iff.1 hx).1
  have e1 : (l.take (k + 1)).map Value.string = (l.take k).map Value.string ++ [.string x] := by
    rw [List.take_add_one, hx]; simp
  unfold filled
  rw [e1, List.set_append_right _ _ (by simp; omega)]
  have e2 : k - ((l.take k).map Value.string).length = 0 := by simp; omega
  rw [e2, show n - k = (n - (k + 1)) + 1 by omega, List.replicate_succ, List.set_cons_zero, List.append_assoc]
  rfl
theorem filled_all (n : Nat) (l : List ByteArray) (h : l.length = n) : filled n n l = l.flatMap strC := by
  unfold filled
  rw [Nat.sub_self, List.take_of_length_le (by omega), List.replicate_zero, List.append_nil]
  clear h
  induction l with
  | nil => rfl
  | cons x l ih => rw [List.map_cons, List.flatMap_cons, ih]; rfl

theorem blockAt_size {c : List UInt8} {i : Nat} (h : (i + 1) * 128 ≤ c.length) : ((c.drop (i * 128)).take 128).length = 128 := by
  rw [List.length_take, List.length_drop]; omega
theorem convBlock {W : World} {g : Nat} {c : List UInt8} (h : CellsB W g c) (i cap : Nat) (hi : (i + 1) * 128 ≤ c.length) :
    (convert 58 9 (.slice (some ⟨g, i * 128, none⟩) 128 cap)).run Try.prog W = .ok (.string (blockAt c i)) W := by
  have hl := blockAt_size hi
  have := run_convert_bytes_back (P := Try.prog) W 58 9 5 ⟨g, i * 128, none⟩ cap ((c.drop (i * 128)).take 128) Try.underlying58 Try.underlying5 Try.underlying9 (fun j hj => by
    have hadd : (⟨g, i * 128, none⟩ : Addr).add j = ⟨g, i * 128 + j, none⟩ := by unfold Addr.add; split <;> simp_all
    rw [hadd]
    apply h.holds
    rw [hl] at hj
    have : ((c.drop (i * 128)).take 128)[j]? = some ((c.drop (i * 128)).take 128)[j] := List.getElem?_eq_getElem _
    rw [List.getElem?_take_of_lt hj, List.getElem?_drop] at this
    exact this)
  rw [hl] at this
  exact this

set_option maxHeartbeats 4000000 in
theorem flashOf_any (g cap : Nat) (c : List UInt8) (w : World) (hC : CellsB w g c) (hl : c.length ≤ 4096) (hc : c.length ≤ cap) (hm : cap ≤ 9223372036854775807) :
    Calls Try.prog 31 #[.slice (some ⟨g, 0, none⟩) c.length cap] w fun e w' => (∃ v, e = .returned (.agg #[v]) ∧ w'.ownsRow w.heap.size 9 1 v (blocksM c).length ((blocksM c).flatMap strC)) ∧ Below w.heap.size w w' := by
  obtain ⟨i0, hi0, hz0, hz1, hz2⟩ := infoStrF_parts
  have e128 : ((c.length : Int) / 128) = ((c.length / 128 : Nat) : Int) := by omega
  have HL : Hid ((blocksM c).length = c.length / 128) := by show (blocksM c).length = _; unfold blocksM; simp
  have HX : Hid (∀ k, k < c.length / 128 → (blocksM c)[k]? = some (blockAt c k)) := fun k hk => by
    unfold blocksM
    rw [List.getElem?_map, List.getElem?_range hk]; rfl
  have HV : Hid (∀ k W cp, k < c.length / 128 → CellsB W g c → (convert 58 9 (.slice (some ⟨g, k * 128, none⟩) 128 cp)).run Try.prog W = .ok (.string (blockAt c k)) W) := fun k W cp hk h => convBlock h k cp (by omega)
  have hq : c.length / 128 * 128 ≤ c.length := Nat.div_mul_le_self _ _
  have hq2 : c.length / 128 ≤ 32 := by omega
  have hgw : g < w.heap.size := hC.lt
  have HC : Hid (CellsB w g c) := hC
  generalize blocksM c = BL at *
  generalize c.length / 128 = n at *
  clear hC
  go_enter Try.func31, Try.ntmps31
  go_wp2_with (at_make; refine wpList_make_full _ rfl _ _ _ rfl (w.heap.size + 1) 9 i0 _ 1 Try.underlying22 hi0 hz0 hz1 .i64 .i64 _ _ n rfl (by first | rfl | exact e128 ▸ rfl) (by first | rfl | exact e128 ▸ rfl) rfl (by rw [hz2]; omega) (by unfold maxLen; omega) (by simp) ?_; intro w3 hown3 hgr3)
  rw [made_str, World.size_alloc] at hown3
  have hf0 : List.replicate n (Value.string ⟨#[]⟩) = filled n 0 BL := by unfold filled; rw [List.take_zero, Nat.sub_zero]; rfl
  rw [hf0] at hown3
  have HO3 : Hid (w3.ownsRow (w.heap.size + 1) 9 1 (.slice (some ⟨w.heap.size + 1, 0, none⟩) n n) n (filled n 0 BL)) := hown3
  have HB3 : Hid (Below w.heap.size w w3) := ((Below.refl _ _).alloc (Nat.le_refl _) _).grown hgr3 (by simp) (fun k hk => by cases hk)
  have HR3 : Hid (CellsAt w3 w.heap.size 24 #[.slice none 0 0]) := (CellsAt.new w _ _).kept hgr3 (by simp)
  clear hown3 hgr3 hf0
  go_loopw [11] (fun i wr => ∃ (k : Nat), k ≤ n ∧ i = .int .i64 k ∧ Hid (wr.ownsRow (w.heap.size + 1) 9 1 (.slice (some ⟨w.heap.size + 1, 0, none⟩) n n) n (filled n k BL)) ∧ Hid (Below w.heap.size w wr) ∧ Hid (CellsAt wr w.heap.size 24 #[.slice none 0 0])) (fun i _ => n - (intOf i).toNat)
  case atStart => exact ⟨0, Nat.zero_le _, rfl, HO3, HB3, HR3⟩
  case round =>
    obtain ⟨k, hk, rfl, HO, HB, HR⟩ := hrel
    clear HO3 HB3 HR3
    by_cases hlt : k < n
    · have hcv := HV.out k wr (cap - k * 128) hlt (HC.out.kept HB.out hgw)
      have HN : Hid ((filled n k BL).set k (.string (blockAt c k)) = filled n (k + 1) BL) := filled_next n k BL _ hlt (HX.out k hlt)
      have hfx : (filled n k BL)[k]? = some (.string ⟨#[]⟩) := by
        unfold filled
        have : ((BL.take k).map Value.string).length = k := by simp; have := HL.out; omega
        rw [List.getElem?_append_right (by omega), this, Nat.sub_self, List.getElem?_replicate, if_pos (by omega)]
      have c0 := own_cell HO.out k _ hfx
      have f0 := own_frozen HO.out k
      have e1 : IntKind.i64.wrap ((k : Int) * 128) = ((k * 128 : Nat) : Int) := by rw [i64_is]; unfold wrap64; omega
      have hkq : k * 128 + 128 ≤ c.length := by omega
      have hne : ¬ (cap = k * 128) := by omega
      clear hfx
      generalize blockAt c k = x at *
      generalize k * 128 = q at *
      go_wp2
      obtain ⟨o1, g1⟩ := HO.out.stored k (.string x)
      rw [HN.out] at o1
      exact ⟨⟨k + 1, by omega, by go_num, o1, HB.out.setCell (by simp) _, HR.out.kept g1 (by simp)⟩, by simp [intOf]; omega⟩
    · obtain rfl : k = n := by omega
      have c0 := HR.out.cell 0
      have f0 := HR.out.frozen 0
      simp at c0
      go_wp2
      have hF := HR.out.set 0 (.slice (some ⟨w.heap.size + 1, 0, none⟩) k k)
      simp only [List.setIfInBounds_toArray, List.set_cons_zero] at hF
      refine bodyPost_ret (results_cell_row rfl _ _ _ _ _ _ _ rfl hF Try.underlying24 rfl (by kernel_rfl)) rfl ?_
      have ho := HO.out.kept (grown_set wr w.heap.size 0 (.slice (some ⟨w.heap.size + 1, 0, none⟩) k k)) (.inr (by simp [Value.ownBlock]))
      rw [filled_all k BL HL.out] at ho
      refine ⟨⟨_, rfl, ?_⟩, HB.out.setCell (Nat.le_refl _) _⟩
      rw [HL.out]
      exact ⟨ho.1, ho.2.imp id (fun ⟨g, cap, cur, h1, h2, h3⟩ => ⟨g, cap, cur, h1, by omega, h3⟩)⟩

end Go.Proofs.Ytnomapbiklfciaf
