/- Sorted names in memory. -/
import Derived.Test.YtnomapbiklfciafGrK
import Derived.Test.YtnomapbiklfciafOwnA
import Derived.Test.YtnomapbiklfciafOrdM
import Derived.Sort.KeysCollected
namespace Go.Proofs.Ytnomapbiklfciaf
open Go.RowKit Go.PlainAid Go.Maps

set_option maxRecDepth 100000

def strCell (x : ByteArray) (_ : Nat) : Value := .string x
def strC (x : ByteArray) : List Value := [.string x]
theorem strC_at (x : ByteArray) (i : Nat) (hi : i < 1) : (strC x)[i]? = some (strCell x i) := by
  obtain rfl : i = 0 := by omega
  rfl
theorem flat_str : ∀ l : List (List UInt8), l.map encStr = (l.map fun x => (⟨x.toArray⟩ : ByteArray)).flatMap strC
  | [] => rfl
  | x :: l => by rw [List.map_cons, List.map_cons, List.flatMap_cons, ← flat_str l]; rfl

theorem merge_rising {ss : List (List UInt8)} (hn : ss.Nodup) : Rising ((ss.mergeSort leB).map fun x => (⟨x.toArray⟩ : ByteArray)) := by
  have tr : ∀ a b c : List UInt8, leB a b = true → leB b c = true → leB a c = true := fun a b c h1 h2 => by simp only [leB, decide_eq_true_eq] at *; exact List.le_trans h1 h2
  have to : ∀ a b : List UInt8, (leB a b || leB b a) = true := fun a b => by simp only [leB, Bool.or_eq_true, decide_eq_true_eq]; exact List.le_total a b
  have h1 := List.pairwise_mergeSort tr to ss
  have h2 : (ss.mergeSort leB).Nodup := (List.mergeSort_perm ss leB).nodup_iff.2 hn
  refine List.pairwise_map.2 ((h1.and h2).imp fun {a b} ⟨h3, h4⟩ => ?_)
  show a < b
  simp only [leB, decide_eq_true_eq] at h3
  exact Classical.byContradiction fun h5 => h4 (List.le_antisymm h3 (List.not_lt.1 h5))

theorem sorted_names {W W0 : World} {base b nn : Nat} {v : Value} {ss : List (List UInt8)} {D : DataW Unit} {R : Value → Option (DataW Unit × List MemPlace)} {names : List ByteArray} (hown : W0.ownsMap Try.prog 9 R b nn D) (hD : HasNames D names) (hn : names.Nodup) (hl : names.length ≤ 255)
    (hp : ss.Perm (strKeys D)) (hr : W.ownsRow base 9 1 v ss.length ((ss.mergeSort (fun x y => decide (x ≤ y))).map encStr)) : ∃ rs : List ByteArray, RowOf 1 strCell W.heap.size W v rs ∧ Rising rs ∧ ∀ x, x ∈ rs ↔ x ∈ names := by
  have hC : Collected D (fun _ => false) (names.map fun x => x.data.toList) := by
    refine ⟨?_, fun x => ?_⟩
    · exact List.pairwise_map.2 (hn.imp fun h e => h (bytes_ext e))
    · have h1 := hD ⟨x.toArray⟩
      have h2 : (⟨x.toArray⟩ : ByteArray).data.toList = x := by simp
      rw [h2] at h1
      rw [h1, any_mem]
      constructor
      · intro h
        obtain ⟨y, hy, rfl⟩ := List.mem_map.1 h
        exact ⟨by simpa using hy, rfl⟩
      · rintro ⟨h, _⟩
        exact List.mem_map.2 ⟨_, h, h2⟩
  have hq := hC.perm hown lawS Try.underlying9 (fun _ => rfl)
  have hsn : ss.Nodup := (hp.trans hq.symm).nodup_iff.2 hC.1
  have hmem : ∀ x, x ∈ ss ↔ x ∈ names.map fun x => x.data.toList := fun x => (hp.trans hq.symm).mem_iff
  have hlen : ss.length = names.length := by rw [(hp.trans hq.symm).length_eq, List.length_map]
  refine ⟨(ss.mergeSort leB).map fun x => (⟨x.toArray⟩ : ByteArray), ?_, merge_rising hsn, fun x => ?_⟩
  · have e1 : ss.length = ((ss.mergeSort leB).map fun x => (⟨x.toArray⟩ : ByteArray)).length := by rw [List.length_map, List.length_mergeSort]
    rw [flat_str] at hr
    have hr2 : W.ownsRow base 9 1 v ((ss.mergeSort leB).map fun x => (⟨x.toArray⟩ : ByteArray)).length (((ss.mergeSort leB).map fun x => (⟨x.toArray⟩ : ByteArray)).flatMap strC) := by rw [← e1]; exact hr
    exact own_rows (C := strC) (cells := strCell) (sz := 1) (fun _ => rfl) strC_at hr2 (by rw [← e1, hlen]; omega)
  · constructor
    · intro h
      obtain ⟨y, hy, rfl⟩ := List.mem_map.1 h
      have := (hmem y).1 ((List.mergeSort_perm ss leB).mem_iff.1 hy)
      obtain ⟨z, hz, rfl⟩ := List.mem_map.1 this
      simpa using hz
    · intro h
      refine List.mem_map.2 ⟨x.data.toList, ?_, by simp⟩
      exact (List.mergeSort_perm ss leB).mem_iff.2 ((hmem _).2 (List.mem_map_of_mem h))

end Go.Proofs.Ytnomapbiklfciaf
