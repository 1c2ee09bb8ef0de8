/- The statements' has, which leaves all as it was. -/
import Derived.Test.YtaklbnabgcglhacGrC0
namespace Go.Proofs.Ytaklbnabgcglhac
open Go.RowKit Go.PlainAid

set_option maxRecDepth 100000

set_option maxHeartbeats 1000000 in
theorem has_same (l : List ByteArray) (v : Value) (s : ByteArray) (w : World) (h1 : RowOf 1 strCell w.heap.size w v l) :
    Calls Try.prog 12 #[v, .string s] w fun e w' => e = .returned (.bool (l.any fun y => y == s)) ∧ w' = w := by
  obtain ⟨a, cap, rfl, hz, h1⟩ := h1
  have HC0 : Hid ((l.any fun y => y == s) = ((l.drop 0).any fun y => y == s)) := (rfl : _ = _)
  generalize (l.any fun y => y == s) = R at *
  go_enter Try.func12, Try.ntmps12
  go_wp2
  go_loopw [5] (fun i wr => ∃ (k : Nat), k ≤ l.length ∧ i = .int .i64 k ∧ Hid (R = ((l.drop k).any fun y => y == s)) ∧ Hid (wr = w)) (fun i _ => l.length - (intOf i).toNat)
  case atStart => exact ⟨0, Nat.zero_le _, rfl, HC0.out, (rfl : w = w)⟩
  case round =>
    obtain ⟨k, hk, rfl, HC, HW⟩ := hrel
    clear HC0
    by_cases hlt : k < l.length
    · obtain ⟨p, hp⟩ : ∃ p, l[k]? = some p := ⟨_, List.getElem?_eq_getElem hlt⟩
      rcases h1 with h | ⟨b, off, rfl, hbn, hc⟩
      · subst h; simp at hlt
      have c0 := hc k _ hp 0 (by omega)
      rw [← HW.out] at c0
      dsimp only [strCell] at c0
      rw [Nat.add_zero, Nat.mul_one] at c0
      have HR : Hid (R = ((p.toList == s.toList) || (l.drop (k + 1)).any fun y => y == s)) := by
        show R = _
        rw [HC.out, drop_at hp, List.any_cons, ← toList_beq2]
      clear hc hp HC
      cases ht : (p.toList == s.toList)
      · rw [ht] at HR
        have HR2 : Hid (R = (l.drop (k + 1)).any fun y => y == s) := by
          show R = _
          rw [HR.out, Bool.false_or]
        clear HR
        go_wp2
        exact ⟨⟨k + 1, by omega, by go_num, HR2.out, HW.out⟩, by simp [intOf]; omega⟩
      · rw [ht] at HR
        have HR2 : Hid (R = true) := by
          show R = _
          rw [HR.out, Bool.true_or]
        clear HR
        go_wp2
        go_ret
        exact ⟨by rw [HR2.out]; rfl, HW.out⟩
    · have HR2 : Hid (R = false) := by
        show _ = _
        rw [HC.out, List.drop_of_length_le (by omega)]; rfl
      go_wp2
      go_ret
      exact ⟨by rw [HR2.out]; rfl, HW.out⟩
theorem has_any (l : List ByteArray) (v : Value) (s : ByteArray) (w : World) (h1 : RowOf 1 strCell w.heap.size w v l) :
    Calls Try.prog 12 #[v, .string s] w fun e w' => e = .returned (.bool (l.any fun y => y == s)) ∧ Below w.heap.size w w' :=
  (has_same l v s w h1).mono fun _ _ ⟨he, hw⟩ => ⟨he, by rw [hw]; exact Below.refl _ _⟩

end Go.Proofs.Ytaklbnabgcglhac
