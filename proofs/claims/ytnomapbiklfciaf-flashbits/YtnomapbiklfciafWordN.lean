/- Plain arithmetic: what is put is there, and nothing else is other. -/
import Derived.Test.YtnomapbiklfciafWordM
namespace Go.Proofs.Ytnomapbiklfciaf
open Go.RowKit Go.PlainAid

theorem bt_list (s : ByteArray) (i : Nat) : bt s i = match s.data.toList[i]? with | some v => (v.toNat : Int) | none => 0 := by
  unfold bt
  by_cases h : i < s.size
  · rw [dif_pos h]
    have h' : i < s.data.toList.length := by simpa using h
    rw [List.getElem?_eq_getElem h']
    rfl
  · rw [dif_neg h]
    have h' : s.data.toList.length ≤ i := by simpa using h
    rw [List.getElem?_eq_none h']

theorem ba_ext {s t : ByteArray} (hl : s.size = t.size) (h : ∀ i, i < s.size → bt s i = bt t i) : s = t := by
  apply ByteArray.ext
  apply Array.ext hl
  intro i h1 h2
  have e := h i h1
  unfold bt at e
  rw [dif_pos (show i < s.size from h1), dif_pos (show i < t.size from h2)] at e
  apply UInt8.toNat_inj.1
  exact Int.ofNat_inj.1 e

theorem putFold_at (s : ByteArray) (a : Nat) (n : Int) : ∀ m i, a + m ≤ s.size → (putFold s a n (List.range m))[i]? = if a ≤ i ∧ i < a + m then some (byteOf n (i - a)) else s.data.toList[i]?
  | 0, i, _ => by rw [if_neg (by omega)]; rfl
  | m + 1, i, h => by
    have hlen := putFold_length s a n (List.range m)
    rw [List.range_succ, putFold_snoc]
    by_cases e : a + m = i
    · subst e
      rw [List.getElem?_set_self (by omega), if_pos (by omega), Nat.add_sub_cancel_left]
    · rw [List.getElem?_set_ne e, putFold_at s a n m i (by omega)]
      by_cases c : a ≤ i ∧ i < a + m
      · rw [if_pos c, if_pos (by omega)]
      · rw [if_neg c, if_neg (by omega)]

theorem bt_put (s : ByteArray) (a m : Nat) (n : Int) (i : Nat) (h : a + m ≤ s.size) : bt (putS s a m n) i = if a ≤ i ∧ i < a + m then n / 256 ^ (i - a) % 256 else bt s i := by
  rw [bt_list]
  have e : (putS s a m n).data.toList = putFold s a n (List.range m) := by simp [putS]
  rw [e, putFold_at s a n m i h]
  by_cases c : a ≤ i ∧ i < a + m
  · rw [if_pos c, if_pos c]; exact byteOf_toNat n (i - a)
  · rw [if_neg c, if_neg c, bt_list]

theorem bt_put_in (s : ByteArray) (a m : Nat) (n : Int) (j : Nat) (h : a + m ≤ s.size) (hj : j < m) : bt (putS s a m n) (a + j) = n / 256 ^ j % 256 := by
  rw [bt_put s a m n (a + j) h, if_pos (by omega), Nat.add_sub_cancel_left]
theorem bt_put_out (s : ByteArray) (a m : Nat) (n : Int) (i : Nat) (h : a + m ≤ s.size) (hi : i < a ∨ a + m ≤ i) : bt (putS s a m n) i = bt s i := by
  rw [bt_put s a m n i h, if_neg (by omega)]

theorem four {m : Nat} (h1 : 1 ≤ m) (h4 : m ≤ 4) : m = 1 ∨ m = 2 ∨ m = 3 ∨ m = 4 := by omega

theorem getN_1 (s : ByteArray) (a : Nat) : getN s a 1 = bt s a := by simp [getN]
theorem getN_2 (s : ByteArray) (a : Nat) : getN s a 2 = bt s a + bt s (a + 1) * 256 := by simp [getN]
theorem getN_3 (s : ByteArray) (a : Nat) : getN s a 3 = bt s a + bt s (a + 1) * 256 + bt s (a + 2) * 65536 := by simp [getN]
theorem getN_4 (s : ByteArray) (a : Nat) : getN s a 4 = bt s a + bt s (a + 1) * 256 + bt s (a + 2) * 65536 + bt s (a + 3) * 16777216 := by simp [getN]

/-- What is put is there. -/
theorem getN_put (s : ByteArray) (a m : Nat) (n : Int) (h : a + m ≤ s.size) (h1 : 1 ≤ m) (h4 : m ≤ 4) : getN (putS s a m n) a m = n % 256 ^ m := by
  have b0 := bt_put_in s a m n 0 h (by omega)
  simp only [Nat.add_zero, Int.pow_zero, Int.ediv_one] at b0
  rcases four h1 h4 with rfl | rfl | rfl | rfl
  · rw [getN_1, b0]; omega
  · have b1 := bt_put_in s a 2 n 1 h (by omega)
    rw [getN_2, b0, b1]; omega
  · have b1 := bt_put_in s a 3 n 1 h (by omega)
    have b2 := bt_put_in s a 3 n 2 h (by omega)
    rw [getN_3, b0, b1, b2]; omega
  · have b1 := bt_put_in s a 4 n 1 h (by omega)
    have b2 := bt_put_in s a 4 n 2 h (by omega)
    have b3 := bt_put_in s a 4 n 3 h (by omega)
    rw [getN_4, b0, b1, b2, b3]; omega

theorem getN_byte (s : ByteArray) (a m j : Nat) (h1 : 1 ≤ m) (h4 : m ≤ 4) (hj : j < m) : getN s a m / 256 ^ j % 256 = bt s (a + j) := by
  have p0 := bt_nonneg s a; have q0 := bt_le s a
  have p1 := bt_nonneg s (a + 1); have q1 := bt_le s (a + 1)
  have p2 := bt_nonneg s (a + 2); have q2 := bt_le s (a + 2)
  have p3 := bt_nonneg s (a + 3); have q3 := bt_le s (a + 3)
  have hj4 : j = 0 ∨ j = 1 ∨ j = 2 ∨ j = 3 := by omega
  rcases four h1 h4 with rfl | rfl | rfl | rfl
  · rw [getN_1]; rcases hj4 with rfl | rfl | rfl | rfl <;> first | omega | (simp only [Nat.add_zero]; omega)
  · rw [getN_2]; rcases hj4 with rfl | rfl | rfl | rfl <;> first | omega | (simp only [Nat.add_zero]; omega)
  · rw [getN_3]; rcases hj4 with rfl | rfl | rfl | rfl <;> first | omega | (simp only [Nat.add_zero]; omega)
  · rw [getN_4]; rcases hj4 with rfl | rfl | rfl | rfl <;> first | omega | (simp only [Nat.add_zero]; omega)

/-- What was there, put again over whatever was put. -/
theorem put_back (s : ByteArray) (a m : Nat) (n : Int) (h : a + m ≤ s.size) (h1 : 1 ≤ m) (h4 : m ≤ 4) : putS (putS s a m n) a m (getN s a m) = s := by
  have hz := putS_size s a m n
  have hz2 := putS_size (putS s a m n) a m (getN s a m)
  refine ba_ext (by omega) (fun i hi => ?_)
  by_cases c : a ≤ i ∧ i < a + m
  · obtain ⟨j, rfl⟩ : ∃ j, i = a + j := ⟨i - a, by omega⟩
    rw [bt_put_in _ _ _ _ _ (by omega) (by omega), getN_byte s a m j h1 h4 (by omega)]
  · rw [bt_put_out _ _ _ _ _ (by omega) (by omega), bt_put_out _ _ _ _ _ (by omega) (by omega)]

theorem put_same (s : ByteArray) (a m : Nat) (n n' : Int) (h : a + m ≤ s.size) (e : ∀ j, j < m → n / 256 ^ j % 256 = n' / 256 ^ j % 256) : putS s a m n = putS s a m n' := by
  refine ba_ext (by rw [putS_size, putS_size]) (fun i _ => ?_)
  by_cases c : a ≤ i ∧ i < a + m
  · obtain ⟨j, rfl⟩ : ∃ j, i = a + j := ⟨i - a, by omega⟩
    rw [bt_put_in _ _ _ _ _ h (by omega), bt_put_in _ _ _ _ _ h (by omega), e j (by omega)]
  · rw [bt_put_out _ _ _ _ _ h (by omega), bt_put_out _ _ _ _ _ h (by omega)]

/-- The number with a sign has the same bytes. -/
theorem same_bytes (n : Int) (m j : Nat) (h1 : 1 ≤ m) (h4 : m ≤ 4) (hj : j < m) : (n % 256 ^ m) / 256 ^ j % 256 = n / 256 ^ j % 256 ∧ (n % 256 ^ m - 256 ^ m) / 256 ^ j % 256 = n / 256 ^ j % 256 := by
  have hj4 : j = 0 ∨ j = 1 ∨ j = 2 ∨ j = 3 := by omega
  rcases four h1 h4 with rfl | rfl | rfl | rfl <;> rcases hj4 with rfl | rfl | rfl | rfl <;> first | omega | (constructor <;> omega)

end Go.Proofs.Ytnomapbiklfciaf
