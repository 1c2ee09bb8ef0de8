/- The contracts of the document's GetOf and BytesOf. -/
import Derived.Test.YtaklbnabgcglhaaRefA
import Derived.WalkSpells
namespace Go.Proofs.Ytaklbnabgcglhaa
open Go.RowKit Go.PlainAid

theorem power8 (j : Nat) (hj : j ≤ 4) (w : World) : Calls Try.prog 35 #[.int .i64 (8 * (j : Int))] w fun e w' => e = .returned (.int .i64 (256 ^ j)) ∧ w' = w := by
  have := power_any (8 * j) (by omega) w
  rwa [pow_256, show ((8 * j : Nat) : Int) = 8 * (j : Int) from by omega] at this

theorem pow256_le (j : Nat) (h : j ≤ 4) : (1 : Int) ≤ 256 ^ j ∧ (256 : Int) ^ j ≤ 4294967296 := by
  have : j = 0 ∨ j = 1 ∨ j = 2 ∨ j = 3 ∨ j = 4 := by omega
  rcases this with rfl | rfl | rfl | rfl | rfl <;> decide

set_option maxHeartbeats 1000000 in
theorem getOf_any (s : ByteArray) (a m : Nat) (w : World) (hs : s.size ≤ 140737488351232) (hm : m ≤ 4) (ha : a + m ≤ s.size) :
    Calls Try.prog 13 #[.string s, .int .i64 a, .int .i64 m] w fun e w' => e = .returned (.int .i64 (getN s a m)) ∧ ∃ q, w' = w.drewN q := by
  go_enter Try.func13, Try.ntmps13
  go_wp2
  go_loopw [7, 8] (fun n i wr => ∃ (j : Nat) (N : Int), j ≤ m ∧ i = .int .i64 j ∧ n = .int .i64 N ∧ Hid (N = getN s a j) ∧ Hid (∃ q, wr = w.drewN q)) (fun _ i _ => m - (intOf i).toNat)
  case atStart => exact ⟨0, 0, Nat.zero_le _, rfl, rfl, by show (0 : Int) = getN s a 0; rfl, (⟨0, rfl⟩ : ∃ q, w = w.drewN q)⟩
  case round =>
    obtain ⟨j, N, hj, rfl, rfl, HN, HQ⟩ := hrel
    by_cases hlt : j < m
    · obtain ⟨n1, n2⟩ := getN_bd s a j
      obtain ⟨p1, p2⟩ := pow256_le j (by omega)
      have p3 : (256 : Int) ^ j ≤ 16777216 := by
        have : j = 0 ∨ j = 1 ∨ j = 2 ∨ j = 3 := by omega
        rcases this with rfl | rfl | rfl | rfl <;> decide
      have b0 := bt_nonneg s (a + j)
      have b1 := bt_le s (a + j)
      have HP : Hid (∀ w, Calls Try.prog 35 #[.int .i64 (8 * (j : Int))] w fun e w' => e = .returned (.int .i64 (256 ^ j)) ∧ w' = w) := fun w => power8 j (by omega) w
      have HG : Hid (getN s a (j + 1) = N + bt s (a + j) * 256 ^ j) := by show getN s a (j + 1) = _; rw [HN.out]; rfl
      rw [← HN.out] at n1 n2
      have m1 : bt s (a + j) * 256 ^ j ≤ 255 * 256 ^ j := Int.mul_le_mul_of_nonneg_right b1 (by omega)
      have m0 : 0 ≤ bt s (a + j) * 256 ^ j := Int.mul_nonneg b0 (by omega)
      generalize (256 : Int) ^ j = P at *
      have w1 : wrap64 (bt s (a + j)) = bt s (a + j) := by unfold wrap64; omega
      have w2 : wrap64 (bt s (a + j) * P) = bt s (a + j) * P := by unfold wrap64; omega
      have w3 : wrap64 (N + bt s (a + j) * P) = N + bt s (a + j) * P := by unfold wrap64; omega
      have i0 : IntKind.i64.wrap ((a : Int) + j) = (a : Int) + j := by rw [i64_is]; unfold wrap64; omega
      have i1 : IntKind.i64.wrap (bt s (a + j)) = bt s (a + j) := by rw [i64_is]; exact w1
      have i2 : IntKind.i64.wrap (bt s (a + j) * P) = bt s (a + j) * P := by rw [i64_is]; exact w2
      have i3 : IntKind.i64.wrap (N + bt s (a + j) * P) = N + bt s (a + j) * P := by rw [i64_is]; exact w3
      have i4 : IntKind.i64.wrap (8 * (j : Int)) = 8 * (j : Int) := by rw [i64_is]; unfold wrap64; omega
      have hbs := get_bt s
      have hx0 : (a : Int) + j < s.size := by omega
      have hx00 : 0 ≤ (a : Int) + j := by omega
      have htn : ((a : Int) + j).toNat = a + j := by omega
      have hx1 : a + j < s.size := by omega
      clear m1 m0 n1 n2 p1 p2 p3
      go_wp2
      go_quiet ((go_at_call 35; go_must (refine Calls.quiet_of_same (HP.out _))))
      go_wp2
      obtain ⟨q, hq⟩ := HQ.out
      exact ⟨⟨j + 1, N + bt s (a + j) * P, by omega, by go_num, rfl, HG.out.symm, (⟨q + _, by rw [hq, World.drewN_drewN]⟩ : ∃ q, _ = w.drewN q)⟩, by simp [intOf]; omega⟩
    · obtain rfl : j = m := by omega
      go_wp2
      go_ret
      exact ⟨by rw [← HN.out]; rfl, HQ.out⟩

/-- The bytes of a number, the lesser ones first. -/
def bytesN (n : Int) (m : Nat) : ByteArray := ⟨((List.range m).map (byteOf n)).toArray⟩

theorem bytesN_size (n : Int) (m : Nat) : (bytesN n m).size = m := by
  show ((List.range m).map (byteOf n)).toArray.size = m
  simp
theorem byteOf_div (n : Int) (j : Nat) : byteOf (n / 256 ^ j) 0 = byteOf n j := by unfold byteOf; rw [Int.pow_zero, Int.ediv_one]
theorem bytesN_succ (n : Int) (j : Nat) : bytesN n j ++ (⟨#[byteOf (n / 256 ^ j) 0]⟩ : ByteArray) = bytesN n (j + 1) := by
  unfold bytesN
  rw [List.range_succ, List.map_append, byteOf_div, ByteArray.mk_append_mk]
  simp

theorem conv1 (W : World) (X : Int) : Sem.run Try.prog (convert 58 9 (.slice (some ⟨W.heap.size, 0, none⟩) 1 1)) (W.alloc (.cells #[.int .u8 (X % 256)] 5)) = .ok (.string ⟨#[byteOf X 0]⟩) (W.alloc (.cells #[.int .u8 (X % 256)] 5)) := by
  have h := run_convert_bytes_back (P := Try.prog) (W.alloc (.cells #[.int .u8 (X % 256)] 5)) 58 9 5 ⟨W.heap.size, 0, none⟩ 1 [byteOf X 0] Try.underlying58 Try.underlying5 Try.underlying9
    (fun j hj => by
      obtain rfl : j = 0 := by simpa using hj
      have e := byteOf_toNat X 0
      simp only [Int.pow_zero, Int.ediv_one] at e
      rw [List.getElem_cons_zero, e]
      simp [Addr.add])
  exact h

set_option maxHeartbeats 1000000 in
theorem bytesOf_any (n : Int) (m : Nat) (w : World) (hm : m ≤ 4) :
    Calls Try.prog 14 #[.int .i64 n, .int .i64 m] w fun e w' => e = .returned (.string (bytesN n m)) ∧ Below w.heap.size w w' := by
  obtain ⟨p1, p2⟩ := pow256_le m hm
  have HP : Hid (∀ w, Calls Try.prog 35 #[.int .i64 (8 * (m : Int))] w fun e w' => e = .returned (.int .i64 (256 ^ m)) ∧ w' = w) := fun w => power8 m hm w
  have HM : Hid (∀ w, Calls Try.prog 36 #[.int .i64 n, .int .i64 (256 ^ m)] w fun e w' => e = .returned (.int .i64 (n % 256 ^ m)) ∧ w' = w) := fun w => modulo_any n _ (by omega) p2 w
  have n0 := Int.emod_nonneg n (b := 256 ^ m) (by omega)
  have n1 := Int.emod_lt_of_pos n (b := 256 ^ m) (by omega)
  have HB : Hid (∀ j, j < m → byteOf (n % 256 ^ m) j = byteOf n j) := by
    intro j hj
    unfold byteOf
    rw [(same_bytes n m j (by omega) hm hj).1]
  have HBN : Hid (bytesN (n % 256 ^ m) m = bytesN n m) := by
    show bytesN (n % 256 ^ m) m = bytesN n m
    unfold bytesN
    rw [List.map_congr_left (fun j hj => HB.out j (List.mem_range.1 hj))]
  rw [← HBN.out]
  clear HB HBN
  generalize n % 256 ^ m = N at *
  generalize (256 : Int) ^ m = P at *
  go_enter Try.func14, Try.ntmps14
  go_wp2_with (first
    | (go_at_call 35; refine (HP.out _).mono ?_; rintro e w ⟨rfl, rfl⟩)
    | (go_at_call 36; refine (HM.out _).mono ?_; rintro e w ⟨rfl, rfl⟩))
  go_loopw [0, 5, 6] (fun x s i wr => ∃ (j : Nat) (X : Int) (S : ByteArray), j ≤ m ∧ i = .int .i64 j ∧ x = .int .i64 X ∧ s = .string S ∧ 0 ≤ X ∧ X ≤ 4294967296 ∧ S.size = j ∧ Hid (X = N / 256 ^ j) ∧ Hid (S = bytesN N j) ∧ Below w.heap.size w wr) (fun _ _ i _ => m - (intOf i).toNat)
  case atStart => exact ⟨0, N, ⟨#[]⟩, Nat.zero_le _, rfl, rfl, rfl, n0, by omega, rfl, by show N = N / 256 ^ 0; simp, rfl, Below.refl _ _⟩
  case round =>
    obtain ⟨j, X, S, hj, rfl, rfl, rfl, x0, x1, hsz, HX, HS, B⟩ := hrel
    by_cases hlt : j < m
    · have HSZ : Hid (S.size = j) := hsz
      clear hsz
      obtain ⟨E, HE⟩ : ∃ E : ByteArray, Hid (E = ⟨#[byteOf X 0]⟩) := ⟨_, rfl⟩
      have hcv := conv1 wr X
      rw [← HE.out] at hcv
      have hE : E.size ≤ 1 := by rw [HE.out]; exact Nat.le_refl _
      have hS : S.size ≤ 4 := by rw [HSZ.out]; omega
      have hadd : ∀ W, Sem.run Try.prog (Op.stringOp .add S E) W = .ok (.string (S ++ E)) W := fun W => run_string_add_sum W S E (by omega)
      have HS2 : Hid (S ++ E = bytesN N (j + 1)) := by
        show S ++ E = bytesN N (j + 1)
        rw [HS.out, HE.out, HX.out, bytesN_succ]
      have HX2 : Hid (X / 256 = N / 256 ^ (j + 1)) := by
        show X / 256 = N / 256 ^ (j + 1)
        rw [HX.out]
        have : j = 0 ∨ j = 1 ∨ j = 2 ∨ j = 3 := by omega
        rcases this with rfl | rfl | rfl | rfl <;> omega
      have HZ2 : Hid ((S ++ E).size = j + 1) := by
        show (S ++ E).size = j + 1
        rw [HS2.out, bytesN_size]
      go_wp2
      exact ⟨⟨j + 1, X / 256, S ++ E, by omega, by go_num, rfl, rfl, by omega, by omega, HZ2.out, HX2.out, HS2.out, B.alloc B.size _⟩, by simp [intOf]; omega⟩
    · obtain rfl : j = m := by omega
      go_wp2
      go_ret
      exact ⟨by rw [← HS.out]; rfl, B⟩

end Go.Proofs.Ytaklbnabgcglhaa
