/- The walk of the law WordTells: it returns true. -/
import Derived.Test.YtaklbnabgcglhaaRefB
import Derived.Lib.QuietBelow
namespace Go.Proofs.Ytaklbnabgcglhaa.wordTells
open Go.RowKit Go.PlainAid

set_option maxHeartbeats 1000000 in
theorem good (s t E : ByteArray) (a m : Nat) (n x bits y z : Int) (w : World) (hs : s.size ≤ 140737488351232) (hm : m ≤ 4) (ha : a + m ≤ s.size) (hE : E.size ≤ 4) (hT : s.extract 0 a ++ E ++ s.extract (a + m) s.size = t)
    (G : Hid (∀ w, Calls Try.prog 9 #[.string s, .int .i64 a, .int .i64 m] w fun e w' => e = .returned (.tuple #[.int .i64 x, .int .i64 0]) ∧ Below w.heap.size w w'))
    (P : Hid (∀ w, Calls Try.prog 10 #[.string s, .int .i64 a, .int .i64 m, .int .i64 n] w fun e w' => e = .returned (.tuple #[.string t, .int .i64 0]) ∧ Below w.heap.size w w'))
    (S : Hid (∀ w, Calls Try.prog 11 #[.int .i64 n, .int .i64 bits] w fun e w' => e = .returned (.tuple #[.int .i64 y, .int .i64 z]) ∧ w' = w))
    (RC : Hid (∀ w, Calls Try.prog 12 #[.string s, .int .i64 a, .int .i64 m] w fun e w' => e = .returned (.int .i64 0) ∧ w' = w))
    (RG : Hid (∀ w, Calls Try.prog 13 #[.string s, .int .i64 a, .int .i64 m] w fun e w' => e = .returned (.int .i64 x) ∧ ∃ q, w' = w.drewN q))
    (RB : Hid (∀ w, Calls Try.prog 14 #[.int .i64 n, .int .i64 m] w fun e w' => e = .returned (.string E) ∧ Below w.heap.size w w'))
    (RS : Hid (∀ w, Calls Try.prog 15 #[.int .i64 n, .int .i64 bits] w fun e w' => e = .returned (.tuple #[.int .i64 y, .int .i64 z]) ∧ w' = w)) :
    Calls Try.prog 3 #[.string s, .int .i64 a, .int .i64 m, .int .i64 n, .int .i64 bits] w fun e w' => e = .returned (.bool true) ∧ Below w.heap.size w w' := by
  have i0 : IntKind.i64.wrap ((a : Int) + m) = (a : Int) + m := by rw [i64_is]; unfold wrap64; omega
  have f0 : (a : Int) ≤ s.size := by omega
  have f1 : (a : Int) + m ≤ s.size := by omega
  have f2 : 0 ≤ (a : Int) + m := by omega
  have c1 : ¬ (9223372036854775807 < min a s.size + E.size) := by omega
  have c2 : ¬ (9223372036854775807 < min a s.size + E.size + (s.size - (a + m))) := by omega
  have f3 : ((a : Int) + m).toNat = a + m := by omega
  go_enter Try.func3, Try.ntmps3
  go_wp2_with fail
  refine (G.out _).mono ?_
  rintro e w1 ⟨rfl, b1⟩
  go_wp2_with fail
  refine (P.out _).mono ?_
  rintro e w2 ⟨rfl, b2⟩
  go_wp2_with fail
  refine (S.out _).mono ?_
  rintro e w3 ⟨rfl, rfl⟩
  go_wp2_with fail
  refine (RC.out _).mono ?_
  rintro e w3 ⟨rfl, rfl⟩
  go_wp2_with fail
  refine (RG.out _).mono ?_
  rintro e w4 ⟨rfl, q, hq⟩
  have B : Below w.heap.size w w4 := by rw [hq]; exact below_drewN (b1.trans (b2.mono b1.size)) q
  clear hq b1 b2
  go_wp2_with fail
  refine wp_region_quiet_below (by kernel_rfl) (by kernel_rfl) ?_
  repeat (quiet_step ((go_at_call 14; go_must (exact Calls.regrown_of (RB.out _)))))
  refine wpQuiet_nil ?_
  intro _ hw'
  obtain ⟨⟨dq, osq⟩, hw''⟩ := hw'
  have B5 := B.trans ((below_regrown w4 dq osq).mono B.size)
  rw [← hw''] at B5
  clear hw'' B
  go_wp2_with fail
  refine (RS.out _).mono ?_
  rintro e w6 ⟨rfl, rfl⟩
  go_wp2_with fail
  refine (wordBegun_any _).mono ?_
  rintro e w7 ⟨rfl, b7⟩
  go_wp2
  go_ret
  exact ⟨rfl, B5.trans (b7.mono B5.size)⟩

set_option maxHeartbeats 1000000 in
theorem bad (s : ByteArray) (at' bytes n bits y z x : Int) (w : World) (hx' : (x == 0) = false)
    (G : Hid (∀ w, Calls Try.prog 9 #[.string s, .int .i64 at', .int .i64 bytes] w fun e w' => e = .returned (.tuple #[.int .i64 0, .int .i64 x]) ∧ Below w.heap.size w w'))
    (P : Hid (∀ w, Calls Try.prog 10 #[.string s, .int .i64 at', .int .i64 bytes, .int .i64 n] w fun e w' => e = .returned (.tuple #[.string ⟨#[]⟩, .int .i64 x]) ∧ Below w.heap.size w w'))
    (S : Hid (∀ w, Calls Try.prog 11 #[.int .i64 n, .int .i64 bits] w fun e w' => e = .returned (.tuple #[.int .i64 y, .int .i64 z]) ∧ w' = w))
    (RC : Hid (∀ w, Calls Try.prog 12 #[.string s, .int .i64 at', .int .i64 bytes] w fun e w' => e = .returned (.int .i64 x) ∧ w' = w))
    (RS : Hid (∀ w, Calls Try.prog 15 #[.int .i64 n, .int .i64 bits] w fun e w' => e = .returned (.tuple #[.int .i64 y, .int .i64 z]) ∧ w' = w)) :
    Calls Try.prog 3 #[.string s, .int .i64 at', .int .i64 bytes, .int .i64 n, .int .i64 bits] w fun e w' => e = .returned (.bool true) ∧ Below w.heap.size w w' := by
  go_enter Try.func3, Try.ntmps3
  go_wp2_with fail
  refine (G.out _).mono ?_
  rintro e w1 ⟨rfl, b1⟩
  go_wp2_with fail
  refine (P.out _).mono ?_
  rintro e w2 ⟨rfl, b2⟩
  go_wp2_with fail
  refine (S.out _).mono ?_
  rintro e w3 ⟨rfl, rfl⟩
  go_wp2_with fail
  refine (RC.out _).mono ?_
  rintro e w3 ⟨rfl, rfl⟩
  have B := b1.trans (b2.mono b1.size)
  go_wp2_with fail
  refine (RS.out _).mono ?_
  rintro e w6 ⟨rfl, rfl⟩
  go_wp2_with fail
  refine (wordBegun_any _).mono ?_
  rintro e w7 ⟨rfl, b7⟩
  go_wp2
  go_ret
  exact ⟨rfl, B.trans (b7.mono B.size)⟩

theorem joined (s : ByteArray) (a m : Nat) (n : Int) (h : a + m ≤ s.size) : s.extract 0 a ++ bytesN n m ++ s.extract (a + m) s.size = putS s a m n := by
  apply ByteArray.ext
  apply Array.toList_inj.1
  have e1 : (putS s a m n).data.toList = putFold s a n (List.range m) := by simp [putS]
  have hl : s.data.toList.length = s.size := by simp
  rw [e1]
  have e2 : (s.extract 0 a ++ bytesN n m ++ s.extract (a + m) s.size).data.toList = s.data.toList.take a ++ (List.range m).map (byteOf n) ++ s.data.toList.drop (a + m) := by
    simp only [ByteArray.data_append, ByteArray.data_extract, Array.toList_append, Array.toList_extract, bytesN, List.extract_eq_take_drop, List.drop_zero, Nat.sub_zero]
    rw [List.take_of_length_le (l := List.drop (a + m) s.data.toList) (by rw [List.length_drop]; omega)]
  rw [e2]
  apply List.ext_getElem?
  intro i
  rw [putFold_at s a n m i h]
  have l1 : (s.data.toList.take a).length = a := by rw [List.length_take]; omega
  by_cases c1 : i < a
  · rw [if_neg (by omega), List.append_assoc, List.getElem?_append_left (by omega), List.getElem?_take_of_lt c1]
  · rw [List.append_assoc, List.getElem?_append_right (by omega), l1]
    by_cases c2 : i < a + m
    · rw [if_pos (by omega), List.getElem?_append_left (by simp; omega)]
      have hi : i - a < m := by omega
      simp [hi]
    · rw [if_neg (by omega), List.getElem?_append_right (by simp; omega), List.getElem?_drop]
      simp
      congr 1
      omega

theorem walk (s : ByteArray) (at' bytes n bits : Int) (hs : s.size ≤ 140737488351232) (_ : (Lit.int .i64 at').wf = true) (_ : (Lit.int .i64 bytes).wf = true) (_ : (Lit.int .i64 n).wf = true) (_ : (Lit.int .i64 bits).wf = true) (w : World) :
    Calls Try.prog 3 #[.string s, .int .i64 at', .int .i64 bytes, .int .i64 n, .int .i64 bits] w fun e w' => e = .returned (.bool true) ∧ Below w.heap.size w w' := by
  by_cases h : wrongAt s.size at' bytes = 0
  · obtain ⟨h1, h2, h3, h5⟩ := wrongAt_zero h
    obtain ⟨a, rfl⟩ := Int.eq_ofNat_of_zero_le h3
    obtain ⟨m, rfl⟩ := Int.eq_ofNat_of_zero_le (show 0 ≤ bytes by omega)
    have hm1 : 1 ≤ m := by omega
    have hm4 : m ≤ 4 := by omega
    have ha : a + m ≤ s.size := by omega
    refine good s (putS s a m n) (bytesN n m) a m n (getN s a m) bits (signedN n bits) (signedE n bits) w hs hm4 ha (by rw [bytesN_size]; exact hm4) (joined s a m n ha) ?_ ?_ (fun w => signed_any n bits w) ?_ (fun w => getOf_any s a m w hs hm4 ha) (fun w => bytesOf_any n m w hm4) (fun w => signedOf_any n bits w)
    · exact fun w => callsIn_wide.1 (get_ok_in s a m w hs hm1 hm4 ha)
    · exact fun w => callsIn_wide.1 (put_ok_in s a m n w hs hm1 hm4 ha)
    · intro w
      have := checkWord_any s a m w hs
      rwa [h] at this
  · refine bad s at' bytes n bits (signedN n bits) (signedE n bits) (wrongAt s.size at' bytes) w (by simpa using h) ?_ ?_ (fun w => signed_any n bits w) (fun w => checkWord_any s at' bytes w hs) (fun w => signedOf_any n bits w)
    · intro w
      have := get_any s at' bytes w hs
      rwa [getR, if_neg h] at this
    · intro w
      have := put_any s at' bytes n w hs
      rwa [putR, if_neg h] at this

end Go.Proofs.Ytaklbnabgcglhaa.wordTells
