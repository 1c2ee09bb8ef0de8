/- The contracts of word.Get and word.Put, whatever they are handed; and of what must be in any case. -/
import Derived.Test.YtaklbnabgcglhabWordC
namespace Go.Proofs.Ytaklbnabgcglhab
open Go.RowKit Go.PlainAid

def getR (s : ByteArray) (at' bytes : Int) : Int := if wrongAt s.size at' bytes = 0 then getN s at'.toNat bytes.toNat else 0
def putR (s : ByteArray) (at' bytes n : Int) : ByteArray := if wrongAt s.size at' bytes = 0 then putS s at'.toNat bytes.toNat n else ⟨#[]⟩

theorem wrongAt_zero {len at' bytes : Int} (h : wrongAt len at' bytes = 0) : 1 ≤ bytes ∧ bytes ≤ 4 ∧ 0 ≤ at' ∧ at' + bytes ≤ len := by
  unfold wrongAt at h
  split at h
  · omega
  · split at h
    · omega
    · omega

set_option maxHeartbeats 400000 in
theorem get_any (s : ByteArray) (at' bytes : Int) (w : World) (hs : s.size ≤ 140737488351232) :
    Calls Try.prog 13 #[.string s, .int .i64 at', .int .i64 bytes] w fun e w' =>
      e = .returned (.tuple #[.int .i64 (getR s at' bytes), .int .i64 (wrongAt s.size at' bytes)]) ∧ Below w.heap.size w w' := by
  by_cases h : wrongAt s.size at' bytes = 0
  · obtain ⟨h1, h2, h3, h4⟩ := wrongAt_zero h
    rw [getR, if_pos h, h]
    obtain ⟨a, rfl⟩ := Int.eq_ofNat_of_zero_le h3
    obtain ⟨b, rfl⟩ := Int.eq_ofNat_of_zero_le (show 0 ≤ bytes by omega)
    exact callsIn_wide.1 (get_ok_in s a b w hs (by omega) (by omega) (by omega))
  · rw [getR, if_neg h]
    have hb : (wrongAt s.size at' bytes != 0) = true := by simpa using h
    clear h
    generalize hx : wrongAt s.size at' bytes = x at hb
    have HX : Hid (wrongAt s.size at' bytes = x) := hx
    clear hx
    go_enter Try.func13, Try.ntmps13
    go_wp2_with (go_at_call 39; refine (wrongPlace_any _ _ _ _ (by omega) (by omega)).mono ?_; rw [HX.out]; rintro e w' ⟨rfl, rfl⟩)
    go_ret2
    exact ⟨rfl, (Below.refl _ _).alloc (Nat.le_refl _) _⟩

set_option maxHeartbeats 400000 in
theorem put_any (s : ByteArray) (at' bytes n : Int) (w : World) (hs : s.size ≤ 140737488351232) :
    Calls Try.prog 37 #[.string s, .int .i64 at', .int .i64 bytes, .int .i64 n] w fun e w' =>
      e = .returned (.tuple #[.string (putR s at' bytes n), .int .i64 (wrongAt s.size at' bytes)]) ∧ Below w.heap.size w w' := by
  by_cases h : wrongAt s.size at' bytes = 0
  · obtain ⟨h1, h2, h3, h4⟩ := wrongAt_zero h
    rw [putR, if_pos h, h]
    obtain ⟨a, rfl⟩ := Int.eq_ofNat_of_zero_le h3
    obtain ⟨b, rfl⟩ := Int.eq_ofNat_of_zero_le (show 0 ≤ bytes by omega)
    exact callsIn_wide.1 (put_ok_in s a b n w hs (by omega) (by omega) (by omega))
  · rw [putR, if_neg h]
    have hb : (wrongAt s.size at' bytes != 0) = true := by simpa using h
    clear h
    generalize hx : wrongAt s.size at' bytes = x at hb
    have HX : Hid (wrongAt s.size at' bytes = x) := hx
    clear hx
    go_enter Try.func37, Try.ntmps37
    go_wp2_with (go_at_call 39; refine (wrongPlace_any _ _ _ _ (by omega) (by omega)).mono ?_; rw [HX.out]; rintro e w' ⟨rfl, rfl⟩)
    go_ret2
    exact ⟨rfl, (Below.refl _ _).alloc (Nat.le_refl _) _⟩

theorem get_begun (w : World) : Calls Try.prog 13 #[.string ⟨#[97, 98, 99]⟩, .int .i64 1, .int .i64 2] w fun e w' => e = .returned (.tuple #[.int .i64 25442, .int .i64 0]) ∧ Below w.heap.size w w' := by
  have g := get_any ⟨#[97, 98, 99]⟩ 1 2 w (by decide)
  rwa [show getR ⟨#[97, 98, 99]⟩ 1 2 = 25442 from by decide, show wrongAt (ByteArray.size ⟨#[97, 98, 99]⟩ : Nat) 1 2 = 0 from by decide] at g
theorem put_begun (w : World) : Calls Try.prog 37 #[.string ⟨#[97, 98, 99]⟩, .int .i64 1, .int .i64 2, .int .i64 (-1)] w fun e w' => e = .returned (.tuple #[.string ⟨#[97, 255, 255]⟩, .int .i64 0]) ∧ Below w.heap.size w w' := by
  have p := put_any ⟨#[97, 98, 99]⟩ 1 2 (-1) w (by decide)
  rwa [show putR ⟨#[97, 98, 99]⟩ 1 2 (-1) = ⟨#[97, 255, 255]⟩ from by decide, show wrongAt (ByteArray.size ⟨#[97, 98, 99]⟩ : Nat) 1 2 = 0 from by decide] at p
theorem signed_begun (w : World) : Calls Try.prog 14 #[.int .i64 255, .int .i64 8] w fun e w' => e = .returned (.tuple #[.int .i64 (-1), .int .i64 0]) ∧ w' = w := by
  have k := signed_any 255 8 w
  rwa [show signedN 255 8 = -1 from by decide, show signedE 255 8 = 0 from by decide] at k

set_option maxHeartbeats 400000 in
theorem wordBegun_any (w : World) : Calls Try.prog 11 #[] w fun e w' => e = .returned (.bool true) ∧ Below w.heap.size w w' := by
  go_enter Try.func11, Try.ntmps11
  go_wp2_with fail
  refine (get_begun _).mono ?_
  rintro e w1 ⟨rfl, hb1⟩
  go_wp2_with fail
  refine (put_begun _).mono ?_
  rintro e w2 ⟨rfl, hb2⟩
  go_wp2_with fail
  refine (signed_begun _).mono ?_
  rintro e w3 ⟨rfl, rfl⟩
  go_wp2
  go_ret
  exact ⟨rfl, hb1.trans (hb2.mono hb1.size)⟩

end Go.Proofs.Ytaklbnabgcglhab
