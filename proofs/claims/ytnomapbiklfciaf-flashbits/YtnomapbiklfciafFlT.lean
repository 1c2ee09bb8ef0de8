/- The contracts of the document's mix, both. -/
import Derived.Test.YtnomapbiklfciafFlS
namespace Go.Proofs.Ytnomapbiklfciaf
open Go.RowKit Go.PlainAid

set_option maxRecDepth 100000

theorem wrapNat (n : Nat) (h : n ≤ 9223372036854775807) : wrap64 (n : Int) = n := by unfold wrap64; omega
theorem tmodNat (n : Nat) : ((n : Int)).tmod 2 = ((n % 2 : Nat) : Int) := by rw [Int.tmod_eq_emod_of_nonneg (by omega)]; omega

set_option maxHeartbeats 4000000 in
theorem mix_any (a b p : UInt8) (w : World) :
    Calls Try.prog 36 #[.int .u8 (a.toNat : Int), .int .u8 (b.toNat : Int), .int .u8 (p.toNat : Int)] w fun e w' => e = .returned (.int .u8 ((mixB a b p).toNat : Int)) ∧ w' = w := by
  have HP : Hid (∀ (k : Nat), k ≤ 8 → ∀ w, Calls Try.prog 51 #[.int .i64 k] w fun e w' => e = .returned (.int .i64 ((2 ^ k : Nat) : Int)) ∧ w' = w) := fun k hk w => pow2_any k hk w
  have HM : Hid (∀ i, i < 8 → (mixB a b p).toNat / 2 ^ i % 2 = if p.toNat / 2 ^ i % 2 = 1 then a.toNat / 2 ^ i % 2 else b.toNat / 2 ^ i % 2) := fun i hi => mix_bit a b p i hi
  have HL : Hid ((mixB a b p).toNat < 256) := (mixB a b p).toNat_lt
  have HQ : Hid (∀ k, k ≤ 8 → 1 ≤ 2 ^ k ∧ 2 ^ k ≤ 256) := fun k hk => ⟨Nat.two_pow_pos k, Nat.pow_le_pow_right (n := 2) (by decide) hk⟩
  have ha := a.toNat_lt
  have hb := b.toNat_lt
  have hp := p.toNat_lt
  generalize (mixB a b p).toNat = M at *
  generalize a.toNat = A at *
  generalize b.toNat = B at *
  generalize p.toNat = C at *
  go_enter Try.func36, Try.ntmps36
  go_wp2
  go_loop [7, 8] (fun o i => ∃ (j x : Nat), j ≤ 8 ∧ i = .int .i64 j ∧ o = .int .i64 x ∧ Hid (x = M % 2 ^ j)) (fun _ i => 8 - (intOf i).toNat)
  case atStart => exact ⟨0, 0, by omega, rfl, rfl, by show 0 = M % 2 ^ 0; rw [Nat.pow_zero, Nat.mod_one]⟩
  case round =>
    obtain ⟨j, x, hj, rfl, rfl, HX⟩ := hrel
    by_cases hlt : j < 8
    · have HPj := HP.out j (by omega)
      have HN : Hid (M % 2 ^ (j + 1) = M % 2 ^ j + 2 ^ j * (M / 2 ^ j % 2)) := Nat.mod_pow_succ
      have HMj : Hid (M / 2 ^ j % 2 = if C / 2 ^ j % 2 = 1 then A / 2 ^ j % 2 else B / 2 ^ j % 2) := HM.out j hlt
      obtain ⟨hq1, hq2⟩ := HQ.out j (by omega)
      have hxq : x < 2 ^ j := by rw [HX.out]; exact Nat.mod_lt _ (by omega)
      have HX1 : Hid (x = M % 2 ^ j) := HX
      have HRN : Hid (∀ y, y = M / 2 ^ j % 2 → x + y * 2 ^ j = M % 2 ^ (j + 1)) := fun y hy => by rw [HN.out, ← HX1.out, hy, Nat.mul_comm]
      clear HN HX HX1
      generalize 2 ^ j = q at *
      have HPJ : Hid (∀ w, Calls Try.prog 51 #[.int .i64 j] w fun e w' => e = .returned (.int .i64 (q : Int)) ∧ w' = w) := HPj
      have hq0 : ((q : Int) == 0) = false := beq_eq_false_iff_ne.2 (by omega)
      have eA : wrap64 ((A : Int) / (q : Int)) = ((A / q : Nat) : Int) := by rw [← Int.natCast_ediv]; exact wrapNat _ (Nat.le_trans (Nat.div_le_self _ _) (by omega))
      have eB : wrap64 ((B : Int) / (q : Int)) = ((B / q : Nat) : Int) := by rw [← Int.natCast_ediv]; exact wrapNat _ (Nat.le_trans (Nat.div_le_self _ _) (by omega))
      have eC : wrap64 ((C : Int) / (q : Int)) = ((C / q : Nat) : Int) := by rw [← Int.natCast_ediv]; exact wrapNat _ (Nat.le_trans (Nat.div_le_self _ _) (by omega))
      have tA : (((A / q : Nat) : Int)).tmod 2 = ((A / q % 2 : Nat) : Int) := tmodNat _
      have tB : (((B / q : Nat) : Int)).tmod 2 = ((B / q % 2 : Nat) : Int) := tmodNat _
      have tC : (((C / q : Nat) : Int)).tmod 2 = ((C / q % 2 : Nat) : Int) := tmodNat _
      have la : A / q % 2 < 2 := Nat.mod_lt _ (by decide)
      have lb : B / q % 2 < 2 := Nat.mod_lt _ (by decide)
      have lc : C / q % 2 = 0 ∨ C / q % 2 = 1 := by omega
      generalize A / q % 2 = xa at *
      generalize B / q % 2 = xb at *
      generalize C / q % 2 = xc at *
      generalize A / q = ga at *
      generalize B / q = gb at *
      generalize C / q = gc at *
      clear HPj
      go_wp2_with fail
      refine (HPJ.out _).mono ?_
      rintro e wa ⟨rfl, rfl⟩
      go_wp2_with fail
      refine (HPJ.out _).mono ?_
      rintro e wb ⟨rfl, rfl⟩
      rcases lc with rfl | rfl
      · have HXB : Hid (x + xb * q = M % 2 ^ (j + 1)) := HRN.out xb (by rw [HMj.out, if_neg (by decide)])
        have hm : xb * q ≤ 1 * q := Nat.mul_le_mul_right q (by omega)
        have em : wrap64 ((xb : Int) * (q : Int)) = ((xb * q : Nat) : Int) := by rw [← Int.natCast_mul]; exact wrapNat _ (by omega)
        have em' : (xb : Int) * (q : Int) = ((xb * q : Nat) : Int) := by rw [Int.natCast_mul]
        generalize xb * q = z at *
        go_wp2_with fail
        refine (HPJ.out _).mono ?_
        rintro e wc ⟨rfl, rfl⟩
        clear eA eB eC tA tB tC HRN HMj HPJ hq0
        have hz : x + z < 512 := by omega
        clear hm
        go_wp2
        exact ⟨⟨j + 1, x + z, by omega, by go_num, by go_num, HXB⟩, by simp [intOf]; omega⟩
      · have HXB : Hid (x + xa * q = M % 2 ^ (j + 1)) := HRN.out xa (by rw [HMj.out, if_pos rfl])
        have hm : xa * q ≤ 1 * q := Nat.mul_le_mul_right q (by omega)
        have em : wrap64 ((xa : Int) * (q : Int)) = ((xa * q : Nat) : Int) := by rw [← Int.natCast_mul]; exact wrapNat _ (by omega)
        have em' : (xa : Int) * (q : Int) = ((xa * q : Nat) : Int) := by rw [Int.natCast_mul]
        generalize xa * q = z at *
        go_wp2_with fail
        refine (HPJ.out _).mono ?_
        rintro e wc ⟨rfl, rfl⟩
        go_wp2_with fail
        refine (HPJ.out _).mono ?_
        rintro e wd ⟨rfl, rfl⟩
        clear eA eB eC tA tB tC HRN HMj HPJ hq0
        have hz : x + z < 512 := by omega
        clear hm
        go_wp2
        exact ⟨⟨j + 1, x + z, by omega, by go_num, by go_num, HXB⟩, by simp [intOf]; omega⟩
    · obtain rfl : j = 8 := by omega
      have HZ : Hid (x = M) := by
        show x = M
        rw [HX.out]; exact Nat.mod_eq_of_lt HL.out
      have hx : x < 256 := by rw [HZ.out]; exact HL.out
      go_wp2
      go_ret
      exact ⟨by rw [← HZ.out]; rfl, rfl⟩

theorem both_any (a b : UInt8) (w : World) :
    Calls Try.prog 50 #[.int .u8 (a.toNat : Int), .int .u8 (b.toNat : Int)] w fun e w' => e = .returned (.int .u8 ((a &&& b).toNat : Int)) ∧ w' = w := by
  have HM : Hid (∀ W, Calls Try.prog 36 #[.int .u8 (b.toNat : Int), .int .u8 0, .int .u8 (a.toNat : Int)] W fun e w' => e = .returned (.int .u8 ((a &&& b).toNat : Int)) ∧ w' = W) := fun W => by
    have h := mix_any b 0 a W
    have e : mixB b 0 a = a &&& b := by unfold mixB; rw [UInt8.zero_and, UInt8.or_zero, UInt8.and_comm]
    rw [e] at h
    exact h
  go_enter Try.func50, Try.ntmps50
  go_wp2_with fail
  refine (HM.out _).mono ?_
  rintro e wa ⟨rfl, rfl⟩
  go_wp2
  go_ret
  exact ⟨rfl, rfl⟩

end Go.Proofs.Ytnomapbiklfciaf
