/- The contracts of the document's CheckDeed, CheckDeeds, power, mix, both. -/
import Derived.Test.YtnomapbiklfciafFlR
namespace Go.Proofs.Ytnomapbiklfciaf
open Go.RowKit Go.PlainAid

set_option maxRecDepth 100000

set_option maxHeartbeats 2000000 in
theorem rCheckDeed_any (F : List ByteArray) (v : Value) (d : Deed) (w : World) (hF : RowOf 1 strCell w.heap.size w v F) (hl1 : 1 ≤ F.length) (hl2 : F.length ≤ 32) :
    Calls Try.prog 34 #[.agg #[v], d.value] w fun e w' => e = .returned (.int .i64 (chkDeed (F.length * 128) d)) ∧ Below w.heap.size w w' := by
  have key := chkDeed_cases (F.length * 128) d
  rw [Nat.mul_div_cancel _ (by decide : 0 < 128)] at key
  obtain ⟨a, cap, rfl, _, _⟩ := hF
  obtain ⟨kd, ps, vl⟩ := d
  unfold Deed.value
  dsimp only at *
  generalize chkDeed (F.length * 128) ⟨kd, ps, vl⟩ = cd at *
  have e2 : ((F.length * 128 : Nat) : Int) = 128 * (F.length : Int) := by omega
  rw [e2] at key
  clear e2
  generalize F.length = n at *
  have e1 : IntKind.i64.wrap (IntKind.i64.wrap (128 * (n : Int)) - 1) = 128 * (n : Int) - 1 := by rw [i64_is, i64_is]; unfold wrap64; omega
  have HB : Hid (Below w.heap.size w ((w.alloc (.cells #[.slice a n cap] 24)).alloc (.cells #[.int .i64 kd, .int .i64 ps, .int .i64 vl] 32))) := ((Below.refl _ _).alloc (Nat.le_refl _) _).alloc (by simp) _
  go_enter Try.func34, Try.ntmps34
  rcases key with ⟨rfl, h1, h2⟩ | ⟨rfl, key⟩ | ⟨rfl, key⟩
  · have h1' : (kd == 1) = false := by simpa using h1
    have h2' : (kd != 2) = true := by simpa using h2
    go_wp2_with fail
    go_ret
    exact ⟨rfl, HB.out⟩
  · rcases key with ⟨rfl, h⟩ | ⟨rfl, h1, h⟩ | ⟨rfl, h1, h2, h⟩ | ⟨rfl, h1, h2, h3, h⟩ | ⟨rfl, h1, h2, h3, h4⟩
    · have g : betw ps 0 (128 * (n : Int) - 1) = false := betw_false (by omega)
      go_wp2_with fail
      refine (between_any _ _ _ _).mono ?_
      rintro e w2 ⟨rfl, rfl⟩
      rw [g]
      clear g
      go_wp2
      go_ret
      exact ⟨rfl, HB.out⟩
    · have g : betw ps 0 (128 * (n : Int) - 1) = false := betw_false (by omega)
      go_wp2_with fail
      refine (between_any _ _ _ _).mono ?_
      rintro e w2 ⟨rfl, rfl⟩
      rw [g]
      clear g
      go_wp2
      go_ret
      exact ⟨rfl, HB.out⟩
    · have g : betw ps 0 (128 * (n : Int) - 1) = true := betw_true (by omega) (by omega)
      go_wp2_with fail
      refine (between_any _ _ _ _).mono ?_
      rintro e w2 ⟨rfl, rfl⟩
      rw [g]
      clear g
      have g2 : betw vl 0 255 = false := betw_false (by omega)
      go_wp2_with fail
      refine (between_any _ _ _ _).mono ?_
      rintro e w3 ⟨rfl, rfl⟩
      rw [g2]
      clear g2
      go_wp2
      go_ret
      exact ⟨rfl, HB.out⟩
    · have g : betw ps 0 (128 * (n : Int) - 1) = true := betw_true (by omega) (by omega)
      go_wp2_with fail
      refine (between_any _ _ _ _).mono ?_
      rintro e w2 ⟨rfl, rfl⟩
      rw [g]
      clear g
      have g2 : betw vl 0 255 = false := betw_false (by omega)
      go_wp2_with fail
      refine (between_any _ _ _ _).mono ?_
      rintro e w3 ⟨rfl, rfl⟩
      rw [g2]
      clear g2
      go_wp2
      go_ret
      exact ⟨rfl, HB.out⟩
    · have g : betw ps 0 (128 * (n : Int) - 1) = true := betw_true (by omega) (by omega)
      go_wp2_with fail
      refine (between_any _ _ _ _).mono ?_
      rintro e w2 ⟨rfl, rfl⟩
      rw [g]
      clear g
      have g2 : betw vl 0 255 = true := betw_true (by omega) (by omega)
      go_wp2_with fail
      refine (between_any _ _ _ _).mono ?_
      rintro e w3 ⟨rfl, rfl⟩
      rw [g2]
      clear g2
      go_wp2
      go_ret
      exact ⟨rfl, HB.out⟩
  · rcases key with ⟨rfl, h⟩ | ⟨rfl, h1, h⟩ | ⟨rfl, h1, h2, h⟩ | ⟨rfl, h1, h2, h3, h⟩ | ⟨rfl, h1, h2, rfl⟩
    · have g : betw ps 0 ((n : Int) - 1) = false := betw_false (by omega)
      go_wp2_with fail
      refine (between_any _ _ _ _).mono ?_
      rintro e w2 ⟨rfl, rfl⟩
      rw [g]
      clear g
      go_wp2
      go_ret
      exact ⟨rfl, HB.out⟩
    · have g : betw ps 0 ((n : Int) - 1) = false := betw_false (by omega)
      go_wp2_with fail
      refine (between_any _ _ _ _).mono ?_
      rintro e w2 ⟨rfl, rfl⟩
      rw [g]
      clear g
      go_wp2
      go_ret
      exact ⟨rfl, HB.out⟩
    · have g : betw ps 0 ((n : Int) - 1) = true := betw_true (by omega) (by omega)
      have hv : (vl != 0) = true := by rw [bne_iff_ne]; omega
      go_wp2_with fail
      refine (between_any _ _ _ _).mono ?_
      rintro e w2 ⟨rfl, rfl⟩
      rw [g]
      clear g
      go_wp2
      go_ret
      exact ⟨rfl, HB.out⟩
    · have g : betw ps 0 ((n : Int) - 1) = true := betw_true (by omega) (by omega)
      have hv : (vl != 0) = true := by rw [bne_iff_ne]; omega
      go_wp2_with fail
      refine (between_any _ _ _ _).mono ?_
      rintro e w2 ⟨rfl, rfl⟩
      rw [g]
      clear g
      go_wp2
      go_ret
      exact ⟨rfl, HB.out⟩
    · have g : betw ps 0 ((n : Int) - 1) = true := betw_true (by omega) (by omega)
      go_wp2_with fail
      refine (between_any _ _ _ _).mono ?_
      rintro e w2 ⟨rfl, rfl⟩
      rw [g]
      clear g
      go_wp2
      go_ret
      exact ⟨rfl, ((Below.refl _ _).alloc (Nat.le_refl _) _).alloc (by simp) _⟩

/-- What is wrong with deeds. -/
def chkDs (n : Nat) (e : Int) : List Deed → Int
  | [] => e
  | d :: r => if e = 0 then chkDs n (chkDeed n d) r else e
theorem chkDs_wrong (n : Nat) : ∀ (l : List Deed) (e : Int), e ≠ 0 → chkDs n e l = e
  | [], _, _ => rfl
  | _ :: _, e, h => by unfold chkDs; rw [if_neg h]
def chkDeeds (F : List ByteArray) (l : List Deed) : Int := chkDs (F.length * 128) (chkFl F) l

set_option maxHeartbeats 2000000 in
theorem rCheckDeeds_any (F : List ByteArray) (v : Value) (l : List Deed) (vl : Value) (w : World) (hF : RowOf 1 strCell w.heap.size w v F) (hl : RowOf 3 Deed.cell w.heap.size w vl l) :
    Calls Try.prog 14 #[.agg #[v], vl] w fun e w' => e = .returned (.int .i64 (chkDeeds F l)) ∧ Below w.heap.size w w' := by
  have HC : Hid (∀ W, Below w.heap.size w W → Calls Try.prog 13 #[.agg #[v]] W fun e w' => e = .returned (.int .i64 (chkFl F)) ∧ Below W.heap.size W w') := fun W hb => rCheckFlash_any F v W ((hF.below hb).more hb.size)
  have HD : Hid (∀ d W, chkFl F = 0 → Below w.heap.size w W → Calls Try.prog 34 #[.agg #[v], d.value] W fun e w' => e = .returned (.int .i64 (chkDeed (F.length * 128) d)) ∧ Below W.heap.size W w') := fun d W h0 hb => rCheckDeed_any F v d W ((hF.below hb).more hb.size) (joinM_bound h0).2.2 (joinM_bound h0).2.1
  have H0 : Hid (chkDeeds F l = chkDs (F.length * 128) (chkFl F) (l.drop 0)) := rfl
  obtain ⟨a, cap, rfl, _, _⟩ := hF
  obtain ⟨la, lcap, rfl, hlm, hlrow⟩ := hl
  generalize chkDeeds F l = R at *
  generalize hcf : chkFl F = cf at *
  generalize F.length * 128 = N at *
  generalize F.length = n at *
  have HB1 : Hid (Below w.heap.size w (w.alloc (.cells #[.slice a n cap] 24))) := (Below.refl _ _).alloc (Nat.le_refl _) _
  have HC1 : Hid (CellsAt (w.alloc (.cells #[.slice a n cap] 24)) w.heap.size 24 #[.slice a n cap]) := CellsAt.new _ _ _
  clear hcf
  go_enter Try.func14, Try.ntmps14
  go_wp2_with fail
  refine (HC.out _ HB1.out).mono ?_
  rintro e w2 ⟨rfl, b2⟩
  have HB2 : Hid (Below w.heap.size w w2) := HB1.out.trans (b2.mono HB1.out.size)
  have HC2 : Hid (CellsAt w2 w.heap.size 24 #[.slice a n cap]) := HC1.out.below b2 HC1.out.lt
  clear b2 HB1 HC1 HC
  go_wp2
  go_loopw [5, 6] (fun ev i wr => ∃ (k : Nat) (x : Int), k ≤ l.length ∧ i = .int .i64 k ∧ ev = .int .i64 x ∧ Hid (x = 0 → cf = 0) ∧ Hid (R = chkDs N x (l.drop k)) ∧ Hid (CellsAt wr w.heap.size 24 #[.slice a n cap]) ∧ Hid (Below w.heap.size w wr)) (fun _ i _ => l.length - (intOf i).toNat)
  case atStart => exact ⟨0, cf, Nat.zero_le _, rfl, rfl, id, H0, HC2, HB2⟩
  case round =>
    obtain ⟨k, x, hk, rfl, rfl, HX, HR, HCA, HB⟩ := hrel
    clear HB2 HC2 H0
    by_cases hlt : k < l.length
    · have hlt' : decide ((k : Int) < (l.length : Int)) = true := decide_eq_true (by omega)
      by_cases hx : x = 0
      · subst hx
        obtain ⟨d, hd⟩ : ∃ d, l[k]? = some d := ⟨_, List.getElem?_eq_getElem hlt⟩
        rcases hlrow with h | ⟨b, off, rfl, hbn, hcells⟩
        · subst h; simp at hlt
        have d0 := (HB.out.cell (p := ⟨b, off + k * 3 + 0, none⟩) hbn).trans (hcells k _ hd 0 (by omega))
        have d1 := (HB.out.cell (p := ⟨b, off + k * 3 + 1, none⟩) hbn).trans (hcells k _ hd 1 (by omega))
        have d2 := (HB.out.cell (p := ⟨b, off + k * 3 + 2, none⟩) hbn).trans (hcells k _ hd 2 (by omega))
        dsimp only [Deed.cell] at d0 d1 d2
        rw [Nat.add_zero] at d0
        have hbr : b < wr.heap.size := Nat.lt_of_lt_of_le hbn HB.out.size
        have HN : Hid (R = chkDs N (chkDeed N d) (l.drop (k + 1))) := by
          show R = _
          rw [HR.out, drop_at hd]; rfl
        have HDD : Hid (∀ W, Below w.heap.size w W → Calls Try.prog 34 #[.agg #[.slice a n cap], .agg #[.int .i64 d.kind, .int .i64 d.pos, .int .i64 d.val]] W fun e w' => e = .returned (.int .i64 (chkDeed N d)) ∧ Below W.heap.size W w') := fun W hb => HD.out d W (HX.out rfl) hb
        have HX2 : Hid (chkDeed N d = 0 → cf = 0) := fun _ => HX.out rfl
        have g0 := HCA.out.cell 0
        simp at g0
        have hfr : w.heap.size < wr.heap.size := HCA.out.lt
        clear HR hcells hd HX
        generalize chkDeed N d = cd at *
        obtain ⟨kd, ps, dv⟩ := d
        dsimp only at *
        go_wp2_with fail
        have r0 := cell_regrown d0
        have r1 := cell_regrown d1
        have r2 := cell_regrown d2
        have r3 := cell_regrown g0
        have HDQ : Hid (∀ d os, _) := fun d os => (fun W' (hb : Below wr.heap.size wr W') => HDD.out W' (HB.out.trans (hb.mono HB.out.size))) _ (below_regrown wr d os)
        clear d0 d1 d2 g0 HDD
        refine wp_region_quiet_below (by kernel_rfl) (by kernel_rfl) ?_
        repeat (quiet_step ((go_at_call 34; go_must (exact Calls.regrown_of (HDQ.out _ _)))))
        refine wpQuiet_nil ?_
        intro w7 hw7
        obtain ⟨⟨dq, osq⟩, hw7⟩ := hw7
        have b7 := below_regrown wr dq osq
        rw [← hw7] at b7
        have HB7 : Hid (Below w.heap.size w w7) := HB.out.trans (b7.mono HB.out.size)
        have HC7 : Hid (CellsAt w7 w.heap.size 24 #[.slice a n cap]) := HCA.out.below b7 HCA.out.lt
        clear hw7 b7 r0 r1 r2 r3 HDQ HB HCA
        go_wp2
        exact ⟨⟨k + 1, cd, by omega, by go_num, rfl, HX2, HN, HC7, HB7⟩, by simp [intOf]; omega⟩
      · have hx' : (x == 0) = false := by simpa using hx
        have HZ : Hid (R = x) := by
          show R = _
          rw [HR.out]; exact chkDs_wrong _ _ _ hx
        go_wp2
        go_ret
        exact ⟨by rw [HZ.out]; rfl, HB.out⟩
    · obtain rfl : k = l.length := by omega
      have HZ : Hid (R = x) := by
        show R = _
        rw [HR.out, List.drop_length]; rfl
      go_wp2
      go_ret
      exact ⟨by rw [HZ.out]; rfl, HB.out⟩

/-- 2 to the k. -/
theorem pow2_any (k : Nat) (hk : k ≤ 8) (w : World) :
    Calls Try.prog 51 #[.int .i64 k] w fun e w' => e = .returned (.int .i64 ((2 ^ k : Nat) : Int)) ∧ w' = w := by
  have hp : ∀ j, j ≤ 8 → 2 ^ j ≤ 256 := fun j hj => Nat.pow_le_pow_right (n := 2) (by decide) hj
  have HP : Hid (∀ j, j ≤ 8 → 2 ^ j ≤ 256) := hp
  clear hp
  obtain ⟨q, hq⟩ : ∃ q, 2 ^ k = q := ⟨_, rfl⟩
  rw [hq]
  have HK : Hid (2 ^ k = q) := hq
  clear hq
  go_enter Try.func51, Try.ntmps51
  go_wp2
  go_loop [3, 4] (fun x i => ∃ (j p : Nat), j ≤ k ∧ i = .int .i64 j ∧ x = .int .i64 p ∧ Hid (p = 2 ^ j)) (fun _ i => k - (intOf i).toNat)
  case atStart => exact ⟨0, 1, Nat.zero_le _, rfl, rfl, by show (1 : Nat) = 2 ^ 0; rfl⟩
  case round =>
    obtain ⟨j, p, hj, rfl, rfl, HQ⟩ := hrel
    by_cases hlt : j < k
    · have p2 : p ≤ 256 := by rw [HQ.out]; exact HP.out j (by omega)
      go_wp2
      go_round
      case rel => exact ⟨j + 1, 2 * p, by omega, by go_num, by rw [Int.natCast_mul]; rfl, by show 2 * p = 2 ^ (j + 1); rw [HQ.out, Nat.pow_succ]; omega⟩
      case measure => simp [intOf]; omega
    · obtain rfl : j = k := by omega
      go_wp2
      go_ret
      have HE : Hid (q = p) := by show q = p; rw [← HK.out, HQ.out]
      exact ⟨by rw [HE.out]; rfl, rfl⟩

/-- Of a where p has 1, of b elsewhere. -/
def mixB (a b p : UInt8) : UInt8 := (a &&& p) ||| (b &&& ~~~p)
theorem bit_nat (x i : Nat) : x / 2 ^ i % 2 = (x.testBit i).toNat := by
  rw [Nat.testBit_eq_decide_div_mod_eq]
  have : x / 2 ^ i % 2 = 0 ∨ x / 2 ^ i % 2 = 1 := by omega
  rcases this with h | h <;> simp [h]
theorem mix_bit (a b p : UInt8) (i : Nat) (hi : i < 8) : (mixB a b p).toNat / 2 ^ i % 2 = if p.toNat / 2 ^ i % 2 = 1 then a.toNat / 2 ^ i % 2 else b.toNat / 2 ^ i % 2 := by
  have hn : (~~~p).toNat.testBit i = !p.toNat.testBit i := by
    rw [UInt8.toNat_not, show UInt8.size - 1 - p.toNat = 2 ^ 8 - (p.toNat + 1) by simp [UInt8.size], Nat.testBit_two_pow_sub_succ p.toNat_lt]
    simp [hi]
  unfold mixB
  rw [UInt8.toNat_or, UInt8.toNat_and, UInt8.toNat_and]
  simp only [bit_nat]
  rw [Nat.testBit_or, Nat.testBit_and, Nat.testBit_and, hn]
  cases p.toNat.testBit i <;> simp

end Go.Proofs.Ytnomapbiklfciaf
