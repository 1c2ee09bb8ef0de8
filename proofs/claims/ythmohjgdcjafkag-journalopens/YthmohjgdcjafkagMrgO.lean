/- Texts that are laid together. -/
import Derived.Test.YthmohjgdcjafkagMrgN

/- The contracts of the document's CheckDeed, CheckDeeds, power, mix, both. -/
namespace Go.Proofs.Ythmohjgdcjafkag
open Go.RowKit Go.PlainAid

set_option maxRecDepth 100000

set_option maxHeartbeats 2000000 in
theorem rCheckDeed_any (F : List ByteArray) (v : Value) (d : Deed) (w : World) (hF : RowOf 1 strCell w.heap.size w v F) (hl1 : 1 ≤ F.length) (hl2 : F.length ≤ 32) :
    Calls Try.prog 26 #[.agg #[v], d.value] w fun e w' => e = .returned (.int .i64 (chkDeed (F.length * 128) d)) ∧ Below w.heap.size w w' := by
  have key := chkDeed_cases (F.length * 128) d
  rw [Nat.mul_div_cancel _ (by decide : 0 < 128)] at key
  obtain ⟨a, cap, rfl, _, _⟩ := hF
  obtain ⟨kd, ps, vl⟩ := d
  unfold Deed.value
  dsimp only at *
  generalize chkDeed (F.length * 128) ⟨kd, ps, vl⟩ = cd at *
  have e2 : ((F.length * 128 : Nat) : Int) = 128 * (F.length : Int) := by omega
  rw [e2] at key
  clear e2
  generalize F.length = n at *
  have e1 : IntKind.i64.wrap (IntKind.i64.wrap (128 * (n : Int)) - 1) = 128 * (n : Int) - 1 := by rw [i64_is, i64_is]; unfold wrap64; omega
  have HB : Hid (Below w.heap.size w ((w.alloc (.cells #[.slice a n cap] 26)).alloc (.cells #[.int .i64 kd, .int .i64 ps, .int .i64 vl] 40))) := ((Below.refl _ _).alloc (Nat.le_refl _) _).alloc (by simp) _
  go_enter Try.func26, Try.ntmps26
  rcases key with ⟨rfl, h1, h2⟩ | ⟨rfl, key⟩ | ⟨rfl, key⟩
  · have h1' : (kd == 1) = false := by simpa using h1
    have h2' : (kd != 2) = true := by simpa using h2
    go_wp2_with fail
    go_ret
    exact ⟨rfl, HB.out⟩
  · rcases key with ⟨rfl, h⟩ | ⟨rfl, h1, h⟩ | ⟨rfl, h1, h2, h⟩ | ⟨rfl, h1, h2, h3, h⟩ | ⟨rfl, h1, h2, h3, h4⟩
    · have g : betw ps 0 (128 * (n : Int) - 1) = false := betw_false (by omega)
      go_wp2_with fail
      refine (between_any _ _ _ _).mono ?_
      rintro e w2 ⟨rfl, rfl⟩
      rw [g]
      clear g
      go_wp2
      go_ret
      exact ⟨rfl, HB.out⟩
    · have g : betw ps 0 (128 * (n : Int) - 1) = false := betw_false (by omega)
      go_wp2_with fail
      refine (between_any _ _ _ _).mono ?_
      rintro e w2 ⟨rfl, rfl⟩
      rw [g]
      clear g
      go_wp2
      go_ret
      exact ⟨rfl, HB.out⟩
    · have g : betw ps 0 (128 * (n : Int) - 1) = true := betw_true (by omega) (by omega)
      go_wp2_with fail
      refine (between_any _ _ _ _).mono ?_
      rintro e w2 ⟨rfl, rfl⟩
      rw [g]
      clear g
      have g2 : betw vl 0 255 = false := betw_false (by omega)
      go_wp2_with fail
      refine (between_any _ _ _ _).mono ?_
      rintro e w3 ⟨rfl, rfl⟩
      rw [g2]
      clear g2
      go_wp2
      go_ret
      exact ⟨rfl, HB.out⟩
    · have g : betw ps 0 (128 * (n : Int) - 1) = true := betw_true (by omega) (by omega)
      go_wp2_with fail
      refine (between_any _ _ _ _).mono ?_
      rintro e w2 ⟨rfl, rfl⟩
      rw [g]
      clear g
      have g2 : betw vl 0 255 = false := betw_false (by omega)
      go_wp2_with fail
      refine (between_any _ _ _ _).mono ?_
      rintro e w3 ⟨rfl, rfl⟩
      rw [g2]
      clear g2
      go_wp2
      go_ret
      exact ⟨rfl, HB.out⟩
    · have g : betw ps 0 (128 * (n : Int) - 1) = true := betw_true (by omega) (by omega)
      go_wp2_with fail
      refine (between_any _ _ _ _).mono ?_
      rintro e w2 ⟨rfl, rfl⟩
      rw [g]
      clear g
      have g2 : betw vl 0 255 = true := betw_true (by omega) (by omega)
      go_wp2_with fail
      refine (between_any _ _ _ _).mono ?_
      rintro e w3 ⟨rfl, rfl⟩
      rw [g2]
      clear g2
      go_wp2
      go_ret
      exact ⟨rfl, HB.out⟩
  · rcases key with ⟨rfl, h⟩ | ⟨rfl, h1, h⟩ | ⟨rfl, h1, h2, h⟩ | ⟨rfl, h1, h2, h3, h⟩ | ⟨rfl, h1, h2, rfl⟩
    · have g : betw ps 0 ((n : Int) - 1) = false := betw_false (by omega)
      go_wp2_with fail
      refine (between_any _ _ _ _).mono ?_
      rintro e w2 ⟨rfl, rfl⟩
      rw [g]
      clear g
      go_wp2
      go_ret
      exact ⟨rfl, HB.out⟩
    · have g : betw ps 0 ((n : Int) - 1) = false := betw_false (by omega)
      go_wp2_with fail
      refine (between_any _ _ _ _).mono ?_
      rintro e w2 ⟨rfl, rfl⟩
      rw [g]
      clear g
      go_wp2
      go_ret
      exact ⟨rfl, HB.out⟩
    · have g : betw ps 0 ((n : Int) - 1) = true := betw_true (by omega) (by omega)
      have hv : (vl != 0) = true := by rw [bne_iff_ne]; omega
      go_wp2_with fail
      refine (between_any _ _ _ _).mono ?_
      rintro e w2 ⟨rfl, rfl⟩
      rw [g]
      clear g
      go_wp2
      go_ret
      exact ⟨rfl, HB.out⟩
    · have g : betw ps 0 ((n : Int) - 1) = true := betw_true (by omega) (by omega)
      have hv : (vl != 0) = true := by rw [bne_iff_ne]; omega
      go_wp2_with fail
      refine (between_any _ _ _ _).mono ?_
      rintro e w2 ⟨rfl, rfl⟩
      rw [g]
      clear g
      go_wp2
      go_ret
      exact ⟨rfl, HB.out⟩
    · have g : betw ps 0 ((n : Int) - 1) = true := betw_true (by omega) (by omega)
      go_wp2_with fail
      refine (between_any _ _ _ _).mono ?_
      rintro e w2 ⟨rfl, rfl⟩
      rw [g]
      clear g
      go_wp2
      go_ret
      exact ⟨rfl, ((Below.refl _ _).alloc (Nat.le_refl _) _).alloc (by simp) _⟩

/-- What is wrong with deeds. -/
def chkDs (n : Nat) (e : Int) : List Deed → Int
  | [] => e
  | d :: r => if e = 0 then chkDs n (chkDeed n d) r else e
theorem chkDs_wrong (n : Nat) : ∀ (l : List Deed) (e : Int), e ≠ 0 → chkDs n e l = e
  | [], _, _ => rfl
  | _ :: _, e, h => by unfold chkDs; rw [if_neg h]
def chkDeeds (F : List ByteArray) (l : List Deed) : Int := chkDs (F.length * 128) (chkFl F) l

set_option maxHeartbeats 2000000 in
theorem rCheckDeeds_any (F : List ByteArray) (v : Value) (l : List Deed) (vl : Value) (w : World) (hF : RowOf 1 strCell w.heap.size w v F) (hl : RowOf 3 Deed.cell w.heap.size w vl l) :
    Calls Try.prog 11 #[.agg #[v], vl] w fun e w' => e = .returned (.int .i64 (chkDeeds F l)) ∧ Below w.heap.size w w' := by
  have HC : Hid (∀ W, Below w.heap.size w W → Calls Try.prog 8 #[.agg #[v]] W fun e w' => e = .returned (.int .i64 (chkFl F)) ∧ Below W.heap.size W w') := fun W hb => rCheckFlash_any F v W ((hF.below hb).more hb.size)
  have HD : Hid (∀ d W, chkFl F = 0 → Below w.heap.size w W → Calls Try.prog 26 #[.agg #[v], d.value] W fun e w' => e = .returned (.int .i64 (chkDeed (F.length * 128) d)) ∧ Below W.heap.size W w') := fun d W h0 hb => rCheckDeed_any F v d W ((hF.below hb).more hb.size) (joinM_bound h0).2.2 (joinM_bound h0).2.1
  have H0 : Hid (chkDeeds F l = chkDs (F.length * 128) (chkFl F) (l.drop 0)) := rfl
  obtain ⟨a, cap, rfl, _, _⟩ := hF
  obtain ⟨la, lcap, rfl, hlm, hlrow⟩ := hl
  generalize chkDeeds F l = R at *
  generalize hcf : chkFl F = cf at *
  generalize F.length * 128 = N at *
  generalize F.length = n at *
  have HB1 : Hid (Below w.heap.size w (w.alloc (.cells #[.slice a n cap] 26))) := (Below.refl _ _).alloc (Nat.le_refl _) _
  have HC1 : Hid (CellsAt (w.alloc (.cells #[.slice a n cap] 26)) w.heap.size 26 #[.slice a n cap]) := CellsAt.new _ _ _
  clear hcf
  go_enter Try.func11, Try.ntmps11
  go_wp2_with fail
  refine (HC.out _ HB1.out).mono ?_
  rintro e w2 ⟨rfl, b2⟩
  have HB2 : Hid (Below w.heap.size w w2) := HB1.out.trans (b2.mono HB1.out.size)
  have HC2 : Hid (CellsAt w2 w.heap.size 26 #[.slice a n cap]) := HC1.out.below b2 HC1.out.lt
  clear b2 HB1 HC1 HC
  go_wp2
  go_loopw [5, 6] (fun ev i wr => ∃ (k : Nat) (x : Int), k ≤ l.length ∧ i = .int .i64 k ∧ ev = .int .i64 x ∧ Hid (x = 0 → cf = 0) ∧ Hid (R = chkDs N x (l.drop k)) ∧ Hid (CellsAt wr w.heap.size 26 #[.slice a n cap]) ∧ Hid (Below w.heap.size w wr)) (fun _ i _ => l.length - (intOf i).toNat)
  case atStart => exact ⟨0, cf, Nat.zero_le _, rfl, rfl, id, H0, HC2, HB2⟩
  case round =>
    obtain ⟨k, x, hk, rfl, rfl, HX, HR, HCA, HB⟩ := hrel
    clear HB2 HC2 H0
    by_cases hlt : k < l.length
    · have hlt' : decide ((k : Int) < (l.length : Int)) = true := decide_eq_true (by omega)
      by_cases hx : x = 0
      · subst hx
        obtain ⟨d, hd⟩ : ∃ d, l[k]? = some d := ⟨_, List.getElem?_eq_getElem hlt⟩
        rcases hlrow with h | ⟨b, off, rfl, hbn, hcells⟩
        · subst h; simp at hlt
        have d0 := (HB.out.cell (p := ⟨b, off + k * 3 + 0, none⟩) hbn).trans (hcells k _ hd 0 (by omega))
        have d1 := (HB.out.cell (p := ⟨b, off + k * 3 + 1, none⟩) hbn).trans (hcells k _ hd 1 (by omega))
        have d2 := (HB.out.cell (p := ⟨b, off + k * 3 + 2, none⟩) hbn).trans (hcells k _ hd 2 (by omega))
        dsimp only [Deed.cell] at d0 d1 d2
        rw [Nat.add_zero] at d0
        have hbr : b < wr.heap.size := Nat.lt_of_lt_of_le hbn HB.out.size
        have HN : Hid (R = chkDs N (chkDeed N d) (l.drop (k + 1))) := by
          show R = _
          rw [HR.out, drop_at hd]; rfl
        have HDD : Hid (∀ W, Below w.heap.size w W → Calls Try.prog 26 #[.agg #[.slice a n cap], .agg #[.int .i64 d.kind, .int .i64 d.pos, .int .i64 d.val]] W fun e w' => e = .returned (.int .i64 (chkDeed N d)) ∧ Below W.heap.size W w') := fun W hb => HD.out d W (HX.out rfl) hb
        have HX2 : Hid (chkDeed N d = 0 → cf = 0) := fun _ => HX.out rfl
        have g0 := HCA.out.cell 0
        simp at g0
        have hfr : w.heap.size < wr.heap.size := HCA.out.lt
        clear HR hcells hd HX
        generalize chkDeed N d = cd at *
        obtain ⟨kd, ps, dv⟩ := d
        dsimp only at *
        go_wp2_with fail
        have r0 := cell_regrown d0
        have r1 := cell_regrown d1
        have r2 := cell_regrown d2
        have r3 := cell_regrown g0
        have HDQ : Hid (∀ d os, _) := fun d os => (fun W' (hb : Below wr.heap.size wr W') => HDD.out W' (HB.out.trans (hb.mono HB.out.size))) _ (below_regrown wr d os)
        clear d0 d1 d2 g0 HDD
        refine wp_region_quiet_below (by kernel_rfl) (by kernel_rfl) ?_
        repeat (quiet_step ((go_at_call 26; go_must (exact Calls.regrown_of (HDQ.out _ _)))))
        refine wpQuiet_nil ?_
        intro w7 hw7
        obtain ⟨⟨dq, osq⟩, hw7⟩ := hw7
        have b7 := below_regrown wr dq osq
        rw [← hw7] at b7
        have HB7 : Hid (Below w.heap.size w w7) := HB.out.trans (b7.mono HB.out.size)
        have HC7 : Hid (CellsAt w7 w.heap.size 26 #[.slice a n cap]) := HCA.out.below b7 HCA.out.lt
        clear hw7 b7 r0 r1 r2 r3 HDQ HB HCA
        go_wp2
        exact ⟨⟨k + 1, cd, by omega, by go_num, rfl, HX2, HN, HC7, HB7⟩, by simp [intOf]; omega⟩
      · have hx' : (x == 0) = false := by simpa using hx
        have HZ : Hid (R = x) := by
          show R = _
          rw [HR.out]; exact chkDs_wrong _ _ _ hx
        go_wp2
        go_ret
        exact ⟨by rw [HZ.out]; rfl, HB.out⟩
    · obtain rfl : k = l.length := by omega
      have HZ : Hid (R = x) := by
        show R = _
        rw [HR.out, List.drop_length]; rfl
      go_wp2
      go_ret
      exact ⟨by rw [HZ.out]; rfl, HB.out⟩

/-- 2 to the k. -/
theorem pow2_any (k : Nat) (hk : k ≤ 8) (w : World) :
    Calls Try.prog 40 #[.int .i64 k] w fun e w' => e = .returned (.int .i64 ((2 ^ k : Nat) : Int)) ∧ w' = w := by
  have hp : ∀ j, j ≤ 8 → 2 ^ j ≤ 256 := fun j hj => Nat.pow_le_pow_right (n := 2) (by decide) hj
  have HP : Hid (∀ j, j ≤ 8 → 2 ^ j ≤ 256) := hp
  clear hp
  obtain ⟨q, hq⟩ : ∃ q, 2 ^ k = q := ⟨_, rfl⟩
  rw [hq]
  have HK : Hid (2 ^ k = q) := hq
  clear hq
  go_enter Try.func40, Try.ntmps40
  go_wp2
  go_loop [3, 4] (fun x i => ∃ (j p : Nat), j ≤ k ∧ i = .int .i64 j ∧ x = .int .i64 p ∧ Hid (p = 2 ^ j)) (fun _ i => k - (intOf i).toNat)
  case atStart => exact ⟨0, 1, Nat.zero_le _, rfl, rfl, by show (1 : Nat) = 2 ^ 0; rfl⟩
  case round =>
    obtain ⟨j, p, hj, rfl, rfl, HQ⟩ := hrel
    by_cases hlt : j < k
    · have p2 : p ≤ 256 := by rw [HQ.out]; exact HP.out j (by omega)
      go_wp2
      go_round
      case rel => exact ⟨j + 1, 2 * p, by omega, by go_num, by rw [Int.natCast_mul]; rfl, by show 2 * p = 2 ^ (j + 1); rw [HQ.out, Nat.pow_succ]; omega⟩
      case measure => simp [intOf]; omega
    · obtain rfl : j = k := by omega
      go_wp2
      go_ret
      have HE : Hid (q = p) := by show q = p; rw [← HK.out, HQ.out]
      exact ⟨by rw [HE.out]; rfl, rfl⟩

/-- Of a where p has 1, of b elsewhere. -/
def mixB (a b p : UInt8) : UInt8 := (a &&& p) ||| (b &&& ~~~p)
theorem bit_nat (x i : Nat) : x / 2 ^ i % 2 = (x.testBit i).toNat := by
  rw [Nat.testBit_eq_decide_div_mod_eq]
  have : x / 2 ^ i % 2 = 0 ∨ x / 2 ^ i % 2 = 1 := by omega
  rcases this with h | h <;> simp [h]
theorem mix_bit (a b p : UInt8) (i : Nat) (hi : i < 8) : (mixB a b p).toNat / 2 ^ i % 2 = if p.toNat / 2 ^ i % 2 = 1 then a.toNat / 2 ^ i % 2 else b.toNat / 2 ^ i % 2 := by
  have hn : (~~~p).toNat.testBit i = !p.toNat.testBit i := by
    rw [UInt8.toNat_not, show UInt8.size - 1 - p.toNat = 2 ^ 8 - (p.toNat + 1) by simp [UInt8.size], Nat.testBit_two_pow_sub_succ p.toNat_lt]
    simp [hi]
  unfold mixB
  rw [UInt8.toNat_or, UInt8.toNat_and, UInt8.toNat_and]
  simp only [bit_nat]
  rw [Nat.testBit_or, Nat.testBit_and, Nat.testBit_and, hn]
  cases p.toNat.testBit i <;> simp

end Go.Proofs.Ythmohjgdcjafkag

/- The contracts of the document's mix, both. -/
namespace Go.Proofs.Ythmohjgdcjafkag
open Go.RowKit Go.PlainAid

set_option maxRecDepth 100000

theorem wrapNat (n : Nat) (h : n ≤ 9223372036854775807) : wrap64 (n : Int) = n := by unfold wrap64; omega
theorem tmodNat (n : Nat) : ((n : Int)).tmod 2 = ((n % 2 : Nat) : Int) := by rw [Int.tmod_eq_emod_of_nonneg (by omega)]; omega

set_option maxHeartbeats 4000000 in
theorem mix_any (a b p : UInt8) (w : World) :
    Calls Try.prog 28 #[.int .u8 (a.toNat : Int), .int .u8 (b.toNat : Int), .int .u8 (p.toNat : Int)] w fun e w' => e = .returned (.int .u8 ((mixB a b p).toNat : Int)) ∧ w' = w := by
  have HP : Hid (∀ (k : Nat), k ≤ 8 → ∀ w, Calls Try.prog 40 #[.int .i64 k] w fun e w' => e = .returned (.int .i64 ((2 ^ k : Nat) : Int)) ∧ w' = w) := fun k hk w => pow2_any k hk w
  have HM : Hid (∀ i, i < 8 → (mixB a b p).toNat / 2 ^ i % 2 = if p.toNat / 2 ^ i % 2 = 1 then a.toNat / 2 ^ i % 2 else b.toNat / 2 ^ i % 2) := fun i hi => mix_bit a b p i hi
  have HL : Hid ((mixB a b p).toNat < 256) := (mixB a b p).toNat_lt
  have HQ : Hid (∀ k, k ≤ 8 → 1 ≤ 2 ^ k ∧ 2 ^ k ≤ 256) := fun k hk => ⟨Nat.two_pow_pos k, Nat.pow_le_pow_right (n := 2) (by decide) hk⟩
  have ha := a.toNat_lt
  have hb := b.toNat_lt
  have hp := p.toNat_lt
  generalize (mixB a b p).toNat = M at *
  generalize a.toNat = A at *
  generalize b.toNat = B at *
  generalize p.toNat = C at *
  go_enter Try.func28, Try.ntmps28
  go_wp2
  go_loop [7, 8] (fun o i => ∃ (j x : Nat), j ≤ 8 ∧ i = .int .i64 j ∧ o = .int .i64 x ∧ Hid (x = M % 2 ^ j)) (fun _ i => 8 - (intOf i).toNat)
  case atStart => exact ⟨0, 0, by omega, rfl, rfl, by show 0 = M % 2 ^ 0; rw [Nat.pow_zero, Nat.mod_one]⟩
  case round =>
    obtain ⟨j, x, hj, rfl, rfl, HX⟩ := hrel
    by_cases hlt : j < 8
    · have HPj := HP.out j (by omega)
      have HN : Hid (M % 2 ^ (j + 1) = M % 2 ^ j + 2 ^ j * (M / 2 ^ j % 2)) := Nat.mod_pow_succ
      have HMj : Hid (M / 2 ^ j % 2 = if C / 2 ^ j % 2 = 1 then A / 2 ^ j % 2 else B / 2 ^ j % 2) := HM.out j hlt
      obtain ⟨hq1, hq2⟩ := HQ.out j (by omega)
      have hxq : x < 2 ^ j := by rw [HX.out]; exact Nat.mod_lt _ (by omega)
      have HX1 : Hid (x = M % 2 ^ j) := HX
      have HRN : Hid (∀ y, y = M / 2 ^ j % 2 → x + y * 2 ^ j = M % 2 ^ (j + 1)) := fun y hy => by rw [HN.out, ← HX1.out, hy, Nat.mul_comm]
      clear HN HX HX1
      generalize 2 ^ j = q at *
      have HPJ : Hid (∀ w, Calls Try.prog 40 #[.int .i64 j] w fun e w' => e = .returned (.int .i64 (q : Int)) ∧ w' = w) := HPj
      have hq0 : ((q : Int) == 0) = false := beq_eq_false_iff_ne.2 (by omega)
      have eA : wrap64 ((A : Int) / (q : Int)) = ((A / q : Nat) : Int) := by rw [← Int.natCast_ediv]; exact wrapNat _ (Nat.le_trans (Nat.div_le_self _ _) (by omega))
      have eB : wrap64 ((B : Int) / (q : Int)) = ((B / q : Nat) : Int) := by rw [← Int.natCast_ediv]; exact wrapNat _ (Nat.le_trans (Nat.div_le_self _ _) (by omega))
      have eC : wrap64 ((C : Int) / (q : Int)) = ((C / q : Nat) : Int) := by rw [← Int.natCast_ediv]; exact wrapNat _ (Nat.le_trans (Nat.div_le_self _ _) (by omega))
      have tA : (((A / q : Nat) : Int)).tmod 2 = ((A / q % 2 : Nat) : Int) := tmodNat _
      have tB : (((B / q : Nat) : Int)).tmod 2 = ((B / q % 2 : Nat) : Int) := tmodNat _
      have tC : (((C / q : Nat) : Int)).tmod 2 = ((C / q % 2 : Nat) : Int) := tmodNat _
      have la : A / q % 2 < 2 := Nat.mod_lt _ (by decide)
      have lb : B / q % 2 < 2 := Nat.mod_lt _ (by decide)
      have lc : C / q % 2 = 0 ∨ C / q % 2 = 1 := by omega
      generalize A / q % 2 = xa at *
      generalize B / q % 2 = xb at *
      generalize C / q % 2 = xc at *
      generalize A / q = ga at *
      generalize B / q = gb at *
      generalize C / q = gc at *
      clear HPj
      go_wp2_with fail
      refine (HPJ.out _).mono ?_
      rintro e wa ⟨rfl, rfl⟩
      go_wp2_with fail
      refine (HPJ.out _).mono ?_
      rintro e wb ⟨rfl, rfl⟩
      rcases lc with rfl | rfl
      · have HXB : Hid (x + xb * q = M % 2 ^ (j + 1)) := HRN.out xb (by rw [HMj.out, if_neg (by decide)])
        have hm : xb * q ≤ 1 * q := Nat.mul_le_mul_right q (by omega)
        have em : wrap64 ((xb : Int) * (q : Int)) = ((xb * q : Nat) : Int) := by rw [← Int.natCast_mul]; exact wrapNat _ (by omega)
        have em' : (xb : Int) * (q : Int) = ((xb * q : Nat) : Int) := by rw [Int.natCast_mul]
        generalize xb * q = z at *
        go_wp2_with fail
        refine (HPJ.out _).mono ?_
        rintro e wc ⟨rfl, rfl⟩
        clear eA eB eC tA tB tC HRN HMj HPJ hq0
        have hz : x + z < 512 := by omega
        clear hm
        go_wp2
        exact ⟨⟨j + 1, x + z, by omega, by go_num, by go_num, HXB⟩, by simp [intOf]; omega⟩
      · have HXB : Hid (x + xa * q = M % 2 ^ (j + 1)) := HRN.out xa (by rw [HMj.out, if_pos rfl])
        have hm : xa * q ≤ 1 * q := Nat.mul_le_mul_right q (by omega)
        have em : wrap64 ((xa : Int) * (q : Int)) = ((xa * q : Nat) : Int) := by rw [← Int.natCast_mul]; exact wrapNat _ (by omega)
        have em' : (xa : Int) * (q : Int) = ((xa * q : Nat) : Int) := by rw [Int.natCast_mul]
        generalize xa * q = z at *
        go_wp2_with fail
        refine (HPJ.out _).mono ?_
        rintro e wc ⟨rfl, rfl⟩
        go_wp2_with fail
        refine (HPJ.out _).mono ?_
        rintro e wd ⟨rfl, rfl⟩
        clear eA eB eC tA tB tC HRN HMj HPJ hq0
        have hz : x + z < 512 := by omega
        clear hm
        go_wp2
        exact ⟨⟨j + 1, x + z, by omega, by go_num, by go_num, HXB⟩, by simp [intOf]; omega⟩
    · obtain rfl : j = 8 := by omega
      have HZ : Hid (x = M) := by
        show x = M
        rw [HX.out]; exact Nat.mod_eq_of_lt HL.out
      have hx : x < 256 := by rw [HZ.out]; exact HL.out
      go_wp2
      go_ret
      exact ⟨by rw [← HZ.out]; rfl, rfl⟩

theorem both_any (a b : UInt8) (w : World) :
    Calls Try.prog 39 #[.int .u8 (a.toNat : Int), .int .u8 (b.toNat : Int)] w fun e w' => e = .returned (.int .u8 ((a &&& b).toNat : Int)) ∧ w' = w := by
  have HM : Hid (∀ W, Calls Try.prog 28 #[.int .u8 (b.toNat : Int), .int .u8 0, .int .u8 (a.toNat : Int)] W fun e w' => e = .returned (.int .u8 ((a &&& b).toNat : Int)) ∧ w' = W) := fun W => by
    have h := mix_any b 0 a W
    have e : mixB b 0 a = a &&& b := by unfold mixB; rw [UInt8.zero_and, UInt8.or_zero, UInt8.and_comm]
    rw [e] at h
    exact h
  go_enter Try.func39, Try.ntmps39
  go_wp2_with fail
  refine (HM.out _).mono ?_
  rintro e wa ⟨rfl, rfl⟩
  go_wp2
  go_ret
  exact ⟨rfl, rfl⟩

end Go.Proofs.Ythmohjgdcjafkag

/- The contract of package journal's look. -/
namespace Go.Proofs.Ythmohjgdcjafkag
open Go.RowKit Go.PlainAid Go.Lib

set_option maxRecDepth 100000

theorem own_under {W : World} {base : Nat} {e : TypeId} {size : Nat} {v : Value} {n : Nat} {xs : List Value} (h : W.ownsRow base e size v n xs) : ∀ k, v.ownBlock = some k → k < W.heap.size := by
  intro k hk
  rcases h.2 with ⟨rfl, _⟩ | ⟨g, cap, cur, rfl, _, hc, _⟩
  · cases hk
  · simp [Value.ownBlock] at hk
    subst hk
    exact (Array.getElem?_eq_some_iff.1 hc).1

set_option maxHeartbeats 8000000 in
theorem look_any (s : ByteArray) (w : World) (hs : s.size ≤ 4096) : Calls Try.prog 29 #[.string s] w fun e w' => (∃ v, e = .returned (.tuple #[v, .int .i64 ((lookB s).2.1 : Int), .int .i64 (lookB s).2.2]) ∧ w'.ownsRow w.heap.size 9 1 v (lookB s).1.length ((lookB s).1.flatMap strC)) ∧ Below w.heap.size w w' := by
  obtain ⟨is, his, hs0, hs1, hs2⟩ := infoStrF_parts
  obtain ⟨R, hR⟩ : ∃ R, R = lookB s := ⟨_, rfl⟩
  rw [← hR]
  unfold lookB at hR
  by_cases h384 : s.size < 384
  · rw [if_pos h384] at hR
    subst hR
    have h384' : (s.size : Int) < 384 := by omega
    go_enter Try.func29, Try.ntmps29
    go_wp2
    go_ret3
    exact ⟨⟨_, rfl, World.ownsRow_nil _ _ _ _⟩, Below.refl _ _⟩
  · rw [if_neg h384] at hR
    have h384' : ¬ (s.size : Int) < 384 := by omega
    have HLM : Hid (∀ k p, allFF (s.extract p s.size) = false → ∀ pre, comb pre (lookFrom s (k + 1) p) = if (entOf (s.extract p s.size)).2 ≠ 0 then ([], 0, (entOf (s.extract p s.size)).2) else comb (pre ++ if (entOf (s.extract p s.size)).1.2.2 = true then [(entOf (s.extract p s.size)).1.2.1] else []) (lookFrom s k (p + (entOf (s.extract p s.size)).1.1))) := fun k p h pre => look_more s k p h pre
    have HLF : Hid (∀ k p, allFF (s.extract p s.size) = true → lookFrom s k p = ([], p, 0)) := fun k p h => look_free s k p h
    have HR : Hid (comb [] (lookFrom s s.size 0) = R) := hR.symm
    clear hR
    obtain ⟨n, hn⟩ : ∃ n, n = s.size := ⟨_, rfl⟩
    have hsz : s.size = n := hn.symm
    rw [← hn] at hs h384 h384' HLM HLF HR
    clear hn
    have HSL : Hid (∀ p : Nat, p ≤ n → ∀ W, (Instr.slice 9 (.string s) (some (.int .i64 (p : Int))) none none).run Try.prog W = .ok (.string (s.extract p n)) W) := fun p hp W => by
      have := run_slice_string_l W _ s Try.underlying9 .i64 (p : Int) (by omega) (by omega)
      rw [hsz] at this
      exact this
    have HSZ : Hid (∀ p : Nat, (s.extract p n).size = n - p) := fun p => by rw [ByteArray.size_extract, hsz]; omega
    go_enter Try.func29, Try.ntmps29
    go_wp2_with fail
    go_loopg [5, 6] n (fun gk v5 v6 wr => ∃ (p : Nat) (pre : List ByteArray), p ≤ n ∧ v6 = .int .i64 p ∧ Hid (n - p ≤ gk) ∧ Hid (comb pre (lookFrom s gk p) = R) ∧ Hid (pre.length ≤ p) ∧ Hid (wr.ownsRow w.heap.size 9 1 v5 pre.length (pre.flatMap strC)) ∧ Hid (Below w.heap.size w wr))
    case atStart => exact ⟨0, [], Nat.zero_le _, rfl, (by omega : n - 0 ≤ n), HR, (by simp : ([] : List ByteArray).length ≤ 0), World.ownsRow_nil _ _ _ _, Below.refl _ _⟩
    case round =>
      obtain ⟨p, pre, hp, rfl, HG, HRR, HPL, HO, HB⟩ := hrel
      clear HR
      obtain ⟨av, kv, rfl⟩ := own_form HO.out
      have hsl := HSL.out p hp
      have HFR : Hid (∀ W, Calls Try.prog 41 #[.string (s.extract p n)] W fun e w' => e = .returned (.bool (allFF (s.extract p n))) ∧ w' = W) := fun W => isFree_any _ W (by rw [HSZ.out]; omega)
      have HEN : Hid (∀ W, Calls Try.prog 42 #[.string (s.extract p n)] W fun e w' => e = .returned (.tuple #[entV (entOf (s.extract p n)).1, .int .i64 (entOf (s.extract p n)).2]) ∧ Below W.heap.size W w') := fun W => entryOf_any _ W (by rw [HSZ.out]; omega)
      have hef := HLF.out gk p
      have hrs := HSZ.out p
      have hok := entOf_ok (s.extract p n)
      have hno := allFF_none (s.extract p n)
      have hlm := fun k => HLM.out k p
      generalize s.extract p n = r at *
      generalize hAF : allFF r = AF at *
      cases AF
      · obtain ⟨k, rfl⟩ : ∃ k, gk = k + 1 := by
          cases gk with
          | zero =>
            have := HG.out
            exact absurd (hno (by omega)) (by decide)
          | succ k => exact ⟨k, rfl⟩
        have HR2 : Hid (R = if (entOf r).2 ≠ 0 then ([], 0, (entOf r).2) else comb (pre ++ if (entOf r).1.2.2 = true then [(entOf r).1.2.1] else []) (lookFrom s k (p + (entOf r).1.1))) := HRR.out.symm.trans (hlm k rfl pre)
        clear hef hno hlm hAF HRR
        generalize entOf r = E at *
        obtain ⟨⟨sz, rc, wh⟩, er⟩ := E
        dsimp only [entV] at *
        have HOK : Hid (er = 0 → 3 ≤ sz ∧ sz ≤ r.size) := hok
        clear hok
        by_cases he : er ≠ 0
        · have he' : (er != 0) = true := by simpa using he
          have HE : Hid (R = ([], 0, er)) := HR2.out.trans (if_pos he)
          clear he HR2 HOK
          go_wp2_with fail
          refine (HFR.out _).mono ?_
          rintro e w2 ⟨rfl, rfl⟩
          clear HFR
          go_wp2_with fail
          refine (HEN.out _).mono ?_
          rintro e w3 ⟨rfl, b3⟩
          have HB3 : Hid (Below w.heap.size w w3) := HB.out.trans (b3.mono HB.out.size)
          have HO3 : Hid (w3.ownsRow w.heap.size 9 1 (.slice av pre.length kv) pre.length (pre.flatMap strC)) := own_below HO.out b3
          have HUN : Hid (∀ k, (Value.slice av pre.length kv).ownBlock = some k → k < w3.heap.size) := own_under HO3.out
          have HX : Hid (CellsAt (w3.alloc (.cells #[.int .i64 (sz : Int), .string rc, .bool wh] 78)) w3.heap.size 78 #[.int .i64 (sz : Int), .string rc, .bool wh]) := CellsAt.new _ _ _
          have HB4 : Hid (Below w.heap.size w (w3.alloc (.cells #[.int .i64 (sz : Int), .string rc, .bool wh] 78))) := HB3.out.alloc HB3.out.size _
          have HO4 : Hid ((w3.alloc (.cells #[.int .i64 (sz : Int), .string rc, .bool wh] 78)).ownsRow w.heap.size 9 1 (.slice av pre.length kv) pre.length (pre.flatMap strC)) := HO3.out.alloc _
          clear HB HO b3 HEN HB3 HO3 hsl
          go_wp2
          go_ret3
          rw [HE.out]
          exact ⟨⟨_, rfl, World.ownsRow_nil _ _ _ _⟩, HB4.out⟩
        · obtain rfl : er = 0 := Decidable.not_not.1 he
          obtain ⟨h3s, hsr⟩ := HOK.out rfl
          have ew : wrap64 ((p : Int) + sz) = ((p + sz : Nat) : Int) := by unfold wrap64; omega
          have hp2 : p + sz ≤ n := by omega
          have hg2 : Hid (n - (p + sz) ≤ k) := by
            have := HG.out
            show _ ≤ _
            omega
          have HR3 : Hid (R = comb (pre ++ if wh = true then [rc] else []) (lookFrom s k (p + sz))) := HR2.out.trans (if_neg he)
          clear he HR2 HOK HG
          cases wh
          · have HE : Hid (comb pre (lookFrom s k (p + sz)) = R) := by
              have := HR3.out
              simp only [Bool.false_eq_true, if_false, List.append_nil] at this
              exact this.symm
            have HPL2 : Hid (pre.length ≤ p + sz) := by
              have := HPL.out
              show _ ≤ _
              omega
            clear HR3 HPL
            go_wp2_with fail
            refine (HFR.out _).mono ?_
            rintro e w2 ⟨rfl, rfl⟩
            clear HFR
            go_wp2_with fail
            refine (HEN.out _).mono ?_
            rintro e w3 ⟨rfl, b3⟩
            have HB3 : Hid (Below w.heap.size w w3) := HB.out.trans (b3.mono HB.out.size)
            have HO3 : Hid (w3.ownsRow w.heap.size 9 1 (.slice av pre.length kv) pre.length (pre.flatMap strC)) := own_below HO.out b3
            have HUN : Hid (∀ k, (Value.slice av pre.length kv).ownBlock = some k → k < w3.heap.size) := own_under HO3.out
            have HX : Hid (CellsAt (w3.alloc (.cells #[.int .i64 (sz : Int), .string rc, .bool false] 78)) w3.heap.size 78 #[.int .i64 (sz : Int), .string rc, .bool false]) := CellsAt.new _ _ _
            have HB4 : Hid (Below w.heap.size w (w3.alloc (.cells #[.int .i64 (sz : Int), .string rc, .bool false] 78))) := HB3.out.alloc HB3.out.size _
            have HO4 : Hid ((w3.alloc (.cells #[.int .i64 (sz : Int), .string rc, .bool false] 78)).ownsRow w.heap.size 9 1 (.slice av pre.length kv) pre.length (pre.flatMap strC)) := HO3.out.alloc _
            clear HB HO b3 HEN HB3 HO3 hsl
            go_upto_region 9 with fail
            generalize (w3.alloc (.cells #[.int .i64 (sz : Int), .string rc, .bool false] 78)) = w4 at *
            have x0 := HX.out.cell 0
            have x2 := HX.out.cell 2
            have xl := HX.out.lt
            simp at x0 x2
            go_wp2_with fail
            go_roundg k
            case measure => omega
            case rel => exact ⟨p + sz, pre, hp2, by go_num, hg2.out, HE.out, HPL2.out, HO4.out, HB4.out⟩
          · have HE : Hid (comb (pre ++ [rc]) (lookFrom s k (p + sz)) = R) := by
              have := HR3.out
              simp only [if_true] at this
              exact this.symm
            have hpl : pre.length ≤ 4096 := by
              have := HPL.out
              omega
            have HPL2 : Hid ((pre ++ [rc]).length ≤ p + sz) := by
              have := HPL.out
              show _ ≤ _
              rw [List.length_append, List.length_singleton]
              omega
            have HRP : Hid (pre.flatMap strC ++ [.string rc] = (pre ++ [rc]).flatMap strC) := by
              show _ = _
              rw [List.flatMap_append]; rfl
            clear HR3 HPL
            go_wp2_with fail
            refine (HFR.out _).mono ?_
            rintro e w2 ⟨rfl, rfl⟩
            clear HFR
            go_wp2_with fail
            refine (HEN.out _).mono ?_
            rintro e w3 ⟨rfl, b3⟩
            have HB3 : Hid (Below w.heap.size w w3) := HB.out.trans (b3.mono HB.out.size)
            have HO3 : Hid (w3.ownsRow w.heap.size 9 1 (.slice av pre.length kv) pre.length (pre.flatMap strC)) := own_below HO.out b3
            have HUN : Hid (∀ k, (Value.slice av pre.length kv).ownBlock = some k → k < w3.heap.size) := own_under HO3.out
            have HX : Hid (CellsAt (w3.alloc (.cells #[.int .i64 (sz : Int), .string rc, .bool true] 78)) w3.heap.size 78 #[.int .i64 (sz : Int), .string rc, .bool true]) := CellsAt.new _ _ _
            have HB4 : Hid (Below w.heap.size w (w3.alloc (.cells #[.int .i64 (sz : Int), .string rc, .bool true] 78))) := HB3.out.alloc HB3.out.size _
            have HO4 : Hid ((w3.alloc (.cells #[.int .i64 (sz : Int), .string rc, .bool true] 78)).ownsRow w.heap.size 9 1 (.slice av pre.length kv) pre.length (pre.flatMap strC)) := HO3.out.alloc _
            clear HB HO b3 HEN HB3 HO3 hsl
            go_upto_region 9 with fail
            generalize (w3.alloc (.cells #[.int .i64 (sz : Int), .string rc, .bool true] 78)) = w4 at *
            have x0 := HX.out.cell 0
            have x1 := HX.out.cell 1
            have x2 := HX.out.cell 2
            have xl := HX.out.lt
            have hbs : w.heap.size ≤ w4.heap.size := HB4.out.size
            simp at x0 x1 x2
            have HA1 : Hid (CellsAt (w4.alloc (.cells #[.string rc] 9)) w4.heap.size 9 #[.string rc]) := CellsAt.new _ _ _
            have HXA : Hid (CellsAt (w4.alloc (.cells #[.string rc] 9)) w3.heap.size 78 #[.int .i64 (sz : Int), .string rc, .bool true]) := HX.out.kept (World.grownBy_alloc _ _ none) (by simp)
            have HBA : Hid (Below w.heap.size w (w4.alloc (.cells #[.string rc] 9))) := HB4.out.alloc HB4.out.size _
            go_wp2_with (at_builtin; refine wpList_append_lies _ rfl _ _ _ rfl w.heap.size 9 is _ 1 16 Try.underlying22 his hs0 hs1 hs2 rfl (by omega) (.slice av pre.length kv) pre.length (pre.flatMap strC) rfl (HO4.out.alloc _) ⟨w4.heap.size, 0, none⟩ 1 1 [.string rc] rfl rfl (World.news_of_block (cs := #[.string rc]) (t := 9) (fr := (0, 0)) HA1.out) (by simp [Value.oneCell']) (by omega) (by unfold maxLen; omega) (by omega) (by simp; omega) (w4.heap.size + 1) (by simp) ?_; intro g gc w8 hown8 hgrow hat hltg; have z8 := HXA.out.kept hgrow (fun e => by have := HUN.out _ e.symm; omega); have z0 := z8.cell 0; have zl := z8.lt; simp at z0)
            have hB8 := HBA.out.grown hgrow HBA.out.size (fun q hq => by have := own_block HO4.out q hq; omega)
            go_roundg k
            case measure => omega
            case rel =>
              refine ⟨p + sz, pre ++ [rc], hp2, by go_num, hg2.out, HE.out, HPL2.out, ?_, hB8⟩
              rw [HRP.out] at hown8
              rw [List.length_append, List.length_singleton]
              exact hown8
      · have HE : Hid (R = (pre, p, 0)) := by
          show R = _
          rw [← HRR.out, hef rfl]
          unfold comb
          rw [if_neg (by simp), List.append_nil]
        clear hef hok hno hlm hAF HEN HRR
        go_wp2_with fail
        refine (HFR.out _).mono ?_
        rintro e w2 ⟨rfl, rfl⟩
        go_wp2
        go_ret3
        rw [HE.out]
        exact ⟨⟨_, rfl, HO.out⟩, HB.out⟩

end Go.Proofs.Ythmohjgdcjafkag
