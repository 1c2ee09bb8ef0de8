/- The contracts of package flash's small functions: mayBe, Check, wrong, becomes, reach. -/
import Derived.Test.YtnomapbiklfciafFlM
namespace Go.Proofs.Ytnomapbiklfciaf
open Go.RowKit Go.PlainAid

set_option maxRecDepth 100000

theorem mayBe_any (n : Int) (w : World) : Calls Try.prog 29 #[.int .i64 n] w fun e w' => e = .returned (.bool (decide (1 ≤ n ∧ n ≤ 32))) ∧ w' = w := by
  by_cases h1 : 1 ≤ n
  · by_cases h2 : n ≤ 32
    · have e : decide (1 ≤ n ∧ n ≤ 32) = true := decide_eq_true ⟨h1, h2⟩
      have g1 : decide (1 ≤ n) = true := decide_eq_true h1
      have g2 : decide (n ≤ 32) = true := decide_eq_true h2
      rw [e]
      clear e
      go_enter Try.func29, Try.ntmps29
      go_wp2
      go_ret
      exact ⟨rfl, rfl⟩
    · have e : decide (1 ≤ n ∧ n ≤ 32) = false := decide_eq_false (by omega)
      have g1 : decide (1 ≤ n) = true := decide_eq_true h1
      have g2 : decide (n ≤ 32) = false := decide_eq_false h2
      rw [e]
      clear e
      go_enter Try.func29, Try.ntmps29
      go_wp2
      go_ret
      exact ⟨rfl, rfl⟩
  · have e : decide (1 ≤ n ∧ n ≤ 32) = false := decide_eq_false (by omega)
    have g1 : decide (1 ≤ n) = false := decide_eq_false h1
    rw [e]
    clear e
    go_enter Try.func29, Try.ntmps29
    go_wp2
    go_ret
    exact ⟨rfl, rfl⟩

set_option maxHeartbeats 1000000 in
theorem flCheck_any (F : List ByteArray) (v : Value) (w : World) (hF : RowOf 1 strCell w.heap.size w v F) :
    Calls Try.prog 19 #[.agg #[v]] w fun e w' => e = .returned (.int .i64 (chkFl F)) ∧ Below w.heap.size w w' := by
  obtain ⟨a, cap, rfl, hmx, hrow⟩ := hF
  have key := chkFl_cases F
  generalize chkFl F = cf at *
  have HB : Hid (Below w.heap.size w (w.alloc (.cells #[.slice a F.length cap] 24))) := (Below.refl _ _).alloc (Nat.le_refl _) _
  go_enter Try.func19, Try.ntmps19
  go_wp2_with fail
  refine (mayBe_any _ _).mono ?_
  rintro e w2 ⟨rfl, rfl⟩
  rcases key with ⟨rfl, h⟩ | key
  · have g : decide (1 ≤ (F.length : Int) ∧ (F.length : Int) ≤ 32) = false := decide_eq_false (by omega)
    rw [g]
    clear g
    go_wp2
    go_ret
    exact ⟨rfl, HB.out⟩
  · have hl : 1 ≤ F.length ∧ F.length ≤ 32 := by rcases key with ⟨_, h1, h2, _⟩ | ⟨_, h1, h2, _⟩ <;> exact ⟨h1, h2⟩
    have g : decide (1 ≤ (F.length : Int) ∧ (F.length : Int) ≤ 32) = true := decide_eq_true (by omega)
    rw [g]
    clear g
    have HK : Hid (cf = if F.all (fun b => decide (b.size = 128)) then 0 else 1) := by
      show cf = _
      rcases key with ⟨rfl, _, _, b, hb, hne⟩ | ⟨rfl, _, _, hall⟩
      · rw [if_neg]
        intro h
        exact hne (by simpa using List.all_eq_true.1 h b hb)
      · rw [if_pos]
        exact List.all_eq_true.2 fun b hb => by simpa using hall b hb
    clear key
    go_wp2
    go_loopw [13] (fun i wr => ∃ (k : Nat), k ≤ F.length ∧ i = .int .i64 k ∧ Hid (cf = if (F.drop k).all (fun b => decide (b.size = 128)) then 0 else 1) ∧ Below w.heap.size w wr) (fun i _ => F.length - (intOf i).toNat)
    case atStart => exact ⟨0, Nat.zero_le _, rfl, HK, HB.out⟩
    case round =>
      obtain ⟨k, hk, rfl, HC, B⟩ := hrel
      clear HK HB
      by_cases hlt : k < F.length
      · obtain ⟨x, hx⟩ : ∃ x, F[k]? = some x := ⟨_, List.getElem?_eq_getElem hlt⟩
        rcases hrow with h | ⟨b, off, rfl, hbn, hcells⟩
        · subst h; simp at hlt
        have c0 := (B.cell (p := ⟨b, off + k * 1 + 0, none⟩) hbn).trans (hcells k _ hx 0 (by omega))
        dsimp only [strCell] at c0
        rw [Nat.add_zero, Nat.mul_one] at c0
        have HR : Hid (cf = if decide (x.size = 128) && (F.drop (k + 1)).all (fun b => decide (b.size = 128)) then 0 else 1) := by
          show cf = _
          rw [HC.out, drop_at hx, List.all_cons]
        clear HC hcells hx
        by_cases hs : x.size = 128
        · have HR2 : Hid (cf = if (F.drop (k + 1)).all (fun b => decide (b.size = 128)) then 0 else 1) := by
            show cf = _
            rw [HR.out, decide_eq_true hs, Bool.true_and]
          clear HR
          go_wp2
          exact ⟨⟨k + 1, by omega, by go_num, HR2, B⟩, by simp [intOf]; omega⟩
        · have HR2 : Hid (cf = 1) := by
            show cf = _
            rw [HR.out, decide_eq_false hs]; rfl
          clear HR
          go_wp2
          go_ret
          exact ⟨by rw [HR2.out]; rfl, B⟩
      · obtain rfl : k = F.length := by omega
        have HZ : Hid (cf = 0) := by
          show cf = _
          rw [HC.out, List.drop_length]; rfl
        go_wp2
        go_ret
        exact ⟨by rw [HZ.out]; rfl, B⟩

set_option maxHeartbeats 1000000 in
theorem wrongD_any (a : Option Addr) (n cap : Nat) (d : Deed) (w : World) (hn : n ≤ 4096) :
    Calls Try.prog 41 #[.slice a n cap, d.value] w fun e w' => e = .returned (.int .i64 (chkDeed n d)) ∧ Below w.heap.size w w' := by
  have key := chkDeed_cases n d
  obtain ⟨kd, ps, vl⟩ := d
  unfold Deed.value
  dsimp only at *
  generalize chkDeed n ⟨kd, ps, vl⟩ = cd at *
  have e128 : ((n : Int) / 128) = ((n / 128 : Nat) : Int) := by omega
  have HB : Hid (Below w.heap.size w (w.alloc (.cells #[.int .i64 kd, .int .i64 ps, .int .i64 vl] 32))) := (Below.refl _ _).alloc (Nat.le_refl _) _
  go_enter Try.func41, Try.ntmps41
  rcases key with ⟨rfl, h1, h2⟩ | ⟨rfl, key⟩ | ⟨rfl, key⟩
  · have h1' : (kd == 1) = false := by simpa using h1
    have h2' : (kd == 2) = false := by simpa using h2
    go_wp2
    go_ret
    exact ⟨rfl, HB.out⟩
  · rcases key with ⟨rfl, h⟩ | ⟨rfl, h1, h⟩ | ⟨rfl, h1, h2, h⟩ | ⟨rfl, h1, h2, h3, h⟩ | ⟨rfl, h1, h2, h3, h4⟩
    all_goals
      go_wp2
      go_ret
      exact ⟨rfl, HB.out⟩
  · generalize n / 128 = m at *
    rcases key with ⟨rfl, h⟩ | ⟨rfl, h1, h⟩ | ⟨rfl, h1, h2, h⟩ | ⟨rfl, h1, h2, h3, h⟩ | ⟨rfl, h1, h2, h3⟩
    all_goals
      go_wp2
      go_ret
      exact ⟨rfl, (Below.refl _ _).alloc (Nat.le_refl _) _⟩

end Go.Proofs.Ytnomapbiklfciaf
