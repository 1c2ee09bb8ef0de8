/- The contracts of patch.Apply and of what must be in any case. -/
import Derived.Test.YtaklbnabgcglhabPatD
namespace Go.Proofs.Ytaklbnabgcglhab
open Go.RowKit Go.PlainAid

set_option maxRecDepth 100000

def appErr (len : Int) (p : Pat) (sym base : Int) : Int :=
  if width p.kind = 0 then 7 else if (betw p.add 0 65535 && betw p.pos 0 (len - width p.kind) && betw base 0 65279) = false then 3 else valErr p.kind sym p.add (base + p.pos)
def appStr (s : ByteArray) (p : Pat) (sym base : Int) : ByteArray :=
  if appErr s.size p sym base = 0 then putS s p.pos.toNat (width p.kind).toNat (valNum p.kind sym p.add (base + p.pos)) else ⟨#[]⟩

theorem valErr_add {kind sym add place : Int} (h : width kind ≠ 0) (ha : betw add 0 65535 = false) : valErr kind sym add place = 3 := by
  unfold valErr valRange
  rw [if_neg h, ha]
  simp

theorem app_cases (s : ByteArray) (p : Pat) (sym base : Int) :
    (width p.kind = 0 ∧ appErr s.size p sym base = 7 ∧ appStr s p sym base = ⟨#[]⟩) ∨
    (width p.kind ≠ 0 ∧ (p.pos < 0 ∨ 0 ≤ p.pos ∧ s.size - width p.kind < p.pos ∨ 0 ≤ p.pos ∧ p.pos ≤ s.size - width p.kind ∧ base < 0 ∨ 0 ≤ p.pos ∧ p.pos ≤ s.size - width p.kind ∧ 0 ≤ base ∧ 65279 < base) ∧ appErr s.size p sym base = 3 ∧ appStr s p sym base = ⟨#[]⟩) ∨
    (width p.kind ≠ 0 ∧ 0 ≤ p.pos ∧ p.pos ≤ s.size - width p.kind ∧ 0 ≤ base ∧ base ≤ 65279 ∧
      (valErr p.kind sym p.add (base + p.pos) ≠ 0 ∧ appErr s.size p sym base = valErr p.kind sym p.add (base + p.pos) ∧ appStr s p sym base = ⟨#[]⟩ ∨
       valErr p.kind sym p.add (base + p.pos) = 0 ∧ appErr s.size p sym base = 0 ∧ appStr s p sym base = putS s p.pos.toNat (width p.kind).toNat (valNum p.kind sym p.add (base + p.pos)))) := by
  have hS : appErr s.size p sym base ≠ 0 → appStr s p sym base = ⟨#[]⟩ := fun h => by rw [appStr, if_neg h]
  have hS' : appErr s.size p sym base = 0 → appStr s p sym base = putS s p.pos.toNat (width p.kind).toNat (valNum p.kind sym p.add (base + p.pos)) := fun h => by rw [appStr, if_pos h]
  by_cases h0 : width p.kind = 0
  · have e : appErr s.size p sym base = 7 := by rw [appErr, if_pos h0]
    exact .inl ⟨h0, e, hS (by rw [e]; decide)⟩
  by_cases h1 : p.pos < 0 ∨ 0 ≤ p.pos ∧ s.size - width p.kind < p.pos ∨ 0 ≤ p.pos ∧ p.pos ≤ s.size - width p.kind ∧ base < 0 ∨ 0 ≤ p.pos ∧ p.pos ≤ s.size - width p.kind ∧ 0 ≤ base ∧ 65279 < base
  · have e : appErr s.size p sym base = 3 := by
      rw [appErr, if_neg h0, if_pos]
      rcases h1 with h | h | h | h
      · rw [betw_false (n := p.pos) (.inl h)]; simp
      · rw [betw_false (n := p.pos) (.inr h.2)]; simp
      · rw [betw_false (n := base) (.inl h.2.2)]; simp
      · rw [betw_false (n := base) (.inr h.2.2.2)]; simp
    exact .inr (.inl ⟨h0, h1, e, hS (by rw [e]; decide)⟩)
  · have g1 : betw p.pos 0 (s.size - width p.kind) = true := betw_true (by omega) (by omega)
    have g2 : betw base 0 65279 = true := betw_true (by omega) (by omega)
    have e : appErr s.size p sym base = valErr p.kind sym p.add (base + p.pos) := by
      rw [appErr, if_neg h0, g1, g2]
      cases ha : betw p.add 0 65535
      · rw [if_pos (by rfl), valErr_add h0 ha]
      · rw [if_neg (by decide)]
    refine .inr (.inr ⟨h0, by omega, by omega, by omega, by omega, ?_⟩)
    by_cases hv : valErr p.kind sym p.add (base + p.pos) = 0
    · exact .inr ⟨hv, e.trans hv, hS' (e.trans hv)⟩
    · exact .inl ⟨hv, e, hS (by rw [e]; exact hv)⟩

theorem width_nat (k : Int) : ∃ n : Nat, width k = n ∧ n ≤ 4 := ⟨(width k).toNat, by have := width_bd k; omega, by have := width_bd k; omega⟩

set_option maxHeartbeats 1000000 in
theorem apply_any (s : ByteArray) (p : Pat) (sym base : Int) (w : World) (hs : s.size ≤ 140737488351232) :
    Calls Try.prog 9 #[.string s, .agg #[.int .i64 p.kind, .int .i64 p.pos, .int .i64 p.sym, .int .i64 p.add], .int .i64 sym, .int .i64 base] w fun e w' => e = .returned (.tuple #[.string (appStr s p sym base), .int .i64 (appErr s.size p sym base)]) ∧ Below w.heap.size w w' := by
  have key := app_cases s p sym base
  have HV : Hid (∀ w, Calls Try.prog 15 #[.int .i64 p.kind, .int .i64 sym, .int .i64 p.add, .int .i64 (base + p.pos)] w fun e w' => e = .returned (.tuple #[.int .i64 (valNum p.kind sym p.add (base + p.pos)), .int .i64 (valErr p.kind sym p.add (base + p.pos))]) ∧ Below w.heap.size w w') := fun w => value_any _ _ _ _ w
  have HW : Hid (∀ w, Calls Try.prog 12 #[.int .i64 p.kind] w fun e w' => e = .returned (.tuple #[.int .i64 (width p.kind), .int .i64 (widthErr p.kind)]) ∧ w' = w) := fun w => patchWidth_any _ w
  have hwe : widthErr p.kind = if width p.kind = 0 then 7 else 0 := rfl
  have HP : Hid (0 ≤ p.pos → p.pos ≤ s.size - width p.kind → width p.kind ≠ 0 → ∀ w, Calls Try.prog 37 #[.string s, .int .i64 p.pos, .int .i64 (width p.kind), .int .i64 (valNum p.kind sym p.add (base + p.pos))] w fun e w' =>
      e = .returned (.tuple #[.string (putS s p.pos.toNat (width p.kind).toNat (valNum p.kind sym p.add (base + p.pos))), .int .i64 0]) ∧ Below w.heap.size w w') := fun g0 g1 g2 w => by
    have hb := width_bd p.kind
    have hz : wrongAt s.size p.pos (width p.kind) = 0 := by unfold wrongAt; rw [if_neg (by omega), if_neg (by omega)]
    have := put_any s p.pos (width p.kind) (valNum p.kind sym p.add (base + p.pos)) w hs
    rwa [putR, if_pos hz, hz] at this
  have hwb := width_bd p.kind
  obtain ⟨K, A, S, D⟩ := p
  dsimp only at *
  generalize appErr s.size ⟨K, A, S, D⟩ sym base = RE at *
  generalize appStr s ⟨K, A, S, D⟩ sym base = RS at *
  generalize putS s A.toNat (width K).toNat (valNum K sym D (base + A)) = PS at *
  generalize valNum K sym D (base + A) = vn at *
  generalize valErr K sym D (base + A) = ve at *
  generalize widthErr K = we at *
  generalize width K = wd at *
  rcases key with ⟨rfl, rfl, rfl⟩ | ⟨h0, h1, rfl, rfl⟩ | ⟨h0, q1, q2, q3, q4, ⟨h2, rfl, rfl⟩ | ⟨rfl, rfl, rfl⟩⟩
  · rw [if_pos rfl] at hwe
    subst hwe
    go_enter Try.func9, Try.ntmps9
    go_wp2_with (go_at_call 12; refine (HW.out _).mono ?_; rintro e w' ⟨rfl, rfl⟩)
    go_ret2
    exact ⟨rfl, (Below.refl _ _).alloc (Nat.le_refl _) _⟩
  · rw [if_neg h0] at hwe
    subst hwe
    rcases h1 with h1 | ⟨h1, h2⟩ | ⟨h1, h2, h3⟩ | ⟨h1, h2, h3, h4⟩
    all_goals
      go_enter Try.func9, Try.ntmps9
      go_wp2_with (go_at_call 12; refine (HW.out _).mono ?_; rintro e w' ⟨rfl, rfl⟩)
      go_ret2
      exact ⟨rfl, (Below.refl _ _).alloc (Nat.le_refl _) _⟩
  · rw [if_neg h0] at hwe
    subst hwe
    have h3 : (RE != 0) = true := by simpa using h2
    go_enter Try.func9, Try.ntmps9
    go_wp2_with (go_at_call 12; refine (HW.out _).mono ?_; rintro e w' ⟨rfl, rfl⟩)
    refine (HV.out _).mono ?_
    rintro e w1 ⟨rfl, b1⟩
    go_wp2
    go_ret2
    exact ⟨rfl, ((Below.refl _ _).alloc (Nat.le_refl _) _).trans (b1.mono (by simp))⟩
  · rw [if_neg h0] at hwe
    subst hwe
    go_enter Try.func9, Try.ntmps9
    go_wp2_with (go_at_call 12; refine (HW.out _).mono ?_; rintro e w' ⟨rfl, rfl⟩)
    refine (HV.out _).mono ?_
    rintro e w1 ⟨rfl, b1⟩
    have B1 := ((Below.refl w.heap.size w).alloc (Nat.le_refl _) (.cells #[.int .i64 K, .int .i64 A, .int .i64 S, .int .i64 D] 23)).trans (b1.mono (by simp))
    have c1 : w1.cell? ⟨w.heap.size, 1, none⟩ = some (.int .i64 A) := by
      have := b1.cell (p := ⟨w.heap.size, 1, none⟩) (by simp)
      rw [this]; simp
    go_wp2_with fail
    refine (HP.out q1 q2 h0 _).mono ?_
    rintro e w2 ⟨rfl, b2⟩
    go_wp2
    go_ret2
    exact ⟨rfl, B1.trans (b2.mono B1.size)⟩

set_option maxHeartbeats 1000000 in
theorem patchBegun_any (w : World) : Calls Try.prog 10 #[] w fun e w' => e = .returned (.bool true) ∧ Below w.heap.size w w' := by
  have HW : Hid (∀ w, Calls Try.prog 12 #[.int .i64 5] w fun e w' => e = .returned (.tuple #[.int .i64 3, .int .i64 0]) ∧ w' = w) := fun w => patchWidth_any 5 w
  have HV : Hid (∀ w, Calls Try.prog 15 #[.int .i64 2, .int .i64 100, .int .i64 4, .int .i64 200] w fun e w' => e = .returned (.tuple #[.int .i64 4294967200, .int .i64 0]) ∧ Below w.heap.size w w') := fun w => by
    have := value_any 2 100 4 200 w
    rwa [show valNum 2 100 4 200 = 4294967200 from by decide, show valErr 2 100 4 200 = 0 from by decide] at this
  have HA : Hid (∀ w, Calls Try.prog 9 #[.string ⟨#[46, 46, 46, 46, 46, 46, 46, 46]⟩, .agg #[.int .i64 5, .int .i64 4, .int .i64 0, .int .i64 0], .int .i64 4, .int .i64 4096] w fun e w' => e = .returned (.tuple #[.string ⟨#[46, 46, 46, 46, 0, 248, 255, 46]⟩, .int .i64 0]) ∧ Below w.heap.size w w') := fun w => by
    have := apply_any ⟨#[46, 46, 46, 46, 46, 46, 46, 46]⟩ ⟨5, 4, 0, 0⟩ 4 4096 w (by decide)
    rwa [show appStr ⟨#[46, 46, 46, 46, 46, 46, 46, 46]⟩ ⟨5, 4, 0, 0⟩ 4 4096 = ⟨#[46, 46, 46, 46, 0, 248, 255, 46]⟩ from by decide, show appErr (ByteArray.size ⟨#[46, 46, 46, 46, 46, 46, 46, 46]⟩ : Nat) ⟨5, 4, 0, 0⟩ 4 4096 = 0 from by decide] at this
  go_enter Try.func10, Try.ntmps10
  go_wp2_with fail
  refine (HW.out _).mono ?_
  rintro e w1 ⟨rfl, rfl⟩
  go_wp2_with fail
  refine (HV.out _).mono ?_
  rintro e w2 ⟨rfl, b2⟩
  go_wp2_with fail
  refine (HA.out _).mono ?_
  rintro e w3 ⟨rfl, b3⟩
  go_wp2
  go_ret
  exact ⟨rfl, b2.trans (b3.mono b2.size)⟩

end Go.Proofs.Ytaklbnabgcglhab
