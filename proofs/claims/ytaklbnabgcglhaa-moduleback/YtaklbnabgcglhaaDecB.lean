/- The contracts of the reader's number, piece and name. -/
import Derived.Test.YtaklbnabgcglhaaDecM
import Derived.Lib.QuietBelow
import Derived.BigQuiet
namespace Go.Proofs.Ytaklbnabgcglhaa
open Go.RowKit Go.PlainAid Go.Lib

set_option maxHeartbeats 1000000 in
theorem number_any (R : Nat) (s : ByteArray) (σ : (Nat × Bool)) (m : Nat) (hm : m = 1 ∨ m = 2) (w : World) (h : RdAt 68 w R s σ) (hs : s.size ≤ 140737488351232) (ha : σ.1 ≤ s.size) (M : Value) (hM : M = .int .i64 m) :
    Calls Try.prog 65 #[.pointer (some ⟨R, 0, none⟩), M] w fun e w' => e = .returned (.int .i64 (rdNum false s m σ).1) ∧ RdAt 68 w' R s (rdNum false s m σ).2 ∧ w.grownBy w' (some R) := by
  subst hM
  have hlt := CellsAt.lt h
  have H0 : Hid (RdAt 68 w R s σ) := h
  have HG : Hid (∀ w, Calls Try.prog 9 #[.string s, .int .i64 σ.1, .int .i64 m] w fun e w' => e = .returned (.tuple #[.int .i64 (getR s σ.1 m), .int .i64 (wrongAt s.size σ.1 m)]) ∧ Below w.heap.size w w') := fun w => get_any s σ.1 m w hs
  obtain ⟨c0, c1, c2, f1, f2⟩ := h.parts
  have g0 := cell_regrown c0
  have g1 := cell_regrown c1
  clear h
  by_cases hc : σ.1 + m ≤ s.size
  · have hW : wrongAt s.size σ.1 m = 0 := by
      unfold wrongAt
      rw [if_neg (by omega), if_neg (by omega)]
    have HV : Hid ((rdNum false s m σ).1 = getR s σ.1 m) := by
      show (rdNum false s m σ).1 = _
      unfold rdNum getR
      rw [if_pos hW, if_neg (by simp; omega)]; simp
    have HS : Hid ((rdNum false s m σ).2 = (σ.1 + m, σ.2)) := by
      show (rdNum false s m σ).2 = _
      unfold rdNum
      rw [if_neg (by simp; omega)]
    rw [hW] at HG
    have i1 : wrap64 ((σ.1 : Int) + m) = ((σ.1 + m : Nat) : Int) := by unfold wrap64; omega
    clear hm hW
    generalize getR s σ.1 m = G at *
    go_enter Try.func65, Try.ntmps65
    go_wp2
    refine wp_region_quiet_below (by kernel_rfl) (by kernel_rfl) ?_
    repeat (quiet_step ((go_at_call 9; go_must (exact Calls.regrown_of (HG.out _)))))
    refine wpQuiet_nil ?_
    intro w2 hw'
    obtain ⟨⟨dq, osq⟩, hw''⟩ := hw'
    have B2 : Below w.heap.size w w2 := by rw [hw'']; exact below_regrown w dq osq
    clear hw''
    have h2 : RdAt 68 w2 R s σ := CellsAt.below H0.out B2 hlt
    obtain ⟨d0, d1, d2, k1, k2⟩ := h2.parts
    have H2 : Hid (RdAt 68 w2 R s σ) := h2
    clear h2
    go_wp2
    go_ret
    refine ⟨by rw [HV.out]; rfl, ?_, ?_⟩
    · rw [HS.out]
      have := H2.out.setAt (σ.1 + m)
      rw [Int.natCast_add] at this
      exact this
    · exact (grown_of_below B2).but (some R) |>.trans (grown_set _ _ _ _)
  · obtain ⟨E, hE, hE0⟩ : ∃ E, wrongAt s.size σ.1 m = E ∧ (E != 0) = true := ⟨_, rfl, by
      unfold wrongAt
      rw [if_neg (by omega), if_pos (by omega)]; rfl⟩
    have HV : Hid ((rdNum false s m σ).1 = 0) := by
      show (rdNum false s m σ).1 = _
      unfold rdNum
      rw [if_pos (by simp; omega)]
    have HS : Hid ((rdNum false s m σ).2 = (σ.1, true)) := by
      show (rdNum false s m σ).2 = _
      unfold rdNum
      rw [if_pos (by simp; omega)]
    rw [hE] at HG
    clear hm hE
    generalize getR s σ.1 m = G at *
    go_enter Try.func65, Try.ntmps65
    go_wp2
    refine wp_region_quiet_below (by kernel_rfl) (by kernel_rfl) ?_
    repeat (quiet_step ((go_at_call 9; go_must (exact Calls.regrown_of (HG.out _)))))
    refine wpQuiet_nil ?_
    intro w2 hw'
    obtain ⟨⟨dq, osq⟩, hw''⟩ := hw'
    have B2 : Below w.heap.size w w2 := by rw [hw'']; exact below_regrown w dq osq
    clear hw''
    have h2 : RdAt 68 w2 R s σ := CellsAt.below H0.out B2 hlt
    obtain ⟨d0, d1, d2, k1, k2⟩ := h2.parts
    have H2 : Hid (RdAt 68 w2 R s σ) := h2
    clear h2
    go_wp2
    go_ret
    refine ⟨by rw [HV.out]; rfl, ?_, ?_⟩
    · rw [HS.out]
      exact H2.out.setShort
    · exact (grown_of_below B2).but (some R) |>.trans (grown_set _ _ _ _)

set_option maxHeartbeats 1000000 in
theorem piece_any (R : Nat) (s : ByteArray) (σ : (Nat × Bool)) (n : Nat) (hn : n ≤ 100000) (w : World) (h : RdAt 68 w R s σ) (hs : s.size ≤ 140737488351232) (ha : σ.1 ≤ s.size) :
    Calls Try.prog 66 #[.pointer (some ⟨R, 0, none⟩), .int .i64 n] w fun e w' => e = .returned (.string (rdPiece false s n σ).1) ∧ RdAt 68 w' R s (rdPiece false s n σ).2 ∧ w.grownBy w' (some R) := by
  have hlt := CellsAt.lt h
  have H0 : Hid (RdAt 68 w R s σ) := h
  have HS0 : Hid (s.size ≤ 140737488351232) := hs
  obtain ⟨c0, c1, c2, f1, f2⟩ := h.parts
  have i2 : wrap64 ((s.size : Int) - σ.1) = (s.size : Int) - σ.1 := by unfold wrap64; omega
  have i2' : IntKind.i64.wrap ((s.size : Int) - σ.1) = (s.size : Int) - σ.1 := by rw [i64_is]; unfold wrap64; omega
  by_cases hc : σ.1 + n ≤ s.size
  · obtain ⟨b, Eb⟩ : ∃ b, Hid (b = σ.1 + n) := ⟨_, rfl⟩
    have hb1 : σ.1 ≤ b := by rw [Eb.out]; omega
    have hb2 : b ≤ s.size := by rw [Eb.out]; omega
    have HV : Hid ((rdPiece false s n σ).1 = s.extract σ.1 b) := by
      show (rdPiece false s n σ).1 = _
      rw [Eb.out]
      unfold rdPiece
      rw [if_neg (by simp; omega)]
    have HS : Hid ((rdPiece false s n σ).2 = (b, σ.2)) := by
      show (rdPiece false s n σ).2 = _
      rw [Eb.out]
      unfold rdPiece
      rw [if_neg (by simp; omega)]
    have HC : Hid (∀ w, Calls Try.prog 76 #[.string (s.extract σ.1 b)] w fun e w' => e = .returned (.string (s.extract σ.1 b)) ∧ Below w.heap.size w w') := fun w => clone_any _ w (by rw [ByteArray.size_extract]; omega)
    have i1 : wrap64 ((σ.1 : Int) + n) = (b : Int) := by rw [Eb.out]; unfold wrap64; omega
    have i1' : IntKind.i64.wrap ((σ.1 : Int) + n) = (b : Int) := by rw [i64_is]; exact i1
    have dg : decide (((s.size : Int) - σ.1) < n) = false := decide_eq_false (by omega)
    clear h hs ha hn hc
    go_enter Try.func66, Try.ntmps66
    go_wp2
    go_quiet (fail)
    go_wp2
    have B1 : Below w.heap.size w (w.drewN nq) := below_drewN (Below.refl _ _) nq
    generalize w.drewN nq = w1 at B1 ⊢
    have h1 : RdAt 68 w1 R s σ := CellsAt.below H0.out B1 hlt
    obtain ⟨e0, e1, e2, l1, l2⟩ := h1.parts
    have g0 := cell_regrown e0
    have g1 := cell_regrown e1
    have H1 : Hid (RdAt 68 w1 R s σ) := h1
    clear h1 c0 c1 c2 f1 f2
    refine wp_region_quiet_below (by kernel_rfl) (by kernel_rfl) ?_
    repeat (quiet_step ((go_at_call 76; go_must (exact Calls.regrown_of (HC.out _)))))
    refine wpQuiet_nil ?_
    intro w2 hw'
    obtain ⟨⟨dq, osq⟩, hw''⟩ := hw'
    have B2 : Below w1.heap.size w1 w2 := by rw [hw'']; exact below_regrown w1 dq osq
    clear hw''
    have h2 : RdAt 68 w2 R s σ := CellsAt.below H1.out B2 (CellsAt.lt H1.out)
    obtain ⟨d0, d1, d2, k1, k2⟩ := h2.parts
    have H2 : Hid (RdAt 68 w2 R s σ) := h2
    clear h2 e0 e1 e2 l1 l2 g0 g1
    go_wp2
    go_ret
    refine ⟨by rw [HV.out]; rfl, ?_, ?_⟩
    · rw [HS.out]
      exact H2.out.setAt b
    · exact (grown_of_below (B1.trans (B2.mono B1.size))).but (some R) |>.trans (grown_set _ _ _ _)
  · have HV : Hid ((rdPiece false s n σ).1 = ⟨#[]⟩) := by
      show (rdPiece false s n σ).1 = _
      unfold rdPiece
      rw [if_pos (by simp; omega)]
    have HS : Hid ((rdPiece false s n σ).2 = (σ.1, true)) := by
      show (rdPiece false s n σ).2 = _
      unfold rdPiece
      rw [if_pos (by simp; omega)]
    have dg : decide (((s.size : Int) - σ.1) < n) = true := decide_eq_true (by omega)
    clear h
    go_enter Try.func66, Try.ntmps66
    go_wp2
    go_quiet (fail)
    have B1 : Below w.heap.size w (w.drewN nq) := below_drewN (Below.refl _ _) nq
    generalize w.drewN nq = w1 at B1 ⊢
    have h1 : RdAt 68 w1 R s σ := CellsAt.below H0.out B1 hlt
    obtain ⟨e0, e1, e2, l1, l2⟩ := h1.parts
    have H1 : Hid (RdAt 68 w1 R s σ) := h1
    clear h1 c0 c1 c2 f1 f2
    go_wp2
    go_ret
    refine ⟨by rw [HV.out]; rfl, ?_, ?_⟩
    · rw [HS.out]
      exact H1.out.setShort
    · exact (grown_of_below B1).but (some R) |>.trans (grown_set _ _ _ _)

set_option maxHeartbeats 400000 in
theorem name_any (R : Nat) (s : ByteArray) (σ : (Nat × Bool)) (w : World) (h : RdAt 68 w R s σ) (hs : s.size ≤ 140737488351232) (ha : σ.1 ≤ s.size) :
    Calls Try.prog 64 #[.pointer (some ⟨R, 0, none⟩)] w fun e w' => e = .returned (.string (rdName false s σ).1) ∧ RdAt 68 w' R s (rdName false s σ).2 ∧ w.grownBy w' (some R) := by
  have H1 : Hid (∀ w, RdAt 68 w R s σ → Calls Try.prog 65 #[.pointer (some ⟨R, 0, none⟩), .int .i64 1] w fun e w' => e = .returned (.int .i64 (rdNum false s 1 σ).1) ∧ RdAt 68 w' R s (rdNum false s 1 σ).2 ∧ w.grownBy w' (some R)) := fun w h => number_any R s σ 1 (.inl rfl) w h hs ha _ rfl
  have H2 : Hid (∀ w, RdAt 68 w R s (rdNum false s 1 σ).2 → Calls Try.prog 66 #[.pointer (some ⟨R, 0, none⟩), .int .i64 (rdNum false s 1 σ).1] w fun e w' => e = .returned (.string (rdName false s σ).1) ∧ RdAt 68 w' R s (rdName false s σ).2 ∧ w.grownBy w' (some R)) := by
    intro w h
    have hb := rdNum_bd false s 1 σ
    have := piece_any R s _ (rdNum false s 1 σ).1.toNat (by omega) w h hs (rdNum_le _ _ _ _ ha)
    rw [Int.toNat_of_nonneg hb.1] at this
    exact this
  generalize (rdNum false s 1 σ).1 = N at *
  generalize (rdNum false s 1 σ).2 = σ1 at *
  generalize (rdName false s σ).1 = T at *
  generalize (rdName false s σ).2 = σ2 at *
  clear hs ha
  go_enter Try.func64, Try.ntmps64
  go_wp2_with fail
  refine (H1.out _ h).mono ?_
  rintro e w1 ⟨rfl, h1, k1⟩
  go_wp2_with fail
  refine (H2.out _ h1).mono ?_
  rintro e w2 ⟨rfl, h2, k2⟩
  go_wp2
  go_ret
  exact ⟨rfl, h2, k1.trans k2⟩

end Go.Proofs.Ytaklbnabgcglhaa
