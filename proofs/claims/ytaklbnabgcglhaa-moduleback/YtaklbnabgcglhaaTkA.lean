/- The contracts of the Taker's calls. -/
import Derived.Test.YtaklbnabgcglhaaDecI
namespace Go.Proofs.Ytaklbnabgcglhaa
open Go.RowKit Go.PlainAid Go.Lib

theorem bt_extract (s : ByteArray) (a b i : Nat) (hi : i < b - a) : bt (s.extract a b) i = bt s (a + i) := by
  rw [bt_list, bt_list]
  have : (s.extract a b).data.toList = (s.data.toList.drop a).take (b - a) := by
    rw [ByteArray.data_extract, Array.toList_extract, List.extract_eq_take_drop]
  rw [this, List.getElem?_take_of_lt hi, List.getElem?_drop]
theorem getN_extract (s : ByteArray) (a m : Nat) : ∀ k, k ≤ m → getN (s.extract a (a + m)) 0 k = getN s a k
  | 0, _ => rfl
  | k + 1, hk => by
    have ih := getN_extract s a m k (by omega)
    have hb := bt_extract s a (a + m) k (by omega)
    simp only [getN, Nat.zero_add]
    rw [ih, hb]

set_option maxHeartbeats 1000000 in
theorem text_any (R : Nat) (s : ByteArray) (σ : (Nat × Bool)) (n : Nat) (hn : n ≤ 100000) (w : World) (h : RdAt 79 w R s σ) (hs : s.size ≤ 140737488351232) (ha : σ.1 ≤ s.size) :
    Calls Try.prog 47 #[.pointer (some ⟨R, 0, none⟩), .int .i64 n] w fun e w' => e = .returned (.string (rdPiece true s n σ).1) ∧ RdAt 79 w' R s (rdPiece true s n σ).2 ∧ w.grownBy w' (some R) := by
  have hlt := CellsAt.lt h
  have H0 : Hid (RdAt 79 w R s σ) := h
  obtain ⟨c0, c1, c2, f1, f2⟩ := h.parts
  clear h
  have i2' : IntKind.i64.wrap ((s.size : Int) - σ.1) = (s.size : Int) - σ.1 := by rw [i64_is]; unfold wrap64; omega
  by_cases hbad : σ.2 = true
  · have HV : Hid (rdPiece true s n σ = (⟨#[]⟩, (σ.1, true))) := by
      show rdPiece true s n σ = _
      unfold rdPiece
      rw [if_pos (by simp [hbad])]
    rw [hbad] at c2
    clear hbad hn
    go_enter Try.func47, Try.ntmps47
    go_wp2
    go_quiet (fail)
    have B1 : Below w.heap.size w (w.drewN nq) := below_drewN (Below.refl _ _) nq
    generalize w.drewN nq = w1 at B1 ⊢
    have h1 : RdAt 79 w1 R s σ := CellsAt.below H0.out B1 hlt
    have f3 := h1.parts.2.2.2.2
    have c3 := h1.parts.2.2.1
    have H1 : Hid (RdAt 79 w1 R s σ) := h1
    clear h1 c0 c1 c2 f1 f2
    go_wp2
    go_ret
    refine ⟨by rw [HV.out]; rfl, ?_, ?_⟩
    · rw [HV.out]; exact H1.out.setShort
    · exact (grown_of_below B1).but (some R) |>.trans (grown_set _ _ _ _)
  · have hgood : σ.2 = false := by simpa using hbad
    rw [hgood] at c2
    by_cases hc : σ.1 + n ≤ s.size
    · obtain ⟨b, Eb⟩ : ∃ b, Hid (b = σ.1 + n) := ⟨_, rfl⟩
      have hb1 : σ.1 ≤ b := by rw [Eb.out]; omega
      have hb2 : b ≤ s.size := by rw [Eb.out]; omega
      have HV : Hid (rdPiece true s n σ = (s.extract σ.1 b, (b, σ.2))) := by
        show rdPiece true s n σ = _
        rw [Eb.out]
        unfold rdPiece
        rw [if_neg (by simp [hgood]; omega)]
      have i1 : wrap64 ((σ.1 : Int) + n) = (b : Int) := by rw [Eb.out]; unfold wrap64; omega
      have i3 : IntKind.i64.wrap ((b : Int) - n) = (σ.1 : Int) := by rw [i64_is, Eb.out]; unfold wrap64; omega
      have dg : decide (((s.size : Int) - σ.1) < n) = false := decide_eq_false (by omega)
      clear hs ha hn hc hbad hgood
      go_enter Try.func47, Try.ntmps47
      go_wp2
      go_quiet (fail)
      have B1 : Below w.heap.size w (w.drewN nq) := below_drewN (Below.refl _ _) nq
      generalize w.drewN nq = w1 at B1 ⊢
      have h1 : RdAt 79 w1 R s σ := CellsAt.below H0.out B1 hlt
      obtain ⟨d0, d1, d2, l1, l2⟩ := h1.parts
      have h2 : RdAt 79 (w1.setCell ⟨R, 1, none⟩ (.int .i64 b)) R s (b, σ.2) := h1.setAt b
      have G2 : Hid (w1.grownBy (w1.setCell ⟨R, 1, none⟩ (.int .i64 b)) (some R)) := grown_set _ _ _ _
      have H2 : Hid (RdAt 79 (w1.setCell ⟨R, 1, none⟩ (.int .i64 b)) R s (b, σ.2)) := h2
      clear h1 c0 c1 c2 f1 f2 h2
      go_wp2
      generalize w1.setCell ⟨R, 1, none⟩ (.int .i64 b) = w2 at H2 G2 ⊢
      obtain ⟨e0, e1, e2, k1, k2⟩ := H2.out.parts
      clear d0 d1 d2 l1 l2
      go_quiet (fail)
      go_wp2
      go_ret
      refine ⟨by rw [HV.out]; rfl, ?_, ?_⟩
      · rw [HV.out]
        exact CellsAt.below H2.out (below_drewN (Below.refl _ _) _) (CellsAt.lt H2.out)
      · exact (((grown_of_below B1).but (some R)).trans G2.out).trans ((grown_of_below (below_drewN (Below.refl _ _) _)).but _)
    · have HV : Hid (rdPiece true s n σ = (⟨#[]⟩, (σ.1, true))) := by
        show rdPiece true s n σ = _
        unfold rdPiece
        rw [if_pos (by simp [hgood]; omega)]
      have dg : decide (((s.size : Int) - σ.1) < n) = true := decide_eq_true (by omega)
      clear hs ha hn hc hbad hgood
      go_enter Try.func47, Try.ntmps47
      go_wp2
      go_quiet (fail)
      have B1 : Below w.heap.size w (w.drewN nq) := below_drewN (Below.refl _ _) nq
      generalize w.drewN nq = w1 at B1 ⊢
      have h1 : RdAt 79 w1 R s σ := CellsAt.below H0.out B1 hlt
      have f3 := h1.parts.2.2.2.2
      have c3 := h1.parts.2.2.1
      have H1 : Hid (RdAt 79 w1 R s σ) := h1
      clear h1 c0 c1 c2 f1 f2
      go_wp2
      go_ret
      refine ⟨by rw [HV.out]; rfl, ?_, ?_⟩
      · rw [HV.out]; exact H1.out.setShort
      · exact (grown_of_below B1).but (some R) |>.trans (grown_set _ _ _ _)

set_option maxHeartbeats 1000000 in
theorem tnum_any (R : Nat) (s : ByteArray) (σ : (Nat × Bool)) (m : Nat) (hm : m = 1 ∨ m = 2) (w : World) (h : RdAt 79 w R s σ) (hs : s.size ≤ 140737488351232) (ha : σ.1 ≤ s.size) (M : Value) (hM : M = .int .i64 m) :
    Calls Try.prog 46 #[.pointer (some ⟨R, 0, none⟩), M] w fun e w' => e = .returned (.int .i64 (rdNum true s m σ).1) ∧ RdAt 79 w' R s (rdNum true s m σ).2 ∧ w.grownBy w' (some R) := by
  subst hM
  have H1 : Hid (Calls Try.prog 47 #[.pointer (some ⟨R, 0, none⟩), .int .i64 m] w fun e w' => e = .returned (.string (rdPiece true s m σ).1) ∧ RdAt 79 w' R s (rdPiece true s m σ).2 ∧ w.grownBy w' (some R)) := text_any R s σ m (by omega) w h hs ha
  clear h
  by_cases hc : (true && σ.2) = true ∨ s.size < σ.1 + m
  · have HV : Hid (rdNum true s m σ = (0, (σ.1, true))) := by show rdNum true s m σ = _; unfold rdNum; rw [if_pos hc]
    have e1 : rdPiece true s m σ = (⟨#[]⟩, (σ.1, true)) := by unfold rdPiece; rw [if_pos hc]
    rw [e1] at H1
    clear hc e1 hm hs ha
    go_enter Try.func46, Try.ntmps46
    go_wp2_with fail
    refine Calls.mono H1.out ?_
    rintro e w1 ⟨rfl, h1, k1⟩
    have c2 := h1.parts.2.2.1
    have HH : Hid (RdAt 79 w1 R s (σ.1, true)) := h1
    clear h1
    dsimp only at c2
    go_wp2
    go_ret
    exact ⟨by rw [HV.out]; rfl, by rw [HV.out]; exact HH.out, k1⟩
  · have HV : Hid (rdNum true s m σ = (getN s σ.1 m, (σ.1 + m, σ.2))) := by show rdNum true s m σ = _; unfold rdNum; rw [if_neg hc]
    have e1 : rdPiece true s m σ = (s.extract σ.1 (σ.1 + m), (σ.1 + m, σ.2)) := by unfold rdPiece; rw [if_neg hc]
    have hg : σ.2 = false := by
      cases e : σ.2 with
      | false => rfl
      | true => exact absurd (.inl (by rw [e]; rfl)) hc
    have hle : σ.1 + m ≤ s.size := by omega
    have hsz : (s.extract σ.1 (σ.1 + m)).size = m := by rw [ByteArray.size_extract]; omega
    have HG : Hid (∀ w, Calls Try.prog 13 #[.string (s.extract σ.1 (σ.1 + m)), .int .i64 0, .int .i64 m] w fun e w' => e = .returned (.int .i64 (getN s σ.1 m)) ∧ ∃ q, w' = w.drewN q) := by
      intro w
      have := getOf_any (s.extract σ.1 (σ.1 + m)) 0 m w (by omega) (by omega) (by omega)
      rwa [getN_extract s σ.1 m m (Nat.le_refl _)] at this
    rw [e1, hg] at H1
    rw [hg] at HV
    generalize s.extract σ.1 (σ.1 + m) = X at *
    generalize getN s σ.1 m = G at *
    clear hc e1 hm hs ha hsz hle hg
    go_enter Try.func46, Try.ntmps46
    go_wp2_with fail
    refine Calls.mono H1.out ?_
    rintro e w1 ⟨rfl, h1, k1⟩
    have c2 := h1.parts.2.2.1
    have HH : Hid (RdAt 79 w1 R s (σ.1 + m, false)) := h1
    clear h1
    dsimp only at c2
    go_wp2_with fail
    refine (HG.out _).mono ?_
    rintro e w2 ⟨rfl, q, rfl⟩
    have B2 : Below w1.heap.size w1 (w1.drewN q) := below_drewN (Below.refl _ _) q
    go_wp2
    go_ret
    exact ⟨by rw [HV.out]; rfl, by rw [HV.out]; exact CellsAt.below HH.out B2 (CellsAt.lt HH.out), k1.trans ((grown_of_below B2).but _)⟩

set_option maxHeartbeats 400000 in
theorem tname_any (R : Nat) (s : ByteArray) (σ : (Nat × Bool)) (w : World) (h : RdAt 79 w R s σ) (hs : s.size ≤ 140737488351232) (ha : σ.1 ≤ s.size) :
    Calls Try.prog 45 #[.pointer (some ⟨R, 0, none⟩)] w fun e w' => e = .returned (.string (rdName true s σ).1) ∧ RdAt 79 w' R s (rdName true s σ).2 ∧ w.grownBy w' (some R) := by
  have H1 : Hid (∀ w, RdAt 79 w R s σ → Calls Try.prog 46 #[.pointer (some ⟨R, 0, none⟩), .int .i64 1] w fun e w' => e = .returned (.int .i64 (rdNum true s 1 σ).1) ∧ RdAt 79 w' R s (rdNum true s 1 σ).2 ∧ w.grownBy w' (some R)) := fun w h => tnum_any R s σ 1 (.inl rfl) w h hs ha _ rfl
  have H2 : Hid (∀ w, RdAt 79 w R s (rdNum true s 1 σ).2 → Calls Try.prog 47 #[.pointer (some ⟨R, 0, none⟩), .int .i64 (rdNum true s 1 σ).1] w fun e w' => e = .returned (.string (rdName true s σ).1) ∧ RdAt 79 w' R s (rdName true s σ).2 ∧ w.grownBy w' (some R)) := by
    intro w h
    have hb := rdNum_bd true s 1 σ
    have := text_any R s _ (rdNum true s 1 σ).1.toNat (by omega) w h hs (rdNum_le _ _ _ _ ha)
    rw [Int.toNat_of_nonneg hb.1] at this
    exact this
  generalize (rdNum true s 1 σ).1 = N at *
  generalize (rdNum true s 1 σ).2 = σ1 at *
  generalize (rdName true s σ).1 = T at *
  generalize (rdName true s σ).2 = σ2 at *
  clear hs ha
  go_enter Try.func45, Try.ntmps45
  go_wp2_with fail
  refine (H1.out _ h).mono ?_
  rintro e w1 ⟨rfl, h1, k1⟩
  go_wp2_with fail
  refine (H2.out _ h1).mono ?_
  rintro e w2 ⟨rfl, h2, k2⟩
  go_wp2
  go_ret
  exact ⟨rfl, h2, k1.trans k2⟩

end Go.Proofs.Ytaklbnabgcglhaa
