/- The contract of the reader's times. -/
import Derived.Test.YtaklbnabgcglhaaDecB
namespace Go.Proofs.Ytaklbnabgcglhaa
open Go.RowKit Go.PlainAid Go.Lib

set_option maxHeartbeats 1000000 in
theorem times_any {α : Type} (R : Nat) (s : ByteArray) (σ : (Nat × Bool)) (K : FuncId) (caps : Array Value) (hK : ∀ w, Sem.run Try.prog (callFunc K caps) w = .ok (.enter K caps) w) (rd : (Nat × Bool) → α × (Nat × Bool)) (Inv : World → List α → (Nat × Bool) → Prop)
    (hrd : ∀ W l τ, Inv W l τ → RdAt 68 W R s τ) (hle : ∀ τ : (Nat × Bool), τ.1 ≤ s.size → (rd τ).2.1 ≤ s.size)
    (hstep : ∀ W l τ, l.length < 255 → τ.1 ≤ s.size → Inv W l τ → Calls Try.prog K caps W fun e W' => e = .returned (.tuple #[]) ∧ Inv W' (l ++ [(rd τ).1]) (rd τ).2)
    (w : World) (h : RdAt 68 w R s σ) (h0 : ∀ W, w.grownBy W (some R) → RdAt 68 W R s (rdNum false s 1 σ).2 → Inv W [] (rdNum false s 1 σ).2)
    (hs : s.size ≤ 140737488351232) (ha : σ.1 ≤ s.size) :
    Calls Try.prog 67 #[.pointer (some ⟨R, 0, none⟩), .func (.func K) #[] caps] w fun e w' => e = .returned (.tuple #[]) ∧ Inv w' (rdMany false s rd σ).1 (rdMany false s rd σ).2 := by
  have H1 : Hid (∀ w, RdAt 68 w R s σ → Calls Try.prog 65 #[.pointer (some ⟨R, 0, none⟩), .int .i64 1] w fun e w' => e = .returned (.int .i64 (rdNum false s 1 σ).1) ∧ RdAt 68 w' R s (rdNum false s 1 σ).2 ∧ w.grownBy w' (some R)) := fun w h => number_any R s σ 1 (.inl rfl) w h hs ha _ rfl
  have hb := rdNum_bd false s 1 σ
  have hl1 := rdNum_le false s 1 σ ha
  have EM : Hid (rdMany false s rd σ = rdTimes rd (rdNum false s 1 σ).1.toNat ([], (rdNum false s 1 σ).2)) := rfl
  obtain ⟨n, En⟩ : ∃ n : Nat, (rdNum false s 1 σ).1 = n := ⟨(rdNum false s 1 σ).1.toNat, by omega⟩
  rw [En] at hb EM H1
  rw [Int.toNat_natCast] at EM
  have hn : n < 256 := by omega
  clear En hb
  generalize (rdNum false s 1 σ).2 = σ1 at *
  generalize rdMany false s rd σ = MM at *
  have HLE : Hid (∀ k, (rdTimes rd k ([], σ1)).2.1 ≤ s.size) := rdTimes_le s rd hle _ hl1
  have HLN : Hid (∀ k, (rdTimes rd k ([], σ1)).1.length ≤ k) := fun k => by simpa using rdTimes_length rd ([], σ1) k
  have HST : Hid (∀ W l τ, l.length < 255 → τ.1 ≤ s.size → Inv W l τ → Calls Try.prog K caps W fun e W' => e = .returned (.tuple #[]) ∧ Inv W' (l ++ [(rd τ).1]) (rd τ).2) := hstep
  clear hs ha hl1 hle hstep
  go_enter Try.func67, Try.ntmps67
  go_wp2_with fail
  refine (H1.out _ h).mono ?_
  rintro e w1 ⟨rfl, h1, k1⟩
  have I1 := h0 _ k1 h1
  clear h0 H1 h1 k1
  go_wp2
  go_loopw [6] (fun i wr => ∃ k : Nat, k ≤ n ∧ i = .int .i64 k ∧ Hid (Inv wr (rdTimes rd k ([], σ1)).1 (rdTimes rd k ([], σ1)).2)) (fun i _ => n - (intOf i).toNat)
  case atStart => exact ⟨0, Nat.zero_le _, rfl, I1⟩
  case round =>
    obtain ⟨k, hk, rfl, hI⟩ := hrel
    by_cases hlt : k < n
    · obtain ⟨c0, c1, c2, f1, f2⟩ := (hrd _ _ _ hI.out).parts
      by_cases hsh : (rdTimes rd k ([], σ1)).2.2 = true
      · have HE : Hid (MM = rdTimes rd k ([], σ1)) := by
          show MM = _
          rw [EM.out]; exact rdTimes_stop rd _ k hsh n hk
        rw [hsh] at c2
        go_wp2
        refine bodyPost_ret (results_none rfl _ _ _) rfl ?_
        exact ⟨rfl, by rw [HE.out]; exact hI.out⟩
      · have hsf : (rdTimes rd k ([], σ1)).2.2 = false := by simpa using hsh
        have HE : Hid (rdTimes rd (k + 1) ([], σ1) = _) := rdTimes_next rd _ k hsf
        have HC := HST.out _ _ _ (by have := HLN.out k; omega) (HLE.out k) hI.out
        rw [hsf] at c2
        go_wp2_with fail
        refine Calls.mono HC ?_
        rintro e w2 ⟨rfl, hI2⟩
        have HI2 : Hid (Inv w2 (rdTimes rd (k + 1) ([], σ1)).1 (rdTimes rd (k + 1) ([], σ1)).2) := by
          show Inv w2 _ _
          rw [HE.out]; exact hI2
        clear hI2 HE
        go_wp2
        exact ⟨⟨k + 1, by omega, by go_num, HI2⟩, by simp [intOf]; omega⟩
    · obtain rfl : k = n := by omega
      have HI2 : Hid (Inv wr MM.1 MM.2) := by rw [EM.out]; exact hI
      go_wp2
      go_end0
      exact ⟨rfl, HI2.out⟩

end Go.Proofs.Ytaklbnabgcglhaa
