/- The contract of the statements' checkGraph. -/
import Derived.Test.YtaklbnabgcglhabRfA
namespace Go.Proofs.Ytaklbnabgcglhab
open Go.RowKit Go.PlainAid

set_option maxRecDepth 100000

set_option maxHeartbeats 1000000 in
theorem checkGraph_any (l : List PV) (v : Value) (w : World) (hrow : IsPlcs w.heap.size w v l) (hfit : ∀ x ∈ l, x.mod.fits) :
    Calls Try.prog 30 #[v] w fun e w' => e = .returned (.int .i64 (chkGraph (l.map PV.plc))) ∧ Below w.heap.size w w' := by
  have HC : Hid (Calls Try.prog 47 #[v, .bool false, .bool false] w fun e w' => e = .returned (.int .i64 (plainErr (l.map PV.plc))) ∧ Below w.heap.size w w') := checkPlain_any l v w hrow hfit
  have HT : Hid (∀ W, Below w.heap.size w W → Calls Try.prog 65 #[v] W fun e w' => e = .returned (.bool (twiceFrom [] (l.map PV.plc))) ∧ Below W.heap.size W w') := fun W hb => isTwice_any l v W ((hrow.1.below hb).more hb.size)
  obtain ⟨⟨a, cap, rfl, _, _⟩, _⟩ := hrow
  have HK : Hid (chkGraph (l.map PV.plc) = if plainErr (l.map PV.plc) ≠ 0 then plainErr (l.map PV.plc) else if twiceFrom [] (l.map PV.plc) = true then 6 else 0) := (rfl : _ = _)
  generalize chkGraph (l.map PV.plc) = R at *
  generalize plainErr (l.map PV.plc) = cp at *
  generalize twiceFrom [] (l.map PV.plc) = t at *
  generalize l.length = ll at *
  clear hfit
  go_enter Try.func30, Try.ntmps30
  go_wp2_with fail
  refine HC.out.mono ?_
  rintro e w2 ⟨rfl, B2⟩
  clear HC
  by_cases h0 : cp = 0
  · subst h0
    go_wp2_with fail
    refine (HT.out _ B2).mono ?_
    rintro e w3 ⟨rfl, b3⟩
    have B3 := B2.trans (b3.mono B2.size)
    clear HT b3
    cases t
    · have HR : Hid (R = 0) := HK.out
      clear HK
      go_wp2
      go_ret
      exact ⟨by rw [HR.out]; rfl, B3⟩
    · have HR : Hid (R = 6) := HK.out
      clear HK
      go_wp2
      go_ret
      exact ⟨by rw [HR.out]; rfl, B3⟩
  · have h0' : (cp == 0) = false := by simpa using h0
    have HR : Hid (R = cp) := by
      show R = cp
      rw [HK.out, if_pos h0]
    clear HK HT h0
    go_wp2
    go_ret
    exact ⟨by rw [HR.out]; rfl, B2⟩

end Go.Proofs.Ytaklbnabgcglhab
