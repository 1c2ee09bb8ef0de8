/- The contract of the document's textLess. -/
import Derived.Test.YtaklbnabgcglhabRfB
import Derived.Test.YtaklbnabgcglhabNameR
namespace Go.Proofs.Ytaklbnabgcglhab
open Go.RowKit Go.PlainAid

set_option maxRecDepth 100000

def lessT (a b : ByteArray) : Bool := decide (a.data.toList < b.data.toList)
theorem bt_byte {s : ByteArray} {k : Nat} (h : k < s.size) : ∃ x : UInt8, s.data.toList[k]? = some x ∧ bt s k = (x.toNat : Int) := by
  refine ⟨s[k], ?_, by unfold bt; rw [dif_pos h]⟩
  have h1 : k < s.data.toList.length := by simpa using h
  rw [List.getElem?_eq_getElem h1]
  rfl

set_option maxHeartbeats 2000000 in
theorem textLess_any (a b : ByteArray) (w : World) (_ : a.size ≤ 9223372036854775807) :
    Calls Try.prog 68 #[.string a, .string b] w fun e w' => e = .returned (.bool (lessT a b)) ∧ ∃ q, w' = w.drewN q := by
  have HC0 : Hid (lessT a b = decide (a.data.toList.drop 0 < b.data.toList.drop 0)) := (rfl : _ = _)
  have hla : a.data.toList.length = a.size := by simp
  have hlb : b.data.toList.length = b.size := by simp
  have HLA : Hid (a.data.toList.length = a.size) := hla
  have HLB : Hid (b.data.toList.length = b.size) := hlb
  clear hla hlb
  have hba := get_bt a
  have hbb := get_bt b
  generalize lessT a b = R at *
  go_enter Try.func68, Try.ntmps68
  go_wp2_with fail
  go_loopw [5] (fun i wr => ∃ (k : Nat), k ≤ a.size ∧ k ≤ b.size ∧ i = .int .i64 k ∧ Hid (R = decide (a.data.toList.drop k < b.data.toList.drop k)) ∧ Hid (∃ q, wr = w.drewN q)) (fun i _ => a.size - (intOf i).toNat)
  case atStart => exact ⟨0, Nat.zero_le _, Nat.zero_le _, rfl, HC0.out, (⟨0, rfl⟩ : ∃ q, w = w.drewN q)⟩
  case round =>
    obtain ⟨k, hka, hkb, rfl, HC, HQ⟩ := hrel
    clear HC0
    by_cases hlt : k < a.size ∧ k < b.size
    · obtain ⟨h1, h2⟩ := hlt
      obtain ⟨x, hx, ex⟩ := bt_byte h1
      obtain ⟨y, hy, ey⟩ := bt_byte h2
      have h1' : (k : Int) < (a.size : Int) := by omega
      have h2' : (k : Int) < (b.size : Int) := by omega
      by_cases hxy : x = y
      · subst hxy
        have HR : Hid (R = decide (a.data.toList.drop (k + 1) < b.data.toList.drop (k + 1))) := by
          show R = _
          rw [HC.out]
          exact decide_eq_decide.2 (lt_drop_eq _ _ k x hx hy)
        have hq : bt a k = bt b k := by rw [ex, ey]
        clear HC hx hy ex ey
        go_wp2_with fail
        go_quiet (fail)
        go_wp2
        obtain ⟨q, hqq⟩ := HQ.out
        exact ⟨⟨k + 1, by omega, by omega, by go_num, HR.out, (⟨q + _, by rw [hqq, World.drewN_drewN]⟩ : ∃ q, _ = w.drewN q)⟩, by simp [intOf]; omega⟩
      · have HR : Hid (R = decide (bt a k < bt b k)) := by
          show R = _
          rw [HC.out, ex, ey]
          refine decide_eq_decide.2 ((lt_drop _ _ k x y hx hy hxy).trans ?_)
          rw [UInt8.lt_iff_toNat_lt]
          omega
        have hq : bt a k ≠ bt b k := by
          rw [ex, ey]
          intro h
          exact hxy (UInt8.toNat_inj.1 (by omega))
        have hq0 : (bt a k == bt b k) = false := by simpa using hq
        have hq1 : (bt a k != bt b k) = true := by simpa using hq
        clear HC hx hy ex ey hxy
        go_wp2_with fail
        go_quiet (fail)
        go_wp2_with fail
        go_quiet (fail)
        go_wp2
        go_ret
        obtain ⟨q, hqq⟩ := HQ.out
        exact ⟨by rw [HR.out]; rfl, ⟨q + _ + _, by rw [hqq, World.drewN_drewN, World.drewN_drewN, Nat.add_assoc]⟩⟩
    · have HR : Hid (R = decide (a.size < b.size)) := by
        show R = _
        rw [HC.out]
        refine decide_eq_decide.2 ((lt_drop_end _ _ k ?_ ?_ ?_).trans ?_)
        · rw [HLA.out, HLB.out]; omega
        · rw [HLA.out]; exact hka
        · rw [HLB.out]; exact hkb
        · rw [HLA.out, HLB.out]
      clear HC
      by_cases h1 : k < a.size
      · have h2 : decide ((k : Int) < (b.size : Int)) = false := decide_eq_false (by omega)
        go_wp2
        go_ret
        exact ⟨by rw [HR.out]; simp, HQ.out⟩
      · have h2 : decide ((k : Int) < (a.size : Int)) = false := decide_eq_false (by omega)
        go_wp2
        go_ret
        exact ⟨by rw [HR.out]; simp, HQ.out⟩

end Go.Proofs.Ytaklbnabgcglhab
