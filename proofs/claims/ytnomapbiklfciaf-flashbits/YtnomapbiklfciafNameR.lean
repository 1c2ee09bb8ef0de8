/- The contracts of the document's names and imports. -/
import Derived.Test.YtnomapbiklfciafNameW
namespace Go.Proofs.Ytnomapbiklfciaf
open Go.RowKit Go.PlainAid

theorem wrap_bt (s : ByteArray) (k : Nat) : wrap64 (bt s k) = bt s k := by
  have a := bt_nonneg s k
  have b := bt_le s k
  unfold wrap64; omega

theorem okc_parts {c : Int} (hc : okc c = true) : betw c 97 122 = true ∨ (betw c 97 122 = false ∧ (betw c 48 57 = true ∨ (betw c 48 57 = false ∧ (c != 95) = false))) := by
  unfold okc at hc
  cases ha : betw c 97 122
  · cases hb : betw c 48 57
    · rw [ha, hb] at hc
      refine .inr ⟨rfl, .inr ⟨rfl, ?_⟩⟩
      simpa using hc
    · exact .inr ⟨rfl, .inl rfl⟩
  · exact .inl rfl
theorem okc_none {c : Int} (hcf : okc c = false) : betw c 97 122 = false ∧ betw c 48 57 = false ∧ (c != 95) = true := by
  unfold okc at hcf
  rw [Bool.or_eq_false_iff, Bool.or_eq_false_iff] at hcf
  exact ⟨hcf.1, hcf.2.1, by simpa using hcf.2.2⟩

/-- What is wrong with an import by itself. -/
def impOwn (i : Imp) : Int := if (isNm i.mod && isNm i.name) = false then 1 else if isVer i.major i.minor = false then 3 else 0
def Imp.fits (i : Imp) : Prop := i.mod.size ≤ 9223372036854775807 ∧ i.name.size ≤ 9223372036854775807

end Go.Proofs.Ytnomapbiklfciaf
