/- The contract of the document's CheckModule. -/
import Derived.Test.YtnomapbiklfciafRefC
namespace Go.Proofs.Ytnomapbiklfciaf
open Go.RowKit Go.PlainAid

theorem impErr_own (met : List (ByteArray × ByteArray)) (i : Imp) : impErr met i = if impOwn i = 1 then 1 else if (met.any fun x => x.1 == i.mod && x.2 == i.name) = true then 6 else impOwn i := by
  unfold impErr impOwn
  cases h1 : isNm i.mod && isNm i.name
  · simp
  · cases h2 : isVer i.major i.minor
    · simp
    · simp
theorem impOwn_three (i : Imp) : impOwn i = 1 ∨ impOwn i = 3 ∨ impOwn i = 0 := by
  unfold impOwn
  cases h1 : isNm i.mod && isNm i.name
  · simp
  · cases h2 : isVer i.major i.minor <;> simp

end Go.Proofs.Ytnomapbiklfciaf
