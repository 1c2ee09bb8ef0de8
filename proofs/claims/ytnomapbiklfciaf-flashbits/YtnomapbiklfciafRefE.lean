/- The contract of the document's CheckModule. -/
import Derived.Test.YtnomapbiklfciafRefD
namespace Go.Proofs.Ytnomapbiklfciaf
open Go.RowKit Go.PlainAid

end Go.Proofs.Ytnomapbiklfciaf
