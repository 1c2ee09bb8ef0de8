/- The contract of slices.Sorted(maps.Keys(m)), over the library's. -/
import Derived.Shelf.SlIter.Nil
import Derived.Shelf.SortM.Plain
import Derived.Shelf.SortM.SortNone
import Derived.Ground.GgzProg
import Derived.Ground.SlgmProg
import Derived.Shelf.SlGeneric
import Derived.Test.YtnomapbiklfciafProg
namespace Go.Proofs.Ytnomapbiklfciaf
open Go.Shelf Go.RowKit Go.Maps Go.Sort

set_option maxRecDepth 100000

end Go.Proofs.Ytnomapbiklfciaf
