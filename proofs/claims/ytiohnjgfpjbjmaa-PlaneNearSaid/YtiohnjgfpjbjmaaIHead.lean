/- Heads and rows as arrays: headOf, rowOf, stop. -/
import Derived.Test.YtiohnjgfpjbjmaaIMem
namespace Go.Proofs.Ytiohnjgfpjbjmaa
open Go.ChangeShapes Go.WideShapes Go.ChangeAt Go.RowKit

end Go.Proofs.Ytiohnjgfpjbjmaa
