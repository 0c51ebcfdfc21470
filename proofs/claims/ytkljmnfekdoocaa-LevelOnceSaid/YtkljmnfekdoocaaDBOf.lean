/- What a node costs at least in the end: the document's own Of. -/
import Derived.Test.YtkljmnfekdoocaaDBAt
import Derived.Test.YtkljmnfekdoocaaNSum
import Derived.Test.YtkljmnfekdoocaaXR3
import Derived.Test.YtkljmnfekdoocaaSAwake
namespace Go.Proofs.Ytkljmnfekdoocaa
open Go.ChangeShapes Go.WideShapes Go.ChangeAt Go.RowKit

end Go.Proofs.Ytkljmnfekdoocaa
