/- What the document's At answers. -/
import Derived.Test.YtkljmnfekdoocaaBMore
import Derived.Test.YtkljmnfekdoocaaPRef
namespace Go.Proofs.Ytkljmnfekdoocaa
open Go.ChangeShapes Go.WideShapes Go.ChangeAt Go.RowKit

end Go.Proofs.Ytkljmnfekdoocaa
