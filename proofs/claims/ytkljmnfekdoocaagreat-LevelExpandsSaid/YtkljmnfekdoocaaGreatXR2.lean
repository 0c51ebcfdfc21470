/- Whether a state covers another one: the program's answer, and the document's. -/
import Derived.Test.YtkljmnfekdoocaaGreatXR1
import Derived.Test.YtkljmnfekdoocaaGreatXE
import Derived.BigRegion
import Derived.Test.YtkljmnfekdoocaaGreatXSNext
namespace Go.Proofs.YtkljmnfekdoocaaGreat
open Go.ChangeShapes Go.WideShapes Go.ChangeAt Go.RowKit

end Go.Proofs.YtkljmnfekdoocaaGreat
/- A state is added to what was thrown together. -/
namespace Go.Proofs.YtkljmnfekdoocaaGreat
open Go.ChangeShapes Go.WideShapes Go.ChangeAt Go.RowKit

end Go.Proofs.YtkljmnfekdoocaaGreat
/- States thrown together: the program's answer. -/
namespace Go.Proofs.YtkljmnfekdoocaaGreat
open Go.ChangeShapes Go.WideShapes Go.ChangeAt Go.RowKit

end Go.Proofs.YtkljmnfekdoocaaGreat
