/- What a car's visit leaves. -/
import Derived.Test.YtaaljploegiihaaXTCar
import Derived.Deep.Cut
import Derived.Deep.AppendLies
namespace Go.Proofs.Ytaaljploegiihaa
open Go.ChangeShapes Go.WideShapes Go.ChangeAt Go.RowKit

section
variable {w0 w w' : World} {b z : Nat} {I : Ins} {sv : Value} {a n g h : Int} {S : List Bool} {tb lb tv lv : Value} {T : List Tm} {Q : List Int} {t : Tm}
end
end Go.Proofs.Ytaaljploegiihaa
/- What a car's visit leaves: the walk. -/
namespace Go.Proofs.Ytaaljploegiihaa
open Go.ChangeShapes Go.WideShapes Go.ChangeAt Go.RowKit

end Go.Proofs.Ytaaljploegiihaa
