/- The node ahead of all, as law 15 tells it. -/
import Derived.Test.YtaaljploegiihaaGreatYF
import Derived.Test.YtaaljploegiihaaGreatXN
import Derived.Test.YtaaljploegiihaaGreatYI
import Derived.Test.YtaaljploegiihaaGreatYL
namespace Go.Proofs.YtaaljploegiihaaGreat
open Go.ChangeShapes Go.WideShapes Go.ChangeAt Go.RowKit

end Go.Proofs.YtaaljploegiihaaGreat
