/- The program's own Than and Front. -/
import Derived.Test.YtgplajofemencaaGreatGAmong
import Derived.Test.YtgplajofemencaaGreatXL
namespace Go.Proofs.YtgplajofemencaaGreat
open Go.ChangeShapes Go.WideShapes Go.ChangeAt Go.RowKit

end Go.Proofs.YtgplajofemencaaGreat
