/- Layer 5: Join, Seam. -/
import Derived.Test.YtdklfodccdmmlaaDoorWjn
namespace Go.Proofs.YtdklfodccdmmlaaDoor
open Go.ChangeShapes Go.WideShapes Go.ChangeAt Go.RowKit

end Go.Proofs.YtdklfodccdmmlaaDoor
