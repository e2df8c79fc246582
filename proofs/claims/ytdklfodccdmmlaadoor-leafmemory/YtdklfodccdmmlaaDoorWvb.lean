/- Layer 5: Valid, of whatever measures. -/
import Derived.Test.YtdklfodccdmmlaaDoorWva
namespace Go.Proofs.YtdklfodccdmmlaaDoor
open Go.ChangeShapes Go.WideShapes Go.ChangeAt Go.RowKit

end Go.Proofs.YtdklfodccdmmlaaDoor
