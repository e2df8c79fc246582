/- Contract of galleylaw02.gone: what an iterator gives, in two lists of the call's own. -/
import Derived.Test.YtpfjfgggacpdfaaDoorGon
import Derived.Test.YtpfjfgggacpdfaaDoorLat
namespace Go.Proofs.YtpfjfgggacpdfaaDoor
open Go.ChangeShapes Go.WideShapes Go.ChangeAt Go.RowKit
end Go.Proofs.YtpfjfgggacpdfaaDoor
