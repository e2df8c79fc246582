/- Contract of galleylaw02.gone: what an iterator gives, in two lists of the call's own. -/
import Derived.Test.YtcodpkmhpplamaaDoorGon
import Derived.Test.YtcodpkmhpplamaaDoorLat
namespace Go.Proofs.YtcodpkmhpplamaaDoor
open Go.ChangeShapes Go.WideShapes Go.ChangeAt Go.RowKit
end Go.Proofs.YtcodpkmhpplamaaDoor
