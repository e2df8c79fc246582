/- Contract of galleylaw02.gone: what an iterator gives, in two lists of the call's own. -/
import Derived.Test.YthkdnmekfldloaaDoorGon
import Derived.Test.YthkdnmekfldloaaDoorLat
namespace Go.Proofs.YthkdnmekfldloaaDoor
open Go.ChangeShapes Go.WideShapes Go.ChangeAt Go.RowKit
end Go.Proofs.YthkdnmekfldloaaDoor
