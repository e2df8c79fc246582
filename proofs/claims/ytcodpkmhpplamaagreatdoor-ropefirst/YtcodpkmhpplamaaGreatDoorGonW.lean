/- Contract of galleylaw02.gone: what an iterator gives, in two lists of the call's own. -/
import Derived.Test.YtcodpkmhpplamaaGreatDoorGon
import Derived.Test.YtcodpkmhpplamaaGreatDoorLat
namespace Go.Proofs.YtcodpkmhpplamaaGreatDoor
open Go.ChangeShapes Go.WideShapes Go.ChangeAt Go.RowKit
end Go.Proofs.YtcodpkmhpplamaaGreatDoor
