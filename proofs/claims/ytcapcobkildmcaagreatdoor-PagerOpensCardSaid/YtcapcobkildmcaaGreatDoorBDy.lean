/- Dy -/
import Derived.Test.YtcapcobkildmcaaGreatDoorBDa
import Derived.Shelf.SlMaps.Clone
import Derived.Deep.RegionHeld3
section
namespace Go.Proofs.YtcapcobkildmcaaGreatDoor
open Go.ChangeShapes Go.WideShapes Go.ChangeAt Go.RowKit
set_option linter.unusedVariables false
set_option linter.unusedSimpArgs false
set_option maxRecDepth 100000
set_option maxHeartbeats 16000000
theorem below_on {w X w' : World} (h : Below X.heap.size X w') (hX : Below w.heap.size w X) : Below w.heap.size w w' := hX.trans (h.mono hX.size)
end Go.Proofs.YtcapcobkildmcaaGreatDoor
end
