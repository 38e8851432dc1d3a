/- Dy -/
import Derived.Test.YtblbhhijddcbeaaGreatDoorBDa
import Derived.Shelf.SlMaps.Clone
import Derived.Deep.RegionHeld3
section
namespace Go.Proofs.YtblbhhijddcbeaaGreatDoor
open Go.ChangeShapes Go.WideShapes Go.ChangeAt Go.RowKit
set_option linter.unusedVariables false
set_option linter.unusedSimpArgs false
set_option maxRecDepth 100000
set_option maxHeartbeats 16000000
end Go.Proofs.YtblbhhijddcbeaaGreatDoor
end
