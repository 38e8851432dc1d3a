/- Rows3 -/
import Derived.Test.YtblbhhijddcbeaaGreatDoorBBase
import Derived.Deep.Slices
section
namespace Go.Proofs.YtblbhhijddcbeaaGreatDoor
open Go.ChangeShapes Go.WideShapes Go.ChangeAt Go.RowKit
set_option linter.unusedVariables false
set_option linter.unusedSimpArgs false
set_option maxRecDepth 100000
set_option maxHeartbeats 16000000
section
variable {H : Type} {enc : TypeId × Value → H} {P : Program} {W : World} {t e : TypeId}
end
end Go.Proofs.YtblbhhijddcbeaaGreatDoor
end
