/-
  What the library's bytes.Clone answers: the same bytes in memory of their own, or nil of nil.
-/
import Derived.Test.YtaknhbklopmojaaGet
namespace Go.Proofs.Ytaknhbklopmojaa
open Go.ChangeShapes Go.WideShapes Go.ChangeAt Go.RowKit
set_option linter.unusedVariables false

end Go.Proofs.Ytaknhbklopmojaa
