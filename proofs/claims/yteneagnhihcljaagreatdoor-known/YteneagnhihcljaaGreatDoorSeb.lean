import Derived.Test.YteneagnhihcljaaGreatDoorSea
namespace Go.Proofs.YteneagnhihcljaaGreatDoor
open Go.RowKit
set_option linter.unusedVariables false
set_option linter.unusedSimpArgs false

end Go.Proofs.YteneagnhihcljaaGreatDoor
