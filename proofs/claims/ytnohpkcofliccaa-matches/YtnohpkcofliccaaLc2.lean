import Derived.Test.YtnohpkcofliccaaRm1
namespace Go.Proofs.Ytnohpkcofliccaa
open Go.RowKit
set_option linter.unusedVariables false
set_option linter.unusedSimpArgs false

end Go.Proofs.Ytnohpkcofliccaa
