import Derived.Test.YtcaanpcediednaaRm1
namespace Go.Proofs.Ytcaanpcediednaa
open Go.RowKit
set_option linter.unusedVariables false
set_option linter.unusedSimpArgs false

end Go.Proofs.Ytcaanpcediednaa
