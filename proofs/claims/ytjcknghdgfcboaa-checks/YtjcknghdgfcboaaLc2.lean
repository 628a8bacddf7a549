import Derived.Test.YtjcknghdgfcboaaRm1
namespace Go.Proofs.Ytjcknghdgfcboaa
open Go.RowKit
set_option linter.unusedVariables false
set_option linter.unusedSimpArgs false

end Go.Proofs.Ytjcknghdgfcboaa
