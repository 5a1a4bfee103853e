/- Contracts of the document's own Count of layer 6. -/
import Derived.Test.YthpigninbeommaaCodB
namespace Go.Proofs.Ythpigninbeommaa
open Go.RowKit
set_option linter.unusedVariables false
set_option linter.unusedSimpArgs false

end Go.Proofs.Ythpigninbeommaa
