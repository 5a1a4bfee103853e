/- The contracts of package compact. -/
import Derived.Test.YtdgfgehjnfadnaaCmpC
import Derived.Test.YtdgfgehjnfadnaaCmpW
import Derived.Deep.RegionHeld3
import Derived.Deep.CutRange
import Derived.Deep.DeepCutAuto
namespace Go.Proofs.Ytdgfgehjnfadnaa
open Go.RowKit
set_option linter.unusedVariables false
set_option linter.unusedSimpArgs false

end Go.Proofs.Ytdgfgehjnfadnaa
