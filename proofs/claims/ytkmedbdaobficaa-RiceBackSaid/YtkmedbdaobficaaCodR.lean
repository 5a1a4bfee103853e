/- Contracts of a reader's methods: Of, Err, Left, End, Take, Var. -/
import Derived.Test.YtkmedbdaobficaaCodW
namespace Go.Proofs.Ytkmedbdaobficaa
open Go.RowKit
set_option linter.unusedVariables false

/-- What End answers. -/
def ndE (l : List UInt8) (e : Nat) : Nat := if e = 0 ∧ 0 < l.length then 3 else e
end Go.Proofs.Ytkmedbdaobficaa
