/- The contract of octet.clampWidth: a width is clamped to 0 and 8, and the world stays. -/
import Derived.Test.YtkmedbdaobficaaProg
import Derived.WalkKit
import Derived.WalkSpells
import Derived.WalkLawsBesides
import Derived.Lib.Hide
namespace Go.Proofs.Ytkmedbdaobficaa
open Go.RowKit

/-- A width within 0 and 8. -/
def cw (k : Int) : Int := if k < 0 then 0 else if 8 < k then 8 else k
set_option maxRecDepth 100000 in
theorem cw_bd (k : Int) : 0 ≤ cw k ∧ cw k ≤ 8 := by unfold cw; split <;> (try split) <;> omega
set_option maxRecDepth 100000 in
theorem cw_nat (n : Nat) : cw (n : Int) = ((min n 8 : Nat) : Int) := by unfold cw; split <;> (try split) <;> omega
end Go.Proofs.Ytkmedbdaobficaa
