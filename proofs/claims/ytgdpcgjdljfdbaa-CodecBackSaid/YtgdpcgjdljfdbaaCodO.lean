/- Structs and lists of parts that came in, as they are read off the row's data. -/
import Derived.Test.YtgdpcgjdljfdbaaOpen
import Derived.Test.YtgdpcgjdljfdbaaBlk
import Derived.Lib.SmallJoins
import Derived.Deep.Slices
import Derived.OpenShut
namespace Go.Proofs.Ytgdpcgjdljfdbaa
open Go.RowKit Go.ChangeShapes Go.WideShapes Go.ChangeAt Go.Deep
set_option linter.unusedVariables false

section
variable {H : Type} {enc : TypeId × Value → H}
/-- A byte slice in a field. -/
theorem open_field {W : World} {base fuel : Nat} {sp : Nat → Bool} {held : Bool} {v : Value} {y : DataW H × List MemPlace} (h : DataW.trod enc Try.prog W base sp held fuel 26 [v] = some y) :
    ∃ A len cap l, v = .slice A len cap ∧ Rd W A len l ∧ len ≤ cap ∧ cap ≤ maxLen := by
  rcases open_ints Try.underlying26 Try.underlying5 (by kernel_rfl) h with ⟨hcs, _⟩ | ⟨x, l, c, zs, hcs, _, hl, hm, hz, hx, hcell, hwz⟩
  · injection hcs with hcs
    exact ⟨none, 0, 0, [], hcs, Rd.nil _ _, by omega, by unfold maxLen; omega⟩
  · injection hcs with hcs
    refine ⟨some x, l, c, bytesOf zs l, hcs, ?_, hl, hm⟩
    have hzl : l ≤ zs.length := by rw [hz]; split <;> omega
    exact rd_ints_at hcell hzl rfl hwz
end
end Go.Proofs.Ytgdpcgjdljfdbaa
