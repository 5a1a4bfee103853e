/- Words: what a call ends in that leaves all that was there; a byte slice as a string. -/
import Derived.Test.YtdgfgehjnfadnaaMem
import Derived.WalkKit
import Derived.WalkSpells
import Derived.WalkLawsBesides
import Derived.Lib.Hide
namespace Go.Proofs.Ytdgfgehjnfadnaa
open Go.RowKit

/-- What a call ends in that answers v and leaves all that was there. -/
def Ret (w : World) (v : Value) (e : Ending) (w' : World) : Prop := e = .returned v ∧ Below w.heap.size w w'
theorem below_drewN {B : Nat} {a w : World} (h : Below B a w) (n : Nat) : Below B a (w.drewN n) := ⟨h.os, h.tape, h.output, h.size, h.block⟩
end Go.Proofs.Ytdgfgehjnfadnaa
