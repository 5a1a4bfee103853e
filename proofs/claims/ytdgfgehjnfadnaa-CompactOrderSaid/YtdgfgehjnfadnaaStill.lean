/- What was there at w still stands: through draws, new memory and calls. -/
import Derived.Test.YtdgfgehjnfadnaaRet
namespace Go.Proofs.Ytdgfgehjnfadnaa
open Go.RowKit

def Still (w W : World) : Prop := Below w.heap.size w W
theorem Still.refl (w : World) : Still w w := Below.refl _ _
theorem Still.drew {w W : World} (h : Still w W) : Still w W.drew := ⟨h.os, h.tape, h.output, h.size, h.block⟩
theorem Still.drewN {w W : World} (h : Still w W) (n : Nat) : Still w (W.drewN n) := ⟨h.os, h.tape, h.output, h.size, h.block⟩
theorem Still.alloc {w W : World} (h : Still w W) (o : Obj) : Still w (W.alloc o) := Below.alloc (w := W) h h.size o
theorem Still.step {w W W' : World} (h : Still w W) (hb : Below W.heap.size W W') : Still w W' := Below.trans h (hb.mono h.size)
theorem Still.trans {w W W' : World} (h : Still w W) (hb : Still W W') : Still w W' := h.step hb
theorem ret_still {P : Program} {f : FuncId} {args : Array Value} {v : Value} {w W : World} (hc : Calls P f args W (Ret W v)) (h : Still w W) :
    Calls P f args W fun e W' => e = .returned v ∧ Still w W' := hc.mono fun _ _ ⟨he, hb⟩ => ⟨he, h.step hb⟩
end Go.Proofs.Ytdgfgehjnfadnaa
