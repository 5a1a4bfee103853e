/- A block that a law reads again and again while calls make memory above it. -/
import Derived.Test.YtdgfgehjnfadnaaBlk2
import Derived.Test.YtdgfgehjnfadnaaRet
namespace Go.Proofs.Ytdgfgehjnfadnaa
open Go.RowKit

/-- Block g still holds cs, and nothing that was there at w has changed. -/
def Hold (w : World) (g : Nat) (cs : List Value) (t : TypeId) (W : World) : Prop := Blk W g cs t ∧ Below w.heap.size w W
theorem Hold.blk {w W : World} {g : Nat} {cs : List Value} {t : TypeId} (h : Hold w g cs t W) : Blk W g cs t := h.1
theorem Hold.bel {w W : World} {g : Nat} {cs : List Value} {t : TypeId} (h : Hold w g cs t W) : Below w.heap.size w W := h.2
theorem Hold.step {w W W' : World} {g : Nat} {cs : List Value} {t : TypeId} (h : Hold w g cs t W) (hb : Below W.heap.size W W') : Hold w g cs t W' :=
  ⟨h.1.below hb h.1.lt, h.2.trans (hb.mono h.2.size)⟩
theorem Hold.drew {w W : World} {g : Nat} {cs : List Value} {t : TypeId} (h : Hold w g cs t W) : Hold w g cs t W.drew := ⟨h.1, ⟨h.2.os, h.2.tape, h.2.output, h.2.size, h.2.block⟩⟩
theorem Hold.new (w : World) (cs : Array Value) (t : TypeId) : Hold w w.heap.size cs.toList t (w.alloc (.cells cs t)) := ⟨Blk.new w cs t, (Below.refl _ w).alloc (Nat.le_refl _) _⟩
theorem Hold.drewN {w W : World} {g : Nat} {cs : List Value} {t : TypeId} (h : Hold w g cs t W) (n : Nat) : Hold w g cs t (W.drewN n) := ⟨h.1, ⟨h.2.os, h.2.tape, h.2.output, h.2.size, h.2.block⟩⟩
theorem ret_hold {P : Program} {f : FuncId} {args : Array Value} {v : Value} {w W : World} {g : Nat} {cs : List Value} {t : TypeId} (hc : Calls P f args W (Ret W v)) (h : Hold w g cs t W) :
    Calls P f args W fun e W' => e = .returned v ∧ Hold w g cs t W' := hc.mono fun _ _ ⟨he, hb⟩ => ⟨he, h.step hb⟩
theorem same_hold {P : Program} {f : FuncId} {args : Array Value} {v : Value} {w W : World} {g : Nat} {cs : List Value} {t : TypeId} (hc : Calls P f args W fun e w' => e = .returned v ∧ W = w') (h : Hold w g cs t W) :
    Calls P f args W fun e W' => e = .returned v ∧ Hold w g cs t W' := hc.mono fun _ _ ⟨he, hb⟩ => ⟨he, hb ▸ h⟩
end Go.Proofs.Ytdgfgehjnfadnaa
