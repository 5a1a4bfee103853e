/- The contracts of layer 11's own held and awake, over what package bit is to answer. -/
import Derived.Test.YtkmedbdaobficaaBitB
import Derived.Test.YtkmedbdaobficaaBitK
import Derived.Test.YtkmedbdaobficaaBitO
import Derived.Test.YtkmedbdaobficaaStp
namespace Go.Proofs.Ytkmedbdaobficaa
open Go.RowKit
set_option linter.unusedVariables false
set_option linter.unusedSimpArgs false

set_option maxRecDepth 100000 in
theorem blk_up {w W : World} {g : Nat} {cs : List Value} {t : TypeId} (h : Blk w g cs t) (hb : Below w.heap.size w W) : Blk W g cs t := h.below hb h.lt
set_option maxRecDepth 100000 in
theorem below_frmB {B : Nat} {S : Nat → Prop} {w W W' : World} (h : Below B w W) (hf : Frm S W W') (hs : B ≤ W.heap.size) (hS : ∀ i, S i → B ≤ i) : Below B w W' := h.trans (hf.below hs hS)
set_option maxRecDepth 100000 in
theorem pack_awake : pack ([] ++ bN 5 (hld 3 64) ++ List.replicate (hld 2 65536) true ++ bN 0 (hld 1 64)) = [184] := by decide
set_option maxRecDepth 100000 in
theorem len_awake : ([] ++ bN 5 (hld 3 64) ++ List.replicate (hld 2 65536) true ++ bN 0 (hld 1 64) : List Bool).length = 6 := by decide
end Go.Proofs.Ytkmedbdaobficaa
