/- The contract of octet.Little: new memory that holds the bytes of a number, the lowest first. -/
import Derived.Test.YtkmedbdaobficaaClamp
import Derived.Test.YtkmedbdaobficaaMem
import Derived.Test.YtkmedbdaobficaaPlain
namespace Go.Proofs.Ytkmedbdaobficaa
open Go.RowKit

/-- What stands in the slice while Little goes: the first i of the m bytes. -/
def lpart (n m i : Nat) : List UInt8 := little n i ++ List.replicate (m - i) 0
set_option maxRecDepth 100000 in
@[simp] theorem lpart_len (n m i : Nat) (h : i ≤ m) : (lpart n m i).length = m := by simp [lpart]; omega
set_option maxRecDepth 100000 in
theorem lpart_set (n m i : Nat) (h : i < m) : (lpart n m i).set i (UInt8.ofNat (n / 256 ^ i)) = lpart n m (i + 1) := by
  unfold lpart
  rw [List.set_append_right _ _ (by simp)]
  simp only [little_len, Nat.sub_self]
  rw [show m - i = (m - (i + 1)) + 1 from by omega, List.replicate_succ, List.set_cons_zero]
  simp [little, List.range_succ]

end Go.Proofs.Ytkmedbdaobficaa
