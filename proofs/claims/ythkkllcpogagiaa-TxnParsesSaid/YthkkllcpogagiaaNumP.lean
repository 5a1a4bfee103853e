/- Plain facts for numbers of bytes in 64 bits. -/
import Derived.Test.YthkkllcpogagiaaPlain
import Derived.WalkKit
import Derived.Laws.BitsAllLaws
namespace Go.Proofs.Ythkkllcpogagiaa
open Go.RowKit

set_option maxRecDepth 100000 in
theorem take_snoc (l : List UInt8) (t : Nat) (h : t < l.length) : l.take (t + 1) = l.take t ++ [l[t]] := List.take_succ_eq_append_getElem h
set_option maxRecDepth 100000 in
theorem pow_le64 (t : Nat) (ht : t ≤ 8) : 256 ^ t ≤ 18446744073709551616 := by
  have := Nat.pow_le_pow_right (n := 256) (by omega) ht
  have e : 256 ^ 8 = 18446744073709551616 := by decide
  omega
set_option maxRecDepth 100000 in
theorem wrap64_nat (z : Nat) (h : z < 18446744073709551616) : IntKind.u64.wrap (z : Int) = (z : Int) := by
  rw [IntKind.wrap_u64]
  omega
set_option maxRecDepth 100000 in
theorem pow_lt56 (t : Nat) (ht : t ≤ 7) : 256 ^ t ≤ 72057594037927936 := by
  have := Nat.pow_le_pow_right (n := 256) (by omega) ht
  have e : 256 ^ 7 = 72057594037927936 := by decide
  omega
end Go.Proofs.Ythkkllcpogagiaa
