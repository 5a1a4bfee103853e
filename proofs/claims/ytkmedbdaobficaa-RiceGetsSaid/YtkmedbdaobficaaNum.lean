/- The contract of octet.Num: the number of the first eight bytes, the lowest first. -/
import Derived.Test.YtkmedbdaobficaaClamp
import Derived.Test.YtkmedbdaobficaaMem
import Derived.Test.YtkmedbdaobficaaNumP
import Derived.Laws.BitsAllLaws
namespace Go.Proofs.Ytkmedbdaobficaa
open Go.RowKit

set_option maxRecDepth 100000 in
theorem num_step (l : List UInt8) (t : Nat) (hl : t < l.length) (ht : t < 8) :
    bits .or .u64 (numL (l.take t) : Int) (IntKind.u64.wrap ((l[t].toNat : Int) * 2 ^ (8 * t))) = (numL (l.take (t + 1)) : Int) := by
  have hx := numL_lt (l.take t)
  rw [List.length_take, Nat.min_eq_left (by omega)] at hx
  have hc := l[t].toNat_lt
  have hp := pow_le64 (t + 1) (by omega)
  have hpos : 0 < 256 ^ t := Nat.pow_pos (by omega)
  have hz : l[t].toNat * 256 ^ t < 18446744073709551616 := by
    rw [Nat.pow_succ] at hp
    have : l[t].toNat * 256 ^ t ≤ 255 * 256 ^ t := Nat.mul_le_mul_right _ (by omega)
    omega
  have e : (l[t].toNat : Int) * 2 ^ (8 * t) = ((l[t].toNat * 256 ^ t : Nat) : Int) := by
    rw [← pow8, Int.natCast_mul, Int.natCast_pow]; rfl
  rw [e, wrap64_nat _ hz, u64_or_nat _ _ (by have := pow_le64 t (by omega); omega) hz]
  congr 1
  rw [take_snoc l t hl, numL_append, List.length_take, Nat.min_eq_left (by omega), Nat.or_comm]
  rw [nat_join (8 * t) _ _ (by rw [pow8]; exact Nat.mul_mod_left _ _) (by rw [pow8]; exact hx)]
  simp only [numL]
  rw [Nat.mul_zero, Nat.add_zero, Nat.mul_comm (256 ^ t), Nat.add_comm]
end Go.Proofs.Ytkmedbdaobficaa
