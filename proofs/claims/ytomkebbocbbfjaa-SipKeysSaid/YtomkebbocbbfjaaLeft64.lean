/- The contract of octet.Left64: a number of 64 bits rotated to the left. -/
import Derived.Test.YtomkebbocbbfjaaRolP
import Derived.Laws.BitsAllLaws
import Derived.Deep.QuietTactic
import Derived.BigQuiet
import Derived.WalkKit
import Derived.WalkSpells
import Derived.WalkLawsBesides
import Derived.Lib.Hide
namespace Go.Proofs.Ytomkebbocbbfjaa
open Go.RowKit

theorem or64 (x s : Nat) (hs : s ≤ 64) (hx : x < 18446744073709551616) : bits .or .u64 (IntKind.u64.wrap ((x : Int) * 2 ^ s)) ((x : Int) / 2 ^ (64 - s)) = (rol 64 x s : Int) := by
  have e1 : IntKind.u64.wrap ((x : Int) * 2 ^ s) = ((x * 2 ^ s % 2 ^ 64 : Nat) : Int) := by
    rw [IntKind.wrap_u64, Int.natCast_emod, Int.natCast_mul, Int.natCast_pow]; rfl
  have e2 : (x : Int) / 2 ^ (64 - s) = ((x / 2 ^ (64 - s) : Nat) : Int) := by rw [Int.natCast_ediv, Int.natCast_pow]; rfl
  have h2 : x / 2 ^ (64 - s) ≤ x := Nat.div_le_self _ _
  rw [e1, e2, u64_or_nat _ _ (Nat.mod_lt _ (by decide)) (by omega), or_rol 64 x s hs hx]
theorem and63 (k : Int) : bits .and .i64 k 63 = k % 64 := by
  show IntKind.i64.wrap ((BitVec.ofInt 64 k &&& BitVec.ofInt 64 63).toNat : Int) = _
  rw [BitVec.toNat_and, BitVec.toNat_ofInt, show (BitVec.ofInt 64 63).toNat = 63 from by decide, nat_mask6, IntKind.wrap_i64]
  omega
set_option maxHeartbeats 400000 in
theorem left64_calls (x : Nat) (k : Int) (w : World) (hx : x < 18446744073709551616) :
    Calls Try.prog 23 #[.int .u64 (x : Int), .int .i64 k] w (Quiet w (.int .u64 (rol 64 x (k % 64).toNat : Int))) := by
  obtain ⟨s, hs⟩ : ∃ s : Nat, k % 64 = s := ⟨(k % 64).toNat, by omega⟩
  have hs64 : s < 64 := by omega
  have hand : bits .and .i64 k 63 = (s : Int) := by rw [and63, hs]
  have HS := Lib.hid hs
  have HX := Lib.hid hx
  clear hs hx
  go_enter Try.func23, Try.ntmps23
  go_wp2
  go_quiet (fail)
  go_wp2
  go_ret
  refine ⟨?_, nq, rfl⟩
  have e : (k % 64).toNat = s := by have := HS.out; omega
  rw [e, ← or64 x s (by omega) HX.out]
  rfl
end Go.Proofs.Ytomkebbocbbfjaa
