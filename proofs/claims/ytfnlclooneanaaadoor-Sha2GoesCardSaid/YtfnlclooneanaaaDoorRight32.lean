/- The contract of octet.Right32: a word rotated to the right. -/
import Derived.Test.YtfnlclooneanaaaDoorRolP
import Derived.Laws.BitsAllLaws
import Derived.Deep.QuietTactic
import Derived.BigQuiet
import Derived.WalkKit
import Derived.WalkSpells
import Derived.WalkLawsBesides
import Derived.Lib.Hide
namespace Go.Proofs.YtfnlclooneanaaaDoor
open Go.RowKit

theorem ro32 (x s : Nat) (hs : s ≤ 32) (hx : x < 4294967296) : bits .or .u32 ((x : Int) / 2 ^ s) ((x : Int) * 2 ^ (32 - s) % 4294967296) = (rol 32 x (32 - s) : Int) := by
  have e1 : (x : Int) * 2 ^ (32 - s) % 4294967296 = ((x * 2 ^ (32 - s) % 2 ^ 32 : Nat) : Int) := by
    rw [Int.natCast_emod, Int.natCast_mul, Int.natCast_pow]; rfl
  have e2 : (x : Int) / 2 ^ s = ((x / 2 ^ s : Nat) : Int) := by rw [Int.natCast_ediv, Int.natCast_pow]; rfl
  have h2 : x / 2 ^ s ≤ x := Nat.div_le_self _ _
  have h3 := or_rol 32 x (32 - s) (by omega) hx
  rw [show 32 - (32 - s) = s from by omega] at h3
  rw [e1, e2, u32_or_nat _ _ (by omega) (Nat.mod_lt _ (by decide)), Nat.or_comm, h3]
theorem and31 (k : Int) : bits .and .i64 k 31 = k % 32 := by
  show IntKind.i64.wrap ((BitVec.ofInt 64 k &&& BitVec.ofInt 64 31).toNat : Int) = _
  rw [BitVec.toNat_and, BitVec.toNat_ofInt, show (BitVec.ofInt 64 31).toNat = 31 from by decide, nat_mask5, IntKind.wrap_i64]
  omega
set_option maxHeartbeats 400000 in
theorem right32_calls (x : Nat) (k : Int) (w : World) (hx : x < 4294967296) :
    Calls Tryd.prog 28 #[.int .u32 (x : Int), .int .i64 k] w (Quiet w (.int .u32 (rol 32 x (32 - (k % 32).toNat) : Int))) := by
  obtain ⟨s, hs⟩ : ∃ s : Nat, k % 32 = s := ⟨(k % 32).toNat, by omega⟩
  have hs32 : s < 32 := by omega
  have hand : bits .and .i64 k 31 = (s : Int) := by rw [and31, hs]
  have HS := Lib.hid hs
  clear hs
  go_enter Tryd.func28, Tryd.ntmps28
  go_wp2
  go_quiet (fail)
  go_wp2
  go_ret
  refine ⟨?_, nq, rfl⟩
  have e : (k % 32).toNat = s := by have := HS.out; omega
  rw [e, ← ro32 x s (by omega) hx]
  rfl
end Go.Proofs.YtfnlclooneanaaaDoor
