/- The contract of octet.clampWidth: a width is clamped to 0 and 8, and the world stays. -/
import Derived.Test.YthkkllcpogagiaaProg
import Derived.WalkKit
import Derived.WalkSpells
import Derived.WalkLawsBesides
import Derived.Lib.Hide
namespace Go.Proofs.Ythkkllcpogagiaa
open Go.RowKit

/-- A width within 0 and 8. -/
def cw (k : Int) : Int := if k < 0 then 0 else if 8 < k then 8 else k
set_option maxRecDepth 100000 in
theorem cw_bd (k : Int) : 0 ≤ cw k ∧ cw k ≤ 8 := by unfold cw; split <;> (try split) <;> omega
set_option maxRecDepth 100000 in
theorem clamp_any (k : Int) (w : World) : Calls Try.prog 47 #[.int .i64 k] w fun e w' => e = .returned (.int .i64 (cw k)) ∧ w = w' := by
  unfold cw
  by_cases h : k < 0
  · go_enter Try.func47, Try.ntmps47
    go_wp2
    go_ret
    exact ⟨rfl, rfl⟩
  · by_cases h8 : 8 < k
    · go_enter Try.func47, Try.ntmps47
      go_wp2
      go_ret
      exact ⟨rfl, rfl⟩
    · go_enter Try.func47, Try.ntmps47
      go_wp2
      go_ret
      exact ⟨rfl, rfl⟩

set_option maxRecDepth 100000 in
theorem clamp_nat (k : Int) (m : Nat) (h : cw k = m) (w : World) : Calls Try.prog 47 #[.int .i64 k] w fun e w' => e = .returned (.int .i64 (m : Int)) ∧ w = w' := by
  rw [← h]; exact clamp_any k w

set_option maxRecDepth 100000 in
theorem cw_nat (n : Nat) : cw (n : Int) = ((min n 8 : Nat) : Int) := by unfold cw; split <;> (try split) <;> omega
end Go.Proofs.Ythkkllcpogagiaa
