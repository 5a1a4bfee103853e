/- Contracts of octet.clampWidth and of the document's own Held: both clamp a width to 0 and 8, and leave the world alone. -/
import Derived.Test.YtgjpfkkonmibfaaProg
import Derived.WalkKit
import Derived.WalkSpells
import Derived.WalkLawsBesides
import Derived.Lib.Hide
namespace Go.Proofs.Ytgjpfkkonmibfaa
open Go.RowKit

/-- A width within 0 and 8. -/
def cw (k : Int) : Int := if k < 0 then 0 else if 8 < k then 8 else k
theorem cw_bd (k : Int) : 0 ≤ cw k ∧ cw k ≤ 8 := by unfold cw; split <;> (try split) <;> omega

theorem held_any (k : Int) (w : World) : Calls Try.prog 11 #[.int .i64 k] w fun e w' => e = .returned (.int .i64 (cw k)) ∧ w = w' := by
  unfold cw
  by_cases h : k < 0
  · go_enter Try.func11, Try.ntmps11
    go_wp2
    go_ret
    exact ⟨rfl, rfl⟩
  · by_cases h8 : 8 < k
    · go_enter Try.func11, Try.ntmps11
      go_wp2
      go_ret
      exact ⟨rfl, rfl⟩
    · go_enter Try.func11, Try.ntmps11
      go_wp2
      go_ret
      exact ⟨rfl, rfl⟩

theorem clamp_any (k : Int) (w : World) : Calls Try.prog 27 #[.int .i64 k] w fun e w' => e = .returned (.int .i64 (cw k)) ∧ w = w' := by
  unfold cw
  by_cases h : k < 0
  · go_enter Try.func27, Try.ntmps27
    go_wp2
    go_ret
    go_show
    exact ⟨rfl, rfl⟩
  · by_cases h8 : 8 < k
    · go_enter Try.func27, Try.ntmps27
      go_wp2
      go_ret
      exact ⟨rfl, rfl⟩
    · go_enter Try.func27, Try.ntmps27
      go_wp2
      go_ret
      exact ⟨rfl, rfl⟩
end Go.Proofs.Ytgjpfkkonmibfaa
