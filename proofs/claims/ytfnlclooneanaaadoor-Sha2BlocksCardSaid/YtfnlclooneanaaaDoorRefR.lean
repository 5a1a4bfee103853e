/- The contracts of the document's own right, K and First of layer 2. -/
import Derived.Test.YtfnlclooneanaaaDoorShaT
namespace Go.Proofs.YtfnlclooneanaaaDoor
open Go.RowKit
set_option linter.unusedVariables false

theorem ror_one (x i : Nat) (hi : i < 32) (hx : x < 4294967296) : rol 32 x (32 - i) / 2 + rol 32 x (32 - i) % 2 * 2147483648 = rol 32 x (32 - (i + 1)) := by
  have h := rol_step 32 x (31 - i) (by omega) hx
  have hz := rol_lt 32 x (31 - i) (by omega) hx
  rw [show 31 - i + 1 = 32 - i from by omega] at h
  rw [show 32 - (i + 1) = 31 - i from by omega]
  have e : 2 ^ (32 - 1) = 2147483648 := by decide
  have e2 : 2 ^ 32 = 4294967296 := by decide
  rw [e] at h
  rw [e2] at hz
  omega

set_option maxHeartbeats 400000 in
theorem right_calls (x k : Nat) (w : World) (hx : x < 4294967296) (hk : k < 32) :
    Calls Tryd.prog 23 #[.int .u32 (x : Int), .int .i64 (k : Int)] w fun e w' => e = .returned (.int .u32 (rotr x k : Int)) ∧ w' = w := by
  go_enter Tryd.func23, Tryd.ntmps23
  go_wp2
  go_loop [0, 5] (fun v i => ∃ t : Nat, t ≤ k ∧ i = .int .i64 t ∧ v = .int .u32 (rol 32 x (32 - t) : Int)) (fun _ i => k - (intOf i).toNat)
  case atStart => exact ⟨0, Nat.zero_le _, rfl, by rw [Nat.sub_zero]; congr 2; unfold rol; simp [Nat.mod_one]⟩
  case round =>
    obtain ⟨t, ht, rfl, rfl⟩ := hrel
    by_cases hlt : t < k
    · obtain ⟨y, hy⟩ : ∃ y, y = rol 32 x (32 - t) := ⟨_, rfl⟩
      have hyl : y < 4294967296 := by rw [hy]; exact rol_lt 32 x (32 - t) (by omega) hx
      have hs := ror_one x t (by omega) hx
      rw [← hy] at hs ⊢
      have HS := Lib.hid hs
      clear hs hy
      go_wp2
      go_round
      case rel =>
        refine ⟨t + 1, by omega, by go_num, ?_⟩
        rw [← HS.out]
        congr 1
      case measure => simp [intOf]; omega
    · have e : t = k := by omega
      subst e
      go_wp2
      go_ret
      exact ⟨rfl, rfl⟩

end Go.Proofs.YtfnlclooneanaaaDoor
