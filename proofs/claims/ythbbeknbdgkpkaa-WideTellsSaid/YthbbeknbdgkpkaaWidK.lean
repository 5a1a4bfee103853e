/- The contract of layer 4's law's own awake: the document's examples. -/
import Derived.Test.YthbbeknbdgkpkaaWidT
import Derived.Test.YthbbeknbdgkpkaaWidS
namespace Go.Proofs.Ythbbeknbdgkpkaa
open Go.RowKit
set_option linter.unusedVariables false

theorem decL_len (n : Nat) : ∀ N, 10 ^ n ≤ N → N < 10 ^ (n + 1) → (decL N).length = n + 1 := by
  induction n with
  | zero =>
    intro N h1 h2
    rw [decL_pos (by omega), show N / 10 = 0 from by omega, decL_zero]
    rfl
  | succ n ih =>
    intro N h1 h2
    have hp : 0 < 10 ^ n := Nat.pow_pos (by decide)
    have e1 : 10 ^ (n + 1) = 10 ^ n * 10 := Nat.pow_succ _ _
    have e2 : 10 ^ (n + 1 + 1) = 10 ^ n * 10 * 10 := by rw [Nat.pow_succ, e1]
    rw [e1] at h1
    rw [e2] at h2
    rw [decL_pos (by omega), List.length_append, ih (N / 10) (by omega) (by rw [e1]; omega)]
    rfl
theorem decT_max : (decT (2 ^ 256 - 1)).length = 78 := by
  unfold decT
  rw [if_neg (by decide)]
  exact decL_len 77 _ (by decide) (by decide)
theorem bl_top : bl (1 * 2 ^ 255) = 256 := bl_eq _ 256 (by decide) (fun _ => by decide)

set_option maxHeartbeats 4000000 in
theorem awake4_calls (w : World) : Calls Try.prog 20 #[] w (Ret w (.bool true)) := by
  obtain ⟨P1, hP1⟩ : ∃ P1, P1 = 1 * 2 ^ 255 := ⟨_, rfl⟩
  obtain ⟨P2, hP2⟩ : ∃ P2, P2 = 2 ^ 256 - 1 := ⟨_, rfl⟩
  obtain ⟨V0, hV0⟩ : ∃ V, V = uA 1 := ⟨_, rfl⟩
  obtain ⟨V1, hV1⟩ : ∃ V, V = uA P1 := ⟨_, rfl⟩
  obtain ⟨V2, hV2⟩ : ∃ V, V = uA P2 := ⟨_, rfl⟩
  obtain ⟨S, hS⟩ : ∃ S, S = str (decT P2) := ⟨_, rfl⟩
  have hSl : S.size = 78 := by rw [hS, str_size, hP2]; exact decT_max
  have C1 : Hid (∀ W, Calls Try.prog 41 #[.int .u64 1] W (Ret W (.agg V0))) := Lib.hid fun W => by rw [hV0]; exact wof_calls 1 W (by decide)
  have C2 : Hid (∀ W, Calls Try.prog 30 #[.agg V0, .int .i64 255] W (Ret W (.agg V1))) := Lib.hid fun W => by rw [hV0, hV1, hP1]; exact shl_calls 1 255 255 W (by decide) (by decide) (by decide)
  have C3 : Hid (∀ W, Calls Try.prog 34 #[.agg V1] W (Ret W (.int .i64 256))) := Lib.hid fun W => by
    have h := wlen_calls P1 W (by rw [hP1]; decide)
    rw [← hV1, hP1, bl_top] at h
    exact h
  have C4 : Hid (∀ W, Calls Try.prog 42 #[] W (Ret W (.agg V2))) := Lib.hid fun W => by rw [hV2, hP2]; exact max_calls W
  have C5 : Hid (∀ W, Calls Try.prog 36 #[.agg V2] W (Ret W (.string S))) := Lib.hid fun W => by rw [hV2, hS]; exact text_calls P2 W (by rw [hP2]; decide)
  clear hP1 hP2 hV0 hV1 hV2 hS
  go_enter Try.func20, Try.ntmps20
  go_wp2_with (first
    | (go_at_call 41; refine (C1.out _).mono ?_; rintro e' w1 ⟨rfl, b1⟩)
    | (go_at_call 30; refine (C2.out _).mono ?_; rintro e' w2 ⟨rfl, b2⟩)
    | (go_at_call 34; refine (C3.out _).mono ?_; rintro e' w3 ⟨rfl, b3⟩)
    | (go_at_call 42; refine (C4.out _).mono ?_; rintro e' w4 ⟨rfl, b4⟩)
    | (go_at_call 36; refine (C5.out _).mono ?_; rintro e' w5 ⟨rfl, b5⟩))
  go_ret
  exact ⟨rfl, ((((Still.step (w := w) b1 b2).step b3).step b4).step b5)⟩
end Go.Proofs.Ythbbeknbdgkpkaa
