/- The contract of the document's own Left. -/
import Derived.Test.YtomkebbocbbfjaaRolP
import Derived.Laws.BitsAllLaws
import Derived.WalkKit
import Derived.WalkSpells
import Derived.WalkLawsBesides
import Derived.Lib.Hide
namespace Go.Proofs.Ytomkebbocbbfjaa
open Go.RowKit

theorem left_sum (y p : Nat) (hp : 0 < p) (hy : y < 2 * p) (h64 : 2 * p ≤ 18446744073709551616) :
    IntKind.u64.wrap (IntKind.u64.wrap ((y : Int) % (p : Int) * 2) + IntKind.u64.wrap ((y : Int) / (p : Int))) = ((y % p * 2 + y / p : Nat) : Int) := by
  have h1 : y % p < p := Nat.mod_lt _ hp
  have h2 : y / p < 2 := Nat.div_lt_of_lt_mul (by rw [Nat.mul_comm]; exact hy)
  rw [← Int.natCast_emod, ← Int.natCast_ediv, IntKind.wrap_u64, IntKind.wrap_u64, IntKind.wrap_u64]
  generalize y % p = q at *
  generalize y / p = r at *
  omega
theorem tmod_of (k : Int) (B s : Nat) (h : k % B = s) : k.tmod B = s ∨ k.tmod B = s - B := by
  have := Int.tmod_eq_emod (a := k) (b := B)
  split at this <;> omega
set_option maxHeartbeats 400000 in
theorem left_calls (x B : Nat) (k : Int) (w : World) (hB : B ≤ 64) (hB1 : 1 ≤ B) (hx : x < 2 ^ B) :
    Calls Try.prog 27 #[.int .u64 (x : Int), .int .i64 (B : Int), .int .i64 k] w fun e w' => e = .returned (.int .u64 (rol B x (k % B).toNat : Int)) ∧ w = w' := by
  obtain ⟨s, hs⟩ : ∃ s : Nat, k % B = s := ⟨(k % B).toNat, by have := Int.emod_nonneg k (b := B) (by omega); omega⟩
  have hsB : s < B := by have := Int.emod_lt_of_pos k (b := B) (by omega); omega
  have HS := Lib.hid hs
  have HX := Lib.hid hx
  clear hs hx
  have hd1 : decide ((s : Int) < 0) = false := by simp
  have hd2 : decide ((s : Int) - B < 0) = true := by simp; omega
  rcases tmod_of k B s HS.out with ht | ht
  all_goals
    go_enter Try.func27, Try.ntmps27
    go_wp2
    go_loop [7, 8] (fun v i => ∃ t p : Nat, 1 ≤ t ∧ t ≤ B ∧ i = .int .i64 t ∧ v = .int .u64 p ∧ Hid (p = 2 ^ (t - 1))) (fun _ i => B - (intOf i).toNat)
    case atStart => exact ⟨1, 1, by omega, by omega, rfl, rfl, rfl⟩
    case round =>
      obtain ⟨t, p, ht1, htB, rfl, rfl, HP⟩ := hrel
      by_cases hlt : t < B
      · have hp : p ≤ 4611686018427387904 := by
          rw [HP.out]
          exact Nat.pow_le_pow_right (n := 2) (j := 62) (by omega) (by omega)
        go_wp2
        go_round
        case rel =>
          refine ⟨t + 1, p * 2, by omega, by omega, by go_num, by go_num, ?_⟩
          show p * 2 = 2 ^ (t + 1 - 1)
          rw [HP.out, ← Nat.pow_succ]
          congr 1
          omega
        case measure => simp [intOf]; omega
      · have e : t = B := by omega
        subst e
        have hp0 : 0 < p := by rw [HP.out]; exact Nat.pow_pos (by omega)
        go_wp2
        go_loop [0, 9] (fun v i => ∃ t' y : Nat, t' ≤ s ∧ i = .int .i64 t' ∧ v = .int .u64 y ∧ Hid (y = rol t x t')) (fun _ i => s - (intOf i).toNat)
        case atStart => exact ⟨0, x, by omega, rfl, rfl, (rol_zero t x HX.out).symm⟩
        case round =>
          obtain ⟨r, y, hrs, rfl, rfl, HY⟩ := hrel
          by_cases hlt2 : r < s
          · go_wp2
            go_round
            case rel =>
              have hy : y < 2 * p := by
                have h1 := rol_lt t x r (by omega) HX.out
                have h2 : 2 ^ t = 2 * p := by rw [HP.out, Nat.mul_comm, ← Nat.pow_succ]; congr 1; omega
                rw [HY.out, ← h2]; exact h1
              have h64 : 2 * p ≤ 18446744073709551616 := by
                have h2 : 2 ^ t = 2 * p := by rw [HP.out, Nat.mul_comm, ← Nat.pow_succ]; congr 1; omega
                rw [← h2]
                exact Nat.pow_le_pow_right (n := 2) (j := 64) (by omega) (by omega)
              refine ⟨r + 1, y % p * 2 + y / p, by omega, by go_num, by rw [left_sum y p hp0 hy h64], ?_⟩
              have h3 := rol_step t x r (by omega) HX.out
              show y % p * 2 + y / p = rol t x (r + 1)
              rw [← h3, HY.out, HP.out]
            case measure => simp [intOf]; omega
          · have e : r = s := by omega
            subst e
            go_wp2
            go_ret
            have e : (k % t).toNat = r := by have := HS.out; omega
            rw [e, ← HY.out]
            exact ⟨rfl, rfl⟩
end Go.Proofs.Ytomkebbocbbfjaa
