/- Contracts of octet.Left32, Right32, Left64 and of the document's own Left: rotations by any number of bits. -/
import Derived.Test.YtgjpfkkonmibfaaOctC
import Derived.Deep.QuietTactic
import Derived.BigQuiet
namespace Go.Proofs.Ytgjpfkkonmibfaa
open Go.RowKit

theorem or_rol (B x s : Nat) (hs : s ≤ B) (hx : x < 2 ^ B) : x * 2 ^ s % 2 ^ B ||| x / 2 ^ (B - s) = rol B x s := by
  have h1 : x / 2 ^ (B - s) < 2 ^ s := Nat.div_lt_of_lt_mul (by rw [← split_pow B s hs]; exact hx)
  rw [nat_join s _ _ (by rw [split_pow B s hs, Nat.mul_mod_mul_right]; exact Nat.mul_mod_left _ _) h1, rol_or B x s hs]
theorem or32 (x s : Nat) (hs : s ≤ 32) (hx : x < 4294967296) : bits .or .u32 ((x : Int) * 2 ^ s % 4294967296) ((x : Int) / 2 ^ (32 - s)) = (rol 32 x s : Int) := by
  have e1 : (x : Int) * 2 ^ s % 4294967296 = ((x * 2 ^ s % 2 ^ 32 : Nat) : Int) := by
    rw [Int.natCast_emod, Int.natCast_mul, Int.natCast_pow]; rfl
  have e2 : (x : Int) / 2 ^ (32 - s) = ((x / 2 ^ (32 - s) : Nat) : Int) := by rw [Int.natCast_ediv, Int.natCast_pow]; rfl
  have h2 : x / 2 ^ (32 - s) ≤ x := Nat.div_le_self _ _
  rw [e1, e2, u32_or_nat _ _ (Nat.mod_lt _ (by decide)) (by omega), or_rol 32 x s hs hx]
theorem ro32 (x s : Nat) (hs : s ≤ 32) (hx : x < 4294967296) : bits .or .u32 ((x : Int) / 2 ^ s) ((x : Int) * 2 ^ (32 - s) % 4294967296) = (rol 32 x (32 - s) : Int) := by
  have e1 : (x : Int) * 2 ^ (32 - s) % 4294967296 = ((x * 2 ^ (32 - s) % 2 ^ 32 : Nat) : Int) := by
    rw [Int.natCast_emod, Int.natCast_mul, Int.natCast_pow]; rfl
  have e2 : (x : Int) / 2 ^ s = ((x / 2 ^ s : Nat) : Int) := by rw [Int.natCast_ediv, Int.natCast_pow]; rfl
  have h2 : x / 2 ^ s ≤ x := Nat.div_le_self _ _
  have h3 := or_rol 32 x (32 - s) (by omega) hx
  rw [show 32 - (32 - s) = s from by omega] at h3
  rw [e1, e2, u32_or_nat _ _ (by omega) (Nat.mod_lt _ (by decide)), Nat.or_comm, h3]
theorem or64 (x s : Nat) (hs : s ≤ 64) (hx : x < 18446744073709551616) : bits .or .u64 (IntKind.u64.wrap ((x : Int) * 2 ^ s)) ((x : Int) / 2 ^ (64 - s)) = (rol 64 x s : Int) := by
  have e1 : IntKind.u64.wrap ((x : Int) * 2 ^ s) = ((x * 2 ^ s % 2 ^ 64 : Nat) : Int) := by
    rw [IntKind.wrap_u64, Int.natCast_emod, Int.natCast_mul, Int.natCast_pow]; rfl
  have e2 : (x : Int) / 2 ^ (64 - s) = ((x / 2 ^ (64 - s) : Nat) : Int) := by rw [Int.natCast_ediv, Int.natCast_pow]; rfl
  have h2 : x / 2 ^ (64 - s) ≤ x := Nat.div_le_self _ _
  rw [e1, e2, u64_or_nat _ _ (Nat.mod_lt _ (by decide)) (by omega), or_rol 64 x s hs hx]

theorem and31 (k : Int) : bits .and .i64 k 31 = k % 32 := by
  show IntKind.i64.wrap ((BitVec.ofInt 64 k &&& BitVec.ofInt 64 31).toNat : Int) = _
  rw [BitVec.toNat_and, BitVec.toNat_ofInt, show (BitVec.ofInt 64 31).toNat = 31 from by decide, nat_mask5, IntKind.wrap_i64]
  omega
theorem and63 (k : Int) : bits .and .i64 k 63 = k % 64 := by
  show IntKind.i64.wrap ((BitVec.ofInt 64 k &&& BitVec.ofInt 64 63).toNat : Int) = _
  rw [BitVec.toNat_and, BitVec.toNat_ofInt, show (BitVec.ofInt 64 63).toNat = 63 from by decide, nat_mask6, IntKind.wrap_i64]
  omega

/-- What a call that only computes ends in. -/
def Quiet (w : World) (v : Value) (e : Ending) (w' : World) : Prop := e = .returned v ∧ ∃ n, w' = w.drewN n

set_option maxHeartbeats 400000 in
theorem left32_calls (x : Nat) (k : Int) (w : World) (hx : x < 4294967296) :
    Calls Try.prog 19 #[.int .u32 (x : Int), .int .i64 k] w (Quiet w (.int .u32 (rol 32 x (k % 32).toNat : Int))) := by
  obtain ⟨s, hs⟩ : ∃ s : Nat, k % 32 = s := ⟨(k % 32).toNat, by omega⟩
  have hs32 : s < 32 := by omega
  have hand : bits .and .i64 k 31 = (s : Int) := by rw [and31, hs]
  have HS := Lib.hid hs
  clear hs
  go_enter Try.func19, Try.ntmps19
  go_wp2
  go_quiet (fail)
  go_wp2
  go_ret
  refine ⟨?_, nq, rfl⟩
  have e : (k % 32).toNat = s := by have := HS.out; omega
  rw [e, ← or32 x s (by omega) hx]
  rfl

set_option maxHeartbeats 400000 in
theorem right32_calls (x : Nat) (k : Int) (w : World) (hx : x < 4294967296) :
    Calls Try.prog 20 #[.int .u32 (x : Int), .int .i64 k] w (Quiet w (.int .u32 (rol 32 x (32 - (k % 32).toNat) : Int))) := by
  obtain ⟨s, hs⟩ : ∃ s : Nat, k % 32 = s := ⟨(k % 32).toNat, by omega⟩
  have hs32 : s < 32 := by omega
  have hand : bits .and .i64 k 31 = (s : Int) := by rw [and31, hs]
  have HS := Lib.hid hs
  clear hs
  go_enter Try.func20, Try.ntmps20
  go_wp2
  go_quiet (fail)
  go_wp2
  go_ret
  refine ⟨?_, nq, rfl⟩
  have e : (k % 32).toNat = s := by have := HS.out; omega
  rw [e, ← ro32 x s (by omega) hx]
  rfl

set_option maxHeartbeats 400000 in
theorem left64_calls (x : Nat) (k : Int) (w : World) (hx : x < 18446744073709551616) :
    Calls Try.prog 21 #[.int .u64 (x : Int), .int .i64 k] w (Quiet w (.int .u64 (rol 64 x (k % 64).toNat : Int))) := by
  obtain ⟨s, hs⟩ : ∃ s : Nat, k % 64 = s := ⟨(k % 64).toNat, by omega⟩
  have hs64 : s < 64 := by omega
  have hand : bits .and .i64 k 63 = (s : Int) := by rw [and63, hs]
  have HS := Lib.hid hs
  have HX := Lib.hid hx
  clear hs hx
  go_enter Try.func21, Try.ntmps21
  go_wp2
  go_quiet (fail)
  go_wp2
  go_ret
  refine ⟨?_, nq, rfl⟩
  have e : (k % 64).toNat = s := by have := HS.out; omega
  rw [e, ← or64 x s (by omega) HX.out]
  rfl

theorem left_sum (y p : Nat) (hp : 0 < p) (hy : y < 2 * p) (h64 : 2 * p ≤ 18446744073709551616) :
    IntKind.u64.wrap (IntKind.u64.wrap ((y : Int) % (p : Int) * 2) + IntKind.u64.wrap ((y : Int) / (p : Int))) = ((y % p * 2 + y / p : Nat) : Int) := by
  have h1 : y % p < p := Nat.mod_lt _ hp
  have h2 : y / p < 2 := Nat.div_lt_of_lt_mul (by rw [Nat.mul_comm]; exact hy)
  rw [← Int.natCast_emod, ← Int.natCast_ediv, IntKind.wrap_u64, IntKind.wrap_u64, IntKind.wrap_u64]
  generalize y % p = q at *
  generalize y / p = r at *
  omega
theorem tmod_of (k : Int) (B s : Nat) (h : k % B = s) : k.tmod B = s ∨ k.tmod B = s - B := by
  have := Int.tmod_eq_emod (a := k) (b := B)
  split at this <;> omega

set_option maxHeartbeats 400000 in
theorem left_calls (x B : Nat) (k : Int) (w : World) (hB : B ≤ 64) (hB1 : 1 ≤ B) (hx : x < 2 ^ B) :
    Calls Try.prog 22 #[.int .u64 (x : Int), .int .i64 (B : Int), .int .i64 k] w fun e w' => e = .returned (.int .u64 (rol B x (k % B).toNat : Int)) ∧ w = w' := by
  obtain ⟨s, hs⟩ : ∃ s : Nat, k % B = s := ⟨(k % B).toNat, by have := Int.emod_nonneg k (b := B) (by omega); omega⟩
  have hsB : s < B := by have := Int.emod_lt_of_pos k (b := B) (by omega); omega
  have HS := Lib.hid hs
  have HX := Lib.hid hx
  clear hs hx
  have hd1 : decide ((s : Int) < 0) = false := by simp
  have hd2 : decide ((s : Int) - B < 0) = true := by simp; omega
  rcases tmod_of k B s HS.out with ht | ht
  all_goals
    go_enter Try.func22, Try.ntmps22
    go_wp2
    go_loop [7, 8] (fun v i => ∃ t p : Nat, 1 ≤ t ∧ t ≤ B ∧ i = .int .i64 t ∧ v = .int .u64 p ∧ Hid (p = 2 ^ (t - 1))) (fun _ i => B - (intOf i).toNat)
    case atStart => exact ⟨1, 1, by omega, by omega, rfl, rfl, rfl⟩
    case round =>
      obtain ⟨t, p, ht1, htB, rfl, rfl, HP⟩ := hrel
      by_cases hlt : t < B
      · have hp : p ≤ 4611686018427387904 := by
          rw [HP.out]
          exact Nat.pow_le_pow_right (n := 2) (j := 62) (by omega) (by omega)
        go_wp2
        go_round
        case rel =>
          refine ⟨t + 1, p * 2, by omega, by omega, by go_num, by go_num, ?_⟩
          show p * 2 = 2 ^ (t + 1 - 1)
          rw [HP.out, ← Nat.pow_succ]
          congr 1
          omega
        case measure => simp [intOf]; omega
      · have e : t = B := by omega
        subst e
        have hp0 : 0 < p := by rw [HP.out]; exact Nat.pow_pos (by omega)
        go_wp2
        go_loop [0, 9] (fun v i => ∃ t' y : Nat, t' ≤ s ∧ i = .int .i64 t' ∧ v = .int .u64 y ∧ Hid (y = rol t x t')) (fun _ i => s - (intOf i).toNat)
        case atStart => exact ⟨0, x, by omega, rfl, rfl, (rol_zero t x HX.out).symm⟩
        case round =>
          obtain ⟨r, y, hrs, rfl, rfl, HY⟩ := hrel
          by_cases hlt2 : r < s
          · go_wp2
            go_round
            case rel =>
              have hy : y < 2 * p := by
                have h1 := rol_lt t x r (by omega) HX.out
                have h2 : 2 ^ t = 2 * p := by rw [HP.out, Nat.mul_comm, ← Nat.pow_succ]; congr 1; omega
                rw [HY.out, ← h2]; exact h1
              have h64 : 2 * p ≤ 18446744073709551616 := by
                have h2 : 2 ^ t = 2 * p := by rw [HP.out, Nat.mul_comm, ← Nat.pow_succ]; congr 1; omega
                rw [← h2]
                exact Nat.pow_le_pow_right (n := 2) (j := 64) (by omega) (by omega)
              refine ⟨r + 1, y % p * 2 + y / p, by omega, by go_num, by rw [left_sum y p hp0 hy h64], ?_⟩
              have h3 := rol_step t x r (by omega) HX.out
              show y % p * 2 + y / p = rol t x (r + 1)
              rw [← h3, HY.out, HP.out]
            case measure => simp [intOf]; omega
          · have e : r = s := by omega
            subst e
            go_wp2
            go_ret
            have e : (k % t).toNat = r := by have := HS.out; omega
            rw [e, ← HY.out]
            exact ⟨rfl, rfl⟩
end Go.Proofs.Ytgjpfkkonmibfaa
