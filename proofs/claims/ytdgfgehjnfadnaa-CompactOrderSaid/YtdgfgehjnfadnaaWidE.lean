/- The contract of the library's Div64: quotient and rest of two words by one. -/
import Derived.Test.YtdgfgehjnfadnaaWidB
import Derived.Test.YtdgfgehjnfadnaaWidD
import Derived.Deep.CutBlock
import Derived.Deep.DeepCutAuto
namespace Go.Proofs.Ytdgfgehjnfadnaa
open Go.RowKit
set_option linter.unusedVariables false

theorem shl_nat (x s : Nat) : (x : Int) * 2 ^ s = ((x * 2 ^ s : Nat) : Int) := by rw [Int.natCast_mul, Int.natCast_pow]; rfl
theorem shr_nat (x s : Nat) : (x : Int) / 2 ^ s = ((x / 2 ^ s : Nat) : Int) := by rw [Int.natCast_ediv, Int.natCast_pow]; rfl
theorem or_join (s hi lo : Nat) (h1 : hi % 2 ^ s = 0) (h2 : lo < 2 ^ s) (h3 : hi < 2 ^ 64) (h4 : lo < 2 ^ 64) : bits .or .u64 (hi : Int) (lo : Int) = ((hi + lo : Nat) : Int) := by
  rw [u64_or_nat _ _ h3 h4, nat_join s hi lo h1 h2]

/-- The letters of a round of the guess. -/
theorem kn_round {y1 y0 u1 U q rh : Nat} (hq : q ≤ 4294967297) (hrh : rh < 4294967296) (hy1 : y1 < 4294967296) (hy0 : y0 < 4294967296) (hu1 : u1 < 4294967296) (hq0 : 0 < q) :
    ∃ p v v2 q' r' : Nat, IntKind.u64.wrap ((q : Int) * (y0 : Int)) = (p : Int) ∧ IntKind.u64.wrap (4294967296 * (rh : Int)) = (v : Int) ∧ IntKind.u64.wrap ((v : Int) + (u1 : Int)) = (v2 : Int) ∧ IntKind.u64.wrap ((q : Int) - 1) = (q' : Int) ∧ IntKind.u64.wrap ((rh : Int) + (y1 : Int)) = (r' : Int) ∧
      p = q * y0 ∧ v2 = 4294967296 * rh + u1 ∧ q' + 1 = q ∧ r' = rh + y1 := by
  have h1 : q * y0 ≤ 4294967297 * 4294967295 := Nat.mul_le_mul hq (by omega)
  refine ⟨q * y0, 4294967296 * rh, 4294967296 * rh + u1, q - 1, rh + y1, ?_, ?_, ?_, ?_, ?_, rfl, rfl, by omega, rfl⟩
  · rw [← Int.natCast_mul, IntKind.wrap_u64]; omega
  · rw [IntKind.wrap_u64]; omega
  · rw [IntKind.wrap_u64]; omega
  · rw [IntKind.wrap_u64]; omega
  · rw [IntKind.wrap_u64]; omega
theorem kn_down {q q' y1 r r' U : Nat} (h1 : q' + 1 = q) (h2 : r' = r + y1) (h : q * y1 + r = U) : q' * y1 + r' = U := by
  rw [← h, ← h1, h2, Nat.add_mul, Nat.one_mul]; omega
theorem kn_start (U y1 : Nat) (hy : 0 < y1) (hU : U < 2 ^ 64) : ∃ g gy h : Nat, (U : Int) / (y1 : Int) = (g : Int) ∧ (U : Int).tdiv (y1 : Int) = (g : Int) ∧ IntKind.u64.wrap (g : Int) = (g : Int) ∧ IntKind.u64.wrap ((g : Int) * (y1 : Int)) = (gy : Int) ∧ IntKind.u64.wrap ((U : Int) - (gy : Int)) = (h : Int) ∧ g = U / y1 ∧ h = U % y1 := by
  have h1 := Nat.div_add_mod U y1
  have h2 := Nat.div_le_self U y1
  have h3 : y1 * (U / y1) ≤ U := by omega
  refine ⟨U / y1, y1 * (U / y1), U % y1, by rw [Int.natCast_ediv], by rw [Int.tdiv_eq_ediv_of_nonneg (by omega), Int.natCast_ediv], ?_, ?_, ?_, rfl, rfl⟩
  · generalize U / y1 = g at *
    rw [IntKind.wrap_u64]; omega
  · rw [Int.mul_comm, ← Int.natCast_mul, IntKind.wrap_u64]; omega
  · rw [IntKind.wrap_u64]; omega
/-- What is left, by the wrapping numbers. -/
theorem kn_rest {U Y Q R u : Nat} (h : Q * Y + R = U * 4294967296 + u) (hR : R < 2 ^ 64) : ∃ a b c : Nat, IntKind.u64.wrap ((U : Int) * 4294967296) = (a : Int) ∧ IntKind.u64.wrap ((a : Int) + (u : Int)) = (b : Int) ∧ IntKind.u64.wrap ((Q : Int) * (Y : Int)) = (c : Int) ∧ IntKind.u64.wrap ((b : Int) - (c : Int)) = (R : Int) := by
  refine ⟨U * 4294967296 % 2 ^ 64, (U * 4294967296 + u) % 2 ^ 64, Q * Y % 2 ^ 64, ?_, ?_, ?_, ?_⟩
  · rw [IntKind.wrap_u64]; omega
  · rw [IntKind.wrap_u64]; omega
  · rw [← Int.natCast_mul, IntKind.wrap_u64]; omega
  · rw [IntKind.wrap_u64]
    generalize Q * Y = z at *
    omega

end Go.Proofs.Ytdgfgehjnfadnaa
