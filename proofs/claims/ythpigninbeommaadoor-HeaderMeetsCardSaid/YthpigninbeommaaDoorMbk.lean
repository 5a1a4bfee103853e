/- Merged texts: WidB WidE. -/
import Derived.Test.YthpigninbeommaaDoorMbi
import Derived.Test.YthpigninbeommaaDoorMab
import Derived.Laws.BitsAllLaws
import Derived.Laws.Externs
import Derived.Deep.QuietTactic
import Derived.BigQuiet
import Derived.WalkKit
import Derived.WalkSpells
import Derived.WalkLawsBesides
import Derived.Lib.Hide
import Derived.Lib.Tables
import Derived.Test.YthpigninbeommaaDoorMbj
import Derived.Deep.CutBlock
import Derived.Deep.DeepCutAuto
/- The contracts of the library's bits: Add64, Sub64, Mul64, Len64, LeadingZeros64. -/
namespace Go.Proofs.YthpigninbeommaaDoor
open Go.RowKit
set_option linter.unusedVariables false

/-- The model's entry for Sub64. -/
def subE : Array Value → Sem Value := fun args => do
  let (x, y, b) ← Extern.MathBitsCarry.three "Sub64" args
  pure (Extern.MathBitsCarry.pair ((x + Extern.MathBitsCarry.m64 - y - b) % Extern.MathBitsCarry.m64) (if x < y + b then 1 else 0))
set_option maxRecDepth 100000 in
theorem run_subE {P : Program} (x y b : Nat) (hb : b ≤ 1) (w : World) :
    (subE #[.int .u64 x, .int .u64 y, .int .u64 b]).run P w = .ok (.tuple #[.int .u64 (((x + 18446744073709551616 - y - b) % 18446744073709551616 : Nat) : Int), .int .u64 ((if x < y + b then 1 else 0 : Nat) : Int)]) w := by
  have : b = 0 ∨ b = 1 := by omega
  rcases this with rfl | rfl <;> rfl
set_option maxRecDepth 100000 in
theorem sub64_run (x y b s d : Nat) (hb : b ≤ 1) (hs : (x + 18446744073709551616 - y - b) % 18446744073709551616 = s) (hd : (if x < y + b then 1 else 0) = d) (w : World) :
    (callFunc 69 #[.int .u64 (x : Int), .int .u64 (y : Int), .int .u64 (b : Int)]).run Tryd.prog w = .ok (.value (.tuple #[.int .u64 (s : Int), .int .u64 (d : Int)])) w := by
  rw [run_callFunc_extern Tryd.func69 (by kernel_rfl) (by kernel_rfl) (by kernel_rfl) (e := subE) (by kernel_rfl), run_subE x y b hb, hs, hd]
  rfl

set_option maxRecDepth 100000 in
/-- The upper half by four products of halves. -/
theorem hi_split (x n : Nat) (hx : x < 2 ^ 64) (hn : n < 2 ^ 64) :
    let a := x / 4294967296; let b := x % 4294967296; let c := n / 4294967296; let d := n % 4294967296
    let t := a * d + b * d / 4294967296
    let u := t % 4294967296 + b * c
    a * d + b * d / 4294967296 < 2 ^ 64 ∧ u < 2 ^ 64 ∧ a * c + t / 4294967296 + u / 4294967296 = x * n / 2 ^ 64 ∧ a * c < 2 ^ 64 ∧ b * d < 2 ^ 64 ∧ b * c < 2 ^ 64 ∧ a * d < 2 ^ 64 ∧ a * c + t / 4294967296 < 2 ^ 64 ∧ x * n / 2 ^ 64 < 2 ^ 64 := by
  obtain ⟨a, ha⟩ : ∃ a, a = x / 4294967296 := ⟨_, rfl⟩
  obtain ⟨b, hb⟩ : ∃ b, b = x % 4294967296 := ⟨_, rfl⟩
  obtain ⟨c, hc⟩ : ∃ c, c = n / 4294967296 := ⟨_, rfl⟩
  obtain ⟨d, hd⟩ : ∃ d, d = n % 4294967296 := ⟨_, rfl⟩
  have la : a ≤ 4294967295 := by omega
  have lb : b ≤ 4294967295 := by omega
  have lc : c ≤ 4294967295 := by omega
  have ld : d ≤ 4294967295 := by omega
  have hxs : x = 4294967296 * a + b := by omega
  have hns : n = 4294967296 * c + d := by omega
  simp only [← ha, ← hb, ← hc, ← hd]
  have m1 : a * d ≤ 4294967295 * 4294967295 := Nat.mul_le_mul la ld
  have m2 : b * d ≤ 4294967295 * 4294967295 := Nat.mul_le_mul lb ld
  have m3 : b * c ≤ 4294967295 * 4294967295 := Nat.mul_le_mul lb lc
  have m4 : a * c ≤ 4294967295 * 4294967295 := Nat.mul_le_mul la lc
  have hp : x * n = 18446744073709551616 * (a * c) + 4294967296 * (a * d) + 4294967296 * (b * c) + b * d := by
    rw [hxs, hns, Nat.add_mul, Nat.mul_add, Nat.mul_add]
    have e1 : 4294967296 * a * (4294967296 * c) = 18446744073709551616 * (a * c) := by
      rw [Nat.mul_assoc, Nat.mul_left_comm a, ← Nat.mul_assoc]
    have e2 : 4294967296 * a * d = 4294967296 * (a * d) := Nat.mul_assoc _ _ _
    have e3 : b * (4294967296 * c) = 4294967296 * (b * c) := by rw [Nat.mul_left_comm]
    rw [e1, e2, e3]
    omega
  rw [hp]
  generalize a * d = p at *
  generalize b * d = q at *
  generalize b * c = r at *
  generalize a * c = s at *
  clear ha hb hc hd hxs hns hp la lb lc ld hx hn
  refine ⟨by omega, by omega, by omega, by omega, by omega, by omega, by omega, by omega, by omega⟩
def hi64 (x n : Nat) : Nat := x * n / 2 ^ 64

set_option maxRecDepth 100000 in
theorem and_half (x : Nat) (hx : x < 2 ^ 64) : bits .and .u64 (x : Int) 4294967295 = ((x % 4294967296 : Nat) : Int) := by
  have h := u64_and_nat x 4294967295 hx (by decide)
  have e : x &&& 4294967295 = x % 4294967296 := Nat.and_two_pow_sub_one_eq_mod x 32
  rw [e] at h
  exact h
set_option maxRecDepth 100000 in
theorem mul_int (x y : Nat) (h : x * y < 2 ^ 64) : IntKind.u64.wrap ((x : Int) * (y : Int)) = ((x * y : Nat) : Int) := by
  rw [← Int.natCast_mul, IntKind.wrap_u64]
  omega
set_option maxRecDepth 100000 in
theorem add_int (x y : Nat) (h : x + y < 2 ^ 64) : IntKind.u64.wrap ((x : Int) + (y : Int)) = ((x + y : Nat) : Int) := by
  rw [IntKind.wrap_u64]
  omega

set_option maxRecDepth 100000 in
theorem wrap_self {x : Nat} (h : x < 2 ^ 64) : IntKind.u64.wrap (x : Int) = (x : Int) := by rw [IntKind.wrap_u64]; omega
set_option maxRecDepth 100000 in
theorem wrap_lt {z : Int} {x : Nat} (h : IntKind.u64.wrap z = (x : Int)) : x < 2 ^ 64 := by rw [IntKind.wrap_u64] at h; omega
set_option maxRecDepth 100000 in
theorem drewN_add (w : World) (a b : Nat) : (w.drewN a).drewN b = w.drewN (a + b) := by simp [World.drewN, Nat.add_assoc]

set_option maxRecDepth 100000 in
/-- The letters of a product by halves. -/
theorem mul_letters (x n : Nat) (hx : x < 2 ^ 64) (hn : n < 2 ^ 64) : ∃ a b c d q q1 p t t0 t1 r u u1 s v : Nat,
    (x : Int) / 4294967296 = (a : Int) ∧ (x : Int) % 4294967296 = (b : Int) ∧ bits .and .u64 (x : Int) 4294967295 = (b : Int) ∧ (n : Int) / 4294967296 = (c : Int) ∧ (n : Int) % 4294967296 = (d : Int) ∧ bits .and .u64 (n : Int) 4294967295 = (d : Int) ∧
    IntKind.u64.wrap ((b : Int) * (d : Int)) = (q : Int) ∧ (q : Int) / 4294967296 = (q1 : Int) ∧ IntKind.u64.wrap ((a : Int) * (d : Int)) = (p : Int) ∧ IntKind.u64.wrap ((p : Int) + (q1 : Int)) = (t : Int) ∧
    (t : Int) % 4294967296 = (t0 : Int) ∧ bits .and .u64 (t : Int) 4294967295 = (t0 : Int) ∧ (t : Int) / 4294967296 = (t1 : Int) ∧ IntKind.u64.wrap ((b : Int) * (c : Int)) = (r : Int) ∧ IntKind.u64.wrap ((t0 : Int) + (r : Int)) = (u : Int) ∧ IntKind.u64.wrap ((r : Int) + (t0 : Int)) = (u : Int) ∧
    (u : Int) / 4294967296 = (u1 : Int) ∧ IntKind.u64.wrap ((a : Int) * (c : Int)) = (s : Int) ∧ IntKind.u64.wrap ((s : Int) + (t1 : Int)) = (v : Int) ∧ IntKind.u64.wrap ((v : Int) + (u1 : Int)) = (hi64 x n : Int) ∧
    IntKind.u64.wrap ((x : Int) * (n : Int)) = ((x * n % 2 ^ 64 : Nat) : Int) := by
  obtain ⟨h1, h2, h3, h4, h5, h6, h7, h8, h9⟩ := hi_split x n hx hn
  refine ⟨x / 4294967296, x % 4294967296, n / 4294967296, n % 4294967296, _, _, _, _, _, _, _, _, _, _, _, by omega, by omega, and_half x hx, by omega, by omega, and_half n hn, mul_int _ _ h5, (Int.natCast_ediv _ _).symm, mul_int _ _ h7, add_int _ _ h1,
    (Int.natCast_emod _ _).symm, and_half _ h1, (Int.natCast_ediv _ _).symm, mul_int _ _ h6, add_int _ _ h2, by rw [Int.add_comm]; exact add_int _ _ h2, (Int.natCast_ediv _ _).symm, mul_int _ _ h4, add_int _ _ h8, ?_, ?_⟩
  · rw [add_int _ _ (by rw [h3]; exact h9), h3]; rfl
  · rw [← Int.natCast_mul, IntKind.wrap_u64]; omega

set_option maxRecDepth 100000 in
theorem len8_bl : ∀ n : Nat, n < 256 → Lib.len8 (n : Int) = (bl n : Int) := by decide +kernel
set_option maxRecDepth 100000 in
theorem len_step (x k : Nat) (h : 2 ^ k ≤ x) : bl x = k + bl (x / 2 ^ k) := bl_div x k (by
  have := (Nat.le_div_iff_mul_le (Nat.pow_pos (n := k) (by decide : 0 < 2))).2 (by rw [Nat.one_mul]; exact h)
  omega)
set_option maxRecDepth 10000 in
set_option maxHeartbeats 1000000 in
theorem len64_calls (x : Nat) (w : World) (hx : x < 2 ^ 64) :
    Calls Tryd.prog 68 #[.int .u64 (x : Int)] w fun e w' => e = .returned (.int .i64 (bl x : Int)) ∧ w = w' := by
  obtain ⟨L, hL⟩ : ∃ L, L = bl x := ⟨_, rfl⟩
  rw [← hL]
  by_cases h0 : 4294967296 ≤ x
  · obtain ⟨x1, hx1⟩ : ∃ y, y = x / 4294967296 := ⟨_, rfl⟩
    have e0 : (x : Int) / 4294967296 = (x1 : Int) := by omega
    have b0 : (4294967296 : Int) ≤ (x : Int) := by omega
    have s0 : bl x = 32 + bl x1 := by rw [hx1]; exact len_step x 32 h0
    by_cases h1 : 65536 ≤ x1
    · obtain ⟨x2, hx2⟩ : ∃ y, y = x1 / 65536 := ⟨_, rfl⟩
      have e1 : (x1 : Int) / 65536 = (x2 : Int) := by omega
      have b1 : (65536 : Int) ≤ (x1 : Int) := by omega
      have s1 : bl x1 = 16 + bl x2 := by rw [hx2]; exact len_step x1 16 h1
      by_cases h2 : 256 ≤ x2
      · obtain ⟨x3, hx3⟩ : ∃ y, y = x2 / 256 := ⟨_, rfl⟩
        have e2 : (x2 : Int) / 256 = (x3 : Int) := by omega
        have b2 : (256 : Int) ≤ (x2 : Int) := by omega
        have s2 : bl x2 = 8 + bl x3 := by rw [hx3]; exact len_step x2 8 h2
        obtain ⟨M, hM⟩ : ∃ M, M = bl x3 := ⟨_, rfl⟩
        have z : Lib.len8 (x3 : Int) = (M : Int) := by rw [len8_bl x3 (by omega), hM]
        have m : (x3 : Int) % 256 = (x3 : Int) := by omega
        have l8 : ((x3 : Nat) : Int) ≤ 255 := by omega
        have lL : M ≤ 64 := by have := (bl_le x3 64).2 (by omega); omega
        have wM : IntKind.i64.wrap (M : Int) = (M : Int) := by rw [IntKind.wrap_i64]; omega
        have HL : Hid (L = 56 + M) := Lib.hid (by omega)
        clear hL hM hx h0 hx1 s0 h1 hx2 s1 h2 hx3 s2
        go_enter Tryd.func68, Tryd.ntmps68
        go_wp2
        go_ret
        refine ⟨?_, rfl⟩
        rw [HL.out]
        rfl
      · have b2 : ¬ (256 : Int) ≤ (x2 : Int) := by omega
        obtain ⟨M, hM⟩ : ∃ M, M = bl x2 := ⟨_, rfl⟩
        have z : Lib.len8 (x2 : Int) = (M : Int) := by rw [len8_bl x2 (by omega), hM]
        have m : (x2 : Int) % 256 = (x2 : Int) := by omega
        have l8 : ((x2 : Nat) : Int) ≤ 255 := by omega
        have lL : M ≤ 64 := by have := (bl_le x2 64).2 (by omega); omega
        have wM : IntKind.i64.wrap (M : Int) = (M : Int) := by rw [IntKind.wrap_i64]; omega
        have HL : Hid (L = 48 + M) := Lib.hid (by omega)
        clear hL hM hx h0 hx1 s0 h1 hx2 s1 h2
        go_enter Tryd.func68, Tryd.ntmps68
        go_wp2
        go_ret
        refine ⟨?_, rfl⟩
        rw [HL.out]
        rfl
    · have b1 : ¬ (65536 : Int) ≤ (x1 : Int) := by omega
      by_cases h2 : 256 ≤ x1
      · obtain ⟨x3, hx3⟩ : ∃ y, y = x1 / 256 := ⟨_, rfl⟩
        have e2 : (x1 : Int) / 256 = (x3 : Int) := by omega
        have b2 : (256 : Int) ≤ (x1 : Int) := by omega
        have s2 : bl x1 = 8 + bl x3 := by rw [hx3]; exact len_step x1 8 h2
        obtain ⟨M, hM⟩ : ∃ M, M = bl x3 := ⟨_, rfl⟩
        have z : Lib.len8 (x3 : Int) = (M : Int) := by rw [len8_bl x3 (by omega), hM]
        have m : (x3 : Int) % 256 = (x3 : Int) := by omega
        have l8 : ((x3 : Nat) : Int) ≤ 255 := by omega
        have lL : M ≤ 64 := by have := (bl_le x3 64).2 (by omega); omega
        have wM : IntKind.i64.wrap (M : Int) = (M : Int) := by rw [IntKind.wrap_i64]; omega
        have HL : Hid (L = 40 + M) := Lib.hid (by omega)
        clear hL hM hx h0 hx1 s0 h1 h2 hx3 s2
        go_enter Tryd.func68, Tryd.ntmps68
        go_wp2
        go_ret
        refine ⟨?_, rfl⟩
        rw [HL.out]
        rfl
      · have b2 : ¬ (256 : Int) ≤ (x1 : Int) := by omega
        obtain ⟨M, hM⟩ : ∃ M, M = bl x1 := ⟨_, rfl⟩
        have z : Lib.len8 (x1 : Int) = (M : Int) := by rw [len8_bl x1 (by omega), hM]
        have m : (x1 : Int) % 256 = (x1 : Int) := by omega
        have l8 : ((x1 : Nat) : Int) ≤ 255 := by omega
        have lL : M ≤ 64 := by have := (bl_le x1 64).2 (by omega); omega
        have wM : IntKind.i64.wrap (M : Int) = (M : Int) := by rw [IntKind.wrap_i64]; omega
        have HL : Hid (L = 32 + M) := Lib.hid (by omega)
        clear hL hM hx h0 hx1 s0 h1 h2
        go_enter Tryd.func68, Tryd.ntmps68
        go_wp2
        go_ret
        refine ⟨?_, rfl⟩
        rw [HL.out]
        rfl
  · have b0 : ¬ (4294967296 : Int) ≤ (x : Int) := by omega
    by_cases h1 : 65536 ≤ x
    · obtain ⟨x2, hx2⟩ : ∃ y, y = x / 65536 := ⟨_, rfl⟩
      have e1 : (x : Int) / 65536 = (x2 : Int) := by omega
      have b1 : (65536 : Int) ≤ (x : Int) := by omega
      have s1 : bl x = 16 + bl x2 := by rw [hx2]; exact len_step x 16 h1
      by_cases h2 : 256 ≤ x2
      · obtain ⟨x3, hx3⟩ : ∃ y, y = x2 / 256 := ⟨_, rfl⟩
        have e2 : (x2 : Int) / 256 = (x3 : Int) := by omega
        have b2 : (256 : Int) ≤ (x2 : Int) := by omega
        have s2 : bl x2 = 8 + bl x3 := by rw [hx3]; exact len_step x2 8 h2
        obtain ⟨M, hM⟩ : ∃ M, M = bl x3 := ⟨_, rfl⟩
        have z : Lib.len8 (x3 : Int) = (M : Int) := by rw [len8_bl x3 (by omega), hM]
        have m : (x3 : Int) % 256 = (x3 : Int) := by omega
        have l8 : ((x3 : Nat) : Int) ≤ 255 := by omega
        have lL : M ≤ 64 := by have := (bl_le x3 64).2 (by omega); omega
        have wM : IntKind.i64.wrap (M : Int) = (M : Int) := by rw [IntKind.wrap_i64]; omega
        have HL : Hid (L = 24 + M) := Lib.hid (by omega)
        clear hL hM hx h0 h1 hx2 s1 h2 hx3 s2
        go_enter Tryd.func68, Tryd.ntmps68
        go_wp2
        go_ret
        refine ⟨?_, rfl⟩
        rw [HL.out]
        rfl
      · have b2 : ¬ (256 : Int) ≤ (x2 : Int) := by omega
        obtain ⟨M, hM⟩ : ∃ M, M = bl x2 := ⟨_, rfl⟩
        have z : Lib.len8 (x2 : Int) = (M : Int) := by rw [len8_bl x2 (by omega), hM]
        have m : (x2 : Int) % 256 = (x2 : Int) := by omega
        have l8 : ((x2 : Nat) : Int) ≤ 255 := by omega
        have lL : M ≤ 64 := by have := (bl_le x2 64).2 (by omega); omega
        have wM : IntKind.i64.wrap (M : Int) = (M : Int) := by rw [IntKind.wrap_i64]; omega
        have HL : Hid (L = 16 + M) := Lib.hid (by omega)
        clear hL hM hx h0 h1 hx2 s1 h2
        go_enter Tryd.func68, Tryd.ntmps68
        go_wp2
        go_ret
        refine ⟨?_, rfl⟩
        rw [HL.out]
        rfl
    · have b1 : ¬ (65536 : Int) ≤ (x : Int) := by omega
      by_cases h2 : 256 ≤ x
      · obtain ⟨x3, hx3⟩ : ∃ y, y = x / 256 := ⟨_, rfl⟩
        have e2 : (x : Int) / 256 = (x3 : Int) := by omega
        have b2 : (256 : Int) ≤ (x : Int) := by omega
        have s2 : bl x = 8 + bl x3 := by rw [hx3]; exact len_step x 8 h2
        obtain ⟨M, hM⟩ : ∃ M, M = bl x3 := ⟨_, rfl⟩
        have z : Lib.len8 (x3 : Int) = (M : Int) := by rw [len8_bl x3 (by omega), hM]
        have m : (x3 : Int) % 256 = (x3 : Int) := by omega
        have l8 : ((x3 : Nat) : Int) ≤ 255 := by omega
        have lL : M ≤ 64 := by have := (bl_le x3 64).2 (by omega); omega
        have wM : IntKind.i64.wrap (M : Int) = (M : Int) := by rw [IntKind.wrap_i64]; omega
        have HL : Hid (L = 8 + M) := Lib.hid (by omega)
        clear hL hM hx h0 h1 h2 hx3 s2
        go_enter Tryd.func68, Tryd.ntmps68
        go_wp2
        go_ret
        refine ⟨?_, rfl⟩
        rw [HL.out]
        rfl
      · have b2 : ¬ (256 : Int) ≤ (x : Int) := by omega
        obtain ⟨M, hM⟩ : ∃ M, M = bl x := ⟨_, rfl⟩
        have z : Lib.len8 (x : Int) = (M : Int) := by rw [len8_bl x (by omega), hM]
        have m : (x : Int) % 256 = (x : Int) := by omega
        have l8 : ((x : Nat) : Int) ≤ 255 := by omega
        have lL : M ≤ 64 := by have := (bl_le x 64).2 (by omega); omega
        have wM : IntKind.i64.wrap (M : Int) = (M : Int) := by rw [IntKind.wrap_i64]; omega
        have HL : Hid (L = 0 + M) := Lib.hid (by omega)
        clear hL hM hx h0 h1 h2
        go_enter Tryd.func68, Tryd.ntmps68
        go_wp2
        go_ret
        refine ⟨?_, rfl⟩
        rw [HL.out]
        rw [Nat.zero_add]
        rfl
end Go.Proofs.YthpigninbeommaaDoor

/- The contract of the library's Div64: quotient and rest of two words by one. -/
namespace Go.Proofs.YthpigninbeommaaDoor
open Go.RowKit
set_option linter.unusedVariables false

set_option maxRecDepth 100000 in
theorem shl_nat (x s : Nat) : (x : Int) * 2 ^ s = ((x * 2 ^ s : Nat) : Int) := by rw [Int.natCast_mul, Int.natCast_pow]; rfl
set_option maxRecDepth 100000 in
theorem shr_nat (x s : Nat) : (x : Int) / 2 ^ s = ((x / 2 ^ s : Nat) : Int) := by rw [Int.natCast_ediv, Int.natCast_pow]; rfl
set_option maxRecDepth 100000 in
theorem or_join (s hi lo : Nat) (h1 : hi % 2 ^ s = 0) (h2 : lo < 2 ^ s) (h3 : hi < 2 ^ 64) (h4 : lo < 2 ^ 64) : bits .or .u64 (hi : Int) (lo : Int) = ((hi + lo : Nat) : Int) := by
  rw [u64_or_nat _ _ h3 h4, nat_join s hi lo h1 h2]

set_option maxRecDepth 100000 in
/-- The letters of a round of the guess. -/
theorem kn_round {y1 y0 u1 U q rh : Nat} (hq : q ≤ 4294967297) (hrh : rh < 4294967296) (hy1 : y1 < 4294967296) (hy0 : y0 < 4294967296) (hu1 : u1 < 4294967296) (hq0 : 0 < q) :
    ∃ p v v2 q' r' : Nat, IntKind.u64.wrap ((q : Int) * (y0 : Int)) = (p : Int) ∧ IntKind.u64.wrap (4294967296 * (rh : Int)) = (v : Int) ∧ IntKind.u64.wrap ((v : Int) + (u1 : Int)) = (v2 : Int) ∧ IntKind.u64.wrap ((q : Int) - 1) = (q' : Int) ∧ IntKind.u64.wrap ((rh : Int) + (y1 : Int)) = (r' : Int) ∧
      p = q * y0 ∧ v2 = 4294967296 * rh + u1 ∧ q' + 1 = q ∧ r' = rh + y1 := by
  have h1 : q * y0 ≤ 4294967297 * 4294967295 := Nat.mul_le_mul hq (by omega)
  refine ⟨q * y0, 4294967296 * rh, 4294967296 * rh + u1, q - 1, rh + y1, ?_, ?_, ?_, ?_, ?_, rfl, rfl, by omega, rfl⟩
  · rw [← Int.natCast_mul, IntKind.wrap_u64]; omega
  · rw [IntKind.wrap_u64]; omega
  · rw [IntKind.wrap_u64]; omega
  · rw [IntKind.wrap_u64]; omega
  · rw [IntKind.wrap_u64]; omega
set_option maxRecDepth 100000 in
theorem kn_down {q q' y1 r r' U : Nat} (h1 : q' + 1 = q) (h2 : r' = r + y1) (h : q * y1 + r = U) : q' * y1 + r' = U := by
  rw [← h, ← h1, h2, Nat.add_mul, Nat.one_mul]; omega
set_option maxRecDepth 100000 in
theorem kn_start (U y1 : Nat) (hy : 0 < y1) (hU : U < 2 ^ 64) : ∃ g gy h : Nat, (U : Int) / (y1 : Int) = (g : Int) ∧ (U : Int).tdiv (y1 : Int) = (g : Int) ∧ IntKind.u64.wrap (g : Int) = (g : Int) ∧ IntKind.u64.wrap ((g : Int) * (y1 : Int)) = (gy : Int) ∧ IntKind.u64.wrap ((U : Int) - (gy : Int)) = (h : Int) ∧ g = U / y1 ∧ h = U % y1 := by
  have h1 := Nat.div_add_mod U y1
  have h2 := Nat.div_le_self U y1
  have h3 : y1 * (U / y1) ≤ U := by omega
  refine ⟨U / y1, y1 * (U / y1), U % y1, by rw [Int.natCast_ediv], by rw [Int.tdiv_eq_ediv_of_nonneg (by omega), Int.natCast_ediv], ?_, ?_, ?_, rfl, rfl⟩
  · generalize U / y1 = g at *
    rw [IntKind.wrap_u64]; omega
  · rw [Int.mul_comm, ← Int.natCast_mul, IntKind.wrap_u64]; omega
  · rw [IntKind.wrap_u64]; omega
set_option maxRecDepth 100000 in
/-- What is left, by the wrapping numbers. -/
theorem kn_rest {U Y Q R u : Nat} (h : Q * Y + R = U * 4294967296 + u) (hR : R < 2 ^ 64) : ∃ a b c : Nat, IntKind.u64.wrap ((U : Int) * 4294967296) = (a : Int) ∧ IntKind.u64.wrap ((a : Int) + (u : Int)) = (b : Int) ∧ IntKind.u64.wrap ((Q : Int) * (Y : Int)) = (c : Int) ∧ IntKind.u64.wrap ((b : Int) - (c : Int)) = (R : Int) := by
  refine ⟨U * 4294967296 % 2 ^ 64, (U * 4294967296 + u) % 2 ^ 64, Q * Y % 2 ^ 64, ?_, ?_, ?_, ?_⟩
  · rw [IntKind.wrap_u64]; omega
  · rw [IntKind.wrap_u64]; omega
  · rw [← Int.natCast_mul, IntKind.wrap_u64]; omega
  · rw [IntKind.wrap_u64]
    generalize Q * Y = z at *
    omega

end Go.Proofs.YthpigninbeommaaDoor
