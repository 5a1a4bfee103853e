/- The contracts of the library's bits: Add64, Sub64, Mul64, Len64, LeadingZeros64. -/
import Derived.Test.YtdgfgehjnfadnaaWidM
import Derived.Test.YtdgfgehjnfadnaaRet
import Derived.Laws.BitsAllLaws
import Derived.Laws.Externs
import Derived.Deep.QuietTactic
import Derived.BigQuiet
import Derived.WalkKit
import Derived.WalkSpells
import Derived.WalkLawsBesides
import Derived.Lib.Hide
import Derived.Lib.Tables
namespace Go.Proofs.Ytdgfgehjnfadnaa
open Go.RowKit
set_option linter.unusedVariables false

/-- The model's entry for Sub64. -/
def subE : Array Value → Sem Value := fun args => do
  let (x, y, b) ← Extern.MathBitsCarry.three "Sub64" args
  pure (Extern.MathBitsCarry.pair ((x + Extern.MathBitsCarry.m64 - y - b) % Extern.MathBitsCarry.m64) (if x < y + b then 1 else 0))
theorem run_subE {P : Program} (x y b : Nat) (hb : b ≤ 1) (w : World) :
    (subE #[.int .u64 x, .int .u64 y, .int .u64 b]).run P w = .ok (.tuple #[.int .u64 (((x + 18446744073709551616 - y - b) % 18446744073709551616 : Nat) : Int), .int .u64 ((if x < y + b then 1 else 0 : Nat) : Int)]) w := by
  have : b = 0 ∨ b = 1 := by omega
  rcases this with rfl | rfl <;> rfl
theorem add64_run (x y c s d : Nat) (hc : c ≤ 1) (hs : (x + y + c) % 2 ^ 64 = s) (hd : (x + y + c) / 2 ^ 64 = d) (w : World) :
    (callFunc 43 #[.int .u64 (x : Int), .int .u64 (y : Int), .int .u64 (c : Int)]).run Try.prog w = .ok (.value (.tuple #[.int .u64 (s : Int), .int .u64 (d : Int)])) w := by
  rw [run_callFunc_extern Try.func43 (by kernel_rfl) (by kernel_rfl) (by kernel_rfl) (e := add64Entry) (by kernel_rfl), run_add64 (x : Int) (y : Int) (c : Int) (by omega) (by omega) (by omega) (by omega)]
  simp only [Result.andThen]
  have e1 : ((x : Int) + (y : Int) + (c : Int)) % 18446744073709551616 = (s : Int) := by omega
  have e2 : ((x : Int) + (y : Int) + (c : Int)) / 18446744073709551616 = (d : Int) := by omega
  rw [e1, e2]
theorem sub64_run (x y b s d : Nat) (hb : b ≤ 1) (hs : (x + 18446744073709551616 - y - b) % 18446744073709551616 = s) (hd : (if x < y + b then 1 else 0) = d) (w : World) :
    (callFunc 36 #[.int .u64 (x : Int), .int .u64 (y : Int), .int .u64 (b : Int)]).run Try.prog w = .ok (.value (.tuple #[.int .u64 (s : Int), .int .u64 (d : Int)])) w := by
  rw [run_callFunc_extern Try.func36 (by kernel_rfl) (by kernel_rfl) (by kernel_rfl) (e := subE) (by kernel_rfl), run_subE x y b hb, hs, hd]
  rfl

/-- The upper half by four products of halves. -/
theorem hi_split (x n : Nat) (hx : x < 2 ^ 64) (hn : n < 2 ^ 64) :
    let a := x / 4294967296; let b := x % 4294967296; let c := n / 4294967296; let d := n % 4294967296
    let t := a * d + b * d / 4294967296
    let u := t % 4294967296 + b * c
    a * d + b * d / 4294967296 < 2 ^ 64 ∧ u < 2 ^ 64 ∧ a * c + t / 4294967296 + u / 4294967296 = x * n / 2 ^ 64 ∧ a * c < 2 ^ 64 ∧ b * d < 2 ^ 64 ∧ b * c < 2 ^ 64 ∧ a * d < 2 ^ 64 ∧ a * c + t / 4294967296 < 2 ^ 64 ∧ x * n / 2 ^ 64 < 2 ^ 64 := by
  obtain ⟨a, ha⟩ : ∃ a, a = x / 4294967296 := ⟨_, rfl⟩
  obtain ⟨b, hb⟩ : ∃ b, b = x % 4294967296 := ⟨_, rfl⟩
  obtain ⟨c, hc⟩ : ∃ c, c = n / 4294967296 := ⟨_, rfl⟩
  obtain ⟨d, hd⟩ : ∃ d, d = n % 4294967296 := ⟨_, rfl⟩
  have la : a ≤ 4294967295 := by omega
  have lb : b ≤ 4294967295 := by omega
  have lc : c ≤ 4294967295 := by omega
  have ld : d ≤ 4294967295 := by omega
  have hxs : x = 4294967296 * a + b := by omega
  have hns : n = 4294967296 * c + d := by omega
  simp only [← ha, ← hb, ← hc, ← hd]
  have m1 : a * d ≤ 4294967295 * 4294967295 := Nat.mul_le_mul la ld
  have m2 : b * d ≤ 4294967295 * 4294967295 := Nat.mul_le_mul lb ld
  have m3 : b * c ≤ 4294967295 * 4294967295 := Nat.mul_le_mul lb lc
  have m4 : a * c ≤ 4294967295 * 4294967295 := Nat.mul_le_mul la lc
  have hp : x * n = 18446744073709551616 * (a * c) + 4294967296 * (a * d) + 4294967296 * (b * c) + b * d := by
    rw [hxs, hns, Nat.add_mul, Nat.mul_add, Nat.mul_add]
    have e1 : 4294967296 * a * (4294967296 * c) = 18446744073709551616 * (a * c) := by
      rw [Nat.mul_assoc, Nat.mul_left_comm a, ← Nat.mul_assoc]
    have e2 : 4294967296 * a * d = 4294967296 * (a * d) := Nat.mul_assoc _ _ _
    have e3 : b * (4294967296 * c) = 4294967296 * (b * c) := by rw [Nat.mul_left_comm]
    rw [e1, e2, e3]
    omega
  rw [hp]
  generalize a * d = p at *
  generalize b * d = q at *
  generalize b * c = r at *
  generalize a * c = s at *
  clear ha hb hc hd hxs hns hp la lb lc ld hx hn
  refine ⟨by omega, by omega, by omega, by omega, by omega, by omega, by omega, by omega, by omega⟩
def hi64 (x n : Nat) : Nat := x * n / 2 ^ 64

theorem and_half (x : Nat) (hx : x < 2 ^ 64) : bits .and .u64 (x : Int) 4294967295 = ((x % 4294967296 : Nat) : Int) := by
  have h := u64_and_nat x 4294967295 hx (by decide)
  have e : x &&& 4294967295 = x % 4294967296 := Nat.and_two_pow_sub_one_eq_mod x 32
  rw [e] at h
  exact h
theorem mul_int (x y : Nat) (h : x * y < 2 ^ 64) : IntKind.u64.wrap ((x : Int) * (y : Int)) = ((x * y : Nat) : Int) := by
  rw [← Int.natCast_mul, IntKind.wrap_u64]
  omega
theorem add_int (x y : Nat) (h : x + y < 2 ^ 64) : IntKind.u64.wrap ((x : Int) + (y : Int)) = ((x + y : Nat) : Int) := by
  rw [IntKind.wrap_u64]
  omega

theorem wrap_self {x : Nat} (h : x < 2 ^ 64) : IntKind.u64.wrap (x : Int) = (x : Int) := by rw [IntKind.wrap_u64]; omega
theorem wrap_lt {z : Int} {x : Nat} (h : IntKind.u64.wrap z = (x : Int)) : x < 2 ^ 64 := by rw [IntKind.wrap_u64] at h; omega
theorem drewN_add (w : World) (a b : Nat) : (w.drewN a).drewN b = w.drewN (a + b) := by simp [World.drewN, Nat.add_assoc]

/-- The letters of a product by halves. -/
theorem mul_letters (x n : Nat) (hx : x < 2 ^ 64) (hn : n < 2 ^ 64) : ∃ a b c d q q1 p t t0 t1 r u u1 s v : Nat,
    (x : Int) / 4294967296 = (a : Int) ∧ (x : Int) % 4294967296 = (b : Int) ∧ bits .and .u64 (x : Int) 4294967295 = (b : Int) ∧ (n : Int) / 4294967296 = (c : Int) ∧ (n : Int) % 4294967296 = (d : Int) ∧ bits .and .u64 (n : Int) 4294967295 = (d : Int) ∧
    IntKind.u64.wrap ((b : Int) * (d : Int)) = (q : Int) ∧ (q : Int) / 4294967296 = (q1 : Int) ∧ IntKind.u64.wrap ((a : Int) * (d : Int)) = (p : Int) ∧ IntKind.u64.wrap ((p : Int) + (q1 : Int)) = (t : Int) ∧
    (t : Int) % 4294967296 = (t0 : Int) ∧ bits .and .u64 (t : Int) 4294967295 = (t0 : Int) ∧ (t : Int) / 4294967296 = (t1 : Int) ∧ IntKind.u64.wrap ((b : Int) * (c : Int)) = (r : Int) ∧ IntKind.u64.wrap ((t0 : Int) + (r : Int)) = (u : Int) ∧ IntKind.u64.wrap ((r : Int) + (t0 : Int)) = (u : Int) ∧
    (u : Int) / 4294967296 = (u1 : Int) ∧ IntKind.u64.wrap ((a : Int) * (c : Int)) = (s : Int) ∧ IntKind.u64.wrap ((s : Int) + (t1 : Int)) = (v : Int) ∧ IntKind.u64.wrap ((v : Int) + (u1 : Int)) = (hi64 x n : Int) ∧
    IntKind.u64.wrap ((x : Int) * (n : Int)) = ((x * n % 2 ^ 64 : Nat) : Int) := by
  obtain ⟨h1, h2, h3, h4, h5, h6, h7, h8, h9⟩ := hi_split x n hx hn
  refine ⟨x / 4294967296, x % 4294967296, n / 4294967296, n % 4294967296, _, _, _, _, _, _, _, _, _, _, _, by omega, by omega, and_half x hx, by omega, by omega, and_half n hn, mul_int _ _ h5, (Int.natCast_ediv _ _).symm, mul_int _ _ h7, add_int _ _ h1,
    (Int.natCast_emod _ _).symm, and_half _ h1, (Int.natCast_ediv _ _).symm, mul_int _ _ h6, add_int _ _ h2, by rw [Int.add_comm]; exact add_int _ _ h2, (Int.natCast_ediv _ _).symm, mul_int _ _ h4, add_int _ _ h8, ?_, ?_⟩
  · rw [add_int _ _ (by rw [h3]; exact h9), h3]; rfl
  · rw [← Int.natCast_mul, IntKind.wrap_u64]; omega

theorem len8_bl : ∀ n : Nat, n < 256 → Lib.len8 (n : Int) = (bl n : Int) := by decide +kernel
theorem len_step (x k : Nat) (h : 2 ^ k ≤ x) : bl x = k + bl (x / 2 ^ k) := bl_div x k (by
  have := (Nat.le_div_iff_mul_le (Nat.pow_pos (n := k) (by decide : 0 < 2))).2 (by rw [Nat.one_mul]; exact h)
  omega)
set_option maxRecDepth 10000 in
set_option maxHeartbeats 1000000 in
theorem len64_calls (x : Nat) (w : World) (hx : x < 2 ^ 64) :
    Calls Try.prog 42 #[.int .u64 (x : Int)] w fun e w' => e = .returned (.int .i64 (bl x : Int)) ∧ w = w' := by
  obtain ⟨L, hL⟩ : ∃ L, L = bl x := ⟨_, rfl⟩
  rw [← hL]
  by_cases h0 : 4294967296 ≤ x
  · obtain ⟨x1, hx1⟩ : ∃ y, y = x / 4294967296 := ⟨_, rfl⟩
    have e0 : (x : Int) / 4294967296 = (x1 : Int) := by omega
    have b0 : (4294967296 : Int) ≤ (x : Int) := by omega
    have s0 : bl x = 32 + bl x1 := by rw [hx1]; exact len_step x 32 h0
    by_cases h1 : 65536 ≤ x1
    · obtain ⟨x2, hx2⟩ : ∃ y, y = x1 / 65536 := ⟨_, rfl⟩
      have e1 : (x1 : Int) / 65536 = (x2 : Int) := by omega
      have b1 : (65536 : Int) ≤ (x1 : Int) := by omega
      have s1 : bl x1 = 16 + bl x2 := by rw [hx2]; exact len_step x1 16 h1
      by_cases h2 : 256 ≤ x2
      · obtain ⟨x3, hx3⟩ : ∃ y, y = x2 / 256 := ⟨_, rfl⟩
        have e2 : (x2 : Int) / 256 = (x3 : Int) := by omega
        have b2 : (256 : Int) ≤ (x2 : Int) := by omega
        have s2 : bl x2 = 8 + bl x3 := by rw [hx3]; exact len_step x2 8 h2
        obtain ⟨M, hM⟩ : ∃ M, M = bl x3 := ⟨_, rfl⟩
        have z : Lib.len8 (x3 : Int) = (M : Int) := by rw [len8_bl x3 (by omega), hM]
        have m : (x3 : Int) % 256 = (x3 : Int) := by omega
        have l8 : ((x3 : Nat) : Int) ≤ 255 := by omega
        have lL : M ≤ 64 := by have := (bl_le x3 64).2 (by omega); omega
        have wM : IntKind.i64.wrap (M : Int) = (M : Int) := by rw [IntKind.wrap_i64]; omega
        have HL : Hid (L = 56 + M) := Lib.hid (by omega)
        clear hL hM hx h0 hx1 s0 h1 hx2 s1 h2 hx3 s2
        go_enter Try.func42, Try.ntmps42
        go_wp2
        go_ret
        refine ⟨?_, rfl⟩
        rw [HL.out]
        rfl
      · have b2 : ¬ (256 : Int) ≤ (x2 : Int) := by omega
        obtain ⟨M, hM⟩ : ∃ M, M = bl x2 := ⟨_, rfl⟩
        have z : Lib.len8 (x2 : Int) = (M : Int) := by rw [len8_bl x2 (by omega), hM]
        have m : (x2 : Int) % 256 = (x2 : Int) := by omega
        have l8 : ((x2 : Nat) : Int) ≤ 255 := by omega
        have lL : M ≤ 64 := by have := (bl_le x2 64).2 (by omega); omega
        have wM : IntKind.i64.wrap (M : Int) = (M : Int) := by rw [IntKind.wrap_i64]; omega
        have HL : Hid (L = 48 + M) := Lib.hid (by omega)
        clear hL hM hx h0 hx1 s0 h1 hx2 s1 h2
        go_enter Try.func42, Try.ntmps42
        go_wp2
        go_ret
        refine ⟨?_, rfl⟩
        rw [HL.out]
        rfl
    · have b1 : ¬ (65536 : Int) ≤ (x1 : Int) := by omega
      by_cases h2 : 256 ≤ x1
      · obtain ⟨x3, hx3⟩ : ∃ y, y = x1 / 256 := ⟨_, rfl⟩
        have e2 : (x1 : Int) / 256 = (x3 : Int) := by omega
        have b2 : (256 : Int) ≤ (x1 : Int) := by omega
        have s2 : bl x1 = 8 + bl x3 := by rw [hx3]; exact len_step x1 8 h2
        obtain ⟨M, hM⟩ : ∃ M, M = bl x3 := ⟨_, rfl⟩
        have z : Lib.len8 (x3 : Int) = (M : Int) := by rw [len8_bl x3 (by omega), hM]
        have m : (x3 : Int) % 256 = (x3 : Int) := by omega
        have l8 : ((x3 : Nat) : Int) ≤ 255 := by omega
        have lL : M ≤ 64 := by have := (bl_le x3 64).2 (by omega); omega
        have wM : IntKind.i64.wrap (M : Int) = (M : Int) := by rw [IntKind.wrap_i64]; omega
        have HL : Hid (L = 40 + M) := Lib.hid (by omega)
        clear hL hM hx h0 hx1 s0 h1 h2 hx3 s2
        go_enter Try.func42, Try.ntmps42
        go_wp2
        go_ret
        refine ⟨?_, rfl⟩
        rw [HL.out]
        rfl
      · have b2 : ¬ (256 : Int) ≤ (x1 : Int) := by omega
        obtain ⟨M, hM⟩ : ∃ M, M = bl x1 := ⟨_, rfl⟩
        have z : Lib.len8 (x1 : Int) = (M : Int) := by rw [len8_bl x1 (by omega), hM]
        have m : (x1 : Int) % 256 = (x1 : Int) := by omega
        have l8 : ((x1 : Nat) : Int) ≤ 255 := by omega
        have lL : M ≤ 64 := by have := (bl_le x1 64).2 (by omega); omega
        have wM : IntKind.i64.wrap (M : Int) = (M : Int) := by rw [IntKind.wrap_i64]; omega
        have HL : Hid (L = 32 + M) := Lib.hid (by omega)
        clear hL hM hx h0 hx1 s0 h1 h2
        go_enter Try.func42, Try.ntmps42
        go_wp2
        go_ret
        refine ⟨?_, rfl⟩
        rw [HL.out]
        rfl
  · have b0 : ¬ (4294967296 : Int) ≤ (x : Int) := by omega
    by_cases h1 : 65536 ≤ x
    · obtain ⟨x2, hx2⟩ : ∃ y, y = x / 65536 := ⟨_, rfl⟩
      have e1 : (x : Int) / 65536 = (x2 : Int) := by omega
      have b1 : (65536 : Int) ≤ (x : Int) := by omega
      have s1 : bl x = 16 + bl x2 := by rw [hx2]; exact len_step x 16 h1
      by_cases h2 : 256 ≤ x2
      · obtain ⟨x3, hx3⟩ : ∃ y, y = x2 / 256 := ⟨_, rfl⟩
        have e2 : (x2 : Int) / 256 = (x3 : Int) := by omega
        have b2 : (256 : Int) ≤ (x2 : Int) := by omega
        have s2 : bl x2 = 8 + bl x3 := by rw [hx3]; exact len_step x2 8 h2
        obtain ⟨M, hM⟩ : ∃ M, M = bl x3 := ⟨_, rfl⟩
        have z : Lib.len8 (x3 : Int) = (M : Int) := by rw [len8_bl x3 (by omega), hM]
        have m : (x3 : Int) % 256 = (x3 : Int) := by omega
        have l8 : ((x3 : Nat) : Int) ≤ 255 := by omega
        have lL : M ≤ 64 := by have := (bl_le x3 64).2 (by omega); omega
        have wM : IntKind.i64.wrap (M : Int) = (M : Int) := by rw [IntKind.wrap_i64]; omega
        have HL : Hid (L = 24 + M) := Lib.hid (by omega)
        clear hL hM hx h0 h1 hx2 s1 h2 hx3 s2
        go_enter Try.func42, Try.ntmps42
        go_wp2
        go_ret
        refine ⟨?_, rfl⟩
        rw [HL.out]
        rfl
      · have b2 : ¬ (256 : Int) ≤ (x2 : Int) := by omega
        obtain ⟨M, hM⟩ : ∃ M, M = bl x2 := ⟨_, rfl⟩
        have z : Lib.len8 (x2 : Int) = (M : Int) := by rw [len8_bl x2 (by omega), hM]
        have m : (x2 : Int) % 256 = (x2 : Int) := by omega
        have l8 : ((x2 : Nat) : Int) ≤ 255 := by omega
        have lL : M ≤ 64 := by have := (bl_le x2 64).2 (by omega); omega
        have wM : IntKind.i64.wrap (M : Int) = (M : Int) := by rw [IntKind.wrap_i64]; omega
        have HL : Hid (L = 16 + M) := Lib.hid (by omega)
        clear hL hM hx h0 h1 hx2 s1 h2
        go_enter Try.func42, Try.ntmps42
        go_wp2
        go_ret
        refine ⟨?_, rfl⟩
        rw [HL.out]
        rfl
    · have b1 : ¬ (65536 : Int) ≤ (x : Int) := by omega
      by_cases h2 : 256 ≤ x
      · obtain ⟨x3, hx3⟩ : ∃ y, y = x / 256 := ⟨_, rfl⟩
        have e2 : (x : Int) / 256 = (x3 : Int) := by omega
        have b2 : (256 : Int) ≤ (x : Int) := by omega
        have s2 : bl x = 8 + bl x3 := by rw [hx3]; exact len_step x 8 h2
        obtain ⟨M, hM⟩ : ∃ M, M = bl x3 := ⟨_, rfl⟩
        have z : Lib.len8 (x3 : Int) = (M : Int) := by rw [len8_bl x3 (by omega), hM]
        have m : (x3 : Int) % 256 = (x3 : Int) := by omega
        have l8 : ((x3 : Nat) : Int) ≤ 255 := by omega
        have lL : M ≤ 64 := by have := (bl_le x3 64).2 (by omega); omega
        have wM : IntKind.i64.wrap (M : Int) = (M : Int) := by rw [IntKind.wrap_i64]; omega
        have HL : Hid (L = 8 + M) := Lib.hid (by omega)
        clear hL hM hx h0 h1 h2 hx3 s2
        go_enter Try.func42, Try.ntmps42
        go_wp2
        go_ret
        refine ⟨?_, rfl⟩
        rw [HL.out]
        rfl
      · have b2 : ¬ (256 : Int) ≤ (x : Int) := by omega
        obtain ⟨M, hM⟩ : ∃ M, M = bl x := ⟨_, rfl⟩
        have z : Lib.len8 (x : Int) = (M : Int) := by rw [len8_bl x (by omega), hM]
        have m : (x : Int) % 256 = (x : Int) := by omega
        have l8 : ((x : Nat) : Int) ≤ 255 := by omega
        have lL : M ≤ 64 := by have := (bl_le x 64).2 (by omega); omega
        have wM : IntKind.i64.wrap (M : Int) = (M : Int) := by rw [IntKind.wrap_i64]; omega
        have HL : Hid (L = 0 + M) := Lib.hid (by omega)
        clear hL hM hx h0 h1 h2
        go_enter Try.func42, Try.ntmps42
        go_wp2
        go_ret
        refine ⟨?_, rfl⟩
        rw [HL.out]
        rw [Nat.zero_add]
        rfl
end Go.Proofs.Ytdgfgehjnfadnaa
