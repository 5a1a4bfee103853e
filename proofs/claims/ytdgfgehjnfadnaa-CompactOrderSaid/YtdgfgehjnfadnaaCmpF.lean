/- Plain mathematics of package compact; the contract of its firstBytes. -/
import Derived.Test.YtdgfgehjnfadnaaCmpB
import Derived.Test.YtdgfgehjnfadnaaWidG
import Derived.Test.YtdgfgehjnfadnaaWidV
import Derived.Deep.RegionHeld3
import Derived.Deep.CutRange
import Derived.Deep.DeepCutAuto
namespace Go.Proofs.Ytdgfgehjnfadnaa
open Go.RowKit
set_option linter.unusedVariables false
set_option linter.unusedSimpArgs false

theorem nat_and_low (c : Nat) : c &&& 8388607 = c % 8388608 := by
  rw [show (8388607 : Nat) = 2 ^ 23 - 1 from rfl, Nat.and_two_pow_sub_one_eq_mod]
theorem nat_and_bit (c : Nat) : c &&& 8388608 = c / 8388608 % 2 * 8388608 := by
  apply Nat.eq_of_testBit_eq
  intro i
  have e : c / 8388608 % 2 * 8388608 = 2 ^ 23 * (c / 2 ^ 23 % 2) := Nat.mul_comm _ _
  rw [Nat.testBit_and, show (8388608 : Nat) = 2 ^ 23 from rfl, Nat.testBit_two_pow, show c / 2 ^ 23 % 2 * 2 ^ 23 = 2 ^ 23 * (c / 2 ^ 23 % 2) from Nat.mul_comm _ _, Nat.testBit_two_pow_mul]
  by_cases hi : 23 = i
  · subst hi
    have h1 : c.testBit 23 = decide (c / 2 ^ 23 % 2 = 1) := Nat.testBit_eq_decide_div_mod_eq
    simp only [Nat.sub_self, Nat.testBit_zero, Nat.mod_mod, Nat.le_refl, decide_true, Bool.and_true, Bool.true_and, ge_iff_le]
    rw [h1]
  · by_cases hi2 : 23 ≤ i
    · have h2 : (c / 2 ^ 23 % 2).testBit (i - 23) = false := Nat.testBit_lt_two_pow (Nat.lt_of_lt_of_le (Nat.mod_lt _ (by decide)) (show 2 ^ 1 ≤ 2 ^ (i - 23) from Nat.pow_le_pow_right (by decide) (by omega)))
      simp [hi, h2]
    · simp [hi, hi2]
theorem u32_and_low (c : Nat) (h : c < 2 ^ 32) : bits .and .u32 (c : Int) 8388607 = ((c % 8388608 : Nat) : Int) := by
  show IntKind.u32.wrap ((BitVec.ofInt 32 (c : Int) &&& BitVec.ofInt 32 8388607).toNat : Int) = _
  rw [BitVec.toNat_and, BitVec.toNat_ofInt, show (BitVec.ofInt 32 8388607).toNat = 8388607 from by decide, nat_and_low, IntKind.wrap_u32]
  omega
theorem u32_and_bit (c : Nat) (h : c < 2 ^ 32) : bits .and .u32 (c : Int) 8388608 = ((c / 8388608 % 2 * 8388608 : Nat) : Int) := by
  show IntKind.u32.wrap ((BitVec.ofInt 32 (c : Int) &&& BitVec.ofInt 32 8388608).toNat : Int) = _
  rw [BitVec.toNat_and, BitVec.toNat_ofInt, show (BitVec.ofInt 32 8388608).toNat = 8388608 from by decide, nat_and_bit, IntKind.wrap_u32]
  omega
theorem u32_or_top (e m : Nat) (he : e < 256) (hm : m < 16777216) : bits .or .u32 ((e * 16777216 : Nat) : Int) (m : Int) = ((e * 16777216 + m : Nat) : Int) := by
  rw [u32_or_nat _ _ (by omega) (by omega), show e * 16777216 = 2 ^ 24 * e from by omega, ← Nat.two_pow_add_eq_or_of_lt (by omega : m < 2 ^ 24)]
/-- Do the bits of a compact's value fit? -/
def fitC (c : Nat) : Bool := decide (expC c ≤ 3) || decide (bl (manC c) + 8 * (expC c - 3) ≤ 256)
theorem man_lt (c : Nat) : manC c < 8388608 := Nat.mod_lt _ (by decide)
theorem fit_lt {c : Nat} (h : fitC c = true) : valC c < 2 ^ 256 := by
  unfold fitC at h
  have hm := man_lt c
  unfold valC valE
  by_cases he : expC c ≤ 3
  · rw [if_pos he]
    have := Nat.div_le_self (manC c) (256 ^ (3 - expC c))
    omega
  · rw [if_neg he]
    simp only [he, decide_false, Bool.false_or, decide_eq_true_eq] at h
    have h1 := (bl_le (manC c) (bl (manC c))).1 (Nat.le_refl _)
    rw [p256e]
    have h2 : manC c * 2 ^ (8 * (expC c - 3)) < 2 ^ bl (manC c) * 2 ^ (8 * (expC c - 3)) := Nat.mul_lt_mul_of_pos_right h1 (Nat.pow_pos (by decide))
    rw [← Nat.pow_add] at h2
    exact Nat.lt_of_lt_of_le h2 (Nat.pow_le_pow_right (by decide) h)
theorem fit_no {c : Nat} (h : fitC c = false) (h0 : valC c ≠ 0) : 2 ^ 256 ≤ valC c := by
  unfold fitC at h
  simp only [Bool.or_eq_false_iff, decide_eq_false_iff_not] at h
  obtain ⟨he, hf⟩ := h
  unfold valC valE at h0 ⊢
  rw [if_neg he] at h0 ⊢
  have hm : manC c ≠ 0 := fun hh => h0 (by rw [hh, Nat.zero_mul])
  have h1 := bl_ge hm
  have h2 := bl_pos hm
  rw [p256e]
  refine Nat.le_trans ?_ (Nat.mul_le_mul_right _ h1)
  rw [← Nat.pow_add]
  exact Nat.pow_le_pow_right (by decide) (by omega)
theorem tgt_is (c : Nat) : tgt c = (!sgnC c && fitC c && decide (valC c ≠ 0)) := by
  unfold tgt
  cases hs : sgnC c <;> simp
  by_cases h0 : valC c = 0
  · simp [h0]
  · cases hf : fitC c
    · have := fit_no hf h0
      simp [h0]; omega
    · have := fit_lt hf
      simp [h0]; omega
theorem val_shift {c : Nat} : valC c = if expC c ≤ 3 then manC c / 2 ^ (8 * (3 - expC c)) else manC c * 2 ^ (8 * (expC c - 3)) := by
  unfold valC valE
  rw [p256e, p256e]
theorem mant_shift (N e : Nat) : mant N e = if e ≤ 3 then N * 2 ^ (8 * (3 - e)) else N / 2 ^ (8 * (e - 3)) := by
  unfold mant
  rw [p256e, p256e]
theorem idx0 (a b c d : Nat) (W : World) : (Instr.index 25 (.agg #[.int .u64 (a : Int), .int .u64 (b : Int), .int .u64 (c : Int), .int .u64 (d : Int)]) (.int .i64 0)).run Try.prog W = .ok (.int .u64 (a : Int)) W := by
  simp [Instr.index, run_underlying Try.underlying25, asIntOf, go_sem]
theorem exp_lt {c : Nat} (h : c < 2 ^ 32) : expC c < 256 := by unfold expC; omega
theorem wd_zero (n : Nat) (h : n < 2 ^ 64) : wd n 0 = n := by unfold wd; rw [Nat.mul_zero, Nat.pow_zero, Nat.div_one, Nat.mod_eq_of_lt h]

set_option maxHeartbeats 4000000 in
theorem first_calls (N e M : Nat) (w : World) (hN : N < 2 ^ 256) (he32 : e ≤ 40) (hm : M = mant N e) (hM : M < 16777216) : Calls Try.prog 34 #[.agg (cellsW (wd N)).toArray, .int .i64 (e : Int)] w (Ret w (.int .u32 (M : Int))) := by
  obtain ⟨X, hX⟩ : ∃ X, X = cellsW (wd N) := ⟨_, rfl⟩
  have IX : Hid ((Try.prog.info? 25).map (·.size) = some X.length) := Lib.hid (by rw [hX]; exact sizeW _)
  have LX : Hid (zerosW.length = X.length) := Lib.hid (by rw [hX]; rfl)
  have OX : Hid (∀ v ∈ X, v.oneCell' = true) := Lib.hid (by rw [hX]; exact cellsW_one _)
  rw [← hX]
  obtain ⟨w0, hw0⟩ : ∃ w0, w0 = (w.alloc (.cells X.toArray 25)) := ⟨_, rfl⟩
  have hbX : Blk w0 (w.heap.size) X 25 := by rw [hw0]; exact Blk.new' w X.toArray 25 (w.heap.size) (by simp)
  have HB : Hid (Still w w0) := Lib.hid (by rw [hw0]; exact Still.alloc (Still.refl w) _)
  rw [mant_shift] at hm
  by_cases he : e ≤ 3
  · rw [if_pos he] at hm
    obtain ⟨K, hK⟩ : ∃ K, K = 8 * (3 - e) := ⟨_, rfl⟩
    rw [← hK] at hm
    have g1 : IntKind.i64.wrap (3 - (e : Int)) = 3 - (e : Int) := by rw [IntKind.wrap_i64]; omega
    have g2 : IntKind.i64.wrap (8 * (3 - (e : Int))) = (K : Int) := by rw [IntKind.wrap_i64]; omega
    have g2b : 8 * (3 - (e : Int)) = (K : Int) := by omega
    have CS : Hid (∀ W, Calls Try.prog 28 #[.agg X.toArray, .int .i64 (K : Int)] W (Ret W (.agg #[.int .u64 (M : Int), .int .u64 (wd M 1 : Int), .int .u64 (wd M 2 : Int), .int .u64 (wd M 3 : Int)]))) := Lib.hid fun W => by
      have h := shl_calls N (K : Int) K W hN (by omega) (by omega)
      rw [← hm] at h
      unfold uA at h
      rw [wd_zero M (by omega)] at h
      rw [hX]
      exact h
    have hle : (e : Int) ≤ 3 := by omega
    have w1 : IntKind.u32.wrap (M : Int) = (M : Int) := u32_in M (by omega)
    obtain ⟨x1, hx1⟩ : ∃ x, x = wd M 1 := ⟨_, rfl⟩
    obtain ⟨x2, hx2⟩ : ∃ x, x = wd M 2 := ⟨_, rfl⟩
    obtain ⟨x3, hx3⟩ : ∃ x, x = wd M 3 := ⟨_, rfl⟩
    rw [← hx1, ← hx2, ← hx3] at CS
    have hidx : ∀ W, (Instr.index 25 (.agg #[.int .u64 (M : Int), .int .u64 (x1 : Int), .int .u64 (x2 : Int), .int .u64 (x3 : Int)]) (.int .i64 0)).run Try.prog W = .ok (.int .u64 (M : Int)) W := fun W => idx0 M x1 x2 x3 W
    clear hX hm hK he hx1 hx2 hx3 hN
    go_enter Try.func34, Try.ntmps34
    go_upto_region 1 with fail
    rw [← hw0]
    clear hw0
    go_wp2_with (first
      | ((with_reducible refine at_load 25 (.tmp 2) ?_); refine wpList_load_mid rfl 25 (.tmp 2) rfl (w.heap.size) 0 rfl X _ (Blk.range (t := 25) (by ((repeat (first | with_reducible assumption | with_reducible apply Blk.alloc | with_reducible apply Blk.drew | with_reducible refine Blk.step ?_ (by assumption) | with_reducible refine Blk.stepS ?_ (by assumption)))))) Try.underlying25 rfl IX.out ?_)
      | (go_at_call 28; refine (CS.out _).mono ?_; rintro e' v1 ⟨rfl, d1⟩))
    go_ret
    exact ⟨rfl, HB.out.trans (show Still w0 v1 by ((repeat (first | with_reducible exact Still.refl _ | with_reducible assumption | with_reducible apply Still.alloc | with_reducible apply Still.drew | with_reducible refine Still.step ?_ (by assumption) | with_reducible refine Still.trans ?_ (by assumption)))))⟩
  · rw [if_neg he] at hm
    obtain ⟨K, hK⟩ : ∃ K, K = 8 * (e - 3) := ⟨_, rfl⟩
    rw [← hK] at hm
    have g1 : IntKind.i64.wrap ((e : Int) - 3) = (e : Int) - 3 := by rw [IntKind.wrap_i64]; omega
    have g2 : IntKind.i64.wrap (8 * ((e : Int) - 3)) = (K : Int) := by rw [IntKind.wrap_i64]; omega
    have g2b : 8 * ((e : Int) - 3) = (K : Int) := by omega
    have CS : Hid (∀ W, Calls Try.prog 20 #[.agg X.toArray, .int .i64 (K : Int)] W (Ret W (.agg #[.int .u64 (M : Int), .int .u64 (wd M 1 : Int), .int .u64 (wd M 2 : Int), .int .u64 (wd M 3 : Int)]))) := Lib.hid fun W => by
      have h := shr_calls N (K : Int) K W hN (by omega) (by omega)
      rw [← hm] at h
      unfold uA at h
      rw [wd_zero M (by omega)] at h
      rw [hX]
      exact h
    have hle : ¬ (e : Int) ≤ 3 := by omega
    have w1 : IntKind.u32.wrap (M : Int) = (M : Int) := u32_in M (by omega)
    obtain ⟨x1, hx1⟩ : ∃ x, x = wd M 1 := ⟨_, rfl⟩
    obtain ⟨x2, hx2⟩ : ∃ x, x = wd M 2 := ⟨_, rfl⟩
    obtain ⟨x3, hx3⟩ : ∃ x, x = wd M 3 := ⟨_, rfl⟩
    rw [← hx1, ← hx2, ← hx3] at CS
    have hidx : ∀ W, (Instr.index 25 (.agg #[.int .u64 (M : Int), .int .u64 (x1 : Int), .int .u64 (x2 : Int), .int .u64 (x3 : Int)]) (.int .i64 0)).run Try.prog W = .ok (.int .u64 (M : Int)) W := fun W => idx0 M x1 x2 x3 W
    clear hX hm hK he hx1 hx2 hx3 hN
    go_enter Try.func34, Try.ntmps34
    go_upto_region 1 with fail
    rw [← hw0]
    clear hw0
    go_wp2_with (first
      | ((with_reducible refine at_load 25 (.tmp 2) ?_); refine wpList_load_mid rfl 25 (.tmp 2) rfl (w.heap.size) 0 rfl X _ (Blk.range (t := 25) (by ((repeat (first | with_reducible assumption | with_reducible apply Blk.alloc | with_reducible apply Blk.drew | with_reducible refine Blk.step ?_ (by assumption) | with_reducible refine Blk.stepS ?_ (by assumption)))))) Try.underlying25 rfl IX.out ?_)
      | (go_at_call 20; refine (CS.out _).mono ?_; rintro e' v1 ⟨rfl, d1⟩))
    go_ret
    exact ⟨rfl, HB.out.trans (show Still w0 v1 by ((repeat (first | with_reducible exact Still.refl _ | with_reducible assumption | with_reducible apply Still.alloc | with_reducible apply Still.drew | with_reducible refine Still.step ?_ (by assumption) | with_reducible refine Still.trans ?_ (by assumption)))))⟩
end Go.Proofs.Ytdgfgehjnfadnaa
