/- Plain mathematics of wide.Quo: bit by bit, with what is left below the divisor. -/
import Derived.Test.YtdgfgehjnfadnaaWidM
namespace Go.Proofs.Ytdgfgehjnfadnaa

/-- A bit that is set where none stands below. -/
theorem wd_bit (Q k j : Nat) (h : Q % 2 ^ (k + 1) = 0) : wd (Q + 2 ^ k) j = if j = k / 64 then wd Q j + 2 ^ (k % 64) else wd Q j := by
  obtain ⟨c, hc⟩ : ∃ c, Q = 2 ^ (k + 1) * c := ⟨Q / 2 ^ (k + 1), by have := Nat.div_add_mod Q (2 ^ (k + 1)); omega⟩
  have hk := Nat.div_add_mod k 64
  have hp := Nat.mod_lt k (show 0 < 64 by decide)
  rcases Nat.lt_trichotomy j (k / 64) with hj | hj | hj
  · rw [if_neg (by omega)]
    unfold wd
    have e : k = 64 * j + (64 + (k - 64 * j - 64)) := by omega
    have e2 : 2 ^ k = 2 ^ (64 * j) * (2 ^ 64 * 2 ^ (k - 64 * j - 64)) := by rw [← Nat.pow_add, ← Nat.pow_add, ← e]
    rw [e2, Nat.add_mul_div_left _ _ (pP j), Nat.add_mul_mod_self_left]
  · rw [if_pos hj]
    subst hj
    obtain ⟨p, hpe⟩ : ∃ p, p = k % 64 := ⟨_, rfl⟩
    obtain ⟨m, hm⟩ : ∃ m, m = k / 64 := ⟨_, rfl⟩
    rw [← hpe, ← hm]
    have ek : k = 64 * m + p := by omega
    have e2 : 2 ^ k = 2 ^ (64 * m) * 2 ^ p := by rw [← Nat.pow_add, ← ek]
    have e3 : 2 ^ (k + 1) = 2 ^ (64 * m) * 2 ^ (p + 1) := by rw [← Nat.pow_add]; congr 1; omega
    have hq : Q / 2 ^ (64 * m) = 2 ^ (p + 1) * c := by rw [hc, e3, Nat.mul_assoc, Nat.mul_div_cancel_left _ (pP m)]
    have e64 : 2 ^ 64 = 2 ^ (p + 1) * 2 ^ (63 - p) := by rw [← Nat.pow_add]; congr 1; omega
    have hlt : c % 2 ^ (63 - p) < 2 ^ (63 - p) := Nat.mod_lt _ (Nat.pow_pos (by decide))
    have hpp : 2 ^ p < 2 ^ (p + 1) := Nat.pow_lt_pow_right (by decide) (by omega)
    have hw : wd Q m = 2 ^ (p + 1) * (c % 2 ^ (63 - p)) := by
      unfold wd
      rw [hq, e64, Nat.mul_mod_mul_left]
    have hle : 2 ^ (p + 1) * (c % 2 ^ (63 - p)) + 2 ^ p < 2 ^ 64 := by
      rw [e64]
      calc 2 ^ (p + 1) * (c % 2 ^ (63 - p)) + 2 ^ p < 2 ^ (p + 1) * (c % 2 ^ (63 - p)) + 2 ^ (p + 1) := by omega
        _ = 2 ^ (p + 1) * (c % 2 ^ (63 - p) + 1) := by rw [Nat.mul_add, Nat.mul_one]
        _ ≤ 2 ^ (p + 1) * 2 ^ (63 - p) := Nat.mul_le_mul_left _ hlt
    rw [hw]
    show (Q + 2 ^ k) / 2 ^ (64 * m) % 2 ^ 64 = _
    rw [e2, Nat.add_mul_div_left _ _ (pP m), hq]
    have e5 : (2 ^ (p + 1) * c + 2 ^ p) % 2 ^ 64 = (2 ^ (p + 1) * (c % 2 ^ (63 - p)) + 2 ^ p) % 2 ^ 64 := by
      have h1 : 2 ^ (p + 1) * c % 2 ^ 64 = 2 ^ (p + 1) * (c % 2 ^ (63 - p)) := by rw [e64, Nat.mul_mod_mul_left]
      rw [Nat.add_mod, h1, Nat.mod_eq_of_lt (a := 2 ^ p) (b := 2 ^ 64) (by omega)]
    rw [e5, Nat.mod_eq_of_lt hle]
  · rw [if_neg (by omega)]
    unfold wd
    have e : 64 * j = (k + 1) + (64 * j - (k + 1)) := by omega
    have hk1 : 0 < 2 ^ (k + 1) := Nat.pow_pos (by decide)
    have hlt : 2 ^ k < 2 ^ (k + 1) := Nat.pow_lt_pow_right (by decide) (by omega)
    rw [e, Nat.pow_add, ← Nat.div_div_eq_div_mul, ← Nat.div_div_eq_div_mul, hc, Nat.mul_add_div hk1, Nat.div_eq_of_lt hlt, Nat.add_zero, Nat.mul_div_cancel_left _ hk1]
/-- What a word has below the bit. -/
theorem wd_low (Q k : Nat) (h : Q % 2 ^ (k + 1) = 0) : wd Q (k / 64) % 2 ^ (k % 64 + 1) = 0 := by
  obtain ⟨c, hc⟩ : ∃ c, Q = 2 ^ (k + 1) * c := ⟨Q / 2 ^ (k + 1), by have := Nat.div_add_mod Q (2 ^ (k + 1)); omega⟩
  have hk := Nat.div_add_mod k 64
  have hp := Nat.mod_lt k (show 0 < 64 by decide)
  generalize k / 64 = m at *
  generalize k % 64 = p at *
  have e3 : 2 ^ (k + 1) = 2 ^ (64 * m) * 2 ^ (p + 1) := by rw [← Nat.pow_add]; congr 1; omega
  have hq : Q / 2 ^ (64 * m) = 2 ^ (p + 1) * c := by rw [hc, e3, Nat.mul_assoc, Nat.mul_div_cancel_left _ (pP m)]
  have e64 : 2 ^ 64 = 2 ^ (p + 1) * 2 ^ (63 - p) := by rw [← Nat.pow_add]; congr 1; omega
  unfold wd
  rw [hq, e64, Nat.mul_mod_mul_left, Nat.mul_mod_right]
/-- The state of a division: the quotient so far, what is left, how many bits are left. -/
def QS (x y Q R k : Nat) : Prop := x = Q * y + R ∧ R < y * 2 ^ k ∧ Q % 2 ^ k = 0
theorem QS.start (x y : Nat) (P : Nat) (hy : y ≠ 0) (h : bl x + 1 ≤ bl y + P) : QS x y 0 x P := by
  refine ⟨by simp, ?_, by simp⟩
  have h1 := bl_ge hy
  have h2 := bl_lt x
  have h3 := bl_pos hy
  calc x < 2 ^ bl x := h2
    _ ≤ 2 ^ (bl y - 1 + P) := Nat.pow_le_pow_right (by decide) (by omega)
    _ = 2 ^ (bl y - 1) * 2 ^ P := Nat.pow_add _ _ _
    _ ≤ y * 2 ^ P := Nat.mul_le_mul_right _ h1
theorem QS.more {x y Q R k : Nat} (h : QS x y Q R (k + 1)) (hr : y * 2 ^ k ≤ R) : QS x y (Q + 2 ^ k) (R - y * 2 ^ k) k := by
  obtain ⟨h1, h2, h3⟩ := h
  refine ⟨?_, ?_, ?_⟩
  · rw [Nat.add_mul, Nat.mul_comm (2 ^ k) y]
    omega
  · have e : y * 2 ^ (k + 1) = y * 2 ^ k + y * 2 ^ k := by rw [Nat.pow_succ, ← Nat.mul_assoc]; omega
    omega
  · have e : 2 ^ (k + 1) = 2 ^ k * 2 := Nat.pow_succ _ _
    have h4 : Q % 2 ^ k = 0 := by
      have := Nat.mod_mul_right_mod Q (2 ^ k) 2
      rw [← e, h3, Nat.zero_mod] at this
      exact this.symm
    rw [Nat.add_mod_right, h4]
theorem QS.less {x y Q R k : Nat} (h : QS x y Q R (k + 1)) (hr : R < y * 2 ^ k) : QS x y Q R k := by
  obtain ⟨h1, h2, h3⟩ := h
  refine ⟨h1, hr, ?_⟩
  have e : 2 ^ (k + 1) = 2 ^ k * 2 := Nat.pow_succ _ _
  have := Nat.mod_mul_right_mod Q (2 ^ k) 2
  rw [← e, h3, Nat.zero_mod] at this
  exact this.symm
theorem QS.fin {x y Q R : Nat} (h : QS x y Q R 0) : Q = x / y ∧ R = x % y := by
  obtain ⟨h1, h2, _⟩ := h
  rw [Nat.pow_zero, Nat.mul_one] at h2
  have hyp : 0 < y := by omega
  rw [h1]
  refine ⟨?_, ?_⟩
  · rw [Nat.mul_comm Q y, Nat.mul_add_div hyp, Nat.div_eq_of_lt h2, Nat.add_zero]
  · rw [Nat.mul_comm Q y, Nat.mul_add_mod, Nat.mod_eq_of_lt h2]
theorem QS.le {x y Q R k : Nat} (h : QS x y Q R k) : R ≤ x := by have := h.1; omega
/-- The divisor's shift fits. -/
theorem shl_fits (x y k P : Nat) (hx : x < 2 ^ 256) (_hy : y ≠ 0) (hP : k < P) (h : bl y + P ≤ bl x + 1) : y * 2 ^ k < 2 ^ 256 := by
  have h1 := bl_lt y
  have h2 : bl x ≤ 256 := (bl_le x 256).2 hx
  calc y * 2 ^ k < 2 ^ bl y * 2 ^ k := Nat.mul_lt_mul_of_pos_right h1 (Nat.pow_pos (by decide))
    _ = 2 ^ (bl y + k) := (Nat.pow_add _ _ _).symm
    _ ≤ 2 ^ 256 := Nat.pow_le_pow_right (by decide) (by omega)
end Go.Proofs.Ytdgfgehjnfadnaa
