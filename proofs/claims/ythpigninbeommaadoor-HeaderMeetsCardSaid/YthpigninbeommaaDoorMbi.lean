/- Merged texts: WidM. -/
import Derived.PlainAid
/- Plain mathematics of layer 4: the words of a number; sums, products, quotients and shifts word by word; how many bits a number has. -/
namespace Go.Proofs.YthpigninbeommaaDoor

/-- The word i of a number. -/
def wd (N i : Nat) : Nat := N / 2 ^ (64 * i) % 2 ^ 64
set_option maxRecDepth 100000 in
theorem wd_lt (N i : Nat) : wd N i < 2 ^ 64 := Nat.mod_lt _ (by decide)
set_option maxRecDepth 100000 in
theorem pB (t : Nat) : 2 ^ (64 * (t + 1)) = 2 ^ (64 * t) * 2 ^ 64 := by rw [Nat.mul_add, Nat.pow_add]
set_option maxRecDepth 100000 in
theorem pP (t : Nat) : 0 < 2 ^ (64 * t) := Nat.pow_pos (by decide)
set_option maxRecDepth 100000 in
theorem low_succ (N t : Nat) : N % 2 ^ (64 * (t + 1)) = N % 2 ^ (64 * t) + 2 ^ (64 * t) * wd N t := by
  rw [pB, Nat.mod_mul]; rfl
set_option maxRecDepth 100000 in
theorem div_succ (N t : Nat) : N / 2 ^ (64 * t) = N / 2 ^ (64 * (t + 1)) * 2 ^ 64 + wd N t := by
  rw [pB, ← Nat.div_div_eq_div_mul]
  unfold wd
  omega
set_option maxRecDepth 100000 in
theorem wd_high (N i : Nat) (h : N < 2 ^ (64 * i)) : wd N i = 0 := by unfold wd; rw [Nat.div_eq_of_lt h]
/-- What is carried into word t of a sum. -/
def cy (x y t : Nat) : Nat := (x % 2 ^ (64 * t) + y % 2 ^ (64 * t)) / 2 ^ (64 * t)
set_option maxRecDepth 100000 in
theorem cy_zero (x y : Nat) : cy x y 0 = 0 := by simp [cy, Nat.mod_one]
set_option maxRecDepth 100000 in
theorem cy_le (x y t : Nat) : cy x y t ≤ 1 := by
  unfold cy
  have h1 := Nat.mod_lt x (pP t)
  have h2 := Nat.mod_lt y (pP t)
  apply Nat.le_of_lt_succ
  apply Nat.div_lt_of_lt_mul
  omega
set_option maxRecDepth 100000 in
theorem cy_succ (x y t : Nat) : cy x y (t + 1) = (wd x t + wd y t + cy x y t) / 2 ^ 64 := by
  unfold cy
  rw [low_succ, low_succ, pB, ← Nat.div_div_eq_div_mul]
  have e : x % 2 ^ (64 * t) + 2 ^ (64 * t) * wd x t + (y % 2 ^ (64 * t) + 2 ^ (64 * t) * wd y t) = 2 ^ (64 * t) * (wd x t + wd y t) + (x % 2 ^ (64 * t) + y % 2 ^ (64 * t)) := by
    rw [Nat.mul_add]; omega
  rw [e, Nat.mul_add_div (pP t)]
set_option maxRecDepth 100000 in
theorem wd_add (x y t : Nat) : wd (x + y) t = (wd x t + wd y t + cy x y t) % 2 ^ 64 := by
  have e : x + y = 2 ^ (64 * t) * (x / 2 ^ (64 * t) + y / 2 ^ (64 * t)) + (x % 2 ^ (64 * t) + y % 2 ^ (64 * t)) := by
    have h1 := Nat.div_add_mod x (2 ^ (64 * t))
    have h2 := Nat.div_add_mod y (2 ^ (64 * t))
    rw [Nat.mul_add]; omega
  have e2 : (x + y) / 2 ^ (64 * t) = x / 2 ^ (64 * t) + y / 2 ^ (64 * t) + cy x y t := by
    conv => lhs; rw [e]
    rw [Nat.mul_add_div (pP t)]; rfl
  unfold wd
  rw [e2]
  omega
set_option maxRecDepth 100000 in
theorem cy_four (x y : Nat) (hx : x < 2 ^ 256) (hy : y < 2 ^ 256) : cy x y 4 = if 2 ^ 256 ≤ x + y then 1 else 0 := by
  unfold cy
  rw [show 64 * 4 = 256 from rfl, Nat.mod_eq_of_lt hx, Nat.mod_eq_of_lt hy]
  split <;> omega
set_option maxRecDepth 100000 in
theorem wd_mod (N i : Nat) (hi : i < 4) : wd (N % 2 ^ 256) i = wd N i := by
  unfold wd
  have e : 2 ^ 256 = 2 ^ (64 * i) * 2 ^ (64 * (4 - i)) := by rw [← Nat.pow_add]; congr 1; omega
  have e3 : 64 * (4 - i) = 64 + 64 * (3 - i) := by omega
  rw [e, Nat.mod_mul_right_div_self, e3, Nat.pow_add, Nat.mod_mul_right_mod]
/-- What is taken off: x - y modulo 2^256. -/
def dif (x y : Nat) : Nat := (x + 2 ^ 256 - y) % 2 ^ 256
set_option maxRecDepth 100000 in
theorem dif_lt (x y : Nat) : dif x y < 2 ^ 256 := Nat.mod_lt _ (by decide)
set_option maxRecDepth 100000 in
theorem dif_add (x y : Nat) (hx : x < 2 ^ 256) (hy : y < 2 ^ 256) : (y + dif x y) % 2 ^ 256 = x := by unfold dif; omega
set_option maxRecDepth 100000 in
theorem dif_word (x y t : Nat) (hx : x < 2 ^ 256) (hy : y < 2 ^ 256) (ht : t < 4) :
    (wd x t + 18446744073709551616 - wd y t - cy y (dif x y) t) % 18446744073709551616 = wd (dif x y) t ∧ (if wd x t < wd y t + cy y (dif x y) t then 1 else 0) = cy y (dif x y) (t + 1) := by
  have h1 := wd_add y (dif x y) t
  rw [← wd_mod _ t ht, dif_add x y hx hy] at h1
  have h2 := cy_succ y (dif x y) t
  have h3 := cy_le y (dif x y) t
  have h4 := wd_lt y t
  have h5 := wd_lt (dif x y) t
  rw [h2]
  generalize wd x t = X at *
  generalize wd y t = Y at *
  generalize wd (dif x y) t = Z at *
  generalize cy y (dif x y) t = c at *
  refine ⟨by omega, ?_⟩
  split <;> omega
set_option maxRecDepth 100000 in
theorem dif_four (x y : Nat) (hx : x < 2 ^ 256) (hy : y < 2 ^ 256) : cy y (dif x y) 4 = if x < y then 1 else 0 := by
  rw [cy_four y (dif x y) hy (dif_lt x y)]
  unfold dif
  split <;> split <;> omega
/-- The upper part of a product, as far as word t. -/
def hiM (x n t : Nat) : Nat := x % 2 ^ (64 * t) * n / 2 ^ (64 * t)
set_option maxRecDepth 100000 in
theorem hiM_zero (x n : Nat) : hiM x n 0 = 0 := by simp [hiM, Nat.mod_one]
set_option maxRecDepth 100000 in
theorem hiM_lt (x n t : Nat) (hn : n < 2 ^ 64) : hiM x n t < 2 ^ 64 := by
  unfold hiM
  have h1 := Nat.mod_lt x (pP t)
  apply Nat.div_lt_of_lt_mul
  calc x % 2 ^ (64 * t) * n ≤ x % 2 ^ (64 * t) * 2 ^ 64 := Nat.mul_le_mul_left _ (by omega)
    _ < 2 ^ (64 * t) * 2 ^ 64 := Nat.mul_lt_mul_of_pos_right h1 (by decide)
set_option maxRecDepth 100000 in
theorem hiM_succ (x n t : Nat) : hiM x n (t + 1) = (wd x t * n + hiM x n t) / 2 ^ 64 := by
  unfold hiM
  rw [low_succ, pB, ← Nat.div_div_eq_div_mul, Nat.add_mul, Nat.mul_assoc, Nat.add_comm (x % _ * n), Nat.mul_add_div (pP t)]
set_option maxRecDepth 100000 in
theorem wd_mul (x n t : Nat) : wd (x * n) t = (wd x t * n + hiM x n t) % 2 ^ 64 := by
  have e : x * n = 2 ^ (64 * t) * (x / 2 ^ (64 * t) * n) + x % 2 ^ (64 * t) * n := by
    have h1 := Nat.div_add_mod x (2 ^ (64 * t))
    rw [← Nat.mul_assoc, ← Nat.add_mul, h1]
  have e2 : x * n / 2 ^ (64 * t) = x / 2 ^ (64 * t) * n + hiM x n t := by
    conv => lhs; rw [e]
    rw [Nat.mul_add_div (pP t)]; rfl
  unfold wd
  rw [e2, Nat.add_mod, Nat.mul_mod, ← Nat.mod_mod (x / _) (2 ^ 64), ← Nat.mul_mod, ← Nat.add_mod, Nat.mod_mod]
set_option maxRecDepth 100000 in
theorem hiM_four (x n : Nat) (hx : x < 2 ^ 256) : hiM x n 4 = x * n / 2 ^ 256 := by
  unfold hiM
  rw [show 64 * 4 = 256 from rfl, Nat.mod_eq_of_lt hx]
set_option maxRecDepth 100000 in
/-- A word of a quotient. -/
theorem div_word (x n t : Nat) (hn : 0 < n) (r : Nat) (hr : r = x / 2 ^ (64 * (t + 1)) % n) :
    (r * 2 ^ 64 + wd x t) / n = wd (x / n) t ∧ (r * 2 ^ 64 + wd x t) % n = x / 2 ^ (64 * t) % n := by
  have e := div_succ x t
  have hrn : r < n := by rw [hr]; exact Nat.mod_lt _ hn
  obtain ⟨h, hh⟩ : ∃ h, h = x / 2 ^ (64 * (t + 1)) := ⟨_, rfl⟩
  rw [← hh] at e hr
  have hsplit : h = n * (h / n) + r := by rw [hr]; exact (Nat.div_add_mod h n).symm
  have e2 : x / 2 ^ (64 * t) = n * (h / n * 2 ^ 64) + (r * 2 ^ 64 + wd x t) := by
    rw [e]
    conv => lhs; rw [hsplit]
    rw [Nat.add_mul, Nat.mul_assoc, Nat.add_assoc]
  have hw := wd_lt x t
  have hq : (r * 2 ^ 64 + wd x t) / n < 2 ^ 64 := by
    apply Nat.div_lt_of_lt_mul
    calc r * 2 ^ 64 + wd x t < r * 2 ^ 64 + 2 ^ 64 := by omega
      _ = (r + 1) * 2 ^ 64 := by rw [Nat.add_mul, Nat.one_mul]
      _ ≤ n * 2 ^ 64 := Nat.mul_le_mul_right _ hrn
  refine ⟨?_, ?_⟩
  · have e3 : wd (x / n) t = (n * (h / n * 2 ^ 64) + (r * 2 ^ 64 + wd x t)) / n % 2 ^ 64 := by
      rw [← e2]
      show x / n / 2 ^ (64 * t) % 2 ^ 64 = _
      rw [Nat.div_div_eq_div_mul, Nat.mul_comm n, ← Nat.div_div_eq_div_mul]
    rw [e3, Nat.mul_add_div hn, Nat.mul_comm (h / n), Nat.mul_add_mod, Nat.mod_eq_of_lt hq]
  · rw [e2, Nat.mul_add_mod]
/-- A word of a number below 2^256, or nought where it has none. -/
def wz (x : Nat) (j : Int) : Nat := if j < 0 then 0 else if 4 ≤ j then 0 else wd x j.toNat
set_option maxRecDepth 100000 in
theorem wz_lt (x : Nat) (j : Int) : wz x j < 2 ^ 64 := by
  unfold wz
  split
  · decide
  · split
    · decide
    · exact wd_lt _ _
set_option maxRecDepth 100000 in
theorem wz_nat (x : Nat) (hx : x < 2 ^ 256) (j : Nat) : wz x (j : Int) = wd x j := by
  unfold wz
  rw [if_neg (by omega)]
  split
  · rename_i h
    rw [wd_high]
    exact Nat.lt_of_lt_of_le hx (Nat.pow_le_pow_right (by decide) (by omega))
  · rfl
set_option maxRecDepth 100000 in
theorem wz_neg (x : Nat) (j : Int) (h : j < 0) : wz x j = 0 := by unfold wz; rw [if_pos h]
set_option maxRecDepth 100000 in
/-- The word i of x times 2^p, p at most 64. -/
theorem wd_part (x p i : Nat) (hp : p ≤ 64) : wd (x * 2 ^ p) i = wd x i * 2 ^ p % 2 ^ 64 + (if i = 0 then 0 else wd x (i - 1) / 2 ^ (64 - p)) := by
  have hpp : 0 < 2 ^ p := Nat.pow_pos (by decide)
  have h64 : 2 ^ 64 = 2 ^ (64 - p) * 2 ^ p := by rw [← Nat.pow_add]; congr 1; omega
  by_cases hi : i = 0
  · subst hi
    rw [if_pos rfl, Nat.add_zero]
    unfold wd
    rw [Nat.mul_zero, Nat.pow_zero, Nat.div_one, Nat.div_one, Nat.mod_mul_mod]
  · obtain ⟨j, rfl⟩ : ∃ j, i = j + 1 := ⟨i - 1, by omega⟩
    rw [if_neg hi, Nat.add_sub_cancel, wd_mul]
    have hh := hiM_succ x (2 ^ p) j
    have hm : hiM x (2 ^ p) j < 2 ^ p := by
      unfold hiM
      have h1 := Nat.mod_lt x (pP j)
      apply Nat.div_lt_of_lt_mul
      exact Nat.mul_lt_mul_of_pos_right h1 hpp
    have e : (wd x j * 2 ^ p + hiM x (2 ^ p) j) / 2 ^ 64 = wd x j / 2 ^ (64 - p) := by
      rw [h64, Nat.mul_comm (2 ^ (64 - p)), ← Nat.div_div_eq_div_mul, Nat.mul_comm (wd x j), Nat.mul_add_div hpp, Nat.div_eq_of_lt hm, Nat.add_zero]
    rw [hh, e]
    have hlow : wd x j / 2 ^ (64 - p) < 2 ^ p := by
      apply Nat.div_lt_of_lt_mul
      rw [← h64]; exact wd_lt x j
    have hsplit : wd x (j + 1) * 2 ^ p % 2 ^ 64 = wd x (j + 1) % 2 ^ (64 - p) * 2 ^ p := by rw [h64, Nat.mul_mod_mul_right]
    rw [Nat.add_mod, hsplit]
    have hle : wd x (j + 1) % 2 ^ (64 - p) * 2 ^ p + wd x j / 2 ^ (64 - p) < 2 ^ 64 := by
      have h1 : wd x (j + 1) % 2 ^ (64 - p) < 2 ^ (64 - p) := Nat.mod_lt _ (Nat.pow_pos (by decide))
      rw [h64]
      calc wd x (j + 1) % 2 ^ (64 - p) * 2 ^ p + wd x j / 2 ^ (64 - p) < wd x (j + 1) % 2 ^ (64 - p) * 2 ^ p + 2 ^ p := by omega
        _ = (wd x (j + 1) % 2 ^ (64 - p) + 1) * 2 ^ p := by rw [Nat.add_mul, Nat.one_mul]
        _ ≤ 2 ^ (64 - p) * 2 ^ p := Nat.mul_le_mul_right _ h1
    rw [Nat.mod_eq_of_lt (a := wd x j / _) (by omega), Nat.mod_eq_of_lt hle]
set_option maxRecDepth 100000 in
theorem wd_skip (x s i : Nat) : wd (x * 2 ^ (64 * s)) i = if s ≤ i then wd x (i - s) else 0 := by
  unfold wd
  split
  · rename_i h
    have e : 2 ^ (64 * i) = 2 ^ (64 * s) * 2 ^ (64 * (i - s)) := by rw [← Nat.pow_add]; congr 1; omega
    rw [e, ← Nat.div_div_eq_div_mul, Nat.mul_div_cancel _ (pP s)]
  · rename_i h
    have e : 64 * s = 64 * i + (64 + 64 * (s - i - 1)) := by omega
    rw [e, Nat.pow_add, Nat.pow_add, ← Nat.mul_assoc, Nat.mul_right_comm, Nat.mul_div_cancel _ (pP i), ← Nat.mul_assoc, Nat.mul_right_comm, Nat.mul_mod_left]
set_option maxRecDepth 100000 in
theorem wd_shl (x k i : Nat) (hx : x < 2 ^ 256) : wd (x * 2 ^ k) i = wz x ((i : Int) - (k / 64 : Nat)) * 2 ^ (k % 64) % 2 ^ 64 + wz x ((i : Int) - (k / 64 : Nat) - 1) / 2 ^ (64 - k % 64) := by
  obtain ⟨s, hs⟩ : ∃ s, s = k / 64 := ⟨_, rfl⟩
  obtain ⟨p, hp⟩ : ∃ p, p = k % 64 := ⟨_, rfl⟩
  have hk : k = p + 64 * s := by omega
  rw [← hs, ← hp, hk, Nat.pow_add, ← Nat.mul_assoc, wd_skip]
  by_cases h : s ≤ i
  · rw [if_pos h, wd_part x p (i - s) (by omega), show (i : Int) - (s : Int) = ((i - s : Nat) : Int) from by omega, wz_nat x hx]
    congr 1
    by_cases h0 : i - s = 0
    · rw [if_pos h0, wz_neg _ _ (by omega), Nat.zero_div]
    · rw [if_neg h0, show ((i - s : Nat) : Int) - 1 = ((i - s - 1 : Nat) : Int) from by omega, wz_nat x hx]
  · rw [if_neg h, wz_neg _ _ (by omega), wz_neg _ _ (by omega)]
    simp
set_option maxRecDepth 100000 in
theorem wd_shr (x k i : Nat) (hx : x < 2 ^ 256) : wd (x / 2 ^ k) i = wz x ((i : Int) + (k / 64 : Nat)) / 2 ^ (k % 64) + wz x ((i : Int) + (k / 64 : Nat) + 1) * 2 ^ (64 - k % 64) % 2 ^ 64 := by
  obtain ⟨s, hs⟩ : ∃ s, s = k / 64 := ⟨_, rfl⟩
  obtain ⟨p, hp⟩ : ∃ p, p = k % 64 := ⟨_, rfl⟩
  have hk : k = p + 64 * s := by omega
  rw [← hs, ← hp, show (i : Int) + (s : Int) = ((i + s : Nat) : Int) from by omega, show ((i + s : Nat) : Int) + 1 = ((i + s + 1 : Nat) : Int) from by omega, wz_nat x hx, wz_nat x hx]
  have h64 : 2 ^ 64 = 2 ^ (64 - p) * 2 ^ p := by rw [← Nat.pow_add]; congr 1; omega
  have e1 : x / 2 ^ k / 2 ^ (64 * i) = x / 2 ^ (64 * (i + s)) / 2 ^ p := by
    rw [Nat.div_div_eq_div_mul, Nat.div_div_eq_div_mul, ← Nat.pow_add, ← Nat.pow_add]; congr 2; omega
  have e2 : x / 2 ^ (64 * (i + s)) = x / 2 ^ (64 * (i + s + 1)) * 2 ^ 64 + wd x (i + s) := div_succ x (i + s)
  obtain ⟨h, hh⟩ : ∃ h, h = x / 2 ^ (64 * (i + s + 1)) := ⟨_, rfl⟩
  obtain ⟨l, hl⟩ : ∃ l, l = wd x (i + s) := ⟨_, rfl⟩
  have hll : l < 2 ^ 64 := by rw [hl]; exact wd_lt _ _
  have e3 : wd x (i + s + 1) = h % 2 ^ 64 := by rw [hh]; rfl
  rw [e3, ← hl]
  show x / 2 ^ k / 2 ^ (64 * i) % 2 ^ 64 = _
  rw [e1, e2, ← hh, ← hl]
  have hpp : 0 < 2 ^ p := Nat.pow_pos (by decide)
  have e4 : (h * 2 ^ 64 + l) / 2 ^ p = h * 2 ^ (64 - p) + l / 2 ^ p := by
    rw [h64, ← Nat.mul_assoc, Nat.mul_comm _ (2 ^ p), Nat.mul_add_div hpp]
  have e5 : h % 2 ^ 64 * 2 ^ (64 - p) % 2 ^ 64 = h % 2 ^ p * 2 ^ (64 - p) := by
    rw [Nat.mod_mul_mod]
    rw [show 2 ^ 64 = 2 ^ p * 2 ^ (64 - p) from by rw [h64, Nat.mul_comm], Nat.mul_mod_mul_right]
  have e6 : l / 2 ^ p < 2 ^ (64 - p) := by apply Nat.div_lt_of_lt_mul; rw [Nat.mul_comm, ← h64]; exact hll
  have e7 : h * 2 ^ (64 - p) % 2 ^ 64 = h % 2 ^ p * 2 ^ (64 - p) := by
    rw [show 2 ^ 64 = 2 ^ p * 2 ^ (64 - p) from by rw [h64, Nat.mul_comm], Nat.mul_mod_mul_right]
  have hle : h % 2 ^ p * 2 ^ (64 - p) + l / 2 ^ p < 2 ^ 64 := by
    have h1 : h % 2 ^ p < 2 ^ p := Nat.mod_lt _ hpp
    rw [h64, Nat.mul_comm (2 ^ (64 - p)) (2 ^ p)]
    calc h % 2 ^ p * 2 ^ (64 - p) + l / 2 ^ p < h % 2 ^ p * 2 ^ (64 - p) + 2 ^ (64 - p) := by omega
      _ = (h % 2 ^ p + 1) * 2 ^ (64 - p) := by rw [Nat.add_mul, Nat.one_mul]
      _ ≤ 2 ^ p * 2 ^ (64 - p) := Nat.mul_le_mul_right _ h1
  rw [e4, e5, Nat.add_mod, e7, Nat.mod_eq_of_lt (a := l / 2 ^ p) (by omega), Nat.mod_eq_of_lt hle, Nat.add_comm]

/-- How many bits a number has. -/
def bl (N : Nat) : Nat := if N = 0 then 0 else Nat.log2 N + 1
set_option maxRecDepth 100000 in
theorem bl_le (N k : Nat) : bl N ≤ k ↔ N < 2 ^ k := by
  unfold bl
  split
  · rename_i h; subst h; simp [Nat.pow_pos]
  · rename_i h; rw [← Nat.log2_lt h]; omega
set_option maxRecDepth 100000 in
theorem bl_eq (N k : Nat) (h1 : N < 2 ^ k) (h2 : 0 < k → 2 ^ (k - 1) ≤ N) : bl N = k := by
  have a := (bl_le N k).2 h1
  rcases Nat.lt_or_ge (bl N) k with h | h
  · have := (bl_le N (k - 1)).1 (by omega)
    have := h2 (by omega)
    omega
  · omega
set_option maxRecDepth 100000 in
theorem bl_zero : bl 0 = 0 := rfl
set_option maxRecDepth 100000 in
theorem bl_pos {N : Nat} (h : N ≠ 0) : 0 < bl N := by unfold bl; rw [if_neg h]; omega
set_option maxRecDepth 100000 in
theorem bl_ge {N : Nat} (h : N ≠ 0) : 2 ^ (bl N - 1) ≤ N := by
  have := bl_pos h
  rcases Nat.lt_or_ge N (2 ^ (bl N - 1)) with h1 | h1
  · have := (bl_le N (bl N - 1)).2 h1
    omega
  · exact h1
set_option maxRecDepth 100000 in
theorem bl_lt (N : Nat) : N < 2 ^ bl N := (bl_le N _).1 (Nat.le_refl _)
set_option maxRecDepth 100000 in
/-- Bits above t. -/
theorem bl_div (N t : Nat) (h : N / 2 ^ t ≠ 0) : bl N = t + bl (N / 2 ^ t) := by
  have h1 := bl_lt (N / 2 ^ t)
  have h2 := bl_ge h
  have h3 := bl_pos h
  have hp : 0 < 2 ^ t := Nat.pow_pos (by decide)
  apply bl_eq
  · rw [Nat.pow_add]
    exact (Nat.div_lt_iff_lt_mul hp).1 h1 |> fun h => by rw [Nat.mul_comm]; exact h
  · intro _
    rw [show t + bl (N / 2 ^ t) - 1 = t + (bl (N / 2 ^ t) - 1) from by omega, Nat.pow_add, Nat.mul_comm]
    exact (Nat.le_div_iff_mul_le hp).1 h2
end Go.Proofs.YthpigninbeommaaDoor
