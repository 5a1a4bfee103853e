/- Plain mathematics of layer 1: the bytes of a number, the number of bytes. Nothing of the program is named here. -/
import Derived.PlainAid
namespace Go.Proofs.Ythkkllcpogagiaa

/-- The k lowest bytes of n, the lowest first. -/
def little (n k : Nat) : List UInt8 := (List.range k).map fun i => UInt8.ofNat (n / 256 ^ i)
/-- The same, the highest first. -/
def great (n k : Nat) : List UInt8 := (little n k).reverse
/-- The number of bytes, the lowest first. -/
def numL : List UInt8 → Nat
  | [] => 0
  | c :: r => c.toNat + 256 * numL r

set_option maxRecDepth 100000 in
@[simp] theorem little_len (n k : Nat) : (little n k).length = k := by simp [little]
set_option maxRecDepth 100000 in
@[simp] theorem great_len (n k : Nat) : (great n k).length = k := by simp [great]
set_option maxRecDepth 100000 in
theorem little_get (n k i : Nat) (h : i < (little n k).length) : (little n k)[i] = UInt8.ofNat (n / 256 ^ i) := by simp [little]
set_option maxRecDepth 100000 in
theorem great_get (n k i : Nat) (h : i < (great n k).length) : (great n k)[i] = UInt8.ofNat (n / 256 ^ (k - 1 - i)) := by
  simp [great, little_get]
set_option maxRecDepth 100000 in
theorem little_succ (n k : Nat) : little n (k + 1) = UInt8.ofNat n :: little (n / 256) k := by
  unfold little
  rw [List.range_succ_eq_map, List.map_cons, List.map_map]
  congr 1
  · simp
  · apply List.map_congr_left
    intro i _
    simp only [Function.comp, Nat.pow_succ]
    rw [Nat.div_div_eq_div_mul, Nat.mul_comm]
set_option maxRecDepth 100000 in
theorem ofNat_toNat (n : Nat) : (UInt8.ofNat n).toNat = n % 256 := by simp
set_option maxRecDepth 100000 in
theorem numL_little (n k : Nat) : numL (little n k) = n % 256 ^ k := by
  induction k generalizing n with
  | zero => simp [little, numL, Nat.mod_one]
  | succ k ih =>
    rw [little_succ, numL, ih, ofNat_toNat, Nat.pow_succ, Nat.mul_comm (256 ^ k) 256, Nat.mod_mul]
set_option maxRecDepth 100000 in
theorem numL_lt (l : List UInt8) : numL l < 256 ^ l.length := by
  induction l with
  | nil => simp [numL]
  | cons c r ih =>
    have := c.toNat_lt
    simp only [numL, List.length_cons, Nat.pow_succ]
    omega
set_option maxRecDepth 100000 in
theorem numL_append (l r : List UInt8) : numL (l ++ r) = numL l + 256 ^ l.length * numL r := by
  induction l with
  | nil => simp [numL]
  | cons c l ih =>
    simp only [List.cons_append, numL, ih, List.length_cons, Nat.pow_succ, Nat.mul_add]
    rw [Nat.mul_comm (256 ^ l.length) 256, Nat.mul_assoc]
    omega
set_option maxRecDepth 100000 in
theorem pow8 (t : Nat) : 2 ^ (8 * t) = 256 ^ t := by rw [Nat.pow_mul]
set_option maxRecDepth 100000 in
theorem byte_at (n t : Nat) : (n : Int) / 2 ^ (8 * t) % 256 = ((UInt8.ofNat (n / 256 ^ t)).toNat : Int) := by
  rw [ofNat_toNat, ← pow8, Int.natCast_emod, Int.natCast_ediv, Int.natCast_pow]
  rfl

/-- x, of B bits, rotated left by s. -/
def rol (B x s : Nat) : Nat := x % 2 ^ (B - s) * 2 ^ s + x / 2 ^ (B - s)
set_option maxRecDepth 100000 in
theorem split_pow (B s : Nat) (h : s ≤ B) : 2 ^ B = 2 ^ (B - s) * 2 ^ s := by rw [← Nat.pow_add]; congr 1; omega
set_option maxRecDepth 100000 in
theorem rol_parts (B s h l : Nat) (hl : l < 2 ^ (B - s)) : rol B (h * 2 ^ (B - s) + l) s = l * 2 ^ s + h := by
  unfold rol
  rw [Nat.mul_comm h, Nat.mul_add_mod, Nat.mod_eq_of_lt hl, Nat.mul_add_div (Nat.pow_pos (by omega)), Nat.div_eq_of_lt hl]
  rfl
set_option maxRecDepth 100000 in
theorem rol_zero (B x : Nat) (hx : x < 2 ^ B) : rol B x 0 = x := by
  unfold rol
  rw [Nat.sub_zero, Nat.mod_eq_of_lt hx, Nat.div_eq_of_lt hx]; simp
set_option maxRecDepth 100000 in
theorem rol_lt (B x s : Nat) (hs : s ≤ B) (hx : x < 2 ^ B) : rol B x s < 2 ^ B := by
  unfold rol
  rw [split_pow B s hs] at hx ⊢
  have h1 : x / 2 ^ (B - s) < 2 ^ s := Nat.div_lt_of_lt_mul hx
  have h2 : x % 2 ^ (B - s) < 2 ^ (B - s) := Nat.mod_lt _ (Nat.pow_pos (by omega))
  calc x % 2 ^ (B - s) * 2 ^ s + x / 2 ^ (B - s) < x % 2 ^ (B - s) * 2 ^ s + 2 ^ s := by omega
    _ = (x % 2 ^ (B - s) + 1) * 2 ^ s := by rw [Nat.add_mul, Nat.one_mul]
    _ ≤ 2 ^ (B - s) * 2 ^ s := Nat.mul_le_mul_right _ h2
set_option maxRecDepth 100000 in
theorem rol_back (B x s : Nat) (hs : s ≤ B) (hx : x < 2 ^ B) : rol B (rol B x s) (B - s) = x := by
  have h1 : x / 2 ^ (B - s) < 2 ^ s := Nat.div_lt_of_lt_mul (by rw [← split_pow B s hs]; exact hx)
  have e : B - (B - s) = s := by omega
  have h := rol_parts B (B - s) (x % 2 ^ (B - s)) (x / 2 ^ (B - s)) (by rw [e]; exact h1)
  rw [e] at h
  show rol B (x % 2 ^ (B - s) * 2 ^ s + x / 2 ^ (B - s)) (B - s) = x
  rw [h]
  rw [Nat.mul_comm]
  exact Nat.div_add_mod x _
set_option maxRecDepth 100000 in
theorem rol_or (B x s : Nat) (hs : s ≤ B) : (x * 2 ^ s % 2 ^ B) + x / 2 ^ (B - s) = rol B x s := by
  unfold rol
  rw [split_pow B s hs, Nat.mul_mod_mul_right]
set_option maxRecDepth 100000 in
theorem rol_step (B x s : Nat) (hs : s < B) (hx : x < 2 ^ B) : rol B x s % 2 ^ (B - 1) * 2 + rol B x s / 2 ^ (B - 1) = rol B x (s + 1) := by
  have hp : 2 ^ (B - s) = 2 ^ (B - (s + 1)) * 2 := by rw [← Nat.pow_succ]; congr 1; omega
  have hB : 2 ^ (B - 1) = 2 ^ (B - (s + 1)) * 2 ^ s := by rw [← Nat.pow_add]; congr 1; omega
  have h1 : x / 2 ^ (B - s) < 2 ^ s := Nat.div_lt_of_lt_mul (by rw [← split_pow B s (by omega)]; exact hx)
  obtain ⟨h, hh⟩ : ∃ h, h = x / 2 ^ (B - s) := ⟨_, rfl⟩
  obtain ⟨l, hl⟩ : ∃ l, l = x % 2 ^ (B - s) := ⟨_, rfl⟩
  obtain ⟨l1, hl1⟩ : ∃ l1, l1 = l / 2 ^ (B - (s + 1)) := ⟨_, rfl⟩
  obtain ⟨l0, hl0⟩ : ∃ l0, l0 = l % 2 ^ (B - (s + 1)) := ⟨_, rfl⟩
  have hpos : 0 < 2 ^ (B - (s + 1)) := Nat.pow_pos (by omega)
  have hl0lt : l0 < 2 ^ (B - (s + 1)) := by rw [hl0]; exact Nat.mod_lt _ hpos
  have hlsplit : l = l1 * 2 ^ (B - (s + 1)) + l0 := by rw [hl1, hl0, Nat.mul_comm]; exact (Nat.div_add_mod l _).symm
  have hxsplit : x = h * 2 ^ (B - s) + l := by rw [hh, hl, Nat.mul_comm]; exact (Nat.div_add_mod x _).symm
  have hr : rol B x s = l * 2 ^ s + h := by unfold rol; rw [hh, hl]
  have hlow : l0 * 2 ^ s + h < 2 ^ (B - 1) := by
    rw [hB]
    calc l0 * 2 ^ s + h < l0 * 2 ^ s + 2 ^ s := by omega
      _ = (l0 + 1) * 2 ^ s := by rw [Nat.add_mul, Nat.one_mul]
      _ ≤ 2 ^ (B - (s + 1)) * 2 ^ s := Nat.mul_le_mul_right _ hl0lt
  have hr2 : rol B x s = 2 ^ (B - 1) * l1 + (l0 * 2 ^ s + h) := by
    rw [hr, hlsplit, hB, Nat.add_mul, Nat.mul_comm l1, Nat.mul_assoc, Nat.mul_assoc, Nat.mul_comm l1, Nat.add_assoc]
  have hx2 : x = (2 * h + l1) * 2 ^ (B - (s + 1)) + l0 := by
    rw [hxsplit, hlsplit, hp, Nat.add_mul, ← Nat.mul_assoc, Nat.mul_assoc 2 h, Nat.mul_comm (h * _) 2, Nat.add_assoc]
  rw [hr2, Nat.mul_add_mod, Nat.mod_eq_of_lt hlow, Nat.mul_add_div (Nat.pow_pos (by omega)), Nat.div_eq_of_lt hlow]
  conv => rhs; rw [hx2]
  rw [rol_parts B (s + 1) _ _ hl0lt, Nat.add_mul, Nat.mul_assoc, ← Nat.pow_succ, Nat.succ_eq_add_one]
  omega
end Go.Proofs.Ythkkllcpogagiaa
