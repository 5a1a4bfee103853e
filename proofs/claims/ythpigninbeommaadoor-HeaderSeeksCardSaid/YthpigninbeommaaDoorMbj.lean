/- Merged texts: WidD. -/
import Derived.Test.YthpigninbeommaaDoorMbi
/- Plain mathematics of the library's Div64: a quotient of two digits to the base 2^32, each guessed and set right. -/
namespace Go.Proofs.YthpigninbeommaaDoor

set_option maxRecDepth 100000 in
/-- The guess is too great while this holds. -/
theorem kn_true {b y1 y0 U u1 q r Q : Nat} (hQ : Q = (U * b + u1) / (y1 * b + y0)) (_hY : 0 < y1 * b + y0) (he : q * y1 + r = U) (_hu1 : u1 < b) (hQb : Q < b)
    (hc : b ≤ q ∨ b * r + u1 < q * y0) : Q < q := by
  rcases hc with h | h
  · omega
  · rcases Nat.lt_or_ge Q q with h1 | h1
    · exact h1
    · exfalso
      have h2 : q * (y1 * b + y0) ≤ U * b + u1 := Nat.le_trans (Nat.mul_le_mul_right _ h1) (by rw [hQ]; exact Nat.div_mul_le_self _ _)
      have e : q * (y1 * b + y0) = q * y1 * b + q * y0 := by rw [Nat.mul_add, Nat.mul_assoc]
      have e2 : U * b = q * y1 * b + b * r := by rw [← he, Nat.add_mul, Nat.mul_comm r]
      omega
set_option maxRecDepth 100000 in
/-- Where it holds no more, the guess is right. -/
theorem kn_false {b y1 y0 U u1 q r Q : Nat} (hQ : Q = (U * b + u1) / (y1 * b + y0)) (hY : 0 < y1 * b + y0) (he : q * y1 + r = U) (hle : Q ≤ q) (hc : q * y0 ≤ b * r + u1) : q = Q := by
  have e : q * (y1 * b + y0) = q * y1 * b + q * y0 := by rw [Nat.mul_add, Nat.mul_assoc]
  have e2 : U * b = q * y1 * b + b * r := by rw [← he, Nat.add_mul, Nat.mul_comm r]
  have h : q ≤ Q := by rw [hQ]; exact (Nat.le_div_iff_mul_le hY).2 (by omega)
  omega
set_option maxRecDepth 100000 in
/-- A rest that is great: the guess is right. -/
theorem kn_break {b y1 y0 U u1 q r Q : Nat} (hQ : Q = (U * b + u1) / (y1 * b + y0)) (hY : 0 < y1 * b + y0) (hy0 : y0 < b) (hU : U < y1 * b + y0) (he : q * y1 + r = U) (hle : Q ≤ q) (hr : b ≤ r) : q = Q := by
  refine kn_false hQ hY he hle ?_
  have h1 : q < b := by
    rcases Nat.lt_or_ge q b with h | h
    · exact h
    · exfalso
      have : b * y1 ≤ q * y1 := Nat.mul_le_mul_right _ h
      rw [Nat.mul_comm] at this
      omega
  have h2 : q * y0 ≤ b * b := Nat.mul_le_mul (by omega) (by omega)
  have h3 : b * b ≤ b * r := Nat.mul_le_mul_left _ hr
  omega
set_option maxRecDepth 100000 in
theorem kn_first {b y1 y0 U u1 : Nat} (hy1 : b ≤ 2 * y1) (hb : 0 < b) (hy0 : y0 < b) (hu1 : u1 < b) (hU : U < y1 * b + y0) : (U * b + u1) / (y1 * b + y0) ≤ U / y1 ∧ (U * b + u1) / (y1 * b + y0) < b ∧ U / y1 ≤ b + 1 ∧ U / y1 * y1 + U % y1 = U ∧ U % y1 < y1 := by
  have hy1p : 0 < y1 := by omega
  refine ⟨?_, ?_, ?_, ?_, Nat.mod_lt _ hy1p⟩
  · rw [Nat.le_div_iff_mul_le hy1p]
    have h1 := Nat.div_mul_le_self (U * b + u1) (y1 * b + y0)
    generalize (U * b + u1) / (y1 * b + y0) = Q at *
    have e : Q * (y1 * b + y0) = Q * y1 * b + Q * y0 := by rw [Nat.mul_add, Nat.mul_assoc]
    rcases Nat.lt_or_ge U (Q * y1) with h | h
    · exfalso
      have h3 : (U + 1) * b ≤ Q * y1 * b := Nat.mul_le_mul_right _ h
      rw [Nat.add_mul, Nat.one_mul] at h3
      omega
    · exact h
  · apply Nat.div_lt_of_lt_mul
    have h1 : (U + 1) * b ≤ (y1 * b + y0) * b := Nat.mul_le_mul_right _ hU
    rw [Nat.add_mul, Nat.one_mul] at h1
    omega
  · have h1 : U < y1 * (b + 2) := by rw [Nat.mul_add]; omega
    have := Nat.div_lt_of_lt_mul h1
    omega
  · rw [Nat.mul_comm]; exact Nat.div_add_mod U y1
set_option maxRecDepth 100000 in
/-- Both digits. -/
theorem kn_two {b Y U u1 u0 Q R : Nat} (hY : 0 < Y) (hQ : Q = (U * b + u1) / Y) (hR : R = (U * b + u1) % Y) :
    (U * (b * b) + (u1 * b + u0)) / Y = Q * b + (R * b + u0) / Y ∧ (U * (b * b) + (u1 * b + u0)) % Y = (R * b + u0) % Y := by
  have h := Nat.div_add_mod (U * b + u1) Y
  rw [← hQ, ← hR] at h
  have e : U * (b * b) + (u1 * b + u0) = Y * (Q * b) + (R * b + u0) := by
    rw [← Nat.mul_assoc, ← Nat.add_assoc, ← Nat.add_mul, ← h, Nat.add_mul, Nat.mul_assoc, Nat.add_assoc]
  rw [e, Nat.mul_add_div hY, Nat.mul_add_mod]
  exact ⟨rfl, rfl⟩
set_option maxRecDepth 100000 in
/-- The first number of bits of a divisor made great. -/
theorem norm {y : Nat} (h0 : y ≠ 0) (h : y < 2 ^ 64) : bl y ≤ 64 ∧ 0 < bl y ∧ 2 ^ 63 ≤ y * 2 ^ (64 - bl y) ∧ y * 2 ^ (64 - bl y) < 2 ^ 64 := by
  have h1 : bl y ≤ 64 := (bl_le y 64).2 h
  have h2 := bl_pos h0
  have h3 := bl_ge h0
  have h4 := bl_lt y
  refine ⟨h1, h2, ?_, ?_⟩
  · calc 2 ^ 63 = 2 ^ (bl y - 1) * 2 ^ (64 - bl y) := by rw [← Nat.pow_add]; congr 1; omega
      _ ≤ y * 2 ^ (64 - bl y) := Nat.mul_le_mul_right _ h3
  · calc y * 2 ^ (64 - bl y) < 2 ^ bl y * 2 ^ (64 - bl y) := Nat.mul_lt_mul_of_pos_right h4 (Nat.pow_pos (by decide))
      _ = 2 ^ 64 := by rw [← Nat.pow_add]; congr 1; omega
set_option maxRecDepth 100000 in
/-- The letters of Div64: all that its lines reckon. -/
theorem kn_letters (hi lo y s : Nat) (hlo : lo < 2 ^ 64) (hhi : hi < y) (hy : y < 2 ^ 64) (hs : s = 64 - bl y) :
    ∃ Y U L y1 y0 u1 u0 Q R Q2 R2 : Nat, Y = y * 2 ^ s ∧ Y < 2 ^ 64 ∧ y1 = Y / 4294967296 ∧ y0 = Y % 4294967296 ∧ 2147483648 ≤ y1 ∧ y1 < 4294967296 ∧ y0 < 4294967296 ∧ Y = y1 * 4294967296 + y0 ∧
      U = hi * 2 ^ s + lo / 2 ^ (64 - s) ∧ hi * 2 ^ s < 2 ^ 64 ∧ hi * 2 ^ s % 2 ^ s = 0 ∧ lo / 2 ^ (64 - s) < 2 ^ s ∧ U < Y ∧ L = lo * 2 ^ s % 2 ^ 64 ∧ u1 = L / 4294967296 ∧ u0 = L % 4294967296 ∧ u1 < 4294967296 ∧ u0 < 4294967296 ∧
      Q = (U * 4294967296 + u1) / Y ∧ R = (U * 4294967296 + u1) % Y ∧ Q2 = (R * 4294967296 + u0) / Y ∧ R2 = (R * 4294967296 + u0) % Y ∧ Q * Y + R = U * 4294967296 + u1 ∧ Q2 * Y + R2 = R * 4294967296 + u0 ∧ R < Y ∧ R2 < Y ∧ Q < 4294967296 ∧ Q2 < 4294967296 ∧
      (hi * 2 ^ 64 + lo) / y = Q * 4294967296 + Q2 ∧ (hi * 2 ^ 64 + lo) % y = R2 / 2 ^ s := by
  have h0 : y ≠ 0 := by omega
  obtain ⟨n1, n2, n3, n4⟩ := norm h0 hy
  rw [← hs] at n3 n4
  obtain ⟨Y, hY⟩ : ∃ Y, Y = y * 2 ^ s := ⟨_, rfl⟩
  rw [← hY] at n3 n4
  have hsp : 0 < 2 ^ s := Nat.pow_pos (by decide)
  have hs64 : s ≤ 63 := by omega
  have h64 : 2 ^ 64 = 2 ^ (64 - s) * 2 ^ s := by rw [← Nat.pow_add]; congr 1; omega
  have hl1 : lo / 2 ^ (64 - s) < 2 ^ s := by apply Nat.div_lt_of_lt_mul; rw [← h64]; exact hlo
  have hUY : hi * 2 ^ s + lo / 2 ^ (64 - s) < Y := by
    calc hi * 2 ^ s + lo / 2 ^ (64 - s) < hi * 2 ^ s + 2 ^ s := by omega
      _ = (hi + 1) * 2 ^ s := by rw [Nat.add_mul, Nat.one_mul]
      _ ≤ y * 2 ^ s := Nat.mul_le_mul_right _ hhi
      _ = Y := hY.symm
  have hhs : hi * 2 ^ s < 2 ^ 64 := Nat.lt_of_le_of_lt (Nat.le_add_right _ (lo / 2 ^ (64 - s))) (Nat.lt_trans hUY n4)
  obtain ⟨U, hU⟩ : ∃ U, U = hi * 2 ^ s + lo / 2 ^ (64 - s) := ⟨_, rfl⟩
  obtain ⟨L, hL⟩ : ∃ L, L = lo * 2 ^ s % 2 ^ 64 := ⟨_, rfl⟩
  have hLl : L < 2 ^ 64 := by rw [hL]; exact Nat.mod_lt _ (by decide)
  have htot : (hi * 2 ^ 64 + lo) * 2 ^ s = U * 2 ^ 64 + L := by
    have e1 : lo * 2 ^ s = lo / 2 ^ (64 - s) * 2 ^ 64 + L := by
      have e2 : lo * 2 ^ s / 2 ^ 64 = lo / 2 ^ (64 - s) := by rw [h64, Nat.mul_div_mul_right _ _ hsp]
      have := Nat.div_add_mod (lo * 2 ^ s) (2 ^ 64)
      rw [e2, ← hL, Nat.mul_comm] at this
      exact this.symm
    rw [Nat.add_mul, e1, hU, Nat.add_mul, Nat.mul_right_comm]
    omega
  have hYp : 0 < Y := by omega
  obtain ⟨Q, hQ⟩ : ∃ Q, Q = (U * 4294967296 + L / 4294967296) / Y := ⟨_, rfl⟩
  obtain ⟨R, hR⟩ : ∃ R, R = (U * 4294967296 + L / 4294967296) % Y := ⟨_, rfl⟩
  have hYs : Y = Y / 4294967296 * 4294967296 + Y % 4294967296 := by omega
  rw [← hU] at hUY
  have k1 := kn_first (b := 4294967296) (y1 := Y / 4294967296) (y0 := Y % 4294967296) (U := U) (u1 := L / 4294967296) (by omega) (by decide) (by omega) (by omega) (by omega)
  have hRY : R < Y := by rw [hR]; exact Nat.mod_lt _ hYp
  have k2 := kn_first (b := 4294967296) (y1 := Y / 4294967296) (y0 := Y % 4294967296) (U := R) (u1 := L % 4294967296) (by omega) (by decide) (by omega) (by omega) (by omega)
  rw [← hYs] at k1 k2
  have k3 := kn_two (b := 4294967296) (u0 := L % 4294967296) hYp hQ hR
  have e64 : U * (4294967296 * 4294967296) + (L / 4294967296 * 4294967296 + L % 4294967296) = U * 2 ^ 64 + L := by omega
  rw [e64, ← htot, hY, Nat.mul_div_mul_right _ _ hsp, Nat.mul_mod_mul_right, ← hY] at k3
  refine ⟨Y, U, L, _, _, _, _, Q, R, _, _, hY, n4, rfl, rfl, by omega, by omega, by omega, hYs, hU, hhs, Nat.mul_mod_left _ _, hl1, hUY, hL, rfl, rfl, by omega, by omega, hQ, hR, rfl, rfl, ?_, ?_, hRY, Nat.mod_lt _ hYp, by rw [hQ]; exact k1.2.1, k2.2.1, k3.1, ?_⟩
  · rw [hQ, hR, Nat.mul_comm]; exact Nat.div_add_mod _ _
  · rw [Nat.mul_comm]; exact Nat.div_add_mod _ _
  · rw [← k3.2, Nat.mul_div_cancel _ hsp]
end Go.Proofs.YthpigninbeommaaDoor
