/- Merged texts: CmpM. -/
import Derived.Test.YthpigninbeommaaDoorMbi
/- Plain mathematics of layer 5: the value of a compact, the compact of a number, the work of a target. -/
namespace Go.Proofs.YthpigninbeommaaDoor
set_option linter.unusedVariables false

/-- How many bytes a number has. -/
def nB (N : Nat) : Nat := (bl N + 7) / 8
set_option maxRecDepth 100000 in
theorem p256e (e : Nat) : 256 ^ e = 2 ^ (8 * e) := by rw [show (256 : Nat) = 2 ^ 8 from rfl, ← Nat.pow_mul]
set_option maxRecDepth 100000 in
theorem nB_lt (N : Nat) : N < 256 ^ nB N := by
  rw [p256e]
  exact (bl_le N _).1 (by unfold nB; omega)
set_option maxRecDepth 100000 in
theorem nB_ge {N : Nat} (h : N ≠ 0) : 256 ^ (nB N - 1) ≤ N ∧ 0 < nB N := by
  have h1 := bl_pos h
  have h2 := bl_ge h
  refine ⟨?_, by unfold nB; omega⟩
  rw [p256e]
  exact Nat.le_trans (Nat.pow_le_pow_right (by decide) (by unfold nB; omega)) h2
set_option maxRecDepth 100000 in
theorem nB_le (N k : Nat) : nB N ≤ k ↔ N < 256 ^ k := by
  rw [p256e, ← bl_le]
  unfold nB
  omega
set_option maxRecDepth 100000 in
theorem nB_zero : nB 0 = 0 := rfl
set_option maxRecDepth 100000 in
theorem nB_eq (N k : Nat) (h1 : N < 256 ^ k) (h2 : 0 < k → 256 ^ (k - 1) ≤ N) : nB N = k := by
  have a := (nB_le N k).2 h1
  rcases Nat.lt_or_ge (nB N) k with h | h
  · exfalso
    have b := (nB_le N (k - 1)).1 (by omega)
    have c := h2 (by omega)
    omega
  · omega
/-- The bits of a number by its exponent. -/
def mant (N e : Nat) : Nat := if e ≤ 3 then N * 256 ^ (3 - e) else N / 256 ^ (e - 3)
/-- The number of an exponent and its bits. -/
def valE (e m : Nat) : Nat := if e ≤ 3 then m / 256 ^ (3 - e) else m * 256 ^ (e - 3)
def expC (c : Nat) : Nat := c / 16777216
def manC (c : Nat) : Nat := c % 8388608
def sgnC (c : Nat) : Bool := decide (c / 8388608 % 2 = 1)
/-- The value of a compact. -/
def valC (c : Nat) : Nat := valE (expC c) (manC c)
/-- The compact of a number. -/
def bitsN (N : Nat) : Nat := if 8388608 ≤ mant N (nB N) then (nB N + 1) * 16777216 + mant N (nB N) / 256 else nB N * 16777216 + mant N (nB N)
/-- Is the value of a compact a target? -/
def tgt (c : Nat) : Bool := !sgnC c && decide (valC c ≠ 0) && decide (valC c < 2 ^ 256)
/-- The work of a target. -/
def workN (t : Nat) : Nat := if t = 0 then 2 ^ 256 - 1 else 2 ^ 256 / (t + 1)

/-- Has a compact a target whose compact it is? -/
def canonC (c : Nat) : Bool := tgt c && decide (bitsN (valC c) = c)

set_option maxRecDepth 100000 in
theorem pp (k : Nat) : 0 < 256 ^ k := Nat.pow_pos (by decide)
set_option maxRecDepth 100000 in
theorem mant_in {N : Nat} (h : N ≠ 0) : 65536 ≤ mant N (nB N) ∧ mant N (nB N) < 16777216 := by
  obtain ⟨h1, h2⟩ := nB_ge h
  have h3 := nB_lt N
  generalize nB N = e at *
  unfold mant
  by_cases he : e ≤ 3
  · rw [if_pos he]
    obtain rfl | rfl | rfl : e = 1 ∨ e = 2 ∨ e = 3 := by omega
    · simp at h1 h3 ⊢; omega
    · simp at h1 h3 ⊢; omega
    · simp at h1 h3 ⊢; omega
  · rw [if_neg he]
    have e1 : 256 ^ (e - 1) = 65536 * 256 ^ (e - 3) := by rw [show e - 1 = 2 + (e - 3) from by omega, Nat.pow_add]
    have e2 : 256 ^ e = 256 ^ (e - 3) * 16777216 := by rw [show (16777216 : Nat) = 256 ^ 3 from by decide, ← Nat.pow_add]; congr 1; omega
    refine ⟨(Nat.le_div_iff_mul_le (pp _)).2 (by rw [← e1]; exact h1), Nat.div_lt_of_lt_mul (by rw [← e2]; exact h3)⟩
set_option maxRecDepth 100000 in
/-- The exponent, the bits, the sign of a number's compact. -/
theorem bits_parts (N : Nat) : sgnC (bitsN N) = false ∧ (if 8388608 ≤ mant N (nB N) then expC (bitsN N) = nB N + 1 ∧ manC (bitsN N) = mant N (nB N) / 256 else expC (bitsN N) = nB N ∧ manC (bitsN N) = mant N (nB N)) := by
  have hm : mant N (nB N) < 16777216 := by
    by_cases h : N = 0
    · subst h; rw [nB_zero]; decide
    · exact (mant_in h).2
  unfold bitsN sgnC expC manC
  generalize mant N (nB N) = m at *
  generalize nB N = e at *
  by_cases h : 8388608 ≤ m
  · simp only [if_pos h]
    refine ⟨decide_eq_false (by omega), by omega, by omega⟩
  · simp only [if_neg h]
    refine ⟨decide_eq_false (by omega), by omega, by omega⟩
set_option maxRecDepth 100000 in
theorem pS (k : Nat) : 256 ^ (k + 1) = 256 ^ k * 256 := Nat.pow_succ _ _
set_option maxRecDepth 100000 in
/-- The value of a number's compact: not above it, and how far below. -/
theorem bits_val {N : Nat} (h : N ≠ 0) : valC (bitsN N) ≤ N ∧ valC (bitsN N) ≠ 0 ∧ (N - valC (bitsN N) = 0 ∨ N - valC (bitsN N) < N / 2 ^ 15) := by
  obtain ⟨_, hp⟩ := bits_parts N
  obtain ⟨m1, m2⟩ := mant_in h
  obtain ⟨h1, h2⟩ := nB_ge h
  have h3 := nB_lt N
  unfold valC
  by_cases hb : 8388608 ≤ mant N (nB N)
  · rw [if_pos hb] at hp
    rw [hp.1, hp.2]
    generalize nB N = e at *
    unfold mant at *
    unfold valE
    by_cases he : e ≤ 3
    · obtain rfl | rfl | rfl : e = 1 ∨ e = 2 ∨ e = 3 := by omega
      · simp at *; omega
      · simp at *; omega
      · simp at *; omega
    · rw [if_neg he] at *
      rw [if_neg (by omega : ¬ e + 1 ≤ 3), show e + 1 - 3 = (e - 3) + 1 from by omega, pS]
      have hP := pp (e - 3)
      generalize 256 ^ (e - 3) = P at *
      have d1 := Nat.div_add_mod N P
      have d2 := Nat.mod_lt N hP
      generalize N / P = m at *
      generalize N % P = r at *
      have d3 := Nat.div_add_mod m 256
      have d4 := Nat.mod_lt m (show 0 < 256 by decide)
      generalize hq : m / 256 = q at *
      generalize hs : m % 256 = s at *
      have e1 : q * (P * 256) = 256 * (q * P) := by rw [Nat.mul_comm P 256, ← Nat.mul_assoc, Nat.mul_comm q 256, Nat.mul_assoc]
      have e2 : P * m = 256 * (q * P) + s * P := by rw [← d3, Nat.mul_add, Nat.mul_comm P s, ← Nat.mul_assoc, Nat.mul_comm P 256, Nat.mul_assoc, Nat.mul_comm P q]
      have hq2 : 32768 ≤ q := by omega
      have hsP : s * P ≤ 255 * P := Nat.mul_le_mul_right _ (by omega)
      have hqP : 32768 * P ≤ q * P := Nat.mul_le_mul_right _ hq2
      refine ⟨by omega, ?_, ?_⟩
      · rw [e1]; omega
      · right
        rw [e1]
        have : 256 * P ≤ N / 2 ^ 15 := (Nat.le_div_iff_mul_le (by decide)).2 (by omega)
        omega
  · rw [if_neg hb] at hp
    rw [hp.1, hp.2]
    generalize nB N = e at *
    unfold mant at *
    unfold valE
    by_cases he : e ≤ 3
    · rw [if_pos he] at *
      rw [if_pos he, Nat.mul_div_cancel _ (pp _)]
      omega
    · rw [if_neg he] at *
      rw [if_neg he]
      have hP := pp (e - 3)
      generalize 256 ^ (e - 3) = P at *
      have d1 := Nat.div_add_mod N P
      have d2 := Nat.mod_lt N hP
      generalize N / P = m at *
      generalize N % P = r at *
      have e1 : P * m = m * P := Nat.mul_comm _ _
      have hmP : 65536 * P ≤ m * P := Nat.mul_le_mul_right _ m1
      refine ⟨by omega, by omega, ?_⟩
      right
      have : 2 * P ≤ N / 2 ^ 15 := (Nat.le_div_iff_mul_le (by decide)).2 (by omega)
      omega
set_option maxRecDepth 100000 in
/-- An exponent and bits that are a number's. -/
theorem bits_of (e m : Nat) (h1 : 32768 ≤ m) (h2 : m < 8388608) (h3 : e ≤ 3 → m % 256 ^ (3 - e) = 0) : bitsN (valE e m) = e * 16777216 + m := by
  by_cases he : e ≤ 3
  · have h4 := h3 he
    unfold valE
    rw [if_pos he]
    obtain rfl | rfl | rfl | rfl : e = 0 ∨ e = 1 ∨ e = 2 ∨ e = 3 := by omega
    · simp at h4; omega
    · obtain ⟨k, hk⟩ : ∃ k, m = 65536 * k := ⟨m / 65536, by simp at h4; omega⟩
      have hu : m / 256 ^ (3 - 1) = k := by simp; omega
      have hn : nB k = 1 := nB_eq k 1 (by omega) (fun _ => by simp; omega)
      rw [hu]
      unfold bitsN mant
      rw [hn]
      simp
      first | omega | (split <;> omega)
    · obtain ⟨k, hk⟩ : ∃ k, m = 256 * k := ⟨m / 256, by simp at h4; omega⟩
      have hu : m / 256 ^ (3 - 2) = k := by simp; omega
      rw [hu]
      by_cases hk2 : 256 ≤ k
      · have hn : nB k = 2 := nB_eq k 2 (by omega) (fun _ => by simp; omega)
        unfold bitsN mant
        rw [hn]
        simp
        first | omega | (split <;> omega)
      · have hn : nB k = 1 := nB_eq k 1 (by omega) (fun _ => by simp; omega)
        unfold bitsN mant
        rw [hn]
        simp
        first | omega | (split <;> omega)
    · have hu : m / 256 ^ (3 - 3) = m := by simp
      rw [hu]
      by_cases hk2 : 65536 ≤ m
      · have hn : nB m = 3 := nB_eq m 3 (by omega) (fun _ => by simp; omega)
        unfold bitsN mant
        rw [hn]
        simp
        first | omega | (split <;> omega)
      · have hn : nB m = 2 := nB_eq m 2 (by omega) (fun _ => by simp; omega)
        unfold bitsN mant
        rw [hn]
        simp
        first | omega | (split <;> omega)
  · unfold valE
    rw [if_neg he]
    have hP := pp (e - 3)
    have p1 : 256 ^ e = 16777216 * 256 ^ (e - 3) := by rw [show (16777216 : Nat) = 256 ^ 3 from by decide, ← Nat.pow_add]; congr 1; omega
    have p2 : 256 ^ (e - 1) = 65536 * 256 ^ (e - 3) := by rw [show (65536 : Nat) = 256 ^ 2 from by decide, ← Nat.pow_add]; congr 1; omega
    have p3 : 256 ^ (e - 1 - 1) = 256 * 256 ^ (e - 3) := by rw [show 256 * 256 ^ (e - 3) = 256 ^ (e - 3) * 256 from Nat.mul_comm _ _, ← pS]; congr 1; omega
    by_cases hk2 : 65536 ≤ m
    · have hn : nB (m * 256 ^ (e - 3)) = e := nB_eq _ e (by rw [p1]; exact Nat.mul_lt_mul_of_pos_right (by omega) hP) (fun _ => by rw [p2]; exact Nat.mul_le_mul_right _ hk2)
      have hm : mant (m * 256 ^ (e - 3)) e = m := by unfold mant; rw [if_neg he, Nat.mul_div_cancel _ hP]
      unfold bitsN
      rw [hn, hm, if_neg (by omega)]
    · have hn : nB (m * 256 ^ (e - 3)) = e - 1 := nB_eq _ (e - 1) (by rw [p2]; exact Nat.mul_lt_mul_of_pos_right (by omega) hP) (fun _ => by rw [p3]; exact Nat.mul_le_mul_right _ (by omega))
      have hm : mant (m * 256 ^ (e - 3)) (e - 1) = m * 256 := by
        unfold mant
        by_cases he4 : e = 4
        · subst he4; simp
        · rw [if_neg (by omega), show e - 3 = (e - 1 - 3) + 1 from by omega, pS, Nat.mul_comm (256 ^ (e - 1 - 3)) 256, ← Nat.mul_assoc, Nat.mul_div_cancel _ (pp _)]
      unfold bitsN
      rw [hn, hm, if_pos (by omega), Nat.mul_div_cancel _ (by decide)]
      omega
set_option maxRecDepth 100000 in
/-- The compact of a compact's value, where that is a number's compact. -/
theorem bits_back {N : Nat} (h : N ≠ 0) : bitsN (valC (bitsN N)) = bitsN N := by
  obtain ⟨_, hp⟩ := bits_parts N
  obtain ⟨m1, m2⟩ := mant_in h
  obtain ⟨h1, h2⟩ := nB_ge h
  unfold valC
  by_cases hb : 8388608 ≤ mant N (nB N)
  · rw [if_pos hb] at hp
    rw [hp.1, hp.2, bits_of (nB N + 1) (mant N (nB N) / 256) (by omega) (by omega) ?_]
    · unfold bitsN; rw [if_pos hb]
    · intro he
      unfold mant at *
      generalize nB N = e at *
      obtain rfl | rfl : e = 1 ∨ e = 2 := by omega
      · simp at *; omega
      · simp at *; omega
  · rw [if_neg hb] at hp
    rw [hp.1, hp.2, bits_of (nB N) (mant N (nB N)) (by omega) (by omega) ?_]
    · unfold bitsN; rw [if_neg hb]
    · intro he
      unfold mant
      rw [if_pos he, Nat.mul_mod_left]
set_option maxRecDepth 100000 in
/-- A target comes back from its compact. -/
theorem val_back (c : Nat) (h0 : valC c ≠ 0) : valC (bitsN (valC c)) = valC c := by
  have hm : manC c < 8388608 := Nat.mod_lt _ (by decide)
  obtain ⟨t, ht⟩ : ∃ t, t = valC c := ⟨_, rfl⟩
  rw [← ht] at h0 ⊢
  obtain ⟨_, hp⟩ := bits_parts t
  obtain ⟨m1, m2⟩ := mant_in h0
  obtain ⟨h1, h2⟩ := nB_ge h0
  have hlt := nB_lt t
  unfold valC valE at ht
  generalize expC c = e at *
  generalize manC c = m at *
  by_cases he : e ≤ 3
  · rw [if_pos he] at ht
    have ht2 : t < 8388608 := by
      have := Nat.div_le_self m (256 ^ (3 - e))
      omega
    have hE : nB t ≤ 3 := (nB_le t 3).2 (by omega)
    unfold valC
    by_cases hb : 8388608 ≤ mant t (nB t)
    · rw [if_pos hb] at hp
      rw [hp.1, hp.2]
      unfold mant valE at *
      generalize nB t = E at *
      obtain rfl | rfl | rfl : E = 1 ∨ E = 2 ∨ E = 3 := by omega
      · simp at * <;> omega
      · simp at * <;> omega
      · simp at * <;> omega
    · rw [if_neg hb] at hp
      rw [hp.1, hp.2]
      unfold mant valE at *
      rw [if_pos hE, if_pos hE, Nat.mul_div_cancel _ (pp _)]
  · rw [if_neg he] at ht
    have hP := pp (e - 3)
    have p1 : 256 ^ e = 16777216 * 256 ^ (e - 3) := by rw [show (16777216 : Nat) = 256 ^ 3 from by decide, ← Nat.pow_add]; congr 1; omega
    have hE : nB t ≤ e := (nB_le t e).2 (by rw [ht, p1]; exact Nat.mul_lt_mul_of_pos_right (by omega) hP)
    unfold valC
    by_cases hb : 8388608 ≤ mant t (nB t)
    · rw [if_pos hb] at hp
      rw [hp.1, hp.2]
      unfold mant valE at *
      by_cases hE3 : nB t ≤ 3
      · rw [if_pos hE3] at *
        generalize nB t = E at *
        obtain rfl | rfl | rfl : E = 1 ∨ E = 2 ∨ E = 3 := by omega
        · simp at * <;> omega
        · simp at * <;> omega
        · have hd : 256 ∣ t := by rw [ht, show e - 3 = (e - 3 - 1) + 1 from by omega, pS, ← Nat.mul_assoc]; exact Nat.dvd_mul_left _ _
          simp at * <;> omega
      · rw [if_neg hE3] at *
        rw [if_neg (by omega : ¬ nB t + 1 ≤ 3)]
        have hne : nB t ≠ e := fun hh => by
          rw [hh, ht, Nat.mul_div_cancel _ hP] at hb
          omega
        obtain ⟨j, hj⟩ : ∃ j, e - 3 = (nB t + 1 - 3) + j := ⟨e - 3 - (nB t + 1 - 3), by omega⟩
        have hd0 : ∀ E, e - 3 = E + j → 256 ^ E ∣ t := fun E hE => by rw [ht, hE, Nat.pow_add, ← Nat.mul_assoc, Nat.mul_right_comm]; exact Nat.dvd_mul_left _ _
        have hd := hd0 _ hj
        rw [Nat.div_div_eq_div_mul, ← pS, show nB t - 3 + 1 = nB t + 1 - 3 from by omega, Nat.div_mul_cancel hd]
    · rw [if_neg hb] at hp
      rw [hp.1, hp.2]
      unfold mant valE at *
      by_cases hE3 : nB t ≤ 3
      · rw [if_pos hE3, if_pos hE3, Nat.mul_div_cancel _ (pp _)]
      · rw [if_neg hE3, if_neg hE3]
        obtain ⟨j, hj⟩ : ∃ j, e - 3 = (nB t - 3) + j := ⟨e - 3 - (nB t - 3), by omega⟩
        have hd0 : ∀ E, e - 3 = E + j → 256 ^ E ∣ t := fun E hE => by rw [ht, hE, Nat.pow_add, ← Nat.mul_assoc, Nat.mul_right_comm]; exact Nat.dvd_mul_left _ _
        have hd := hd0 _ hj
        rw [Nat.div_mul_cancel hd]
set_option maxRecDepth 100000 in
theorem nB_mono {N M : Nat} (h : N ≤ M) : nB N ≤ nB M := (nB_le N _).2 (Nat.lt_of_le_of_lt h (nB_lt M))
set_option maxRecDepth 100000 in
theorem mant_mono {N M : Nat} (h : N ≤ M) (e : Nat) : mant N e ≤ mant M e := by
  unfold mant
  split
  · exact Nat.mul_le_mul_right _ h
  · exact Nat.div_le_div_right h
set_option maxRecDepth 100000 in
/-- A greater number has no lesser compact. -/
theorem bits_mono {N M : Nat} (h : N ≤ M) : bitsN N ≤ bitsN M := by
  by_cases hN : N = 0
  · subst hN; exact Nat.le_trans (show bitsN 0 ≤ 0 by decide) (Nat.zero_le _)
  · have hM : M ≠ 0 := by omega
    obtain ⟨a1, a2⟩ := mant_in hN
    obtain ⟨b1, b2⟩ := mant_in hM
    have h1 := nB_mono h
    have h2 := mant_mono h (nB N)
    unfold bitsN
    by_cases he : nB N = nB M
    · rw [he] at h2 a1 a2 ⊢
      generalize mant N (nB M) = m at *
      generalize mant M (nB M) = m2 at *
      split <;> split <;> omega
    · generalize mant N (nB N) = m at *
      generalize mant M (nB M) = m2 at *
      split <;> split <;> omega
set_option maxRecDepth 100000 in
/-- Of two canonical compacts the greater one has the greater target. -/
theorem canon_order {c d : Nat} (hc : bitsN (valC c) = c) (hd : bitsN (valC d) = d) : c < d ↔ valC c < valC d := by
  constructor
  · intro h
    rcases Nat.lt_or_ge (valC c) (valC d) with h1 | h1
    · exact h1
    · have := bits_mono h1
      rw [hc, hd] at this
      omega
  · intro h
    have h1 := bits_mono (Nat.le_of_lt h)
    rw [hc, hd] at h1
    rcases Nat.lt_or_ge c d with h2 | h2
    · exact h2
    · have : c = d := by omega
      rw [this] at h
      omega
set_option maxRecDepth 100000 in
theorem bits_lt {N : Nat} (h : N < 2 ^ 256) : bitsN N < 2 ^ 32 := by
  have h1 : nB N ≤ 32 := (nB_le N 32).2 (by rw [show 256 ^ 32 = 2 ^ 256 from by decide]; exact h)
  have h2 : mant N (nB N) < 16777216 := by
    by_cases h0 : N = 0
    · subst h0; rw [nB_zero]; decide
    · exact (mant_in h0).2
  unfold bitsN
  split <;> omega
set_option maxRecDepth 100000 in
theorem tgt_bits {N : Nat} (h : N ≠ 0) (hl : N < 2 ^ 256) : tgt (bitsN N) = true := by
  obtain ⟨h1, h2, _⟩ := bits_val h
  unfold tgt
  rw [(bits_parts N).1, decide_eq_true h2, decide_eq_true (Nat.lt_of_le_of_lt h1 hl)]
  rfl
set_option maxRecDepth 100000 in
theorem work_mono {t u : Nat} (h : t ≤ u) : workN u ≤ workN t := by
  unfold workN
  by_cases h0 : t = 0
  · rw [if_pos h0]
    by_cases hu : u = 0
    · rw [if_pos hu]; exact Nat.le_refl _
    · rw [if_neg hu]
      have : 2 ^ 256 / (u + 1) ≤ 2 ^ 256 / 2 := Nat.div_le_div_left (by omega) (by decide)
      have e : 2 ^ 256 / 2 ≤ 2 ^ 256 - 1 := by decide
      omega
  · rw [if_neg h0, if_neg (by omega)]
    exact Nat.div_le_div_left (by omega) (by omega)
set_option maxRecDepth 100000 in
theorem work_pos {t : Nat} (h : t < 2 ^ 256) : 1 ≤ workN t := by
  unfold workN
  by_cases h0 : t = 0
  · rw [if_pos h0]; decide
  · rw [if_neg h0]
    exact (Nat.le_div_iff_mul_le (by omega)).2 (by omega)
set_option maxRecDepth 100000 in
theorem work_lt (t : Nat) : workN t < 2 ^ 256 := by
  unfold workN
  by_cases h0 : t = 0
  · rw [if_pos h0]; decide
  · rw [if_neg h0]
    have : 2 ^ 256 / (t + 1) ≤ 2 ^ 256 / 2 := Nat.div_le_div_left (by omega) (by decide)
    have e : 2 ^ 256 / 2 < 2 ^ 256 := by decide
    omega
set_option maxRecDepth 100000 in
theorem work_is {t : Nat} (h0 : t ≠ 0) : workN t * (t + 1) ≤ 2 ^ 256 ∧ 2 ^ 256 < workN t * (t + 1) + (t + 1) := by
  unfold workN
  rw [if_neg h0]
  have h1 := Nat.div_add_mod (2 ^ 256) (t + 1)
  have h2 := Nat.mod_lt (2 ^ 256) (show 0 < t + 1 by omega)
  rw [Nat.mul_comm] at h1
  generalize 2 ^ 256 / (t + 1) * (t + 1) = x at *
  omega
set_option maxRecDepth 100000 in
theorem ex_val : valC 486604799 = 65535 * 2 ^ 208 := by unfold valC valE expC manC; decide
set_option maxRecDepth 100000 in
theorem ex_tgt : tgt 486604799 = true := by unfold tgt; rw [ex_val]; unfold sgnC; decide
set_option maxRecDepth 100000 in
theorem ex_work : workN (65535 * 2 ^ 208) = 4295032833 := by unfold workN; rw [if_neg (by decide)]
set_option maxRecDepth 100000 in
theorem ex_bits : bitsN 128 = 33587200 := by
  have h := bits_of 2 32768 (by decide) (by decide) (fun _ => by decide)
  have e : valE 2 32768 = 128 := by unfold valE; decide
  rw [e] at h
  exact h
set_option maxRecDepth 100000 in
theorem ex_canon : canonC 545259519 = true := by
  have e : valC 545259519 = valE 32 8388607 := by unfold valC expC manC; rfl
  have h := bits_of 32 8388607 (by decide) (by decide) (fun h => absurd h (by decide))
  have e2 : valE 32 8388607 = 8388607 * 256 ^ 29 := by unfold valE; rfl
  unfold canonC tgt
  rw [e, h, e2]
  unfold sgnC
  decide
end Go.Proofs.YthpigninbeommaaDoor
