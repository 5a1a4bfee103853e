/- Plain mathematics of layer 4's reference: numbers as lists of digits to the base 65536, the lowest first, without noughts at the end. -/
import Derived.PlainAid
namespace Go.Proofs.Ytdgfgehjnfadnaa

/-- The number of a list of digits. -/
def valB : List Nat → Nat
  | [] => 0
  | d :: r => d + 65536 * valB r
/-- The digits of a number. -/
def digs (n : Nat) : List Nat := if h : n = 0 then [] else n % 65536 :: digs (n / 65536)
termination_by n
decreasing_by omega
theorem digs_zero : digs 0 = [] := by unfold digs; simp
theorem digs_pos {n : Nat} (h : n ≠ 0) : digs n = n % 65536 :: digs (n / 65536) := by
  rw [digs]
  simp [h]
/-- Digits. -/
def Dg (l : List Nat) : Prop := ∀ d ∈ l, d < 65536
theorem digs_lt (n : Nat) : Dg (digs n) := by
  induction n using Nat.strongRecOn with
  | _ n ih =>
    by_cases h : n = 0
    · rw [h, digs_zero]; intro d hd; simp at hd
    · rw [digs_pos h]
      intro d hd
      rcases List.mem_cons.1 hd with rfl | hd
      · exact Nat.mod_lt _ (by omega)
      · exact ih (n / 65536) (by omega) d hd
theorem val_digs (n : Nat) : valB (digs n) = n := by
  induction n using Nat.strongRecOn with
  | _ n ih =>
    by_cases h : n = 0
    · rw [h, digs_zero]; rfl
    · rw [digs_pos h, valB, ih (n / 65536) (by omega)]
      omega
theorem valB_append (l r : List Nat) : valB (l ++ r) = valB l + 65536 ^ l.length * valB r := by
  induction l with
  | nil => simp [valB]
  | cons d l ih =>
    simp only [List.cons_append, valB, ih, List.length_cons, Nat.pow_succ, Nat.mul_add]
    rw [Nat.mul_comm (65536 ^ l.length) 65536, Nat.mul_assoc]
    omega
theorem valB_lt (l : List Nat) (h : Dg l) : valB l < 65536 ^ l.length := by
  induction l with
  | nil => simp [valB]
  | cons d r ih =>
    have h1 := h d (by simp)
    have h2 := ih (fun x hx => h x (by simp [hx]))
    simp only [valB, List.length_cons, Nat.pow_succ]
    omega
theorem valB_zeros (n : Nat) : valB (List.replicate n 0) = 0 := by
  induction n with
  | zero => rfl
  | succ n ih => simp [List.replicate_succ, valB, ih]
theorem valB_zero (l : List Nat) (h : ∀ d ∈ l, d = 0) : valB l = 0 := by
  induction l with
  | nil => rfl
  | cons d r ih => rw [valB, h d (by simp), ih (fun x hx => h x (by simp [hx]))]
/-- Digits without noughts at the end are those of their number. -/
theorem canon (l : List Nat) (h : Dg l) (hl : ∀ h : l ≠ [], l.getLast h ≠ 0) : l = digs (valB l) := by
  induction l with
  | nil => rw [valB, digs_zero]
  | cons d r ih =>
    have hd := h d (by simp)
    by_cases hr : r = []
    · subst hr
      have h0 : d ≠ 0 := hl (by simp)
      simp only [valB, Nat.mul_zero, Nat.add_zero]
      rw [digs_pos h0, Nat.mod_eq_of_lt hd, Nat.div_eq_of_lt hd, digs_zero]
    · have hr' := ih (fun x hx => h x (by simp [hx])) (fun h' => by have := hl (by simp); rw [List.getLast_cons hr] at this; exact this)
      have hv : valB r ≠ 0 := by
        intro h0
        rw [h0, digs_zero] at hr'
        exact hr hr'
      rw [valB, digs_pos (by omega), show (d + 65536 * valB r) % 65536 = d from by omega, show (d + 65536 * valB r) / 65536 = valB r from by omega, ← hr']
theorem digs_last (n : Nat) : ∀ h : digs n ≠ [], (digs n).getLast h ≠ 0 := by
  induction n using Nat.strongRecOn with
  | _ n ih =>
    intro h
    by_cases h0 : n = 0
    · subst h0; rw [digs_zero] at h; exact absurd rfl h
    · have e := digs_pos h0
      by_cases hq : n / 65536 = 0
      · have e2 : digs n = [n % 65536] := by rw [e, hq, digs_zero]
        simp only [e2, List.getLast_singleton]
        omega
      · have hne : digs (n / 65536) ≠ [] := by rw [digs_pos hq]; simp
        have := ih (n / 65536) (by omega) hne
        simp only [e, List.getLast_cons hne]
        exact this
theorem digs_len (n k : Nat) : (digs n).length ≤ k ↔ n < 65536 ^ k := by
  induction k generalizing n with
  | zero =>
    by_cases h : n = 0
    · subst h; simp [digs_zero]
    · rw [digs_pos h]; simp; omega
  | succ k ih =>
    by_cases h : n = 0
    · subst h; rw [digs_zero]; exact ⟨fun _ => Nat.pow_pos (by omega), fun _ => by simp⟩
    · rw [digs_pos h, List.length_cons, Nat.succ_le_succ_iff, ih, Nat.pow_succ]
      rw [Nat.div_lt_iff_lt_mul (by omega)]
/-- What is left of digits when the noughts at the end go. -/
theorem trimmed (l : List Nat) (m : Nat) (h : Dg l) (hm : m ≤ l.length) (hz : ∀ d ∈ l.drop m, d = 0) (hl : 0 < m → l.getD (m - 1) 0 ≠ 0) : l.take m = digs (valB l) := by
  have e : valB l = valB (l.take m) := by
    conv => lhs; rw [← List.take_append_drop m l]
    rw [valB_append, valB_zero _ hz]
    simp
  rw [e]
  refine canon _ (fun d hd => h d (List.mem_of_mem_take hd)) (fun hne => ?_)
  have hm0 : 0 < m := by
    rcases Nat.eq_zero_or_pos m with h0 | h0
    · subst h0; simp at hne
    · exact h0
  have := hl hm0
  rw [List.getLast_eq_getElem, List.getElem_take]
  simp only [List.length_take, Nat.min_eq_left hm]
  rw [List.getD_eq_getElem?_getD, List.getElem?_eq_getElem (by omega)] at this
  exact this
end Go.Proofs.Ytdgfgehjnfadnaa
