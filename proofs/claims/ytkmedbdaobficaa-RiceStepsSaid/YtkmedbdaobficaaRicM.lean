/- Plain mathematics of layer 12: numbers as ones, a nought and low bits. -/
import Derived.Test.YtkmedbdaobficaaBitM
namespace Go.Proofs.Ytkmedbdaobficaa
set_option linter.unusedVariables false

/-- How many ones a number has ahead. -/
def rq (p : Int) (n : Nat) : Nat := n / 2 ^ hld p 32
set_option maxRecDepth 100000 in
theorem rq_le (p : Int) (n : Nat) : rq p n ≤ n := Nat.div_le_self _ _
/-- The code of a number. -/
def rcode (p : Int) (n : Nat) : List Bool := List.replicate (rq p n) true ++ false :: bN n (hld p 32)
set_option maxRecDepth 100000 in
theorem rcode_len (p : Int) (n : Nat) : (rcode p n).length = rq p n + hld p 32 + 1 := by
  unfold rcode
  rw [List.length_append, List.length_replicate, List.length_cons, bN_len]
  omega
/-- How many bits that is, up to what fits. -/
def rsz (p : Int) (n : Nat) : Nat := if 18446744073709551615 < rq p n + (hld p 32 + 1) then 18446744073709551615 else rq p n + (hld p 32 + 1)
/-- What Get leaves, its number, its error. -/
def gtE (l : List Bool) (p m : Int) : Nat := if rnE l (hld m 65536) ≠ 0 then rnE l (hld m 65536) else btE (rnL l (hld m 65536)) (hld p 32)
def gtL (l : List Bool) (p m : Int) : List Bool := if gtE l p m ≠ 0 then l else btL (rnL l (hld m 65536)) (hld p 32)
def gtV (l : List Bool) (p m : Int) : Nat := if gtE l p m ≠ 0 then 0 else rnV l (hld m 65536) * 2 ^ hld p 32 + btV (rnL l (hld m 65536)) (hld p 32)
set_option maxRecDepth 100000 in
theorem gtL_len (l : List Bool) (p m : Int) : (gtL l p m).length ≤ l.length := by
  unfold gtL
  split
  · exact Nat.le_refl _
  · exact Nat.le_trans (btL_len _ _) (rnL_len _ _)
set_option maxRecDepth 100000 in
theorem rnV_le (l : List Bool) (m : Nat) : rnV l m ≤ m := by
  unfold rnV
  split
  · rename_i h
    unfold rnE at h
    split at h
    · simp at h
    · omega
  · omega
set_option maxRecDepth 100000 in
theorem btV_pow (l : List Bool) (k : Nat) : btV l k < 2 ^ k := by
  unfold btV
  split
  · exact Nat.pow_pos (by omega)
  · have h1 := num_lt (l.take k)
    have h2 : (2 : Nat) ^ (l.take k).length ≤ 2 ^ k := Nat.pow_le_pow_right (by omega) (by rw [List.length_take]; omega)
    omega
set_option maxRecDepth 100000 in
/-- A code is got. -/
theorem gt_ok (p : Int) (n : Nat) (m : Int) (l : List Bool) (h : rq p n ≤ hld m 65536) : gtE (rcode p n ++ l) p m = 0 ∧ gtL (rcode p n ++ l) p m = l ∧ gtV (rcode p n ++ l) p m = n := by
  have e : rcode p n ++ l = List.replicate (rq p n) true ++ false :: (bN n (hld p 32) ++ l) := by unfold rcode; rw [List.append_assoc, List.cons_append]
  obtain ⟨h1, h2, h3⟩ := rn_ok (rq p n) (hld m 65536) (bN n (hld p 32) ++ l) h
  obtain ⟨b1, b2, b3⟩ := bt_ok n (hld p 32) l
  have hE : gtE (rcode p n ++ l) p m = 0 := by
    unfold gtE
    rw [e, h1, if_neg (by simp), h2, b1]
  refine ⟨hE, ?_, ?_⟩
  · unfold gtL
    rw [hE, if_neg (by simp), e, h2, b2]
  · unfold gtV
    rw [hE, if_neg (by simp), e, h2, h3, b3]
    unfold rq
    rw [Nat.mul_comm]
    exact Nat.div_add_mod n (2 ^ hld p 32)
/-- Numbers by their steps: the bits, the error. -/
def stp (p : Int) : Nat → List Nat → List Bool × Nat
  | _, [] => ([], 0)
  | b, n :: r => if n < b then ([], 5) else if 65536 < rq p (n - b) then ([], 4) else if (stp p n r).2 ≠ 0 then ([], (stp p n r).2) else (rcode p (n - b) ++ (stp p n r).1, 0)
set_option maxRecDepth 100000 in
theorem stp_err (p : Int) : ∀ (L : List Nat) (b : Nat), (stp p b L).2 ≠ 0 → (stp p b L).1 = []
  | [], b, h => by simp [stp] at h
  | n :: r, b, h => by
    unfold stp at h ⊢
    split
    · rfl
    · split
      · rfl
      · split
        · rfl
        · rename_i h1 h2 h3
          rw [if_neg h1, if_neg h2, if_neg h3] at h
          simp at h
end Go.Proofs.Ytkmedbdaobficaa
