/- Bits in bytes, one by one: the bytes when one bit more is written; a bit read off the bytes. -/
import Derived.Test.YtkmedbdaobficaaBitM
namespace Go.Proofs.Ytkmedbdaobficaa
set_option linter.unusedVariables false

set_option maxRecDepth 100000 in
/-- One bit more, at the beginning of a byte. -/
theorem pack_new (V : List Bool) (b : Bool) (h : V.length % 8 = 0) : pack (V ++ [b]) = pack V ++ [if b then 128 else 0] := by
  have hf : fill V = V := by unfold fill; rw [h]; simp
  have hk : (V.length + 7) / 8 = V.length / 8 := by omega
  have hf2 : fill (V ++ [b]) = V ++ (b :: List.replicate 7 false) := by
    unfold fill
    rw [List.length_append, show (8 - (V.length + [b].length) % 8) % 8 = 7 from by simp; omega, List.append_assoc]
    rfl
  unfold pack
  rw [List.length_append, hf, hf2, hk, show (V.length + [b].length + 7) / 8 = V.length / 8 + 1 from by simp; omega, pk_succ]
  have h8 : 8 * (V.length / 8) = V.length := by omega
  have e1 : pk (V.length / 8) (V ++ (b :: List.replicate 7 false)) = pk (V.length / 8) V := by
    have key : ∀ (k : Nat) (l m : List Bool), l.length = 8 * k → pk k (l ++ m) = pk k l := by
      intro k
      induction k with
      | zero => intro l m _; rfl
      | succ k ih =>
        intro l m hl
        rw [pk, pk, List.take_append_of_le_length (by omega), List.drop_append_of_le_length (by omega), ih _ _ (by rw [List.length_drop]; omega)]
    exact key _ _ _ (by omega)
  have e2 : (V ++ (b :: List.replicate 7 false)).drop (8 * (V.length / 8)) = b :: List.replicate 7 false := by
    rw [h8]
    exact List.drop_left
  rw [e1, e2]
  cases b <;> rfl
set_option maxRecDepth 100000 in
theorem pk_append : ∀ (k : Nat) (l m : List Bool), l.length = 8 * k → ∀ j, pk (k + j) (l ++ m) = pk k l ++ pk j m
  | 0, l, m, h, j => by rw [List.eq_nil_of_length_eq_zero h, Nat.zero_add]; rfl
  | k + 1, l, m, h, j => by
    rw [show k + 1 + j = (k + j) + 1 from by omega, pk, pk, List.take_append_of_le_length (by omega), List.drop_append_of_le_length (by omega), pk_append k _ m (by rw [List.length_drop]; omega) j]
    rfl
set_option maxRecDepth 100000 in
theorem num_fill (l : List Bool) (n : Nat) : num (l ++ List.replicate n false) = num l * 2 ^ n := by
  rw [num_app, num_zeros, List.length_replicate, Nat.add_zero]
set_option maxRecDepth 100000 in
/-- Its last byte, when it is not full. -/
theorem pack_last (V : List Bool) (r : Nat) (hr : V.length % 8 = r) (h0 : 0 < r) : ∃ U X, V = U ++ X ∧ U.length = 8 * (V.length / 8) ∧ X.length = r ∧ pack V = pk (V.length / 8) U ++ [UInt8.ofNat (num X * 2 ^ (8 - r))] := by
  refine ⟨V.take (8 * (V.length / 8)), V.drop (8 * (V.length / 8)), (List.take_append_drop _ _).symm, by rw [List.length_take]; omega, by rw [List.length_drop]; omega, ?_⟩
  unfold pack
  have hf : fill V = V.take (8 * (V.length / 8)) ++ (V.drop (8 * (V.length / 8)) ++ List.replicate (8 - r) false) := by
    unfold fill
    rw [← List.append_assoc, List.take_append_drop, hr, Nat.mod_eq_of_lt (by omega)]
  rw [hf, show (V.length + 7) / 8 = V.length / 8 + 1 from by omega, pk_append _ _ _ (by rw [List.length_take]; omega) 1]
  congr 1
  show [UInt8.ofNat (num ((V.drop (8 * (V.length / 8)) ++ List.replicate (8 - r) false).take 8))] = _
  rw [List.take_of_length_le (by rw [List.length_append, List.length_drop, List.length_replicate]; omega), num_fill]
set_option maxRecDepth 100000 in
/-- One bit more, within a byte: the last byte grows by the bit's weight. -/
theorem pack_old (V : List Bool) (b : Bool) (r : Nat) (hr : V.length % 8 = r) (h0 : 0 < r) : ∃ P c, pack V = P ++ [c] ∧ P.length = V.length / 8 ∧ c.toNat % 2 ^ (8 - r) = 0 ∧ pack (V ++ [b]) = P ++ [UInt8.ofNat (c.toNat + (if b then 2 ^ (7 - r) else 0))] := by
  obtain ⟨U, X, hV, hU, hX, hp⟩ := pack_last V r hr h0
  have hnx := num_lt X
  rw [hX] at hnx
  have hpow : 2 ^ r * 2 ^ (8 - r) = 256 := by rw [← Nat.pow_add, show r + (8 - r) = 8 from by omega]
  have hc : num X * 2 ^ (8 - r) < 256 := by
    rw [← hpow]
    exact Nat.mul_lt_mul_of_pos_right hnx (Nat.pow_pos (by omega))
  have hcn : (UInt8.ofNat (num X * 2 ^ (8 - r))).toNat = num X * 2 ^ (8 - r) := by rw [UInt8.toNat_ofNat']; exact Nat.mod_eq_of_lt hc
  refine ⟨pk (V.length / 8) U, _, hp, pk_len _ _, by rw [hcn]; exact Nat.mul_mod_left _ _, ?_⟩
  rw [hcn]
  have h2 : 2 ^ (8 - r) = 2 * 2 ^ (7 - r) := by rw [show 8 - r = (7 - r) + 1 from by omega, Nat.pow_succ, Nat.mul_comm]
  have hnum : num (X ++ [b]) * 2 ^ (7 - r) = num X * 2 ^ (8 - r) + (if b then 2 ^ (7 - r) else 0) := by
    rw [num_snoc, h2, Nat.add_mul, Nat.mul_comm 2 (num X), Nat.mul_assoc]
    cases b <;> simp
  rw [← hnum]
  have hl2 : (V ++ [b]).length = V.length + 1 := by simp
  by_cases h7 : r = 7
  · subst h7
    have hU2 : (U ++ (X ++ [b])).length = 8 * (V.length / 8 + 1) := by rw [List.length_append, List.length_append, hU, hX]; simp; omega
    have hf : fill (V ++ [b]) = U ++ (X ++ [b]) := by
      unfold fill
      rw [hl2, show (8 - (V.length + 1) % 8) % 8 = 0 from by omega, hV, List.append_assoc]
      simp
    unfold pack
    rw [hl2, hf, show (V.length + 1 + 7) / 8 = V.length / 8 + 1 from by omega, pk_append _ _ _ hU 1]
    congr 1
    show [UInt8.ofNat (num ((X ++ [b]).take 8))] = _
    rw [List.take_of_length_le (by rw [List.length_append, hX]; simp), show 7 - 7 = 0 from rfl, Nat.pow_zero, Nat.mul_one]
  · have hf : fill (V ++ [b]) = U ++ ((X ++ [b]) ++ List.replicate (7 - r) false) := by
      unfold fill
      rw [hl2, show (8 - (V.length + 1) % 8) % 8 = 7 - r from by omega, hV]
      simp [List.append_assoc]
    unfold pack
    rw [hl2, hf, show (V.length + 1 + 7) / 8 = V.length / 8 + 1 from by omega, pk_append _ _ _ hU 1]
    congr 1
    show [UInt8.ofNat (num (((X ++ [b]) ++ List.replicate (7 - r) false).take 8))] = _
    rw [List.take_of_length_le (by rw [List.length_append, List.length_append, hX, List.length_replicate]; simp; omega), num_fill]
set_option maxRecDepth 100000 in
theorem bN_get : ∀ (k n j : Nat), j < k → (bN n k)[j]? = some (decide (n / 2 ^ (k - 1 - j) % 2 = 1))
  | 0, n, j, h => by omega
  | k + 1, n, 0, _ => by rw [bN_cons]; rfl
  | k + 1, n, j + 1, h => by
    rw [bN_cons, List.getElem?_cons_succ, bN_get k n j (by omega), show k + 1 - 1 - (j + 1) = k - 1 - j from by omega]
set_option maxRecDepth 100000 in
/-- A bit of bytes. -/
theorem unp_get : ∀ (b : List UInt8) (i : Nat) (h : i / 8 < b.length), (unp b)[i]? = some (decide (b[i / 8].toNat / 2 ^ (7 - i % 8) % 2 = 1))
  | [], i, h => by simp at h
  | c :: b, i, h => by
    rw [unp_cons]
    rcases Nat.lt_or_ge i 8 with hi | hi
    · rw [List.getElem?_append_left (by rw [bN_len]; exact hi), bN_get 8 _ i hi]
      have e : i / 8 = 0 := by omega
      have e2 : i % 8 = i := by omega
      simp only [e, e2, List.getElem_cons_zero]
    · rw [List.getElem?_append_right (by rw [bN_len]; exact hi), bN_len, unp_get b (i - 8) (by simp at h; omega)]
      have e : i / 8 = (i - 8) / 8 + 1 := by omega
      have e2 : i % 8 = (i - 8) % 8 := by omega
      simp only [e, e2, List.getElem_cons_succ]
set_option maxRecDepth 100000 in
/-- Taken bit by bit. -/
theorem num_take (l : List Bool) (k : Nat) (b : Bool) (h : l[k]? = some b) : num (l.take (k + 1)) = 2 * num (l.take k) + b.toNat := by
  obtain ⟨hl, e⟩ := List.getElem?_eq_some_iff.1 h
  rw [List.take_succ_eq_append_getElem hl, e, num_snoc]
set_option maxRecDepth 100000 in
/-- A number's bits, written from the highest on. -/
theorem bN_take (n k j : Nat) (h : j < k) : (bN n k).take (j + 1) = (bN n k).take j ++ [decide (n / 2 ^ (k - 1 - j) % 2 = 1)] := by
  obtain ⟨hl, e⟩ := List.getElem?_eq_some_iff.1 (bN_get k n j h)
  rw [List.take_succ_eq_append_getElem hl, e]
end Go.Proofs.Ytkmedbdaobficaa
