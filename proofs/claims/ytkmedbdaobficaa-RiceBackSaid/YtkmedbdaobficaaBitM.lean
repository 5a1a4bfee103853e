/- Plain mathematics of layer 11: bits in a row, as lists of yes and no. -/
import Derived.Test.YtkmedbdaobficaaProg
namespace Go.Proofs.Ytkmedbdaobficaa
set_option linter.unusedVariables false

/-- The k low bits of a number, the highest first. -/
def bN : Nat → Nat → List Bool
  | _, 0 => []
  | n, k + 1 => bN (n / 2) k ++ [decide (n % 2 = 1)]
set_option maxRecDepth 100000 in
theorem bN_len : ∀ (k n : Nat), (bN n k).length = k
  | 0, _ => rfl
  | k + 1, n => by rw [bN, List.length_append, bN_len k]; rfl
set_option maxRecDepth 100000 in
theorem bN_cons : ∀ (k n : Nat), bN n (k + 1) = decide (n / 2 ^ k % 2 = 1) :: bN n k
  | 0, n => by simp [bN]
  | k + 1, n => by
    rw [bN, bN_cons k (n / 2), bN, List.cons_append, Nat.div_div_eq_div_mul, show 2 * 2 ^ k = 2 ^ (k + 1) from by rw [Nat.pow_succ, Nat.mul_comm]]
/-- The number that bits are. -/
def num (l : List Bool) : Nat := l.foldl (fun a b => 2 * a + b.toNat) 0
set_option maxRecDepth 100000 in
theorem num_snoc (l : List Bool) (b : Bool) : num (l ++ [b]) = 2 * num l + b.toNat := by simp [num, List.foldl_append]
set_option maxRecDepth 100000 in
theorem num_nil : num [] = 0 := rfl
set_option maxRecDepth 100000 in
theorem fold_up : ∀ (l : List Bool) (a : Nat), l.foldl (fun a b => 2 * a + b.toNat) a = a * 2 ^ l.length + num l
  | [], a => by simp [num]
  | b :: l, a => by
    have h1 := fold_up l (2 * a + b.toNat)
    have h2 := fold_up l (2 * 0 + b.toNat)
    rw [List.foldl_cons, h1]
    unfold num
    rw [List.foldl_cons, h2, List.length_cons, Nat.pow_succ]
    unfold num
    generalize 2 ^ l.length = p
    generalize l.foldl (fun a b => 2 * a + b.toNat) 0 = q
    rw [Nat.add_mul, Nat.add_mul, show 2 * a * p = a * (p * 2) from by rw [Nat.mul_comm 2 a, Nat.mul_assoc, Nat.mul_comm 2 p]]
    omega
set_option maxRecDepth 100000 in
theorem num_app (l m : List Bool) : num (l ++ m) = num l * 2 ^ m.length + num m := by
  show (l ++ m).foldl _ 0 = _
  rw [List.foldl_append, fold_up]
  rfl
set_option maxRecDepth 100000 in
theorem bit_lt (b : Bool) : b.toNat < 2 := by cases b <;> decide
set_option maxRecDepth 100000 in
theorem num_cons (b : Bool) (l : List Bool) : num (b :: l) = b.toNat * 2 ^ l.length + num l := by
  have := num_app [b] l
  rw [show ([b] : List Bool) ++ l = b :: l from rfl] at this
  rw [this]
  congr 1
  simp [num]
set_option maxRecDepth 100000 in
theorem num_lt : ∀ l : List Bool, num l < 2 ^ l.length
  | [] => by decide
  | b :: l => by
    have h1 := num_lt l
    have h2 := bit_lt b
    rw [num_cons, List.length_cons, Nat.pow_succ]
    have : b.toNat * 2 ^ l.length ≤ 1 * 2 ^ l.length := Nat.mul_le_mul_right _ (by omega)
    omega
set_option maxRecDepth 100000 in
theorem num_bN : ∀ (k n : Nat), num (bN n k) = n % 2 ^ k
  | 0, n => by rw [Nat.pow_zero, Nat.mod_one]; rfl
  | k + 1, n => by
    rw [bN, num_snoc, num_bN k (n / 2), Nat.pow_succ, Nat.mul_comm (2 ^ k) 2, Nat.mod_mul]
    have h2 : n % 2 < 2 := Nat.mod_lt _ (by omega)
    by_cases h : n % 2 = 1
    · rw [decide_eq_true h, h]; simp; omega
    · rw [decide_eq_false h]; have : n % 2 = 0 := by omega
      rw [this]; simp
set_option maxRecDepth 100000 in
theorem bN_num : ∀ (k : Nat) (l : List Bool), l.length = k → bN (num l) k = l
  | 0, l, h => by rw [List.eq_nil_of_length_eq_zero h]; rfl
  | k + 1, l, h => by
    obtain ⟨m, b, rfl⟩ : ∃ m b, l = m ++ [b] := by
      rcases List.eq_nil_or_concat l with e | ⟨m, b, e⟩
      · rw [e] at h; simp at h
      · exact ⟨m, b, by simpa using e⟩
    have hb := bit_lt b
    rw [num_snoc, bN, show (2 * num m + b.toNat) / 2 = num m from by omega, bN_num k m (by simpa using h), show (2 * num m + b.toNat) % 2 = b.toNat from by omega]
    cases b <;> rfl
/-- So many bits that the last byte is full. -/
def fill (l : List Bool) : List Bool := l ++ List.replicate ((8 - l.length % 8) % 8) false
set_option maxRecDepth 100000 in
theorem fill_len (l : List Bool) : (fill l).length = 8 * ((l.length + 7) / 8) := by
  unfold fill
  rw [List.length_append, List.length_replicate]
  omega
/-- The bytes of k times eight bits. -/
def pk : Nat → List Bool → List UInt8
  | 0, _ => []
  | k + 1, l => UInt8.ofNat (num (l.take 8)) :: pk k (l.drop 8)
set_option maxRecDepth 100000 in
theorem pk_len : ∀ (k : Nat) (l : List Bool), (pk k l).length = k
  | 0, _ => rfl
  | k + 1, l => by rw [pk, List.length_cons, pk_len k]
set_option maxRecDepth 100000 in
theorem pk_succ : ∀ (k : Nat) (l : List Bool), pk (k + 1) l = pk k l ++ [UInt8.ofNat (num ((l.drop (8 * k)).take 8))]
  | 0, l => by simp [pk]
  | k + 1, l => by
    rw [pk, pk_succ k (l.drop 8), pk, List.cons_append, List.drop_drop, show 8 + 8 * k = 8 * (k + 1) from by omega]
/-- The bytes of bits, filled. -/
def pack (l : List Bool) : List UInt8 := pk ((l.length + 7) / 8) (fill l)
set_option maxRecDepth 100000 in
theorem pack_len (l : List Bool) : (pack l).length = (l.length + 7) / 8 := pk_len _ _
/-- The bits of bytes. -/
def unp (b : List UInt8) : List Bool := (b.map fun c => bN c.toNat 8).flatten
set_option maxRecDepth 100000 in
theorem unp_cons (c : UInt8) (b : List UInt8) : unp (c :: b) = bN c.toNat 8 ++ unp b := rfl
set_option maxRecDepth 100000 in
theorem unp_snoc (c : UInt8) (b : List UInt8) : unp (b ++ [c]) = unp b ++ bN c.toNat 8 := by simp [unp]
set_option maxRecDepth 100000 in
theorem unp_len : ∀ b : List UInt8, (unp b).length = 8 * b.length
  | [] => rfl
  | c :: b => by rw [unp_cons, List.length_append, bN_len, unp_len b, List.length_cons]; omega
set_option maxRecDepth 100000 in
theorem unp_pk : ∀ (k : Nat) (l : List Bool), l.length = 8 * k → unp (pk k l) = l
  | 0, l, h => by rw [List.eq_nil_of_length_eq_zero h]; rfl
  | k + 1, l, h => by
    have h8 : (l.take 8).length = 8 := by rw [List.length_take]; omega
    have hl := num_lt (l.take 8)
    rw [h8] at hl
    rw [pk, unp_cons, unp_pk k (l.drop 8) (by rw [List.length_drop]; omega), show (UInt8.ofNat (num (l.take 8))).toNat = num (l.take 8) from by rw [UInt8.toNat_ofNat']; exact Nat.mod_eq_of_lt hl, bN_num 8 _ h8, List.take_append_drop]
set_option maxRecDepth 100000 in
theorem unp_pack (l : List Bool) : unp (pack l) = fill l := unp_pk _ _ (fill_len l)
/-- What Take leaves, its number, its error. -/
def btE (l : List Bool) (k : Nat) : Nat := if l.length < k then 2 else 0
def btL (l : List Bool) (k : Nat) : List Bool := if l.length < k then l else l.drop k
def btV (l : List Bool) (k : Nat) : Nat := if l.length < k then 0 else num (l.take k)
set_option maxRecDepth 100000 in
theorem btV_lt (l : List Bool) (k : Nat) (h : k ≤ 64) : btV l k < 18446744073709551616 := by
  unfold btV
  split
  · decide
  · have h1 := num_lt (l.take k)
    have h2 : (2 : Nat) ^ (l.take k).length ≤ 2 ^ 64 := Nat.pow_le_pow_right (by omega) (by rw [List.length_take]; omega)
    omega
/-- How many ones come first. -/
def ones : List Bool → Nat
  | true :: l => ones l + 1
  | _ => 0
set_option maxRecDepth 100000 in
theorem ones_le : ∀ l : List Bool, ones l ≤ l.length
  | [] => Nat.le_refl _
  | true :: l => by rw [ones, List.length_cons]; have := ones_le l; omega
  | false :: l => Nat.zero_le _
set_option maxRecDepth 100000 in
theorem ones_at : ∀ (l : List Bool) (i : Nat), i < ones l → l[i]? = some true
  | [], i, h => by simp [ones] at h
  | true :: l, 0, _ => rfl
  | true :: l, i + 1, h => by rw [List.getElem?_cons_succ]; exact ones_at l i (by rw [ones] at h; omega)
  | false :: l, i, h => by simp [ones] at h
set_option maxRecDepth 100000 in
theorem ones_end : ∀ l : List Bool, ones l < l.length → l[ones l]? = some false
  | [], h => by simp [ones] at h
  | true :: l, h => by rw [ones, List.getElem?_cons_succ]; exact ones_end l (by rw [ones, List.length_cons] at h; omega)
  | false :: l, _ => rfl
set_option maxRecDepth 100000 in
theorem ones_ge : ∀ (l : List Bool) (n : Nat), n ≤ l.length → (∀ i, i < n → l[i]? = some true) → n ≤ ones l
  | l, 0, _, _ => Nat.zero_le _
  | [], n + 1, h, _ => by simp at h
  | b :: l, n + 1, h, hh => by
    have h0 := hh 0 (by omega)
    simp at h0
    subst h0
    rw [ones]
    have := ones_ge l n (by simpa using h) (fun i hi => by have := hh (i + 1) (by omega); rwa [List.getElem?_cons_succ] at this)
    omega
set_option maxRecDepth 100000 in
theorem ones_run (n : Nat) (l : List Bool) : ones (List.replicate n true ++ false :: l) = n := by
  induction n with
  | zero => rfl
  | succ n ih => rw [List.replicate_succ, List.cons_append, ones, ih]
/-- What Run leaves, how many ones, its error. -/
def rnE (l : List Bool) (m : Nat) : Nat := if m < ones l then 4 else if ones l = l.length then 2 else 0
def rnL (l : List Bool) (m : Nat) : List Bool := if rnE l m = 0 then l.drop (ones l + 1) else l
def rnV (l : List Bool) (m : Nat) : Nat := if rnE l m = 0 then ones l else 0
set_option maxRecDepth 100000 in
theorem rnL_len (l : List Bool) (m : Nat) : (rnL l m).length ≤ l.length := by
  unfold rnL
  split
  · rw [List.length_drop]; omega
  · exact Nat.le_refl _
set_option maxRecDepth 100000 in
theorem btL_len (l : List Bool) (k : Nat) : (btL l k).length ≤ l.length := by
  unfold btL
  split
  · exact Nat.le_refl _
  · rw [List.length_drop]; omega
set_option maxRecDepth 100000 in
theorem rn_ok (n m : Nat) (l : List Bool) (h : n ≤ m) : rnE (List.replicate n true ++ false :: l) m = 0 ∧ rnL (List.replicate n true ++ false :: l) m = l ∧ rnV (List.replicate n true ++ false :: l) m = n := by
  have ho := ones_run n l
  have he : rnE (List.replicate n true ++ false :: l) m = 0 := by
    unfold rnE
    rw [ho, if_neg (by omega), if_neg (by rw [List.length_append, List.length_replicate, List.length_cons]; omega)]
  refine ⟨he, ?_, ?_⟩
  · unfold rnL
    rw [if_pos he, ho, List.drop_append, List.length_replicate]
    simp
  · unfold rnV
    rw [if_pos he, ho]
set_option maxRecDepth 100000 in
theorem bt_ok (n k : Nat) (l : List Bool) : btE (bN n k ++ l) k = 0 ∧ btL (bN n k ++ l) k = l ∧ btV (bN n k ++ l) k = n % 2 ^ k := by
  have hl : ¬ (bN n k ++ l).length < k := by rw [List.length_append, bN_len]; omega
  unfold btE btL btV
  rw [if_neg hl, if_neg hl, if_neg hl]
  refine ⟨rfl, ?_, ?_⟩
  · have := List.drop_left (l₁ := bN n k) (l₂ := l)
    rwa [bN_len] at this
  · have := List.take_left (l₁ := bN n k) (l₂ := l)
    rw [bN_len] at this
    rw [this, num_bN]
/-- A width, held within what may be. -/
def hld (n : Int) (m : Nat) : Nat := if n < 0 then 0 else if (m : Int) < n then m else n.toNat
set_option maxRecDepth 100000 in
theorem hld_le (n : Int) (m : Nat) : hld n m ≤ m := by unfold hld; split <;> (try split) <;> omega
/-- What is left fills a byte. -/
def cln (l : List Bool) : Bool := decide (l.length < 8) && decide (num l = 0)
set_option maxRecDepth 100000 in
theorem num_zeros : ∀ n, num (List.replicate n false) = 0
  | 0 => rfl
  | n + 1 => by rw [List.replicate_succ, num_cons, num_zeros n]; simp
set_option maxRecDepth 100000 in
theorem cln_fill (l : List Bool) : cln (List.replicate ((8 - l.length % 8) % 8) false) = true := by
  unfold cln
  rw [num_zeros, List.length_replicate, decide_eq_true (by omega)]
  rfl
set_option maxRecDepth 100000 in
/-- Two parts of a number. -/
theorem num_two (l : List Bool) (i j : Nat) (h : i + j ≤ l.length) : num (l.take (i + j)) = num (l.take i) * 2 ^ j + num ((l.drop i).take j) := by
  rw [List.take_add, num_app, List.length_take, List.length_drop, Nat.min_eq_left (by omega)]
end Go.Proofs.Ytkmedbdaobficaa
