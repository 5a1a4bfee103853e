/- Merged texts: BitM BitO BitK BitN BitD. -/
import Derived.Test.YtplnmjdafchjbaaProg
import Derived.Test.YtplnmjdafchjbaaMab
import Derived.Lib.SmallJoins
import Derived.Deep.Slices
import Derived.OpenShut
import Derived.Test.YtplnmjdafchjbaaMah
import Derived.Test.YtplnmjdafchjbaaMag
import Derived.Test.YtplnmjdafchjbaaMai
/- Plain mathematics of layer 11: bits in a row, as lists of yes and no. -/
namespace Go.Proofs.Ytplnmjdafchjbaa
set_option linter.unusedVariables false

/-- The k low bits of a number, the highest first. -/
def bN : Nat → Nat → List Bool
  | _, 0 => []
  | n, k + 1 => bN (n / 2) k ++ [decide (n % 2 = 1)]
set_option maxRecDepth 100000 in
theorem bN_len : ∀ (k n : Nat), (bN n k).length = k
  | 0, _ => rfl
  | k + 1, n => by rw [bN, List.length_append, bN_len k]; rfl
set_option maxRecDepth 100000 in
theorem bN_cons : ∀ (k n : Nat), bN n (k + 1) = decide (n / 2 ^ k % 2 = 1) :: bN n k
  | 0, n => by simp [bN]
  | k + 1, n => by
    rw [bN, bN_cons k (n / 2), bN, List.cons_append, Nat.div_div_eq_div_mul, show 2 * 2 ^ k = 2 ^ (k + 1) from by rw [Nat.pow_succ, Nat.mul_comm]]
/-- The number that bits are. -/
def num (l : List Bool) : Nat := l.foldl (fun a b => 2 * a + b.toNat) 0
set_option maxRecDepth 100000 in
theorem num_snoc (l : List Bool) (b : Bool) : num (l ++ [b]) = 2 * num l + b.toNat := by simp [num, List.foldl_append]
set_option maxRecDepth 100000 in
theorem num_nil : num [] = 0 := rfl
set_option maxRecDepth 100000 in
theorem fold_up : ∀ (l : List Bool) (a : Nat), l.foldl (fun a b => 2 * a + b.toNat) a = a * 2 ^ l.length + num l
  | [], a => by simp [num]
  | b :: l, a => by
    have h1 := fold_up l (2 * a + b.toNat)
    have h2 := fold_up l (2 * 0 + b.toNat)
    rw [List.foldl_cons, h1]
    unfold num
    rw [List.foldl_cons, h2, List.length_cons, Nat.pow_succ]
    unfold num
    generalize 2 ^ l.length = p
    generalize l.foldl (fun a b => 2 * a + b.toNat) 0 = q
    rw [Nat.add_mul, Nat.add_mul, show 2 * a * p = a * (p * 2) from by rw [Nat.mul_comm 2 a, Nat.mul_assoc, Nat.mul_comm 2 p]]
    omega
set_option maxRecDepth 100000 in
theorem num_app (l m : List Bool) : num (l ++ m) = num l * 2 ^ m.length + num m := by
  show (l ++ m).foldl _ 0 = _
  rw [List.foldl_append, fold_up]
  rfl
set_option maxRecDepth 100000 in
theorem bit_lt (b : Bool) : b.toNat < 2 := by cases b <;> decide
set_option maxRecDepth 100000 in
theorem num_cons (b : Bool) (l : List Bool) : num (b :: l) = b.toNat * 2 ^ l.length + num l := by
  have := num_app [b] l
  rw [show ([b] : List Bool) ++ l = b :: l from rfl] at this
  rw [this]
  congr 1
  simp [num]
set_option maxRecDepth 100000 in
theorem num_lt : ∀ l : List Bool, num l < 2 ^ l.length
  | [] => by decide
  | b :: l => by
    have h1 := num_lt l
    have h2 := bit_lt b
    rw [num_cons, List.length_cons, Nat.pow_succ]
    have : b.toNat * 2 ^ l.length ≤ 1 * 2 ^ l.length := Nat.mul_le_mul_right _ (by omega)
    omega
set_option maxRecDepth 100000 in
theorem num_bN : ∀ (k n : Nat), num (bN n k) = n % 2 ^ k
  | 0, n => by rw [Nat.pow_zero, Nat.mod_one]; rfl
  | k + 1, n => by
    rw [bN, num_snoc, num_bN k (n / 2), Nat.pow_succ, Nat.mul_comm (2 ^ k) 2, Nat.mod_mul]
    have h2 : n % 2 < 2 := Nat.mod_lt _ (by omega)
    by_cases h : n % 2 = 1
    · rw [decide_eq_true h, h]; simp; omega
    · rw [decide_eq_false h]; have : n % 2 = 0 := by omega
      rw [this]; simp
set_option maxRecDepth 100000 in
theorem bN_num : ∀ (k : Nat) (l : List Bool), l.length = k → bN (num l) k = l
  | 0, l, h => by rw [List.eq_nil_of_length_eq_zero h]; rfl
  | k + 1, l, h => by
    obtain ⟨m, b, rfl⟩ : ∃ m b, l = m ++ [b] := by
      rcases List.eq_nil_or_concat l with e | ⟨m, b, e⟩
      · rw [e] at h; simp at h
      · exact ⟨m, b, by simpa using e⟩
    have hb := bit_lt b
    rw [num_snoc, bN, show (2 * num m + b.toNat) / 2 = num m from by omega, bN_num k m (by simpa using h), show (2 * num m + b.toNat) % 2 = b.toNat from by omega]
    cases b <;> rfl
/-- So many bits that the last byte is full. -/
def fill (l : List Bool) : List Bool := l ++ List.replicate ((8 - l.length % 8) % 8) false
set_option maxRecDepth 100000 in
theorem fill_len (l : List Bool) : (fill l).length = 8 * ((l.length + 7) / 8) := by
  unfold fill
  rw [List.length_append, List.length_replicate]
  omega
/-- The bytes of k times eight bits. -/
def pk : Nat → List Bool → List UInt8
  | 0, _ => []
  | k + 1, l => UInt8.ofNat (num (l.take 8)) :: pk k (l.drop 8)
set_option maxRecDepth 100000 in
theorem pk_len : ∀ (k : Nat) (l : List Bool), (pk k l).length = k
  | 0, _ => rfl
  | k + 1, l => by rw [pk, List.length_cons, pk_len k]
set_option maxRecDepth 100000 in
theorem pk_succ : ∀ (k : Nat) (l : List Bool), pk (k + 1) l = pk k l ++ [UInt8.ofNat (num ((l.drop (8 * k)).take 8))]
  | 0, l => by simp [pk]
  | k + 1, l => by
    rw [pk, pk_succ k (l.drop 8), pk, List.cons_append, List.drop_drop, show 8 + 8 * k = 8 * (k + 1) from by omega]
/-- The bytes of bits, filled. -/
def pack (l : List Bool) : List UInt8 := pk ((l.length + 7) / 8) (fill l)
set_option maxRecDepth 100000 in
theorem pack_len (l : List Bool) : (pack l).length = (l.length + 7) / 8 := pk_len _ _
/-- The bits of bytes. -/
def unp (b : List UInt8) : List Bool := (b.map fun c => bN c.toNat 8).flatten
set_option maxRecDepth 100000 in
theorem unp_cons (c : UInt8) (b : List UInt8) : unp (c :: b) = bN c.toNat 8 ++ unp b := rfl
set_option maxRecDepth 100000 in
theorem unp_snoc (c : UInt8) (b : List UInt8) : unp (b ++ [c]) = unp b ++ bN c.toNat 8 := by simp [unp]
set_option maxRecDepth 100000 in
theorem unp_len : ∀ b : List UInt8, (unp b).length = 8 * b.length
  | [] => rfl
  | c :: b => by rw [unp_cons, List.length_append, bN_len, unp_len b, List.length_cons]; omega
set_option maxRecDepth 100000 in
theorem unp_pk : ∀ (k : Nat) (l : List Bool), l.length = 8 * k → unp (pk k l) = l
  | 0, l, h => by rw [List.eq_nil_of_length_eq_zero h]; rfl
  | k + 1, l, h => by
    have h8 : (l.take 8).length = 8 := by rw [List.length_take]; omega
    have hl := num_lt (l.take 8)
    rw [h8] at hl
    rw [pk, unp_cons, unp_pk k (l.drop 8) (by rw [List.length_drop]; omega), show (UInt8.ofNat (num (l.take 8))).toNat = num (l.take 8) from by rw [UInt8.toNat_ofNat']; exact Nat.mod_eq_of_lt hl, bN_num 8 _ h8, List.take_append_drop]
set_option maxRecDepth 100000 in
theorem unp_pack (l : List Bool) : unp (pack l) = fill l := unp_pk _ _ (fill_len l)
/-- What Take leaves, its number, its error. -/
def btE (l : List Bool) (k : Nat) : Nat := if l.length < k then 2 else 0
def btL (l : List Bool) (k : Nat) : List Bool := if l.length < k then l else l.drop k
def btV (l : List Bool) (k : Nat) : Nat := if l.length < k then 0 else num (l.take k)
set_option maxRecDepth 100000 in
theorem btV_lt (l : List Bool) (k : Nat) (h : k ≤ 64) : btV l k < 18446744073709551616 := by
  unfold btV
  split
  · decide
  · have h1 := num_lt (l.take k)
    have h2 : (2 : Nat) ^ (l.take k).length ≤ 2 ^ 64 := Nat.pow_le_pow_right (by omega) (by rw [List.length_take]; omega)
    omega
/-- How many ones come first. -/
def ones : List Bool → Nat
  | true :: l => ones l + 1
  | _ => 0
set_option maxRecDepth 100000 in
theorem ones_le : ∀ l : List Bool, ones l ≤ l.length
  | [] => Nat.le_refl _
  | true :: l => by rw [ones, List.length_cons]; have := ones_le l; omega
  | false :: l => Nat.zero_le _
set_option maxRecDepth 100000 in
theorem ones_at : ∀ (l : List Bool) (i : Nat), i < ones l → l[i]? = some true
  | [], i, h => by simp [ones] at h
  | true :: l, 0, _ => rfl
  | true :: l, i + 1, h => by rw [List.getElem?_cons_succ]; exact ones_at l i (by rw [ones] at h; omega)
  | false :: l, i, h => by simp [ones] at h
set_option maxRecDepth 100000 in
theorem ones_end : ∀ l : List Bool, ones l < l.length → l[ones l]? = some false
  | [], h => by simp [ones] at h
  | true :: l, h => by rw [ones, List.getElem?_cons_succ]; exact ones_end l (by rw [ones, List.length_cons] at h; omega)
  | false :: l, _ => rfl
set_option maxRecDepth 100000 in
theorem ones_ge : ∀ (l : List Bool) (n : Nat), n ≤ l.length → (∀ i, i < n → l[i]? = some true) → n ≤ ones l
  | l, 0, _, _ => Nat.zero_le _
  | [], n + 1, h, _ => by simp at h
  | b :: l, n + 1, h, hh => by
    have h0 := hh 0 (by omega)
    simp at h0
    subst h0
    rw [ones]
    have := ones_ge l n (by simpa using h) (fun i hi => by have := hh (i + 1) (by omega); rwa [List.getElem?_cons_succ] at this)
    omega
set_option maxRecDepth 100000 in
theorem ones_run (n : Nat) (l : List Bool) : ones (List.replicate n true ++ false :: l) = n := by
  induction n with
  | zero => rfl
  | succ n ih => rw [List.replicate_succ, List.cons_append, ones, ih]
/-- What Run leaves, how many ones, its error. -/
def rnE (l : List Bool) (m : Nat) : Nat := if m < ones l then 4 else if ones l = l.length then 2 else 0
def rnL (l : List Bool) (m : Nat) : List Bool := if rnE l m = 0 then l.drop (ones l + 1) else l
def rnV (l : List Bool) (m : Nat) : Nat := if rnE l m = 0 then ones l else 0
set_option maxRecDepth 100000 in
theorem rnL_len (l : List Bool) (m : Nat) : (rnL l m).length ≤ l.length := by
  unfold rnL
  split
  · rw [List.length_drop]; omega
  · exact Nat.le_refl _
set_option maxRecDepth 100000 in
theorem btL_len (l : List Bool) (k : Nat) : (btL l k).length ≤ l.length := by
  unfold btL
  split
  · exact Nat.le_refl _
  · rw [List.length_drop]; omega
set_option maxRecDepth 100000 in
theorem rn_ok (n m : Nat) (l : List Bool) (h : n ≤ m) : rnE (List.replicate n true ++ false :: l) m = 0 ∧ rnL (List.replicate n true ++ false :: l) m = l ∧ rnV (List.replicate n true ++ false :: l) m = n := by
  have ho := ones_run n l
  have he : rnE (List.replicate n true ++ false :: l) m = 0 := by
    unfold rnE
    rw [ho, if_neg (by omega), if_neg (by rw [List.length_append, List.length_replicate, List.length_cons]; omega)]
  refine ⟨he, ?_, ?_⟩
  · unfold rnL
    rw [if_pos he, ho, List.drop_append, List.length_replicate]
    simp
  · unfold rnV
    rw [if_pos he, ho]
set_option maxRecDepth 100000 in
theorem bt_ok (n k : Nat) (l : List Bool) : btE (bN n k ++ l) k = 0 ∧ btL (bN n k ++ l) k = l ∧ btV (bN n k ++ l) k = n % 2 ^ k := by
  have hl : ¬ (bN n k ++ l).length < k := by rw [List.length_append, bN_len]; omega
  unfold btE btL btV
  rw [if_neg hl, if_neg hl, if_neg hl]
  refine ⟨rfl, ?_, ?_⟩
  · have := List.drop_left (l₁ := bN n k) (l₂ := l)
    rwa [bN_len] at this
  · have := List.take_left (l₁ := bN n k) (l₂ := l)
    rw [bN_len] at this
    rw [this, num_bN]
/-- A width, held within what may be. -/
def hld (n : Int) (m : Nat) : Nat := if n < 0 then 0 else if (m : Int) < n then m else n.toNat
set_option maxRecDepth 100000 in
theorem hld_le (n : Int) (m : Nat) : hld n m ≤ m := by unfold hld; split <;> (try split) <;> omega
/-- What is left fills a byte. -/
def cln (l : List Bool) : Bool := decide (l.length < 8) && decide (num l = 0)
set_option maxRecDepth 100000 in
theorem num_zeros : ∀ n, num (List.replicate n false) = 0
  | 0 => rfl
  | n + 1 => by rw [List.replicate_succ, num_cons, num_zeros n]; simp
set_option maxRecDepth 100000 in
theorem cln_fill (l : List Bool) : cln (List.replicate ((8 - l.length % 8) % 8) false) = true := by
  unfold cln
  rw [num_zeros, List.length_replicate, decide_eq_true (by omega)]
  rfl
set_option maxRecDepth 100000 in
/-- Two parts of a number. -/
theorem num_two (l : List Bool) (i j : Nat) (h : i + j ≤ l.length) : num (l.take (i + j)) = num (l.take i) * 2 ^ j + num ((l.drop i).take j) := by
  rw [List.take_add, num_app, List.length_take, List.length_drop, Nat.min_eq_left (by omega)]
end Go.Proofs.Ytplnmjdafchjbaa

/- Lists of layer 11's parts that came in, as they are read off the row's data. -/
namespace Go.Proofs.Ytplnmjdafchjbaa
open Go.RowKit Go.ChangeShapes Go.WideShapes Go.ChangeAt Go.Deep
set_option linter.unusedVariables false

/-- A part: ones, or a number's bits. -/
structure Op3 where
  o : Bool
  n : Nat
  m : Int
instance : Inhabited Op3 := ⟨⟨false, 0, 0⟩⟩
def Op3.cells (o : Op3) : List Value := [.bool o.o, .int .u64 (o.n : Int), .int .i64 o.m]
structure Op3.ok (o : Op3) : Prop where
  n1 : o.n < 18446744073709551616
  m0 : -9223372036854775808 ≤ o.m
  m1 : o.m ≤ 9223372036854775807
/-- The slice of n parts that begins at A holds the parts L. -/
def RdP (w : World) (A : Option Addr) (n : Nat) (L : List Op3) : Prop :=
  L.length = n ∧ (0 < n → ∃ b off, A = some ⟨b, off, none⟩ ∧ b < w.heap.size ∧ ∀ j (h : j < L.length), w.rangeAt b (off + j * 3) L[j].cells ∧ L[j].ok)
set_option maxRecDepth 100000 in
theorem RdP.len {w : World} {A : Option Addr} {n : Nat} {L : List Op3} (h : RdP w A n L) : L.length = n := h.1
set_option maxRecDepth 100000 in
theorem RdP.at_ {w w' : World} {A : Option Addr} {n : Nat} {L : List Op3} (h : RdP w A n L) (hb : Below w.heap.size w w') {k : Nat} (hk : k < n) :
    ∃ b off, ∃ hl : k < L.length, A = some ⟨b, off, none⟩ ∧ w'.rangeAt b (off + k * 3) L[k].cells ∧ L[k].ok := by
  obtain ⟨b, off, e, hlt, hc⟩ := h.2 (by omega)
  have hl : k < L.length := by have := h.1; omega
  obtain ⟨h1, h2⟩ := hc k hl
  exact ⟨b, off, hl, e, fun j v hv => (hb.cell (p := ⟨b, off + k * 3 + j, none⟩) hlt).trans (h1 j v hv), h2⟩
set_option maxRecDepth 100000 in
theorem RdP.take {w : World} {A : Option Addr} {n : Nat} {L : List Op3} (h : RdP w A n L) {k : Nat} (hk : k ≤ n) : RdP w A k (L.take k) := by
  have hl := h.1
  refine ⟨by rw [List.length_take]; omega, fun hn => ?_⟩
  obtain ⟨b, off, e, hb, hc⟩ := h.2 (by omega)
  refine ⟨b, off, e, hb, fun j hj => ?_⟩
  rw [List.length_take] at hj
  rw [List.getElem_take]
  exact hc j (by omega)
set_option maxRecDepth 100000 in
theorem op3_one (o : Op3) : ∀ v ∈ o.cells, v.oneCell' = true := by
  intro v hv
  simp only [Op3.cells, List.mem_cons, List.not_mem_nil, or_false] at hv
  rcases hv with rfl | rfl | rfl <;> rfl
def zerosP : List Value := [.bool false, .int .u64 0, .int .i64 0]
set_option maxRecDepth 100000 in
theorem list3 {α : Type} {l : List α} (h : l.length = 3) : ∃ a b c, l = [a, b, c] := by
  match l, h with
  | [a, b, c], _ => exact ⟨a, b, c, rfl⟩
section
variable {H : Type} {enc : TypeId × Value → H}
set_option maxRecDepth 100000 in
theorem cellsI3 : Try.prog.cellsOf 3 = 1 := by kernel_rfl
set_option maxRecDepth 100000 in
theorem cellsU3 : Try.prog.cellsOf 22 = 1 := by kernel_rfl
set_option maxRecDepth 100000 in
theorem cellsB3 : Try.prog.cellsOf 4 = 1 := by kernel_rfl
end
end Go.Proofs.Ytplnmjdafchjbaa

/- What package bit is to answer, whatever its writers and readers are made of. -/
namespace Go.Proofs.Ytplnmjdafchjbaa
open Go.RowKit
set_option linter.unusedVariables false

end Go.Proofs.Ytplnmjdafchjbaa

/- Bits in bytes, one by one: the bytes when one bit more is written; a bit read off the bytes. -/
namespace Go.Proofs.Ytplnmjdafchjbaa
set_option linter.unusedVariables false

set_option maxRecDepth 100000 in
/-- One bit more, at the beginning of a byte. -/
theorem pack_new (V : List Bool) (b : Bool) (h : V.length % 8 = 0) : pack (V ++ [b]) = pack V ++ [if b then 128 else 0] := by
  have hf : fill V = V := by unfold fill; rw [h]; simp
  have hk : (V.length + 7) / 8 = V.length / 8 := by omega
  have hf2 : fill (V ++ [b]) = V ++ (b :: List.replicate 7 false) := by
    unfold fill
    rw [List.length_append, show (8 - (V.length + [b].length) % 8) % 8 = 7 from by simp; omega, List.append_assoc]
    rfl
  unfold pack
  rw [List.length_append, hf, hf2, hk, show (V.length + [b].length + 7) / 8 = V.length / 8 + 1 from by simp; omega, pk_succ]
  have h8 : 8 * (V.length / 8) = V.length := by omega
  have e1 : pk (V.length / 8) (V ++ (b :: List.replicate 7 false)) = pk (V.length / 8) V := by
    have key : ∀ (k : Nat) (l m : List Bool), l.length = 8 * k → pk k (l ++ m) = pk k l := by
      intro k
      induction k with
      | zero => intro l m _; rfl
      | succ k ih =>
        intro l m hl
        rw [pk, pk, List.take_append_of_le_length (by omega), List.drop_append_of_le_length (by omega), ih _ _ (by rw [List.length_drop]; omega)]
    exact key _ _ _ (by omega)
  have e2 : (V ++ (b :: List.replicate 7 false)).drop (8 * (V.length / 8)) = b :: List.replicate 7 false := by
    rw [h8]
    exact List.drop_left
  rw [e1, e2]
  cases b <;> rfl
set_option maxRecDepth 100000 in
theorem pk_append : ∀ (k : Nat) (l m : List Bool), l.length = 8 * k → ∀ j, pk (k + j) (l ++ m) = pk k l ++ pk j m
  | 0, l, m, h, j => by rw [List.eq_nil_of_length_eq_zero h, Nat.zero_add]; rfl
  | k + 1, l, m, h, j => by
    rw [show k + 1 + j = (k + j) + 1 from by omega, pk, pk, List.take_append_of_le_length (by omega), List.drop_append_of_le_length (by omega), pk_append k _ m (by rw [List.length_drop]; omega) j]
    rfl
set_option maxRecDepth 100000 in
theorem num_fill (l : List Bool) (n : Nat) : num (l ++ List.replicate n false) = num l * 2 ^ n := by
  rw [num_app, num_zeros, List.length_replicate, Nat.add_zero]
set_option maxRecDepth 100000 in
/-- Its last byte, when it is not full. -/
theorem pack_last (V : List Bool) (r : Nat) (hr : V.length % 8 = r) (h0 : 0 < r) : ∃ U X, V = U ++ X ∧ U.length = 8 * (V.length / 8) ∧ X.length = r ∧ pack V = pk (V.length / 8) U ++ [UInt8.ofNat (num X * 2 ^ (8 - r))] := by
  refine ⟨V.take (8 * (V.length / 8)), V.drop (8 * (V.length / 8)), (List.take_append_drop _ _).symm, by rw [List.length_take]; omega, by rw [List.length_drop]; omega, ?_⟩
  unfold pack
  have hf : fill V = V.take (8 * (V.length / 8)) ++ (V.drop (8 * (V.length / 8)) ++ List.replicate (8 - r) false) := by
    unfold fill
    rw [← List.append_assoc, List.take_append_drop, hr, Nat.mod_eq_of_lt (by omega)]
  rw [hf, show (V.length + 7) / 8 = V.length / 8 + 1 from by omega, pk_append _ _ _ (by rw [List.length_take]; omega) 1]
  congr 1
  show [UInt8.ofNat (num ((V.drop (8 * (V.length / 8)) ++ List.replicate (8 - r) false).take 8))] = _
  rw [List.take_of_length_le (by rw [List.length_append, List.length_drop, List.length_replicate]; omega), num_fill]
set_option maxRecDepth 100000 in
/-- One bit more, within a byte: the last byte grows by the bit's weight. -/
theorem pack_old (V : List Bool) (b : Bool) (r : Nat) (hr : V.length % 8 = r) (h0 : 0 < r) : ∃ P c, pack V = P ++ [c] ∧ P.length = V.length / 8 ∧ c.toNat % 2 ^ (8 - r) = 0 ∧ pack (V ++ [b]) = P ++ [UInt8.ofNat (c.toNat + (if b then 2 ^ (7 - r) else 0))] := by
  obtain ⟨U, X, hV, hU, hX, hp⟩ := pack_last V r hr h0
  have hnx := num_lt X
  rw [hX] at hnx
  have hpow : 2 ^ r * 2 ^ (8 - r) = 256 := by rw [← Nat.pow_add, show r + (8 - r) = 8 from by omega]
  have hc : num X * 2 ^ (8 - r) < 256 := by
    rw [← hpow]
    exact Nat.mul_lt_mul_of_pos_right hnx (Nat.pow_pos (by omega))
  have hcn : (UInt8.ofNat (num X * 2 ^ (8 - r))).toNat = num X * 2 ^ (8 - r) := by rw [UInt8.toNat_ofNat']; exact Nat.mod_eq_of_lt hc
  refine ⟨pk (V.length / 8) U, _, hp, pk_len _ _, by rw [hcn]; exact Nat.mul_mod_left _ _, ?_⟩
  rw [hcn]
  have h2 : 2 ^ (8 - r) = 2 * 2 ^ (7 - r) := by rw [show 8 - r = (7 - r) + 1 from by omega, Nat.pow_succ, Nat.mul_comm]
  have hnum : num (X ++ [b]) * 2 ^ (7 - r) = num X * 2 ^ (8 - r) + (if b then 2 ^ (7 - r) else 0) := by
    rw [num_snoc, h2, Nat.add_mul, Nat.mul_comm 2 (num X), Nat.mul_assoc]
    cases b <;> simp
  rw [← hnum]
  have hl2 : (V ++ [b]).length = V.length + 1 := by simp
  by_cases h7 : r = 7
  · subst h7
    have hU2 : (U ++ (X ++ [b])).length = 8 * (V.length / 8 + 1) := by rw [List.length_append, List.length_append, hU, hX]; simp; omega
    have hf : fill (V ++ [b]) = U ++ (X ++ [b]) := by
      unfold fill
      rw [hl2, show (8 - (V.length + 1) % 8) % 8 = 0 from by omega, hV, List.append_assoc]
      simp
    unfold pack
    rw [hl2, hf, show (V.length + 1 + 7) / 8 = V.length / 8 + 1 from by omega, pk_append _ _ _ hU 1]
    congr 1
    show [UInt8.ofNat (num ((X ++ [b]).take 8))] = _
    rw [List.take_of_length_le (by rw [List.length_append, hX]; simp), show 7 - 7 = 0 from rfl, Nat.pow_zero, Nat.mul_one]
  · have hf : fill (V ++ [b]) = U ++ ((X ++ [b]) ++ List.replicate (7 - r) false) := by
      unfold fill
      rw [hl2, show (8 - (V.length + 1) % 8) % 8 = 7 - r from by omega, hV]
      simp [List.append_assoc]
    unfold pack
    rw [hl2, hf, show (V.length + 1 + 7) / 8 = V.length / 8 + 1 from by omega, pk_append _ _ _ hU 1]
    congr 1
    show [UInt8.ofNat (num (((X ++ [b]) ++ List.replicate (7 - r) false).take 8))] = _
    rw [List.take_of_length_le (by rw [List.length_append, List.length_append, hX, List.length_replicate]; simp; omega), num_fill]
set_option maxRecDepth 100000 in
theorem bN_get : ∀ (k n j : Nat), j < k → (bN n k)[j]? = some (decide (n / 2 ^ (k - 1 - j) % 2 = 1))
  | 0, n, j, h => by omega
  | k + 1, n, 0, _ => by rw [bN_cons]; rfl
  | k + 1, n, j + 1, h => by
    rw [bN_cons, List.getElem?_cons_succ, bN_get k n j (by omega), show k + 1 - 1 - (j + 1) = k - 1 - j from by omega]
set_option maxRecDepth 100000 in
/-- A bit of bytes. -/
theorem unp_get : ∀ (b : List UInt8) (i : Nat) (h : i / 8 < b.length), (unp b)[i]? = some (decide (b[i / 8].toNat / 2 ^ (7 - i % 8) % 2 = 1))
  | [], i, h => by simp at h
  | c :: b, i, h => by
    rw [unp_cons]
    rcases Nat.lt_or_ge i 8 with hi | hi
    · rw [List.getElem?_append_left (by rw [bN_len]; exact hi), bN_get 8 _ i hi]
      have e : i / 8 = 0 := by omega
      have e2 : i % 8 = i := by omega
      simp only [e, e2, List.getElem_cons_zero]
    · rw [List.getElem?_append_right (by rw [bN_len]; exact hi), bN_len, unp_get b (i - 8) (by simp at h; omega)]
      have e : i / 8 = (i - 8) / 8 + 1 := by omega
      have e2 : i % 8 = (i - 8) % 8 := by omega
      simp only [e, e2, List.getElem_cons_succ]
set_option maxRecDepth 100000 in
/-- Taken bit by bit. -/
theorem num_take (l : List Bool) (k : Nat) (b : Bool) (h : l[k]? = some b) : num (l.take (k + 1)) = 2 * num (l.take k) + b.toNat := by
  obtain ⟨hl, e⟩ := List.getElem?_eq_some_iff.1 h
  rw [List.take_succ_eq_append_getElem hl, e, num_snoc]
set_option maxRecDepth 100000 in
/-- A number's bits, written from the highest on. -/
theorem bN_take (n k j : Nat) (h : j < k) : (bN n k).take (j + 1) = (bN n k).take j ++ [decide (n / 2 ^ (k - 1 - j) % 2 = 1)] := by
  obtain ⟨hl, e⟩ := List.getElem?_eq_some_iff.1 (bN_get k n j h)
  rw [List.take_succ_eq_append_getElem hl, e]
end Go.Proofs.Ytplnmjdafchjbaa

/- Package bit: clamp, at, Left. -/
namespace Go.Proofs.Ytplnmjdafchjbaa
open Go.RowKit
set_option linter.unusedVariables false
set_option linter.unusedSimpArgs false

set_option maxRecDepth 100000 in
set_option maxHeartbeats 2000000 in
theorem bclamp_calls (n : Int) (h : Nat) (hh : h ≤ 100000) (w : World) :
    Calls Try.prog 98 #[.int .i64 n, .int .i64 (h : Int)] w (fun e w' => e = .returned (.int .i64 (hld n h : Int)) ∧ w = w') := by
  by_cases h0 : n < 0
  · have e : hld n h = 0 := by unfold hld; rw [if_pos h0]
    have h1 : ¬ 0 < n := by omega
    have h2 : n ≤ 0 := by omega
    have h3 : ¬ 0 ≤ n := by omega
    rw [e]
    go_enter Try.func98, Try.ntmps98
    go_wp2
    go_ret
    exact ⟨by first | rfl | (simp; omega) | (simp [Int.max_def, Int.min_def, h0, h1, h2, h3]; omega), rfl⟩
  · by_cases h1 : (h : Int) < n
    · have e : hld n h = h := by unfold hld; rw [if_neg h0, if_pos h1]
      have h2 : ¬ n ≤ (h : Int) := by omega
      have h3 : 0 ≤ n := by omega
      rw [e]
      go_enter Try.func98, Try.ntmps98
      go_wp2
      go_ret
      exact ⟨by first | rfl | (simp; omega) | (simp [Int.max_def, Int.min_def, h0, h1, h2, h3]; omega), rfl⟩
    · have e : (hld n h : Int) = n := by unfold hld; rw [if_neg h0, if_neg h1]; omega
      have h2 : n ≤ (h : Int) := by omega
      have h3 : 0 ≤ n := by omega
      rw [e]
      go_enter Try.func98, Try.ntmps98
      go_wp2
      go_ret
      exact ⟨by first | rfl | (simp; omega) | (simp [Int.max_def, Int.min_def, h0, h1, h2, h3]; omega), rfl⟩

/-- The reader at block q has the bytes b, of which k bits were read. -/
structure Rb (w : World) (q : Nat) (A : Option Addr) (c : Nat) (b : List UInt8) (k : Nat) : Prop where
  blk : Blk w q [.slice A b.length c, .int .i64 (k : Int)] 109
  rd : RdF w (fun i => i = q) A b.length b
  cap : b.length ≤ c
  max : c ≤ maxLen
  big : b.length ≤ 140737488355328
  read : k ≤ 8 * b.length
set_option maxRecDepth 100000 in
theorem Rb.below {w w' : World} {q c k : Nat} {A : Option Addr} {b : List UInt8} (h : Rb w q A c b k) (hb : Below w.heap.size w w') : Rb w' q A c b k :=
  ⟨h.blk.below hb h.blk.lt, h.rd.below hb, h.cap, h.max, h.big, h.read⟩
set_option maxRecDepth 100000 in
theorem bit_nat (x s : Nat) (hx : x < 256) : bits .and .u8 ((x / 2 ^ s : Nat) : Int) 1 = ((x / 2 ^ s % 2 : Nat) : Int) := by
  show IntKind.u8.wrap ((BitVec.ofInt 8 ((x / 2 ^ s : Nat) : Int) &&& BitVec.ofInt 8 1).toNat : Int) = _
  have hy : x / 2 ^ s < 256 := Nat.lt_of_le_of_lt (Nat.div_le_self _ _) hx
  generalize x / 2 ^ s = y at hy ⊢
  have e1 : (BitVec.ofInt 8 (y : Int)).toNat = y := by rw [BitVec.toNat_ofInt]; omega
  have e2 : (BitVec.ofInt 8 1).toNat = 1 := by decide
  rw [BitVec.toNat_and, e1, e2, Nat.and_one_is_mod, IntKind.wrap_u8]
  omega
set_option maxRecDepth 100000 in
set_option maxHeartbeats 2000000 in
theorem bat_calls (w : World) (q : Nat) (A : Option Addr) (c : Nat) (b : List UInt8) (k : Nat) (hR : Rb w q A c b k) (i : Nat) (v : Bool) (hv : (unp b)[i]? = some v) :
    Calls Try.prog 97 #[.pointer (some ⟨q, 0, none⟩), .int .i64 (i : Int)] w (fun e w' => e = .returned (.int .u8 (v.toNat : Int)) ∧ w = w') := by
  have hc0 : w.cell? ⟨q, 0, none⟩ = some (.slice A b.length c) := hR.blk.cell 0
  have hil : i < 8 * b.length := by have := (List.getElem?_eq_some_iff.1 hv).1; rwa [unp_len] at this
  have hj : i / 8 < b.length := by omega
  rw [unp_get b i hj] at hv
  have hbig := hR.big
  obtain ⟨g, off, rfl, _, hlt, hc⟩ := hR.rd.2 (by omega)
  obtain ⟨j, hjj⟩ : ∃ z, z = i / 8 := ⟨_, rfl⟩
  obtain ⟨s, hs⟩ : ∃ z, z = 7 - i % 8 := ⟨_, rfl⟩
  obtain ⟨N, hN⟩ : ∃ z, z = b.length := ⟨_, rfl⟩
  have hcj := hc j (by omega)
  have hs7 : s ≤ 7 := by omega
  obtain ⟨x, hx⟩ : ∃ z, z = b[j].toNat := ⟨_, rfl⟩
  rw [← hx] at hcj
  have hx8 : x < 256 := by rw [hx]; exact b[j].toNat_lt
  obtain ⟨y, hy⟩ : ∃ z, z = x / 2 ^ s := ⟨_, rfl⟩
  obtain ⟨z, hz⟩ : ∃ z, z = y % 2 := ⟨_, rfl⟩
  have hvz : v.toNat = z := by
    injection hv with hv
    subst hjj
    rw [← hv, hz, hy, hx, hs]
    have h2 : b[i / 8].toNat / 2 ^ (7 - i % 8) % 2 < 2 := Nat.mod_lt _ (by omega)
    by_cases h1 : b[i / 8].toNat / 2 ^ (7 - i % 8) % 2 = 1
    · rw [decide_eq_true h1, h1]; rfl
    · rw [decide_eq_false h1]; show 0 = _; omega
  rw [hvz]
  have q1 : Int.tdiv (i : Int) 8 = (j : Int) := by rw [Int.tdiv_eq_ediv_of_nonneg (by omega)]; omega
  have q2 : (i : Int) / 8 = (j : Int) := by omega
  obtain ⟨m, hm⟩ : ∃ z, z = i % 8 := ⟨_, rfl⟩
  have q3 : Int.tmod (i : Int) 8 = (m : Int) := by rw [Int.tmod_eq_emod_of_nonneg (by omega)]; omega
  have q4 : (i : Int) % 8 = (m : Int) := by omega
  have q5 : (7 : Int) - (m : Int) = (s : Int) := by omega
  have q6 : (x : Int) / 2 ^ s = (y : Int) := by rw [hy, Int.natCast_ediv, Int.natCast_pow]; rfl
  have q7 : bits .and .u8 (y : Int) 1 = (z : Int) := by rw [hz, hy]; exact bit_nat x s hx8
  have hjN : j < N := by omega
  rw [← hN] at hc0 hbig
  have hi63 : i < 4611686018427387904 := by omega
  have HH := Lib.hid hR
  clear hR hv hvz hx hy hz hc hs hjj hm hN hil hj
  go_enter Try.func97, Try.ntmps97
  go_wp2
  go_ret
  exact ⟨rfl, rfl⟩
set_option maxRecDepth 100000 in
set_option maxHeartbeats 2000000 in
theorem bleft_calls (w : World) (q : Nat) (A : Option Addr) (c : Nat) (b : List UInt8) (k : Nat) (hR : Rb w q A c b k) (m : Nat) (hm : 8 * b.length = k + m) :
    Calls Try.prog 63 #[.pointer (some ⟨q, 0, none⟩)] w (Ret w (.int .i64 (m : Int))) := by
  have hc0 : w.cell? ⟨q, 0, none⟩ = some (.slice A b.length c) := hR.blk.cell 0
  have hc1 : w.cell? ⟨q, 1, none⟩ = some (.int .i64 (k : Int)) := hR.blk.cell 1
  have hbig := hR.big
  obtain ⟨N, hN⟩ : ∃ z, z = b.length := ⟨_, rfl⟩
  rw [← hN] at hc0 hm hbig
  clear hR hN
  have q1 : (8 : Int) * (N : Int) - (k : Int) = (m : Int) := by omega
  go_enter Try.func63, Try.ntmps63
  go_wp2
  go_region
  all_goals go_wp2
  all_goals go_ret
  all_goals exact ⟨rfl, below_drewN (Below.refl _ _) 1⟩
end Go.Proofs.Ytplnmjdafchjbaa
