/- Plain mathematics of layer 6: counts and their bytes; what a reader is left with. Nothing of the program is named here. -/
import Derived.Test.YthkkllcpogagiaaPlain
namespace Go.Proofs.Ythkkllcpogagiaa

/-- How many bytes follow the first byte of the count n. -/
def more (n : Nat) : Nat := if n < 253 then 0 else if n < 65536 then 2 else if n < 4294967296 then 4 else 8
/-- The first byte of the count n. -/
def headB (n : Nat) : UInt8 := if n < 253 then UInt8.ofNat n else if n < 65536 then 253 else if n < 4294967296 then 254 else 255
/-- The bytes of the count n. -/
def cnt (n : Nat) : List UInt8 := headB n :: little n (more n)
/-- How many bytes follow a first byte. -/
def foll (c : UInt8) : Nat := if c = 253 then 2 else if c = 254 then 4 else if c = 255 then 8 else 0
/-- The number that bytes spell as a count. -/
def cval (c : UInt8) (r : List UInt8) : Nat := if foll c = 0 then c.toNat else numL (r.take (foll c))
/-- The count with which bytes begin (0 if none), how many bytes it has (0 if none), and the error. -/
def first (l : List UInt8) (most : Nat) : Nat × Nat × Nat :=
  match l with
  | [] => (0, 0, 2)
  | c :: r => if r.length < foll c then (0, 0, 2) else if foll c ≠ more (cval c r) then (0, 0, 3) else if most < cval c r then (0, 0, 4) else (cval c r, 1 + foll c, 0)
/-- What is taken as n bytes, what is left, and the error. -/
def tkV (l : List UInt8) (e n : Nat) : List UInt8 := if e = 0 ∧ n ≤ l.length then l.take n else []
def tkL (l : List UInt8) (e n : Nat) : List UInt8 := if e = 0 ∧ n ≤ l.length then l.drop n else l
def tkE (l : List UInt8) (e n : Nat) : Nat := if e = 0 then (if n ≤ l.length then 0 else 2) else e
/-- What is taken as a count, what is left, and the error. -/
def cvV (l : List UInt8) (e most : Nat) : Nat := if e = 0 then (first l most).1 else 0
def cvL (l : List UInt8) (e most : Nat) : List UInt8 := if e = 0 then l.drop (first l most).2.1 else l
def cvE (l : List UInt8) (e most : Nat) : Nat := if e = 0 then (first l most).2.2 else e
/-- What is taken as a text, what is left, and the error. -/
def txV (l : List UInt8) (e most : Nat) : List UInt8 := tkV (cvL l e most) (cvE l e most) (cvV l e most)
def txE (l : List UInt8) (e most : Nat) : Nat := tkE (cvL l e most) (cvE l e most) (cvV l e most)
def txL (l : List UInt8) (e most : Nat) : List UInt8 := if txE l e most = 0 then tkL (cvL l e most) (cvE l e most) (cvV l e most) else l

set_option maxRecDepth 100000 in
theorem foll_le (c : UInt8) : foll c ≤ 8 := by unfold foll; (repeat' split) <;> omega
set_option maxRecDepth 100000 in
theorem more_le (n : Nat) : more n ≤ 8 := by unfold more; (repeat' split) <;> omega
set_option maxRecDepth 100000 in
@[simp] theorem cnt_len (n : Nat) : (cnt n).length = 1 + more n := by simp [cnt]; omega
set_option maxRecDepth 100000 in
theorem cval_lt (c : UInt8) (r : List UInt8) : cval c r < 18446744073709551616 := by
  unfold cval
  split
  · have := c.toNat_lt; omega
  · have h1 := numL_lt (r.take (foll c))
    have h2 : (r.take (foll c)).length ≤ 8 := by rw [List.length_take]; have := foll_le c; omega
    have h3 := Nat.pow_le_pow_right (n := 256) (by omega) h2
    have h4 : 256 ^ 8 = 18446744073709551616 := by decide
    omega
set_option maxRecDepth 100000 in
theorem little_numL (l : List UInt8) : little (numL l) l.length = l := by
  induction l with
  | nil => rfl
  | cons c r ih =>
    rw [List.length_cons, little_succ, numL]
    have hc := c.toNat_lt
    congr 1
    · apply UInt8.toNat_inj.1
      rw [ofNat_toNat]
      omega
    · rw [show (c.toNat + 256 * numL r) / 256 = numL r from by omega]
      exact ih
set_option maxRecDepth 100000 in
theorem head_more (n : Nat) : (more n = 0 → n < 253) ∧ (more n = 2 → headB n = 253) ∧ (more n = 4 → headB n = 254) ∧ (more n = 8 → headB n = 255) := by
  unfold more headB
  by_cases h1 : n < 253
  · simp [h1]
  · by_cases h2 : n < 65536
    · simp [h1, h2]
    · by_cases h3 : n < 4294967296
      · simp [h1, h2, h3]
      · simp [h1, h2, h3]
set_option maxRecDepth 100000 in
theorem foll_more {c : UInt8} {r : List UInt8} (hl : foll c ≤ r.length) (h : foll c = more (cval c r)) : c :: r.take (foll c) = cnt (cval c r) := by
  unfold cnt
  have hlen : (r.take (foll c)).length = foll c := by rw [List.length_take]; omega
  by_cases h0 : foll c = 0
  · have hv : cval c r = c.toNat := by simp [cval, h0]
    rw [hv, h0] at h
    rw [hv]
    have hlt : c.toNat < 253 := by unfold more at h; split at h; assumption; split at h; omega; split at h <;> omega
    rw [h0, ← h]
    simp [headB, hlt, little]
  · have hv : cval c r = numL (r.take (foll c)) := by simp [cval, h0]
    have hlit : little (cval c r) (more (cval c r)) = r.take (foll c) := by
      rw [← h, hv]
      have := little_numL (r.take (foll c))
      rw [hlen] at this
      exact this
    rw [hlit]
    congr 1
    have hh := head_more (cval c r)
    unfold foll at h h0
    by_cases e1 : c = 253
    · rw [if_pos e1] at h
      exact e1.trans (hh.2.1 h.symm).symm
    · by_cases e2 : c = 254
      · rw [if_neg e1, if_pos e2] at h
        exact e2.trans (hh.2.2.1 h.symm).symm
      · by_cases e3 : c = 255
        · rw [if_neg e1, if_neg e2, if_pos e3] at h
          exact e3.trans (hh.2.2.2 h.symm).symm
        · rw [if_neg e1, if_neg e2, if_neg e3] at h0
          exact absurd rfl h0
set_option maxRecDepth 100000 in
/-- Bytes spell a count just if they are its bytes. -/
theorem spell_iff {c : UInt8} {r : List UInt8} (hl : foll c ≤ r.length) : cnt (cval c r) = c :: r.take (foll c) ↔ foll c = more (cval c r) := by
  constructor
  · intro h
    have := congrArg List.length h
    rw [cnt_len, List.length_cons, List.length_take] at this
    omega
  · exact fun h => (foll_more hl h).symm
set_option maxRecDepth 100000 in
theorem first_ok {l : List UInt8} {most : Nat} (h : (first l most).2.2 = 0) : l = cnt (first l most).1 ++ l.drop (first l most).2.1 ∧ (first l most).1 ≤ most ∧ (first l most).2.1 ≤ l.length ∧ (first l most).1 < 18446744073709551616 := by
  unfold first at h ⊢
  match l with
  | [] => simp at h
  | c :: r =>
    simp only at h ⊢
    split at h
    · simp at h
    · split at h
      · simp at h
      · split at h
        · simp at h
        · rename_i h1 h2 h3
          rw [if_neg h1, if_neg h2, if_neg h3]
          have h2' : foll c = more (cval c r) := by omega
          refine ⟨?_, by omega, by simp; omega, cval_lt c r⟩
          show c :: r = cnt (cval c r) ++ (c :: r).drop (1 + foll c)
          rw [← foll_more (by omega) h2', Nat.add_comm 1, List.drop_succ_cons, List.cons_append, List.take_append_drop]
set_option maxRecDepth 100000 in
theorem first_err {l : List UInt8} {most : Nat} (h : (first l most).2.2 ≠ 0) : (first l most).1 = 0 ∧ (first l most).2.1 = 0 := by
  unfold first at h ⊢
  match l with
  | [] => simp
  | c :: r =>
    simp only at h ⊢
    split
    · simp
    · split
      · simp
      · split
        · simp
        · rename_i h1 h2 h3
          rw [if_neg h1, if_neg h2, if_neg h3] at h
          simp at h
set_option maxRecDepth 100000 in
theorem first_le (l : List UInt8) (most : Nat) : (first l most).2.1 ≤ l.length ∧ (first l most).1 ≤ most ∧ (first l most).1 < 18446744073709551616 ∧ (first l most).2.2 ≤ 4 := by
  refine ⟨?_, ?_, ?_, ?_⟩
  · by_cases h : (first l most).2.2 = 0
    · exact (first_ok h).2.2.1
    · rw [(first_err h).2]; omega
  · by_cases h : (first l most).2.2 = 0
    · exact (first_ok h).2.1
    · rw [(first_err h).1]; omega
  · by_cases h : (first l most).2.2 = 0
    · exact (first_ok h).2.2.2
    · rw [(first_err h).1]; omega
  · unfold first
    match l with
    | [] => simp
    | c :: r => simp only; (repeat' split) <;> simp only [Nat.le_refl, Nat.reduceLeDiff, Nat.zero_le]
set_option maxRecDepth 100000 in
theorem foll_head (n : Nat) : foll (headB n) = more n := by
  unfold foll headB more
  split
  · rename_i h
    have hn : ∀ c : UInt8, 253 ≤ c.toNat → UInt8.ofNat n ≠ c := fun c hc e => by
      have := congrArg UInt8.toNat e
      rw [ofNat_toNat] at this
      omega
    rw [if_neg (hn 253 (by decide)), if_neg (hn 254 (by decide)), if_neg (hn 255 (by decide))]
  · split
    · rfl
    · split <;> rfl
set_option maxRecDepth 100000 in
theorem cval_cnt (n : Nat) (hn : n < 18446744073709551616) (r : List UInt8) : cval (headB n) (little n (more n) ++ r) = n := by
  unfold cval
  rw [foll_head, List.take_append_of_le_length (by simp), List.take_of_length_le (by simp), numL_little]
  split
  · rename_i h
    have hlt : n < 253 := by unfold more at h; split at h; assumption; split at h; omega; split at h <;> omega
    unfold headB
    rw [if_pos hlt, ofNat_toNat]
    omega
  · rename_i h
    apply Nat.mod_eq_of_lt
    unfold more
    split
    · rename_i h1; simp [more, h1] at h
    · split
      · show n < 65536; assumption
      · split
        · show n < 4294967296; assumption
        · show n < 18446744073709551616; exact hn
set_option maxRecDepth 100000 in
theorem first_cnt (n most : Nat) (hn : n < 18446744073709551616) (hm : n ≤ most) (r : List UInt8) : first (cnt n ++ r) most = (n, 1 + more n, 0) := by
  have hv := cval_cnt n hn r
  unfold first cnt
  simp only [List.cons_append, hv, foll_head]
  rw [if_neg (by simp), if_neg (by omega), if_neg (by omega)]
set_option maxRecDepth 100000 in
theorem drop_cnt (n : Nat) (r : List UInt8) : (cnt n ++ r).drop (1 + more n) = r := by
  rw [← cnt_len n, List.drop_left]
end Go.Proofs.Ythkkllcpogagiaa
