/- Plain mathematics of layer 14: a transaction's bytes, and back; what it pays. -/
import Derived.Test.YthkkllcpogagiaaCodT
namespace Go.Proofs.Ythkkllcpogagiaa
set_option linter.unusedVariables false
set_option linter.unusedSimpArgs false

/-- An output's bytes. -/
def oenc (o : Nat × List UInt8) : List UInt8 := little o.1 8 ++ (cnt o.2.length ++ o.2)
/-- The bytes of outputs. -/
def osenc (O : List (Nat × List UInt8)) : List UInt8 := (O.map oenc).flatten
set_option maxRecDepth 100000 in
theorem osenc_nil : osenc [] = [] := rfl
set_option maxRecDepth 100000 in
theorem osenc_cons (o : Nat × List UInt8) (O : List (Nat × List UInt8)) : osenc (o :: O) = oenc o ++ osenc O := rfl
set_option maxRecDepth 100000 in
theorem osenc_snoc (O : List (Nat × List UInt8)) (o : Nat × List UInt8) : osenc (O ++ [o]) = osenc O ++ oenc o := by simp [osenc]
/-- A transaction's bytes. -/
def tenc (s : Nat) (O : List (Nat × List UInt8)) : List UInt8 := ([1] ++ (little s 8 ++ cnt O.length)) ++ osenc O
/-- Is an item too long? -/
def long (O : List (Nat × List UInt8)) : Bool := O.any fun o => decide (64 < o.2.length)
def tbE (s : Nat) (O : List (Nat × List UInt8)) : Nat := if 8 < O.length then 4 else if long O = true then 4 else if (tenc s O).length = 64 then 3 else 0
def tbB (s : Nat) (O : List (Nat × List UInt8)) : List UInt8 := if tbE s O = 0 then tenc s O else []
set_option maxRecDepth 100000 in
theorem long_no {O : List (Nat × List UInt8)} (h : long O = false) : ∀ o ∈ O, o.2.length ≤ 64 := fun o ho => by
  unfold long at h
  rw [List.any_eq_false] at h
  have := h o ho
  simp at this
  exact this
set_option maxRecDepth 100000 in
theorem long_of {O : List (Nat × List UInt8)} (h : ∀ o ∈ O, o.2.length ≤ 64) : long O = false := by
  unfold long
  rw [List.any_eq_false]
  intro o ho
  have := h o ho
  simp
  exact this
set_option maxRecDepth 100000 in
theorem tbE_ok {s : Nat} {O : List (Nat × List UInt8)} (h : tbE s O = 0) : O.length ≤ 8 ∧ (∀ o ∈ O, o.2.length ≤ 64) ∧ (tenc s O).length ≠ 64 := by
  unfold tbE at h
  split at h
  · omega
  · split at h
    · omega
    · rename_i h1 h2
      split at h
      · omega
      · rename_i h3
        exact ⟨by omega, long_no (by simpa using h2), h3⟩
set_option maxRecDepth 100000 in
theorem tbE_of {s : Nat} {O : List (Nat × List UInt8)} (h1 : O.length ≤ 8) (h2 : ∀ o ∈ O, o.2.length ≤ 64) (h3 : (tenc s O).length ≠ 64) : tbE s O = 0 := by
  unfold tbE
  rw [if_neg (by omega), if_neg (by rw [long_of h2]; simp), if_neg h3]
/-- So many outputs, read off bytes; what is left; the error. -/
def ogo : Nat → List UInt8 → Nat → List (Nat × List UInt8) × List UInt8 × Nat
  | 0, l, e => ([], l, e)
  | k + 1, l, e => ((numL (tkV l e 8), txV (tkL l e 8) (tkE l e 8) 64) :: (ogo k (txL (tkL l e 8) (tkE l e 8) 64) (txE (tkL l e 8) (tkE l e 8) 64)).1, (ogo k (txL (tkL l e 8) (tkE l e 8) 64) (txE (tkL l e 8) (tkE l e 8) 64)).2)
/-- What Parse reads behind the first byte: the salt, the outputs, what is left, the error. -/
def tgoS (l : List UInt8) : Nat := numL (tkV (tkL l 0 1) (tkE l 0 1) 8)
def tgo (l : List UInt8) : List (Nat × List UInt8) × List UInt8 × Nat :=
  ogo (cvV (tkL (tkL l 0 1) (tkE l 0 1) 8) (tkE (tkL l 0 1) (tkE l 0 1) 8) 8) (cvL (tkL (tkL l 0 1) (tkE l 0 1) 8) (tkE (tkL l 0 1) (tkE l 0 1) 8) 8) (cvE (tkL (tkL l 0 1) (tkE l 0 1) 8) (tkE (tkL l 0 1) (tkE l 0 1) 8) 8)
/-- The error of Parse. -/
def tpE (l : List UInt8) : Nat :=
  if l.length = 64 then 3 else if tkE l 0 1 = 0 ∧ numL (tkV l 0 1) ≠ 1 then 3 else if (tgo l).2.2 ≠ 0 then (tgo l).2.2 else if 0 < (tgo l).2.1.length then 3 else 0
def tpS (l : List UInt8) : Nat := if tpE l = 0 then tgoS l else 0
def tpO (l : List UInt8) : List (Nat × List UInt8) := if tpE l = 0 then (tgo l).1 else []

set_option maxRecDepth 100000 in
theorem tk_back {l : List UInt8} {e n : Nat} (h : tkE l e n = 0) : e = 0 ∧ l = tkV l e n ++ tkL l e n ∧ (tkV l e n).length = n := by
  unfold tkE at h
  by_cases he : e = 0
  · subst he
    rw [if_pos rfl] at h
    by_cases hn : n ≤ l.length
    · unfold tkV tkL
      rw [if_pos ⟨rfl, hn⟩, if_pos ⟨rfl, hn⟩]
      exact ⟨rfl, (List.take_append_drop n l).symm, by rw [List.length_take]; omega⟩
    · rw [if_neg hn] at h; omega
  · rw [if_neg he] at h; exact absurd h he
set_option maxRecDepth 100000 in
theorem cv_back {l : List UInt8} {e m : Nat} (h : cvE l e m = 0) : e = 0 ∧ l = cnt (cvV l e m) ++ cvL l e m ∧ cvV l e m ≤ m := by
  unfold cvE at h
  by_cases he : e = 0
  · subst he
    rw [if_pos rfl] at h
    obtain ⟨h1, h2, _⟩ := first_ok h
    unfold cvV cvL
    rw [if_pos rfl, if_pos rfl]
    exact ⟨rfl, h1, h2⟩
  · rw [if_neg he] at h; exact absurd h he
set_option maxRecDepth 100000 in
theorem tx_back {l : List UInt8} {e m : Nat} (h : txE l e m = 0) : e = 0 ∧ l = cnt (txV l e m).length ++ txV l e m ++ txL l e m ∧ (txV l e m).length ≤ m := by
  have h' := h
  unfold txE at h'
  obtain ⟨h1, h2, h3⟩ := tk_back h'
  obtain ⟨h4, h5, h6⟩ := cv_back h1
  have e1 : txV l e m = tkV (cvL l e m) (cvE l e m) (cvV l e m) := rfl
  have e2 : txL l e m = tkL (cvL l e m) (cvE l e m) (cvV l e m) := by unfold txL; rw [if_pos h]
  rw [← e1] at h2 h3
  rw [← e2] at h2
  refine ⟨h4, ?_, by rw [h3]; exact h6⟩
  rw [h3, List.append_assoc, ← h2]
  exact h5
set_option maxRecDepth 100000 in
theorem numL_64 {l : List UInt8} (h : l.length ≤ 8) : numL l < 18446744073709551616 := by
  have h1 := numL_lt l
  have h2 : 256 ^ l.length ≤ 256 ^ 8 := Nat.pow_le_pow_right (by omega) h
  have h3 : (256 : Nat) ^ 8 = 18446744073709551616 := by decide
  omega
set_option maxRecDepth 100000 in
theorem little_back {l : List UInt8} (h : l.length = 8) : little (numL l) 8 = l := by rw [← h]; exact little_numL l
set_option maxRecDepth 100000 in
theorem ogo_back : ∀ (k : Nat) (l : List UInt8) (e : Nat), (ogo k l e).2.2 = 0 → e = 0 ∧ l = osenc (ogo k l e).1 ++ (ogo k l e).2.1 ∧ (ogo k l e).1.length = k ∧ ∀ o ∈ (ogo k l e).1, o.1 < 18446744073709551616 ∧ o.2.length ≤ 64
  | 0, l, e, h => ⟨h, rfl, rfl, fun o ho => by simp [ogo] at ho⟩
  | k + 1, l, e, h => by
    obtain ⟨h1, h2, h3, h4⟩ := ogo_back k _ _ h
    obtain ⟨g1, g2, g3⟩ := tx_back h1
    obtain ⟨f1, f2, f3⟩ := tk_back g1
    refine ⟨f1, ?_, by show _ + 1 = _; rw [h3], fun o ho => ?_⟩
    · show l = osenc ((numL (tkV l e 8), txV (tkL l e 8) (tkE l e 8) 64) :: _) ++ _
      rw [osenc_cons, List.append_assoc]
      show l = oenc _ ++ (osenc (ogo k (txL (tkL l e 8) (tkE l e 8) 64) (txE (tkL l e 8) (tkE l e 8) 64)).1 ++ (ogo k (txL (tkL l e 8) (tkE l e 8) 64) (txE (tkL l e 8) (tkE l e 8) 64)).2.1)
      rw [← h2]
      unfold oenc
      rw [little_back f3, List.append_assoc, ← g2]
      exact f2
    · rcases List.mem_cons.1 ho with rfl | ho
      · exact ⟨numL_64 (by rw [f3]; omega), g3⟩
      · exact h4 o ho
set_option maxRecDepth 100000 in
theorem cv_cntM (n most : Nat) (hn : n < 18446744073709551616) (hm : n ≤ most) (r : List UInt8) : cvV (cnt n ++ r) 0 most = n ∧ cvL (cnt n ++ r) 0 most = r ∧ cvE (cnt n ++ r) 0 most = 0 := by
  simp only [cvV, cvL, cvE, if_true, first_cnt n most hn hm r, drop_cnt, and_self]
set_option maxRecDepth 100000 in
theorem tk_appM (l r : List UInt8) (n : Nat) (h : l.length = n) : tkV (l ++ r) 0 n = l ∧ tkL (l ++ r) 0 n = r ∧ tkE (l ++ r) 0 n = 0 := by
  have h' : n ≤ (l ++ r).length := by rw [List.length_append]; omega
  subst h
  simp [tkV, tkL, tkE]
set_option maxRecDepth 100000 in
theorem tx_textM (l r : List UInt8) (most : Nat) (h : l.length ≤ most) (hm : l.length < 18446744073709551616) : txV (cnt l.length ++ (l ++ r)) 0 most = l ∧ txL (cnt l.length ++ (l ++ r)) 0 most = r ∧ txE (cnt l.length ++ (l ++ r)) 0 most = 0 := by
  have hc := cv_cntM l.length most hm h (l ++ r)
  have ht := tk_appM l r l.length rfl
  unfold txL txV txE
  rw [hc.1, hc.2.1, hc.2.2]
  exact ⟨ht.1, by rw [if_pos ht.2.2]; exact ht.2.1, ht.2.2⟩
set_option maxRecDepth 100000 in
theorem ogo_enc : ∀ (O : List (Nat × List UInt8)) (r : List UInt8), (∀ o ∈ O, o.1 < 18446744073709551616 ∧ o.2.length ≤ 64) → ogo O.length (osenc O ++ r) 0 = (O, r, 0)
  | [], r, _ => rfl
  | o :: O, r, h => by
    obtain ⟨h1, h2⟩ := h o (by simp)
    have ih := ogo_enc O r (fun x hx => h x (by simp [hx]))
    have e : osenc (o :: O) ++ r = little o.1 8 ++ (cnt o.2.length ++ (o.2 ++ (osenc O ++ r))) := by
      rw [osenc_cons]
      unfold oenc
      simp only [List.append_assoc]
    obtain ⟨a1, a2, a3⟩ := tk_appM (little o.1 8) (cnt o.2.length ++ (o.2 ++ (osenc O ++ r))) 8 (little_len _ _)
    obtain ⟨b1, b2, b3⟩ := tx_textM o.2 (osenc O ++ r) 64 h2 (by omega)
    rw [List.length_cons, e]
    unfold ogo
    have hp : (256 : Nat) ^ 8 = 18446744073709551616 := by decide
    rw [a1, a2, a3, b1, b2, b3, ih, numL_little, Nat.mod_eq_of_lt (by omega)]
set_option maxRecDepth 100000 in
theorem tenc_read (s : Nat) (O : List (Nat × List UInt8)) : tkV (tenc s O) 0 1 = [1] ∧ tkL (tenc s O) 0 1 = little s 8 ++ (cnt O.length ++ osenc O) ∧ tkE (tenc s O) 0 1 = 0 := by
  have e : tenc s O = [1] ++ (little s 8 ++ (cnt O.length ++ osenc O)) := by unfold tenc; simp only [List.append_assoc]
  rw [e]
  exact tk_appM [1] _ 1 rfl
set_option maxRecDepth 100000 in
theorem tgo_enc (s : Nat) (O : List (Nat × List UInt8)) (hs : s < 18446744073709551616) (h8 : O.length ≤ 8) (h : ∀ o ∈ O, o.1 < 18446744073709551616 ∧ o.2.length ≤ 64) : tgoS (tenc s O) = s ∧ tgo (tenc s O) = (O, [], 0) := by
  obtain ⟨a1, a2, a3⟩ := tenc_read s O
  obtain ⟨b1, b2, b3⟩ := tk_appM (little s 8) (cnt O.length ++ osenc O) 8 (little_len _ _)
  obtain ⟨c1, c2, c3⟩ := cv_cntM O.length 8 (by omega) h8 (osenc O)
  have hp : (256 : Nat) ^ 8 = 18446744073709551616 := by decide
  have ho := ogo_enc O [] h
  rw [List.append_nil] at ho
  unfold tgoS tgo
  rw [a2, a3, b1, b2, b3, c1, c2, c3, numL_little, Nat.mod_eq_of_lt (by omega)]
  exact ⟨rfl, ho⟩
set_option maxRecDepth 100000 in
/-- A right transaction's bytes are read back. -/
theorem tp_enc (s : Nat) (O : List (Nat × List UInt8)) (hs : s < 18446744073709551616) (hv : ∀ o ∈ O, o.1 < 18446744073709551616) (h : tbE s O = 0) : tpE (tenc s O) = 0 ∧ tpS (tenc s O) = s ∧ tpO (tenc s O) = O := by
  obtain ⟨h1, h2, h3⟩ := tbE_ok h
  obtain ⟨a1, a2, a3⟩ := tenc_read s O
  obtain ⟨g1, g2⟩ := tgo_enc s O hs h1 fun o ho => ⟨hv o ho, h2 o ho⟩
  have e : tpE (tenc s O) = 0 := by
    unfold tpE
    rw [if_neg h3, a1, if_neg (by rintro ⟨_, k⟩; exact k rfl), g2]
    rfl
  unfold tpS tpO
  rw [if_pos e, if_pos e, g1, g2]
  exact ⟨e, rfl, rfl⟩
set_option maxRecDepth 100000 in
/-- Bytes that are read are just that transaction's. -/
theorem tp_back {l : List UInt8} (h : tpE l = 0) : tenc (tpS l) (tpO l) = l ∧ tbE (tpS l) (tpO l) = 0 ∧ tpS l < 18446744073709551616 ∧ ∀ o ∈ tpO l, o.1 < 18446744073709551616 ∧ o.2.length ≤ 64 := by
  have hS : tpS l = tgoS l := by unfold tpS; rw [if_pos h]
  have hO : tpO l = (tgo l).1 := by unfold tpO; rw [if_pos h]
  unfold tpE at h
  split at h
  · omega
  · rename_i h64
    split at h
    · omega
    · rename_i hv
      split at h
      · rename_i h1
        exact absurd h h1
      · rename_i h1
        have h1 : (tgo l).2.2 = 0 := by omega
        split at h
        · omega
        · rename_i h2
          have hnil : (tgo l).2.1 = [] := List.eq_nil_of_length_eq_zero (by omega)
          obtain ⟨a1, a2, a3, a4⟩ := ogo_back _ _ _ h1
          obtain ⟨b1, b2, b3⟩ := cv_back a1
          obtain ⟨c1, c2, c3⟩ := tk_back b1
          obtain ⟨d1, d2, d3⟩ := tk_back c1
          have hone : numL (tkV l 0 1) = 1 := by
            by_cases k : numL (tkV l 0 1) = 1
            · exact k
            · exact absurd ⟨c1, k⟩ hv
          have h1b : tkV l 0 1 = [1] := by
            have := little_numL (tkV l 0 1)
            rw [hone, d3] at this
            rw [← this]
            rfl
          have hlen : (tgo l).1.length = cvV (tkL (tkL l 0 1) (tkE l 0 1) 8) (tkE (tkL l 0 1) (tkE l 0 1) 8) 8 := a3
          have a2' : cvL (tkL (tkL l 0 1) (tkE l 0 1) 8) (tkE (tkL l 0 1) (tkE l 0 1) 8) 8 = osenc (tgo l).1 := by
            have : cvL (tkL (tkL l 0 1) (tkE l 0 1) 8) (tkE (tkL l 0 1) (tkE l 0 1) 8) 8 = osenc (tgo l).1 ++ (tgo l).2.1 := a2
            rw [hnil, List.append_nil] at this
            exact this
          have henc : tenc (tgoS l) (tgo l).1 = l := by
            unfold tenc tgoS
            rw [little_back c3, hlen, ← a2', ← h1b]
            simp only [List.append_assoc]
            rw [← b2, ← c2, ← d2]
          rw [hS, hO]
          have h8 : (tgo l).1.length ≤ 8 := by rw [hlen]; exact b3
          have h5 : ∀ o ∈ (tgo l).1, o.1 < 18446744073709551616 ∧ o.2.length ≤ 64 := a4
          exact ⟨henc, tbE_of h8 (fun o ho => (h5 o ho).2) (by rw [henc]; exact h64), numL_64 (by rw [c3]; omega), h5⟩
/-- What is paid to an item. -/
def paid (t : List UInt8) (O : List (Nat × List UInt8)) : Nat := (O.filter fun o => decide (o.2 = t)).foldl (fun a o => a + o.1) 0
def pays (t : List UInt8) (O : List (Nat × List UInt8)) : Bool := O.any fun o => decide (o.2 = t)
set_option maxRecDepth 100000 in
theorem paid_snoc (t : List UInt8) (O : List (Nat × List UInt8)) (o : Nat × List UInt8) : paid t (O ++ [o]) = paid t O + (if o.2 = t then o.1 else 0) := by
  unfold paid
  rw [List.filter_append, List.foldl_append]
  by_cases h : o.2 = t
  · simp [h]
  · simp [h]
set_option maxRecDepth 100000 in
theorem pays_snoc (t : List UInt8) (O : List (Nat × List UInt8)) (o : Nat × List UInt8) : pays t (O ++ [o]) = (pays t O || decide (o.2 = t)) := by
  unfold pays
  simp
end Go.Proofs.Ythkkllcpogagiaa
