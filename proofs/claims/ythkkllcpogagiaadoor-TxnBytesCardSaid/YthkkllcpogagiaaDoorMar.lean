/- Merged texts: TxnM TxnO. -/
import Derived.Test.YthkkllcpogagiaaDoorMao
import Derived.Test.YthkkllcpogagiaaDoorMaq
import Derived.Test.YthkkllcpogagiaaDoorMab
import Derived.Lib.SmallJoins
import Derived.Deep.Slices
import Derived.OpenShut
/- Plain mathematics of layer 14: a transaction's bytes, and back; what it pays. -/
namespace Go.Proofs.YthkkllcpogagiaaDoor
set_option linter.unusedVariables false
set_option linter.unusedSimpArgs false

/-- An output's bytes. -/
def oenc (o : Nat × List UInt8) : List UInt8 := little o.1 8 ++ (cnt o.2.length ++ o.2)
/-- The bytes of outputs. -/
def osenc (O : List (Nat × List UInt8)) : List UInt8 := (O.map oenc).flatten
set_option maxRecDepth 100000 in
theorem osenc_nil : osenc [] = [] := rfl
set_option maxRecDepth 100000 in
theorem osenc_cons (o : Nat × List UInt8) (O : List (Nat × List UInt8)) : osenc (o :: O) = oenc o ++ osenc O := rfl
set_option maxRecDepth 100000 in
theorem osenc_snoc (O : List (Nat × List UInt8)) (o : Nat × List UInt8) : osenc (O ++ [o]) = osenc O ++ oenc o := by simp [osenc]
/-- A transaction's bytes. -/
def tenc (s : Nat) (O : List (Nat × List UInt8)) : List UInt8 := ([1] ++ (little s 8 ++ cnt O.length)) ++ osenc O
/-- Is an item too long? -/
def long (O : List (Nat × List UInt8)) : Bool := O.any fun o => decide (64 < o.2.length)
def tbE (s : Nat) (O : List (Nat × List UInt8)) : Nat := if 8 < O.length then 4 else if long O = true then 4 else if (tenc s O).length = 64 then 3 else 0
def tbB (s : Nat) (O : List (Nat × List UInt8)) : List UInt8 := if tbE s O = 0 then tenc s O else []
set_option maxRecDepth 100000 in
theorem long_no {O : List (Nat × List UInt8)} (h : long O = false) : ∀ o ∈ O, o.2.length ≤ 64 := fun o ho => by
  unfold long at h
  rw [List.any_eq_false] at h
  have := h o ho
  simp at this
  exact this
set_option maxRecDepth 100000 in
theorem long_of {O : List (Nat × List UInt8)} (h : ∀ o ∈ O, o.2.length ≤ 64) : long O = false := by
  unfold long
  rw [List.any_eq_false]
  intro o ho
  have := h o ho
  simp
  exact this
set_option maxRecDepth 100000 in
theorem tbE_ok {s : Nat} {O : List (Nat × List UInt8)} (h : tbE s O = 0) : O.length ≤ 8 ∧ (∀ o ∈ O, o.2.length ≤ 64) ∧ (tenc s O).length ≠ 64 := by
  unfold tbE at h
  split at h
  · omega
  · split at h
    · omega
    · rename_i h1 h2
      split at h
      · omega
      · rename_i h3
        exact ⟨by omega, long_no (by simpa using h2), h3⟩
set_option maxRecDepth 100000 in
theorem tbE_of {s : Nat} {O : List (Nat × List UInt8)} (h1 : O.length ≤ 8) (h2 : ∀ o ∈ O, o.2.length ≤ 64) (h3 : (tenc s O).length ≠ 64) : tbE s O = 0 := by
  unfold tbE
  rw [if_neg (by omega), if_neg (by rw [long_of h2]; simp), if_neg h3]
/-- So many outputs, read off bytes; what is left; the error. -/
def ogo : Nat → List UInt8 → Nat → List (Nat × List UInt8) × List UInt8 × Nat
  | 0, l, e => ([], l, e)
  | k + 1, l, e => ((numL (tkV l e 8), txV (tkL l e 8) (tkE l e 8) 64) :: (ogo k (txL (tkL l e 8) (tkE l e 8) 64) (txE (tkL l e 8) (tkE l e 8) 64)).1, (ogo k (txL (tkL l e 8) (tkE l e 8) 64) (txE (tkL l e 8) (tkE l e 8) 64)).2)
/-- What Parse reads behind the first byte: the salt, the outputs, what is left, the error. -/
def tgoS (l : List UInt8) : Nat := numL (tkV (tkL l 0 1) (tkE l 0 1) 8)
def tgo (l : List UInt8) : List (Nat × List UInt8) × List UInt8 × Nat :=
  ogo (cvV (tkL (tkL l 0 1) (tkE l 0 1) 8) (tkE (tkL l 0 1) (tkE l 0 1) 8) 8) (cvL (tkL (tkL l 0 1) (tkE l 0 1) 8) (tkE (tkL l 0 1) (tkE l 0 1) 8) 8) (cvE (tkL (tkL l 0 1) (tkE l 0 1) 8) (tkE (tkL l 0 1) (tkE l 0 1) 8) 8)
/-- The error of Parse. -/
def tpE (l : List UInt8) : Nat :=
  if l.length = 64 then 3 else if tkE l 0 1 = 0 ∧ numL (tkV l 0 1) ≠ 1 then 3 else if (tgo l).2.2 ≠ 0 then (tgo l).2.2 else if 0 < (tgo l).2.1.length then 3 else 0
def tpS (l : List UInt8) : Nat := if tpE l = 0 then tgoS l else 0
def tpO (l : List UInt8) : List (Nat × List UInt8) := if tpE l = 0 then (tgo l).1 else []

set_option maxRecDepth 100000 in
theorem tk_back {l : List UInt8} {e n : Nat} (h : tkE l e n = 0) : e = 0 ∧ l = tkV l e n ++ tkL l e n ∧ (tkV l e n).length = n := by
  unfold tkE at h
  by_cases he : e = 0
  · subst he
    rw [if_pos rfl] at h
    by_cases hn : n ≤ l.length
    · unfold tkV tkL
      rw [if_pos ⟨rfl, hn⟩, if_pos ⟨rfl, hn⟩]
      exact ⟨rfl, (List.take_append_drop n l).symm, by rw [List.length_take]; omega⟩
    · rw [if_neg hn] at h; omega
  · rw [if_neg he] at h; exact absurd h he
set_option maxRecDepth 100000 in
theorem cv_back {l : List UInt8} {e m : Nat} (h : cvE l e m = 0) : e = 0 ∧ l = cnt (cvV l e m) ++ cvL l e m ∧ cvV l e m ≤ m := by
  unfold cvE at h
  by_cases he : e = 0
  · subst he
    rw [if_pos rfl] at h
    obtain ⟨h1, h2, _⟩ := first_ok h
    unfold cvV cvL
    rw [if_pos rfl, if_pos rfl]
    exact ⟨rfl, h1, h2⟩
  · rw [if_neg he] at h; exact absurd h he
set_option maxRecDepth 100000 in
theorem tx_back {l : List UInt8} {e m : Nat} (h : txE l e m = 0) : e = 0 ∧ l = cnt (txV l e m).length ++ txV l e m ++ txL l e m ∧ (txV l e m).length ≤ m := by
  have h' := h
  unfold txE at h'
  obtain ⟨h1, h2, h3⟩ := tk_back h'
  obtain ⟨h4, h5, h6⟩ := cv_back h1
  have e1 : txV l e m = tkV (cvL l e m) (cvE l e m) (cvV l e m) := rfl
  have e2 : txL l e m = tkL (cvL l e m) (cvE l e m) (cvV l e m) := by unfold txL; rw [if_pos h]
  rw [← e1] at h2 h3
  rw [← e2] at h2
  refine ⟨h4, ?_, by rw [h3]; exact h6⟩
  rw [h3, List.append_assoc, ← h2]
  exact h5
set_option maxRecDepth 100000 in
theorem numL_64 {l : List UInt8} (h : l.length ≤ 8) : numL l < 18446744073709551616 := by
  have h1 := numL_lt l
  have h2 : 256 ^ l.length ≤ 256 ^ 8 := Nat.pow_le_pow_right (by omega) h
  have h3 : (256 : Nat) ^ 8 = 18446744073709551616 := by decide
  omega
set_option maxRecDepth 100000 in
theorem little_back {l : List UInt8} (h : l.length = 8) : little (numL l) 8 = l := by rw [← h]; exact little_numL l
set_option maxRecDepth 100000 in
theorem ogo_back : ∀ (k : Nat) (l : List UInt8) (e : Nat), (ogo k l e).2.2 = 0 → e = 0 ∧ l = osenc (ogo k l e).1 ++ (ogo k l e).2.1 ∧ (ogo k l e).1.length = k ∧ ∀ o ∈ (ogo k l e).1, o.1 < 18446744073709551616 ∧ o.2.length ≤ 64
  | 0, l, e, h => ⟨h, rfl, rfl, fun o ho => by simp [ogo] at ho⟩
  | k + 1, l, e, h => by
    obtain ⟨h1, h2, h3, h4⟩ := ogo_back k _ _ h
    obtain ⟨g1, g2, g3⟩ := tx_back h1
    obtain ⟨f1, f2, f3⟩ := tk_back g1
    refine ⟨f1, ?_, by show _ + 1 = _; rw [h3], fun o ho => ?_⟩
    · show l = osenc ((numL (tkV l e 8), txV (tkL l e 8) (tkE l e 8) 64) :: _) ++ _
      rw [osenc_cons, List.append_assoc]
      show l = oenc _ ++ (osenc (ogo k (txL (tkL l e 8) (tkE l e 8) 64) (txE (tkL l e 8) (tkE l e 8) 64)).1 ++ (ogo k (txL (tkL l e 8) (tkE l e 8) 64) (txE (tkL l e 8) (tkE l e 8) 64)).2.1)
      rw [← h2]
      unfold oenc
      rw [little_back f3, List.append_assoc, ← g2]
      exact f2
    · rcases List.mem_cons.1 ho with rfl | ho
      · exact ⟨numL_64 (by rw [f3]; omega), g3⟩
      · exact h4 o ho
set_option maxRecDepth 100000 in
theorem cv_cntM (n most : Nat) (hn : n < 18446744073709551616) (hm : n ≤ most) (r : List UInt8) : cvV (cnt n ++ r) 0 most = n ∧ cvL (cnt n ++ r) 0 most = r ∧ cvE (cnt n ++ r) 0 most = 0 := by
  simp only [cvV, cvL, cvE, if_true, first_cnt n most hn hm r, drop_cnt, and_self]
set_option maxRecDepth 100000 in
theorem tk_appM (l r : List UInt8) (n : Nat) (h : l.length = n) : tkV (l ++ r) 0 n = l ∧ tkL (l ++ r) 0 n = r ∧ tkE (l ++ r) 0 n = 0 := by
  have h' : n ≤ (l ++ r).length := by rw [List.length_append]; omega
  subst h
  simp [tkV, tkL, tkE]
set_option maxRecDepth 100000 in
theorem tx_textM (l r : List UInt8) (most : Nat) (h : l.length ≤ most) (hm : l.length < 18446744073709551616) : txV (cnt l.length ++ (l ++ r)) 0 most = l ∧ txL (cnt l.length ++ (l ++ r)) 0 most = r ∧ txE (cnt l.length ++ (l ++ r)) 0 most = 0 := by
  have hc := cv_cntM l.length most hm h (l ++ r)
  have ht := tk_appM l r l.length rfl
  unfold txL txV txE
  rw [hc.1, hc.2.1, hc.2.2]
  exact ⟨ht.1, by rw [if_pos ht.2.2]; exact ht.2.1, ht.2.2⟩
set_option maxRecDepth 100000 in
theorem ogo_enc : ∀ (O : List (Nat × List UInt8)) (r : List UInt8), (∀ o ∈ O, o.1 < 18446744073709551616 ∧ o.2.length ≤ 64) → ogo O.length (osenc O ++ r) 0 = (O, r, 0)
  | [], r, _ => rfl
  | o :: O, r, h => by
    obtain ⟨h1, h2⟩ := h o (by simp)
    have ih := ogo_enc O r (fun x hx => h x (by simp [hx]))
    have e : osenc (o :: O) ++ r = little o.1 8 ++ (cnt o.2.length ++ (o.2 ++ (osenc O ++ r))) := by
      rw [osenc_cons]
      unfold oenc
      simp only [List.append_assoc]
    obtain ⟨a1, a2, a3⟩ := tk_appM (little o.1 8) (cnt o.2.length ++ (o.2 ++ (osenc O ++ r))) 8 (little_len _ _)
    obtain ⟨b1, b2, b3⟩ := tx_textM o.2 (osenc O ++ r) 64 h2 (by omega)
    rw [List.length_cons, e]
    unfold ogo
    have hp : (256 : Nat) ^ 8 = 18446744073709551616 := by decide
    rw [a1, a2, a3, b1, b2, b3, ih, numL_little, Nat.mod_eq_of_lt (by omega)]
set_option maxRecDepth 100000 in
theorem tenc_read (s : Nat) (O : List (Nat × List UInt8)) : tkV (tenc s O) 0 1 = [1] ∧ tkL (tenc s O) 0 1 = little s 8 ++ (cnt O.length ++ osenc O) ∧ tkE (tenc s O) 0 1 = 0 := by
  have e : tenc s O = [1] ++ (little s 8 ++ (cnt O.length ++ osenc O)) := by unfold tenc; simp only [List.append_assoc]
  rw [e]
  exact tk_appM [1] _ 1 rfl
set_option maxRecDepth 100000 in
theorem tgo_enc (s : Nat) (O : List (Nat × List UInt8)) (hs : s < 18446744073709551616) (h8 : O.length ≤ 8) (h : ∀ o ∈ O, o.1 < 18446744073709551616 ∧ o.2.length ≤ 64) : tgoS (tenc s O) = s ∧ tgo (tenc s O) = (O, [], 0) := by
  obtain ⟨a1, a2, a3⟩ := tenc_read s O
  obtain ⟨b1, b2, b3⟩ := tk_appM (little s 8) (cnt O.length ++ osenc O) 8 (little_len _ _)
  obtain ⟨c1, c2, c3⟩ := cv_cntM O.length 8 (by omega) h8 (osenc O)
  have hp : (256 : Nat) ^ 8 = 18446744073709551616 := by decide
  have ho := ogo_enc O [] h
  rw [List.append_nil] at ho
  unfold tgoS tgo
  rw [a2, a3, b1, b2, b3, c1, c2, c3, numL_little, Nat.mod_eq_of_lt (by omega)]
  exact ⟨rfl, ho⟩
set_option maxRecDepth 100000 in
/-- A right transaction's bytes are read back. -/
theorem tp_enc (s : Nat) (O : List (Nat × List UInt8)) (hs : s < 18446744073709551616) (hv : ∀ o ∈ O, o.1 < 18446744073709551616) (h : tbE s O = 0) : tpE (tenc s O) = 0 ∧ tpS (tenc s O) = s ∧ tpO (tenc s O) = O := by
  obtain ⟨h1, h2, h3⟩ := tbE_ok h
  obtain ⟨a1, a2, a3⟩ := tenc_read s O
  obtain ⟨g1, g2⟩ := tgo_enc s O hs h1 fun o ho => ⟨hv o ho, h2 o ho⟩
  have e : tpE (tenc s O) = 0 := by
    unfold tpE
    rw [if_neg h3, a1, if_neg (by rintro ⟨_, k⟩; exact k rfl), g2]
    rfl
  unfold tpS tpO
  rw [if_pos e, if_pos e, g1, g2]
  exact ⟨e, rfl, rfl⟩
set_option maxRecDepth 100000 in
/-- Bytes that are read are just that transaction's. -/
theorem tp_back {l : List UInt8} (h : tpE l = 0) : tenc (tpS l) (tpO l) = l ∧ tbE (tpS l) (tpO l) = 0 ∧ tpS l < 18446744073709551616 ∧ ∀ o ∈ tpO l, o.1 < 18446744073709551616 ∧ o.2.length ≤ 64 := by
  have hS : tpS l = tgoS l := by unfold tpS; rw [if_pos h]
  have hO : tpO l = (tgo l).1 := by unfold tpO; rw [if_pos h]
  unfold tpE at h
  split at h
  · omega
  · rename_i h64
    split at h
    · omega
    · rename_i hv
      split at h
      · rename_i h1
        exact absurd h h1
      · rename_i h1
        have h1 : (tgo l).2.2 = 0 := by omega
        split at h
        · omega
        · rename_i h2
          have hnil : (tgo l).2.1 = [] := List.eq_nil_of_length_eq_zero (by omega)
          obtain ⟨a1, a2, a3, a4⟩ := ogo_back _ _ _ h1
          obtain ⟨b1, b2, b3⟩ := cv_back a1
          obtain ⟨c1, c2, c3⟩ := tk_back b1
          obtain ⟨d1, d2, d3⟩ := tk_back c1
          have hone : numL (tkV l 0 1) = 1 := by
            by_cases k : numL (tkV l 0 1) = 1
            · exact k
            · exact absurd ⟨c1, k⟩ hv
          have h1b : tkV l 0 1 = [1] := by
            have := little_numL (tkV l 0 1)
            rw [hone, d3] at this
            rw [← this]
            rfl
          have hlen : (tgo l).1.length = cvV (tkL (tkL l 0 1) (tkE l 0 1) 8) (tkE (tkL l 0 1) (tkE l 0 1) 8) 8 := a3
          have a2' : cvL (tkL (tkL l 0 1) (tkE l 0 1) 8) (tkE (tkL l 0 1) (tkE l 0 1) 8) 8 = osenc (tgo l).1 := by
            have : cvL (tkL (tkL l 0 1) (tkE l 0 1) 8) (tkE (tkL l 0 1) (tkE l 0 1) 8) 8 = osenc (tgo l).1 ++ (tgo l).2.1 := a2
            rw [hnil, List.append_nil] at this
            exact this
          have henc : tenc (tgoS l) (tgo l).1 = l := by
            unfold tenc tgoS
            rw [little_back c3, hlen, ← a2', ← h1b]
            simp only [List.append_assoc]
            rw [← b2, ← c2, ← d2]
          rw [hS, hO]
          have h8 : (tgo l).1.length ≤ 8 := by rw [hlen]; exact b3
          have h5 : ∀ o ∈ (tgo l).1, o.1 < 18446744073709551616 ∧ o.2.length ≤ 64 := a4
          exact ⟨henc, tbE_of h8 (fun o ho => (h5 o ho).2) (by rw [henc]; exact h64), numL_64 (by rw [c3]; omega), h5⟩
/-- What is paid to an item. -/
def paid (t : List UInt8) (O : List (Nat × List UInt8)) : Nat := (O.filter fun o => decide (o.2 = t)).foldl (fun a o => a + o.1) 0
def pays (t : List UInt8) (O : List (Nat × List UInt8)) : Bool := O.any fun o => decide (o.2 = t)
set_option maxRecDepth 100000 in
theorem paid_snoc (t : List UInt8) (O : List (Nat × List UInt8)) (o : Nat × List UInt8) : paid t (O ++ [o]) = paid t O + (if o.2 = t then o.1 else 0) := by
  unfold paid
  rw [List.filter_append, List.foldl_append]
  by_cases h : o.2 = t
  · simp [h]
  · simp [h]
set_option maxRecDepth 100000 in
theorem pays_snoc (t : List UInt8) (O : List (Nat × List UInt8)) (o : Nat × List UInt8) : pays t (O ++ [o]) = (pays t O || decide (o.2 = t)) := by
  unfold pays
  simp
end Go.Proofs.YthkkllcpogagiaaDoor

/- Transactions that came in, as they are read off the row's data; slices of outputs. -/
namespace Go.Proofs.YthkkllcpogagiaaDoor
open Go.RowKit Go.ChangeShapes Go.WideShapes Go.ChangeAt Go.Deep
set_option linter.unusedVariables false
set_option linter.unusedSimpArgs false

/-- Values that are outputs. -/
def OutV (w : World) (V : List (List Value)) (O : List (Nat × List UInt8)) : Prop :=
  V.length = O.length ∧ ∀ i (h : i < V.length) (h2 : i < O.length), ∃ A m c, V[i] = [.int .u64 (O[i].1 : Int), .slice A m c] ∧ m ≤ c ∧ c ≤ maxLen ∧ Rd w A m O[i].2 ∧ O[i].1 < 18446744073709551616
set_option maxRecDepth 100000 in
theorem OutV.nil (w : World) : OutV w [] [] := ⟨rfl, fun i h => absurd h (by simp)⟩
set_option maxRecDepth 100000 in
theorem OutV.below {w W : World} {V : List (List Value)} {O : List (Nat × List UInt8)} (h : OutV w V O) (hb : Below w.heap.size w W) : OutV W V O :=
  ⟨h.1, fun i h1 h2 => by
    obtain ⟨A, m, c, e, k1, k2, k3, k4⟩ := h.2 i h1 h2
    exact ⟨A, m, c, e, k1, k2, k3.below hb, k4⟩⟩
/-- The slice of n outputs that begins at A reads O. -/
def RdT (w : World) (A : Option Addr) (n : Nat) (O : List (Nat × List UInt8)) : Prop := ∃ V, RdG w 2 A n V ∧ OutV w V O
set_option maxRecDepth 100000 in
theorem RdT.below {w W : World} {A : Option Addr} {n : Nat} {O : List (Nat × List UInt8)} (h : RdT w A n O) (hb : Below w.heap.size w W) : RdT W A n O := by
  obtain ⟨V, h1, h2⟩ := h
  exact ⟨V, h1.below hb, h2.below hb⟩
set_option maxRecDepth 100000 in
theorem RdT.len {w : World} {A : Option Addr} {n : Nat} {O : List (Nat × List UInt8)} (h : RdT w A n O) : O.length = n := by
  obtain ⟨V, h1, h2⟩ := h
  rw [← h2.1, h1.1]
set_option maxRecDepth 100000 in
theorem RdT.nil (w : World) (A : Option Addr) : RdT w A 0 [] := ⟨[], RdG.nil _ _ _, OutV.nil _⟩
set_option maxRecDepth 100000 in
theorem RdT.at_ {w : World} {A : Option Addr} {n : Nat} {O : List (Nat × List UInt8)} (h : RdT w A n O) {i : Nat} (hi : i < n) :
    ∃ b off, ∃ hl : i < O.length, A = some ⟨b, off, none⟩ ∧ b < w.heap.size ∧ ∃ X m c, w.rangeAt b (off + i * 2) [.int .u64 (O[i].1 : Int), .slice X m c] ∧ m ≤ c ∧ c ≤ maxLen ∧ Rd w X m O[i].2 ∧ O[i].1 < 18446744073709551616 := by
  have hln := h.len
  obtain ⟨V, h1, h2⟩ := h
  obtain ⟨b, off, hl, e, hlt, hr⟩ := h1.at_ hi
  obtain ⟨X, m, c, e2, k⟩ := h2.2 i hl (by omega)
  rw [e2] at hr
  exact ⟨b, off, by omega, e, hlt, X, m, c, hr, k⟩
set_option maxRecDepth 100000 in
theorem RdT.all {w : World} {A : Option Addr} {n : Nat} {O : List (Nat × List UInt8)} (h : RdT w A n O) : ∀ o ∈ O, o.1 < 18446744073709551616 := fun o ho => by
  obtain ⟨V, h1, h2⟩ := h
  obtain ⟨i, hi, rfl⟩ := List.getElem_of_mem ho
  obtain ⟨_, _, _, _, _, _, _, k⟩ := h2.2 i (by rw [h2.1]; exact hi) hi
  exact k
set_option maxRecDepth 100000 in
theorem list2 {α : Type} {l : List α} (h : l.length = 2) : ∃ a b, l = [a, b] := by
  match l, h with
  | [a, b], _ => exact ⟨a, b, rfl⟩
section
variable {H : Type} {enc : TypeId × Value → H}
set_option maxRecDepth 100000 in
theorem cellsU2 : Tryd.prog.cellsOf 22 = 1 := by kernel_rfl
set_option maxRecDepth 100000 in
theorem cellsBy2 : Tryd.prog.cellsOf 28 = 1 := by kernel_rfl
set_option maxRecDepth 100000 in
theorem cellsOut : Tryd.prog.cellsOf 46 = 2 := by kernel_rfl
set_option maxRecDepth 100000 in
/-- A byte slice in a field. -/
theorem open_fieldB {W : World} {base fuel : Nat} {sp : Nat → Bool} {held : Bool} {v : Value} {y : DataW H × List MemPlace} (h : DataW.trod enc Tryd.prog W base sp held fuel 28 [v] = some y) :
    ∃ A len cap l, v = .slice A len cap ∧ Rd W A len l ∧ len ≤ cap ∧ cap ≤ maxLen := by
  rcases open_ints Tryd.underlying28 Tryd.underlying5 (by kernel_rfl) h with ⟨hcs, _⟩ | ⟨x, l, c, zs, hcs, _, hl, hm, hz, hx, hcell, hwz⟩
  · injection hcs with hcs
    exact ⟨none, 0, 0, [], hcs, Rd.nil _ _, by omega, by unfold maxLen; omega⟩
  · injection hcs with hcs
    refine ⟨some x, l, c, bytesOf zs l, hcs, ?_, hl, hm⟩
    have hzl : l ≤ zs.length := by rw [hz]; split <;> omega
    exact rd_ints_at hcell hzl rfl hwz
set_option maxRecDepth 100000 in
/-- An output that came in. -/
theorem open_out {W : World} {base fuel : Nat} {sp : Nat → Bool} {held : Bool} {c0 c1 : Value} {y : DataW H × List MemPlace} (h : DataW.trod enc Tryd.prog W base sp held fuel 46 [c0, c1] = some y) :
    ∃ (o : Nat × List UInt8) (A : Option Addr) (m c : Nat), c0 = .int .u64 (o.1 : Int) ∧ c1 = .slice A m c ∧ m ≤ c ∧ c ≤ maxLen ∧ Rd W A m o.2 ∧ o.1 < 18446744073709551616 := by
  obtain ⟨y0, y1, n, _, _, t0, t1⟩ := trod_struct2 Tryd.underlying46 h
  simp only [cellsU2, cellsBy2, List.drop, List.take] at t0 t1
  obtain ⟨N, eN, _, wN⟩ := DataW.trod_int Tryd.underlying22 t0
  obtain ⟨B, bl, bc, lb, rfl, hB, h1, h2⟩ := open_fieldB t1
  injection eN with eN
  subst eN
  have b2 := bounds_u64 wN
  obtain ⟨N, rfl⟩ := Int.eq_ofNat_of_zero_le b2.1
  exact ⟨(N, lb), B, bl, bc, rfl, rfl, h1, h2, hB, (show N < 18446744073709551616 by omega)⟩
set_option maxRecDepth 100000 in
/-- A list of outputs that came in. -/
theorem open_outs {W : World} {fuel : Nat} {sp : Nat → Bool} {held : Bool} {v : Value} {y : DataW H × List MemPlace} (hf : DataW.trod enc Tryd.prog W 0 sp held fuel 23 [v] = some y) :
    ∃ a len cap O, v = .slice a len cap ∧ RdT W a len O ∧ len ≤ cap ∧ cap ≤ maxLen := by
  rcases open_slice Tryd.underlying23 hf with ⟨hcs, _⟩ | ⟨x, l, c, m, n, D, Pl, hcs, _, hl, hm, hmm, _, he⟩
  · injection hcs with hcs
    exact ⟨none, 0, 0, [], hcs, RdT.nil _ _, by omega, by unfold maxLen; omega⟩
  · injection hcs with hcs
    have hlm : l ≤ m := by rw [hmm]; split <;> omega
    obtain ⟨b, off, spot⟩ := x
    have key : ∀ i, i < l → ∃ z : List Value × (Nat × List UInt8), (∀ j v, z.1[j]? = some v → W.cell? (((⟨b, off, spot⟩ : Addr).add (i * 2)).add j) = some v) ∧ z.1.length = 2 ∧ ∃ A m c, z.1 = [.int .u64 (z.2.1 : Int), .slice A m c] ∧ m ≤ c ∧ c ≤ maxLen ∧ Rd W A m z.2.2 ∧ z.2.1 < 18446744073709551616 := by
      intro i hi
      obtain ⟨cs', h1, h2⟩ := he i (by omega)
      rw [cellsOut] at h1
      obtain ⟨_, hlen, hc⟩ := World.cells?_some h1
      obtain ⟨c0, c1, rfl⟩ := list2 hlen
      obtain ⟨o, A, m, c, e0, e1, k⟩ := open_out h2
      refine ⟨([c0, c1], o), fun j v hv => ?_, rfl, A, m, c, by rw [e0, e1], k⟩
      have hj : j < 2 := by have := (List.getElem?_eq_some_iff.1 hv).1; simpa using this
      rw [hc j hj]
      exact hv
    obtain ⟨f, hfk⟩ := choose_lt (α := List Value × (Nat × List UInt8)) key
    refine ⟨some ⟨b, off, spot⟩, l, c, (List.range l).map fun i => (f i).2, hcs, ⟨(List.range l).map fun i => (f i).1, ⟨by simp, fun x hx => ?_, fun hn => ?_⟩, by simp, fun i h1 h2 => ?_⟩, hl, hm⟩
    · obtain ⟨i, hi, rfl⟩ := List.mem_map.1 hx
      exact (hfk i (List.mem_range.1 hi)).2.1
    · have h0 := hfk 0 hn
      have h00 : (f 0).1[0]? = some (.int .u64 ((f 0).2.1 : Int)) := by
        obtain ⟨A, m, c, e, _⟩ := h0.2.2
        rw [e]; rfl
      have hspot : spot = none := by
        have := h0.1 0 _ h00
        simpa [Addr.add] using World.cell?_spot this
      subst hspot
      have hlt : b < W.heap.size := by
        have := h0.1 0 _ h00
        have h2 := lt_of_cell this
        simpa [Addr.add] using h2
      refine ⟨b, off, rfl, hlt, fun j hj => ?_⟩
      have hj' : j < l := by simpa using hj
      rw [List.getElem_map, List.getElem_range]
      intro i v hv
      have := (hfk j hj').1 i v hv
      rw [Addr.add_mid, Addr.add_mid] at this
      exact this
    · rw [List.getElem_map, List.getElem_map, List.getElem_range]
      exact (hfk i (by simpa using h1)).2.2
set_option maxRecDepth 100000 in
/-- A transaction that came in. -/
theorem open_tx {W : World} {sp : Nat → Bool} {held : Bool} {r : Reach} {b0 : Nat} {v : Value} {d : DataW H} {p : List MemPlace} (hv : Value.okWide Tryd.prog W r b0 25 v) (h : DataW.Trod enc Tryd.prog W 0 sp held 25 v d p) :
    ∃ (s : Nat) (A : Option Addr) (n c : Nat) (O : List (Nat × List UInt8)), v = .agg #[.int .u64 (s : Int), .slice A n c] ∧ s < 18446744073709551616 ∧ RdT W A n O ∧ n ≤ c ∧ c ≤ maxLen := by
  obtain ⟨x0, x1, y0, y1, nf, rfl, _, _, t0, t1⟩ := Go.Joins.open_agg2 Tryd.underlying25 (by kernel_rfl) (by kernel_rfl) hv h
  obtain ⟨N, eN, _, wN⟩ := DataW.trod_int Tryd.underlying22 t0
  injection eN with eN
  subst eN
  have b2 := bounds_u64 wN
  obtain ⟨N, rfl⟩ := Int.eq_ofNat_of_zero_le b2.1
  obtain ⟨A, n, c, O, rfl, h1, h2, h3⟩ := open_outs t1
  exact ⟨N, A, n, c, O, rfl, (show N < 18446744073709551616 by omega), h1, h2, h3⟩
end

/-- May one be gone through? -/
def sml14 (O : List (Nat × List UInt8)) : Bool := decide (O.length ≤ 20) && O.all fun o => decide (o.2.length ≤ 200)
set_option maxRecDepth 100000 in
theorem sml14_yes {O : List (Nat × List UInt8)} (h : sml14 O = true) : O.length ≤ 20 ∧ ∀ o ∈ O, o.2.length ≤ 200 := by
  unfold sml14 at h
  rw [Bool.and_eq_true, List.all_eq_true] at h
  exact ⟨by simpa using h.1, fun t ht => by simpa using h.2 t ht⟩
set_option maxRecDepth 100000 in
theorem sml14_big {O : List (Nat × List UInt8)} (h : 20 < O.length) : sml14 O = false := by
  unfold sml14
  rw [decide_eq_false (by omega)]
  rfl
set_option maxRecDepth 100000 in
theorem sml14_long {O : List (Nat × List UInt8)} (o : Nat × List UInt8) (h : o ∈ O) (h1 : 200 < o.2.length) : sml14 O = false := by
  unfold sml14
  rw [Bool.and_eq_false_iff]
  right
  rw [List.all_eq_false]
  exact ⟨o, h, by simp; omega⟩
set_option maxRecDepth 100000 in
theorem sml14_so {O : List (Nat × List UInt8)} (h : O.length ≤ 20) (h1 : ∀ j (hj : j < O.length), O[j].2.length ≤ 200) : sml14 O = true := by
  unfold sml14
  rw [decide_eq_true h, Bool.true_and, List.all_eq_true]
  intro t ht
  obtain ⟨j, hj, rfl⟩ := List.getElem_of_mem ht
  simpa using h1 j hj
set_option maxRecDepth 100000 in
set_option maxHeartbeats 2000000 in
theorem tsmall_calls (s : Nat) (A : Option Addr) (n c : Nat) (O : List (Nat × List UInt8)) (w : World) (hr : RdT w A n O) (hn : n ≤ maxLen) :
    Calls Tryd.prog 4 #[.agg #[.int .u64 (s : Int), .slice A n c]] w (Ret w (.bool (sml14 O))) := by
  unfold maxLen at hn
  have hl := hr.len
  have hB0 : Below w.heap.size w (w.alloc (.cells #[.int .u64 (s : Int), .slice A n c] 25)) := (Below.refl _ w).alloc (Nat.le_refl _) _
  by_cases h20 : 20 < n
  · have h20' : (20 : Int) < (n : Int) := by omega
    rw [sml14_big (by omega)]
    clear hr hl
    go_enter Tryd.func4, Tryd.ntmps4
    go_wp2
    go_ret
    exact ⟨rfl, hB0⟩
  · have h20' : ¬ (20 : Int) < (n : Int) := by omega
    have HR := Lib.hid hr
    have HL := Lib.hid hl
    have HB0 := Lib.hid hB0
    clear hr hl hB0
    go_enter Tryd.func4, Tryd.ntmps4
    go_wp2
    go_loopw [12] (fun cv wr => ∃ (i : Nat), i ≤ n ∧ cv = .int .i64 (i : Int) ∧ (∀ j (hj : j < O.length), j < i → O[j].2.length ≤ 200) ∧ Below w.heap.size w wr) (fun cv _ => n - (intOf cv).toNat)
    case atStart => exact ⟨0, Nat.zero_le _, rfl, fun j _ hj => absurd hj (by omega), HB0.out⟩
    case round =>
      obtain ⟨i, hin, rfl, hall, hB⟩ := hrel
      by_cases hlt : i < n
      · have hlt' : (i : Int) < (n : Int) := by omega
        obtain ⟨b, off, hl, rfl, hb, X, m, c', hrg, h1, h2, h3, _⟩ := (HR.out.below hB).at_ hlt
        have sc0 : wr.cell? ⟨b, off + i * 2, none⟩ = some (.int .u64 (O[i].1 : Int)) := hrg 0 _ rfl
        have sc1 : wr.cell? ⟨b, off + i * 2 + 1, none⟩ = some (.slice X m c') := hrg 1 _ rfl
        have hm := h3.len
        unfold maxLen at h2
        clear hrg
        have HBA : Hid (Below w.heap.size w (wr.alloc (.cells #[.int .u64 (O[i].1 : Int), .slice X m c'] 46))) := Lib.hid (below_al hB _)
        by_cases h200 : 200 < m
        · have h200' : (200 : Int) < (m : Int) := by omega
          have HS : Hid (sml14 O = false) := Lib.hid (sml14_long _ (List.getElem_mem hl) (by omega))
          clear h3 hall hm hB
          go_wp2
          go_ret
          rw [HS.out]
          exact ⟨rfl, HBA.out⟩
        · have h200' : ¬ (200 : Int) < (m : Int) := by omega
          have HA : Hid (∀ j (hj : j < O.length), j < i + 1 → O[j].2.length ≤ 200) := Lib.hid fun j hj hji => by
            rcases Nat.lt_or_ge j i with h | h
            · exact hall j hj h
            · have e : j = i := by omega
              subst e
              omega
          clear h3 hall hm hB
          go_wp2
          go_roundw
          case rel => exact ⟨i + 1, by omega, by go_num, HA.out, HBA.out⟩
          case measure => simp [intOf]; omega
      · have hlt' : ¬ (i : Int) < (n : Int) := by omega
        have HS : Hid (sml14 O = true) := Lib.hid (sml14_so (by rw [HL.out]; omega) fun j hj => hall j hj (by have := HL.out; omega))
        have HBB := Lib.hid hB
        clear hall hB
        go_wp2
        go_ret
        rw [HS.out]
        exact ⟨rfl, HBB.out⟩
end Go.Proofs.YthkkllcpogagiaaDoor
