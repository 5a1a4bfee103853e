/- Merged texts: HdrR. -/
import Derived.Test.YthpigninbeommaaDoorMav
/- What Parse reads of 80 bytes, of fewer, of more. -/
namespace Go.Proofs.YthpigninbeommaaDoor
open Go.RowKit
set_option linter.unusedVariables false
set_option linter.unusedSimpArgs false

set_option maxRecDepth 100000 in
theorem prsL_ok : ∀ (ns : List Nat) (l : List UInt8), ns.sum ≤ l.length → prsL l 0 ns = (l.drop ns.sum, 0)
  | [], l, _ => by simp [prsL]
  | n :: ns, l, h => by
    rw [List.sum_cons] at h
    have h1 := tk_ok l n (by omega)
    rw [prsL, h1.2.1, h1.2.2, prsL_ok ns (l.drop n) (by rw [List.length_drop]; omega), List.drop_drop, List.sum_cons]
set_option maxRecDepth 100000 in
theorem prsL_err : ∀ (ns : List Nat) (l : List UInt8) (e : Nat), e ≠ 0 → prsL l e ns = (l, e)
  | [], _, _, _ => rfl
  | n :: ns, l, e, h => by
    have h1 := tk_err l e n h
    rw [prsL, h1.2.1, h1.2.2, prsL_err ns l e h]
set_option maxRecDepth 100000 in
theorem prsL_short : ∀ (ns : List Nat) (l : List UInt8), l.length < ns.sum → (prsL l 0 ns).2 = 2
  | [], l, h => by simp at h
  | n :: ns, l, h => by
    rw [List.sum_cons] at h
    by_cases hn : n ≤ l.length
    · have h1 := tk_ok l n hn
      rw [prsL, h1.2.1, h1.2.2]
      exact prsL_short ns (l.drop n) (by rw [List.length_drop]; omega)
    · have h1 := tk_short l n (by omega)
      rw [prsL, h1.2.1, h1.2.2, prsL_err ns l 2 (by omega)]
set_option maxRecDepth 100000 in
theorem prsE_short (L : List UInt8) (h : L.length < 80) : prsE L = 2 := by
  have h1 : (prsAt L 6).2 = 2 := prsL_short [4, 32, 32, 4, 4, 4] L (by simpa using h)
  unfold prsE ndE
  rw [h1]
  simp
set_option maxRecDepth 100000 in
theorem prsE_long (L : List UInt8) (h : 80 < L.length) : prsE L = 3 := by
  have h1 : prsAt L 6 = (L.drop 80, 0) := prsL_ok [4, 32, 32, 4, 4, 4] L (by simp; omega)
  unfold prsE ndE
  rw [h1, if_pos ⟨rfl, by simp; omega⟩]
set_option maxRecDepth 100000 in
theorem prsE_ok (L : List UInt8) (h : L.length = 80) : prsE L = 0 := by
  have h1 : prsAt L 6 = (L.drop 80, 0) := prsL_ok [4, 32, 32, 4, 4, 4] L (by simp; omega)
  unfold prsE ndE
  rw [h1, if_neg (by simp; omega)]
set_option maxRecDepth 100000 in
theorem prsH_bad (L : List UInt8) (h : prsE L ≠ 0) : prsH L = Hd.zero := by unfold prsH; rw [if_neg h]
/-- The header that 80 bytes are. -/
def prsD (L : List UInt8) : Hd := ⟨numL (tkV (L.drop 0) 0 4), (L.drop 4).take 32, (L.drop 36).take 32, numL (tkV (L.drop 68) 0 4), numL (tkV (L.drop 72) 0 4), numL (tkV (L.drop 76) 0 4)⟩
set_option maxRecDepth 100000 in
theorem prsD_ok (L : List UInt8) (h : L.length = 80) : (prsD L).ok :=
  ⟨tk4_lt _ _, by simp [prsD]; omega, by simp [prsD]; omega, tk4_lt _ _, tk4_lt _ _, tk4_lt _ _⟩
set_option maxRecDepth 100000 in
theorem hsh_ok (l : List UInt8) (h : 32 ≤ l.length) : hsh l 0 = l.take 32 := by
  unfold hsh
  rw [(tk_ok l 32 h).1, List.length_take, Nat.min_eq_left h]
  simp
set_option maxRecDepth 100000 in
theorem prsH_ok (L : List UInt8) (h : L.length = 80) : prsH L = prsD L := by
  have a0 : prsAt L 0 = (L.drop 0, 0) := prsL_ok [] L (by simp)
  have a1 : prsAt L 1 = (L.drop 4, 0) := prsL_ok [4] L (by simp; omega)
  have a2 : prsAt L 2 = (L.drop 36, 0) := prsL_ok [4, 32] L (by simp; omega)
  have a3 : prsAt L 3 = (L.drop 68, 0) := prsL_ok [4, 32, 32] L (by simp; omega)
  have a4 : prsAt L 4 = (L.drop 72, 0) := prsL_ok [4, 32, 32, 4] L (by simp; omega)
  have a5 : prsAt L 5 = (L.drop 76, 0) := prsL_ok [4, 32, 32, 4, 4] L (by simp; omega)
  unfold prsH
  rw [if_pos (prsE_ok L h)]
  unfold prsN prsX prsD
  rw [a0, a1, a2, a3, a4, a5, hsh_ok _ (by rw [List.length_drop]; omega), hsh_ok _ (by rw [List.length_drop]; omega)]
set_option maxRecDepth 100000 in
theorem little4 (L : List UInt8) (k : Nat) (h : k + 4 ≤ L.length) : little (numL (tkV (L.drop k) 0 4)) 4 = (L.drop k).take 4 := by
  rw [(tk_ok (L.drop k) 4 (by rw [List.length_drop]; omega)).1]
  have := little_numL ((L.drop k).take 4)
  rw [List.length_take, List.length_drop, Nat.min_eq_left (by omega)] at this
  exact this
set_option maxRecDepth 100000 in
theorem cut_at (L : List UInt8) (k n : Nat) : (L.drop k).take n ++ L.drop (k + n) = L.drop k := by
  rw [← List.drop_drop]; exact List.take_append_drop n (L.drop k)
set_option maxRecDepth 100000 in
theorem prsD_bytes (L : List UInt8) (h : L.length = 80) : (prsD L).bytes = L := by
  unfold prsD Hd.bytes
  simp only
  rw [little4 L 0 (by omega), little4 L 68 (by omega), little4 L 72 (by omega), little4 L 76 (by omega)]
  have e1 := cut_at L 76 4
  have e2 := cut_at L 72 4
  have e3 := cut_at L 68 4
  have e4 := cut_at L 36 32
  have e5 := cut_at L 4 32
  have e6 := cut_at L 0 4
  rw [List.drop_of_length_le (show L.length ≤ 76 + 4 by omega), List.append_nil] at e1
  rw [e1]
  show _ ++ (_ ++ (_ ++ (_ ++ (_ ++ L.drop (72 + 4))))) = L
  rw [e2]
  show _ ++ (_ ++ (_ ++ (_ ++ L.drop (68 + 4)))) = L
  rw [e3]
  show _ ++ (_ ++ (_ ++ L.drop (36 + 32))) = L
  rw [e4]
  show _ ++ (_ ++ L.drop (4 + 32)) = L
  rw [e5]
  show _ ++ L.drop (0 + 4) = L
  rw [e6]
  rfl
set_option maxRecDepth 100000 in
theorem prs_back (h : Hd) (o : h.ok) : prsE h.bytes = 0 ∧ prsH h.bytes = h := by
  have hl := Hd.bytes_len o
  refine ⟨prsE_ok _ hl, ?_⟩
  rw [prsH_ok _ hl]
  exact Hd.bytes_inj (prsD_ok _ hl) o (prsD_bytes _ hl)
end Go.Proofs.YthpigninbeommaaDoor
