/- Merged texts: ClaY. -/
import Derived.Test.YtpoinhjkdgcnaaaDoorMbc
import Derived.Test.YtpoinhjkdgcnaaaDoorMba
/- Plain mathematics of ClashInner: the first inner node's 64 bytes have a shorter branch. -/
namespace Go.Proofs.YtpoinhjkdgcnaaaDoor
set_option linter.unusedVariables false

set_option maxRecDepth 100000 in
theorem depth_two : depth 2 = 1 := depth_is 2 1 (by decide) (.inr (by decide))
set_option maxRecDepth 100000 in
theorem depth_four : depth 4 = 2 := depth_is 4 2 (by decide) (.inr (by decide))
set_option maxRecDepth 100000 in
theorem depth_34 (n : Nat) (h : n = 3 ∨ n = 4) : depth n = 2 := by
  rcases h with rfl | rfl
  · exact depth3
  · exact depth_four
set_option maxRecDepth 100000 in
/-- How many texts a list of three or four has. -/
theorem txs_34 (T : List (List UInt8)) (h : T.length = 3 ∨ T.length = 4) : (txs T).length = T.length + 3 := by
  have hd := depth_34 _ h
  have e : txs T = txsK T 2 := by rw [← hd]; exact (txsK_all T).symm
  rw [e, ← txsJ_full T 1]
  unfold txsJ
  rw [← txsJ_full T 0]
  unfold txsJ
  rw [txsK_zero, List.length_append, List.length_append, List.length_map, List.length_map, List.length_range, List.length_range]
  rcases h with h | h <;> rw [h] <;> rfl
set_option maxRecDepth 100000 in
/-- The first of them behind the list's own. -/
theorem txs_first (T : List (List UInt8)) (h : T.length = 3 ∨ T.length = 4) : hat (txs T) T.length = tn (sums T) 0 0 := by
  have hd := depth_34 _ h
  have e : txs T = T ++ (tlev (sums T) 0 ++ tlev (sums T) 1) := by
    unfold txs
    rw [hd]
    simp [List.range_succ]
  have hw : wide (sums T).length (0 + 1) = 2 := by
    rw [sums_len]
    rcases h with h | h <;> rw [h] <;> rfl
  have e2 : tlev (sums T) 0 = [tn (sums T) 0 0, tn (sums T) 0 1] := by
    unfold tlev
    rw [hw]
    rfl
  rw [e, e2]
  unfold hat
  rw [List.getD_eq_getElem?_getD, List.getElem?_append_right (Nat.le_refl _), Nat.sub_self]
  rfl
set_option maxRecDepth 100000 in
/-- The level above a list of three or four. -/
theorem abv_34 (S : List (List UInt8)) (h : S.length = 3 ∨ S.length = 4) : abv S = [hat (abv S) 0, hat (abv S) 1] := by
  have hl : (abv S).length = 2 := by rw [abv_len]; omega
  match abv S, hl with
  | [a, b], _ => rfl
set_option maxRecDepth 100000 in
theorem inner_check (T : List (List UInt8)) (h : T.length = 3 ∨ T.length = 4) (hne : hat (abv (sums T)) 0 ≠ hat (abv (sums T)) 1) : chk 2 0 [hat (abv (sums T)) 1] (rootH (sums T)) (ds (tn (sums T) 0 0)) = 0 := by
  have hS : (sums T).length = 3 ∨ (sums T).length = 4 := by rw [sums_len]; exact h
  have hw : wide (sums T).length (0 + 1) = 2 := by rcases hS with h | h <;> rw [h] <;> rfl
  have hds : ds (tn (sums T) 0 0) = hat (abv (sums T)) 0 := tn_ds (sums T) 0 0 (by rw [hw]; omega)
  have hr : rootH (sums T) = pr (hat (abv (sums T)) 0) (hat (abv (sums T)) 1) := by
    rw [← rootH_abv (sums T) (by omega), abv_34 (sums T) hS, root2]
    rfl
  rw [hds, hr]
  obtain ⟨u0, h0⟩ : ∃ u, u = hat (abv (sums T)) 0 := ⟨_, rfl⟩
  obtain ⟨u1, h1⟩ : ∃ u, u = hat (abv (sums T)) 1 := ⟨_, rfl⟩
  rw [← h0, ← h1] at hne ⊢
  have hrg : rgt 2 0 ([u1] : List (List UInt8)).length = 0 := by
    unfold rgt
    rw [if_neg (by omega), show ((2 : Int)).toNat = 2 from rfl, depth_two]
    rfl
  have hgo : goUp 2 0 u0 [u1] = some (pr u0 u1) := by
    have hlv : lvl 2 0 u0 u1 = true := by
      unfold lvl
      rw [decide_eq_false hne]
      rfl
    unfold goUp
    rw [if_pos hlv]
    rfl
  have hu : upE 2 0 [u1] u0 = (pr u0 u1, 0) := by
    unfold upE
    rw [if_neg (by rw [hrg]; simp), show ((2 : Int)).toNat = 2 from rfl, show ((0 : Int)).toNat = 0 from rfl, hgo]
  unfold chk
  rw [hu]
  simp
end Go.Proofs.YtpoinhjkdgcnaaaDoor
