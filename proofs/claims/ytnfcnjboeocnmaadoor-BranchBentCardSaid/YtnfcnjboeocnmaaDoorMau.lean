/- Merged texts: MrkM. -/
import Derived.Test.YtnfcnjboeocnmaaDoorMad
/- Plain mathematics of layer 8: levels of hashes, roots, depths. -/
namespace Go.Proofs.YtnfcnjboeocnmaaDoor
set_option linter.unusedVariables false

/-- The double sum of two hashes. -/
def pr (a b : List UInt8) : List UInt8 := sha (sha (a ++ b))
/-- A hash of a list. -/
def hat (l : List (List UInt8)) (i : Nat) : List UInt8 := l.getD i []
/-- The level above a list. -/
def abv : List (List UInt8) → List (List UInt8)
  | [] => []
  | [a] => [pr a a]
  | a :: b :: r => pr a b :: abv r
def lev : Nat → List (List UInt8) → List (List UInt8)
  | 0, l => l
  | k + 1, l => abv (lev k l)
/-- How many there are at a level. -/
def wide (n : Nat) : Nat → Nat
  | 0 => n
  | k + 1 => (wide n k + 1) / 2
set_option maxRecDepth 100000 in
theorem pr_len (a b : List UInt8) : (pr a b).length = 32 := sha_len _
set_option maxRecDepth 100000 in
theorem abv_len : ∀ l : List (List UInt8), (abv l).length = (l.length + 1) / 2
  | [] => by simp [abv]
  | [a] => by simp [abv]
  | a :: b :: r => by
    rw [abv, List.length_cons, abv_len r, List.length_cons, List.length_cons]
    omega
set_option maxRecDepth 100000 in
theorem lev_len (l : List (List UInt8)) : ∀ k, (lev k l).length = wide l.length k
  | 0 => rfl
  | k + 1 => by rw [lev, abv_len, lev_len l k]; rfl
/-- The place beside: the second of a pair, or the first itself where there is none. -/
def beside (n i : Nat) : Nat := if 2 * i + 1 < n then 2 * i + 1 else 2 * i
set_option maxRecDepth 100000 in
theorem abv_at : ∀ (l : List (List UInt8)) (i : Nat), i < (l.length + 1) / 2 → hat (abv l) i = pr (hat l (2 * i)) (hat l (beside l.length i))
  | [], i, h => by simp at h
  | [a], i, h => by
    have : i = 0 := by simp at h; omega
    subst this
    rfl
  | a :: b :: r, i, h => by
    rcases i with _ | i
    · unfold beside
      rw [if_pos (by simp)]
      rfl
    · have h1 := abv_at r i (by simp at h; omega)
      have e1 : hat (abv (a :: b :: r)) (i + 1) = hat (abv r) i := by simp [hat, abv]
      have e2 : hat (a :: b :: r) (2 * (i + 1)) = hat r (2 * i) := by rw [show 2 * (i + 1) = 2 * i + 1 + 1 from by omega]; simp [hat]
      have e3 : hat (a :: b :: r) (beside (a :: b :: r).length (i + 1)) = hat r (beside r.length i) := by
        unfold beside
        simp only [List.length_cons]
        by_cases hc : 2 * i + 1 < r.length
        · rw [if_pos hc, if_pos (by omega), show 2 * (i + 1) + 1 = 2 * i + 1 + 1 + 1 from by omega]; simp [hat]
        · rw [if_neg hc, if_neg (by omega), show 2 * (i + 1) = 2 * i + 1 + 1 from by omega]; simp [hat]
      rw [e1, e2, e3, h1]
set_option maxRecDepth 100000 in
theorem abv_32 : ∀ l : List (List UInt8), ∀ h ∈ abv l, h.length = 32
  | [], h, hh => by simp [abv] at hh
  | [a], h, hh => by simp [abv] at hh; rw [hh]; exact pr_len _ _
  | a :: b :: r, h, hh => by
    rw [abv, List.mem_cons] at hh
    rcases hh with rfl | hh
    · exact pr_len _ _
    · exact abv_32 r h hh
set_option maxRecDepth 100000 in
theorem lev_32 (l : List (List UInt8)) (hl : ∀ h ∈ l, h.length = 32) : ∀ k, ∀ h ∈ lev k l, h.length = 32
  | 0 => hl
  | k + 1 => abv_32 _
set_option maxRecDepth 100000 in
theorem hat_32 {l : List (List UInt8)} (hl : ∀ h ∈ l, h.length = 32) {i : Nat} (hi : i < l.length) : (hat l i).length = 32 := by
  unfold hat
  rw [List.getD_eq_getElem?_getD, List.getElem?_eq_getElem hi]
  exact hl _ (List.getElem_mem hi)
set_option maxRecDepth 100000 in
theorem lev_abv (l : List (List UInt8)) : ∀ k, lev k (abv l) = lev (k + 1) l
  | 0 => rfl
  | k + 1 => by rw [lev, lev_abv l k]; rfl
set_option maxRecDepth 100000 in
theorem wide_half (n : Nat) : ∀ k, wide ((n + 1) / 2) k = wide n (k + 1)
  | 0 => rfl
  | k + 1 => by rw [wide, wide_half n k]; rfl
/-- The depth of so many: the least d for which 2^d is at least n. -/
def depth (n : Nat) : Nat := if n ≤ 1 then 0 else depth ((n + 1) / 2) + 1
termination_by n
decreasing_by omega
set_option maxRecDepth 100000 in
theorem depth_small (n : Nat) (h : n ≤ 1) : depth n = 0 := by unfold depth; rw [if_pos h]
set_option maxRecDepth 100000 in
theorem depth_big (n : Nat) (h : 1 < n) : depth n = depth ((n + 1) / 2) + 1 := by rw [depth, if_neg (by omega)]
set_option maxRecDepth 100000 in
theorem depth_up (n : Nat) : n ≤ 2 ^ depth n := by
  induction n using Nat.strongRecOn with
  | ind n ih =>
    by_cases h : n ≤ 1
    · rw [depth_small n h]; omega
    · rw [depth_big n (by omega), Nat.pow_succ]
      have := ih ((n + 1) / 2) (by omega)
      omega
set_option maxRecDepth 100000 in
theorem depth_low (n : Nat) (h : 1 < n) : 2 ^ (depth n - 1) < n := by
  induction n using Nat.strongRecOn with
  | ind n ih =>
    rw [depth_big n h, Nat.add_sub_cancel]
    by_cases h2 : (n + 1) / 2 ≤ 1
    · rw [depth_small _ h2]; omega
    · have h3 := ih ((n + 1) / 2) (by omega) (by omega)
      have h4 : depth ((n + 1) / 2) = (depth ((n + 1) / 2) - 1) + 1 := by rw [depth_big _ (by omega)]; omega
      rw [h4, Nat.pow_succ]
      omega
set_option maxRecDepth 100000 in
/-- A depth by what it is least for. -/
theorem depth_is (n d : Nat) (h1 : n ≤ 2 ^ d) (h2 : d = 0 ∨ 2 ^ (d - 1) < n) : depth n = d := by
  by_cases hn : n ≤ 1
  · rw [depth_small n hn]
    rcases h2 with h2 | h2
    · exact h2.symm
    · have := Nat.two_pow_pos (d - 1)
      omega
  · have hl := depth_low n (by omega)
    have hu := depth_up n
    rcases Nat.lt_trichotomy (depth n) d with h | h | h
    · exfalso
      rcases h2 with h2 | h2
      · omega
      · have := Nat.pow_le_pow_right (n := 2) (by omega) (show depth n ≤ d - 1 by omega)
        omega
    · exact h
    · exfalso
      have := Nat.pow_le_pow_right (n := 2) (by omega) (show d ≤ depth n - 1 by omega)
      omega
set_option maxRecDepth 100000 in
theorem wide_one (n : Nat) (h : 0 < n) : wide n (depth n) = 1 := by
  induction n using Nat.strongRecOn with
  | ind n ih =>
    by_cases h2 : n ≤ 1
    · rw [depth_small n h2]
      show n = 1
      omega
    · rw [depth_big n (by omega), ← wide_half, ih ((n + 1) / 2) (by omega) (by omega)]
set_option maxRecDepth 100000 in
theorem wide_le (n : Nat) : ∀ k, wide n k ≤ n + 1
  | 0 => Nat.le_succ n
  | k + 1 => by have := wide_le n k; rw [wide]; omega
set_option maxRecDepth 100000 in
theorem wide_pos (n : Nat) (h : 0 < n) : ∀ k, 0 < wide n k
  | 0 => h
  | k + 1 => by have := wide_pos n h k; rw [wide]; omega
set_option maxRecDepth 100000 in
theorem wide_more (n : Nat) : ∀ k, k < depth n → 1 < wide n k := by
  induction n using Nat.strongRecOn with
  | ind n ih =>
    intro k hk
    by_cases h2 : n ≤ 1
    · rw [depth_small n h2] at hk; omega
    · rcases k with _ | k
      · show 1 < n; omega
      · rw [← wide_half]
        exact ih ((n + 1) / 2) (by omega) k (by rw [depth_big n (by omega)] at hk; omega)
/-- The root of a list. -/
def rootH (l : List (List UInt8)) : List UInt8 := if l.length = 0 then List.replicate 32 0 else hat (lev (depth l.length) l) 0
set_option maxRecDepth 100000 in
theorem rootH_len (l : List (List UInt8)) (hl : ∀ h ∈ l, h.length = 32) : (rootH l).length = 32 := by
  unfold rootH
  split
  · rfl
  · exact hat_32 (lev_32 l hl _) (by rw [lev_len]; have := wide_one l.length (by omega); omega)
set_option maxRecDepth 100000 in
theorem rootH_one (a : List UInt8) : rootH [a] = a := by
  unfold rootH
  rw [if_neg (by simp), depth_small _ (by simp)]
  rfl
set_option maxRecDepth 100000 in
theorem rootH_abv (l : List (List UInt8)) (h : 1 < l.length) : rootH (abv l) = rootH l := by
  unfold rootH
  rw [if_neg (by rw [abv_len]; omega), if_neg (by omega), abv_len, lev_abv, ← depth_big _ h]
/-- Two of a list of one pair are the same. -/
def pairs (l : List (List UInt8)) : Bool := (List.range (l.length / 2)).any fun i => hat l (2 * i) == hat l (2 * i + 1)
/-- A list is doubled. -/
def dbl (l : List (List UInt8)) : Bool := (List.range (depth l.length)).any fun k => pairs (lev k l)
set_option maxRecDepth 100000 in
theorem dbl_abv (l : List (List UInt8)) (h : 1 < l.length) : dbl l = (pairs l || dbl (abv l)) := by
  unfold dbl
  rw [depth_big _ h, List.range_succ_eq_map, List.any_cons, abv_len]
  congr 1
  rw [List.any_map]
  congr 1
  funext k
  simp only [Function.comp]
  rw [← lev_abv]
set_option maxRecDepth 100000 in
theorem dbl_small (l : List (List UInt8)) (h : l.length ≤ 1) : dbl l = false := by
  unfold dbl
  rw [depth_small _ h]
  rfl
end Go.Proofs.YtnfcnjboeocnmaaDoor
