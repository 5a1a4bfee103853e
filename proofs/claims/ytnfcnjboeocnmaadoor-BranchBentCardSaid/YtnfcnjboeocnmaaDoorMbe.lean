/- Merged texts: BrnM. -/
import Derived.Test.YtnfcnjboeocnmaaDoorMau
import Derived.Test.YtnfcnjboeocnmaaDoorMay
/- Plain mathematics of layer 9: branches, by levels. -/
namespace Go.Proofs.YtnfcnjboeocnmaaDoor
set_option linter.unusedVariables false

/-- The place beside a, of n: the last one of an odd number is its own. -/
def sib (n a : Nat) : Nat := if a % 2 = 1 then a - 1 else if a + 1 < n then a + 1 else a
/-- Where leaf i's node stands at level k. -/
def ix (i : Nat) : Nat → Nat
  | 0 => i
  | k + 1 => ix i k / 2
/-- The path of leaf i, up to level t. -/
def pth (L : List (List UInt8)) (i t : Nat) : List (List UInt8) := (List.range t).map fun k => hat (lev k L) (sib (wide L.length k) (ix i k))
set_option maxRecDepth 100000 in
theorem pth_len (L : List (List UInt8)) (i t : Nat) : (pth L i t).length = t := by simp [pth]
set_option maxRecDepth 100000 in
theorem pth_succ (L : List (List UInt8)) (i t : Nat) : pth L i (t + 1) = pth L i t ++ [hat (lev t L) (sib (wide L.length t) (ix i t))] := by simp [pth, List.range_succ]
set_option maxRecDepth 100000 in
theorem pth_at (L : List (List UInt8)) (i t k : Nat) (h : k < t) : hat (pth L i t) k = hat (lev k L) (sib (wide L.length k) (ix i k)) := by
  unfold pth hat
  rw [List.getD_eq_getElem?_getD, List.getElem?_map, List.getElem?_range h]
  rfl
set_option maxRecDepth 100000 in
theorem ix_lt (n i : Nat) (h : i < n) : ∀ k, ix i k < wide n k
  | 0 => h
  | k + 1 => by
    have := ix_lt n i h k
    show ix i k / 2 < (wide n k + 1) / 2
    omega
set_option maxRecDepth 100000 in
theorem sib_lt (n a : Nat) (h : a < n) : sib n a < n := by unfold sib; split <;> (try split) <;> omega
set_option maxRecDepth 100000 in
theorem pth_32 (L : List (List UInt8)) (hl : ∀ h ∈ L, h.length = 32) (i : Nat) (hi : i < L.length) (t : Nat) : ∀ h ∈ pth L i t, h.length = 32 := fun h hh => by
  unfold pth at hh
  obtain ⟨k, _, rfl⟩ := List.mem_map.1 hh
  exact hat_32 (lev_32 L hl k) (by rw [lev_len]; exact sib_lt _ _ (ix_lt _ _ hi k))
/-- The node that is made of a node and what stands beside it. -/
def two (a : Nat) (x b : List UInt8) : List UInt8 := if a % 2 = 0 then pr x b else pr b x
set_option maxRecDepth 100000 in
theorem two_len (a : Nat) (x b : List UInt8) : (two a x b).length = 32 := by unfold two; split <;> exact pr_len _ _
/-- Is a level right? -/
def lvl (n a : Nat) (x b : List UInt8) : Bool := decide (a + 1 = n ∧ a % 2 = 0) == decide (x = b)
/-- The way up, from level k and place a on; n: how many there are at that level. -/
def goUp : Nat → Nat → List UInt8 → List (List UInt8) → Option (List UInt8)
  | _, _, x, [] => some x
  | n, a, x, b :: r => if lvl n a x b then goUp ((n + 1) / 2) (a / 2) (two a x b) r else none
/-- The way up, without asking whether levels are right. -/
def wayUp : Nat → List UInt8 → List (List UInt8) → List UInt8
  | _, x, [] => x
  | a, x, b :: r => wayUp (a / 2) (two a x b) r
set_option maxRecDepth 100000 in
theorem goUp_some : ∀ (P : List (List UInt8)) (n a : Nat) (x y : List UInt8), goUp n a x P = some y → wayUp a x P = y
  | [], _, _, x, y, h => by simpa [goUp, wayUp] using h
  | b :: r, n, a, x, y, h => by
    unfold goUp at h
    split at h
    · exact goUp_some r _ _ _ _ h
    · simp at h
set_option maxRecDepth 100000 in
theorem goUp_32 : ∀ (P : List (List UInt8)) (n a : Nat) (x y : List UInt8), x.length = 32 → goUp n a x P = some y → y.length = 32
  | [], _, _, x, y, hx, h => by simp [goUp] at h; rw [← h]; exact hx
  | b :: r, n, a, x, y, _, h => by
    unfold goUp at h
    split at h
    · exact goUp_32 r _ _ _ _ (two_len _ _ _) h
    · simp at h
/-- What is wrong with a branch's numbers. -/
def rgt (c i : Int) (m : Nat) : Nat := if c < 1 ∨ 65536 < c ∨ i < 0 ∨ c ≤ i then 5 else if m ≠ depth c.toNat then 3 else 0
set_option maxRecDepth 100000 in
theorem rgt_zero {c i : Int} {m : Nat} (h : rgt c i m = 0) : 1 ≤ c ∧ c ≤ 65536 ∧ 0 ≤ i ∧ i < c ∧ m = depth c.toNat := by
  unfold rgt at h
  split at h
  · simp at h
  · split at h
    · simp at h
    · omega
/-- Where a branch leads, and the error. -/
def upE (c i : Int) (P : List (List UInt8)) (leaf : List UInt8) : List UInt8 × Nat :=
  if rgt c i P.length ≠ 0 then (List.replicate 32 0, rgt c i P.length) else
  match goUp c.toNat i.toNat leaf P with
  | some x => (x, 0)
  | none => (List.replicate 32 0, 15)
set_option maxRecDepth 100000 in
theorem upE_len (c i : Int) (P : List (List UInt8)) (leaf : List UInt8) (h : leaf.length = 32) : (upE c i P leaf).1.length = 32 := by
  unfold upE
  split
  · rfl
  · split
    · rename_i x hx; exact goUp_32 P _ _ _ _ h hx
    · rfl
def chk (c i : Int) (P : List (List UInt8)) (root leaf : List UInt8) : Nat := if (upE c i P leaf).2 ≠ 0 then (upE c i P leaf).2 else if (upE c i P leaf).1 = root then 0 else 15
set_option maxRecDepth 100000 in
theorem depth_16 (n : Nat) (h : n ≤ 65536) : depth n ≤ 16 := by
  by_cases hn : n ≤ 1
  · rw [depth_small n hn]; omega
  · have h1 := depth_low n (by omega)
    rcases Nat.lt_or_ge (depth n) 17 with h2 | h2
    · omega
    · have h3 := Nat.pow_le_pow_right (n := 2) (by omega) (show 16 ≤ depth n - 1 by omega)
      omega
set_option maxRecDepth 100000 in
/-- A node and what stands beside it make the node above. -/
theorem two_up (l : List (List UInt8)) (a : Nat) (h : a < l.length) : two a (hat l a) (hat l (sib l.length a)) = hat (abv l) (a / 2) := by
  rw [abv_at l (a / 2) (by omega)]
  unfold two sib beside
  by_cases h2 : a % 2 = 0
  · rw [if_pos h2, if_neg (show ¬ a % 2 = 1 by omega), show 2 * (a / 2) = a by omega]
  · rw [if_neg h2, if_pos (show a % 2 = 1 by omega), show 2 * (a / 2) = a - 1 by omega, if_pos (by omega), show a - 1 + 1 = a by omega]
set_option maxRecDepth 100000 in
/-- The way of a leaf's path, from level k on. -/
theorem way_at (L : List (List UInt8)) (i : Nat) (hi : i < L.length) : ∀ (d k : Nat), wayUp (ix i k) (hat (lev k L) (ix i k)) ((pth L i (k + d)).drop k) = hat (lev (k + d) L) (ix i (k + d))
  | 0, k => by
    rw [List.drop_of_length_le (by rw [pth_len]; omega)]
    rfl
  | d + 1, k => by
    have hk : k < (pth L i (k + (d + 1))).length := by rw [pth_len]; omega
    rw [List.drop_eq_getElem_cons hk]
    have e1 : (pth L i (k + (d + 1)))[k] = hat (lev k L) (sib (wide L.length k) (ix i k)) := by
      have := pth_at L i (k + (d + 1)) k (by omega)
      unfold hat at this
      rw [List.getD_eq_getElem?_getD, List.getElem?_eq_getElem hk] at this
      exact this
    rw [e1]
    show wayUp (ix i k / 2) (two (ix i k) (hat (lev k L) (ix i k)) (hat (lev k L) (sib (wide L.length k) (ix i k)))) _ = _
    have := two_up (lev k L) (ix i k) (by rw [lev_len]; exact ix_lt _ _ hi k)
    rw [lev_len] at this
    rw [this]
    have ih := way_at L i hi d (k + 1)
    rw [show k + 1 + d = k + (d + 1) by omega] at ih
    exact ih
set_option maxRecDepth 100000 in
/-- A made branch leads to the root, where the list isn't doubled. -/
theorem goUp_at (L : List (List UInt8)) (i : Nat) (hi : i < L.length) (hd : dbl L = false) : ∀ (d k : Nat), k + d ≤ depth L.length → goUp (wide L.length k) (ix i k) (hat (lev k L) (ix i k)) ((pth L i (k + d)).drop k) = some (hat (lev (k + d) L) (ix i (k + d)))
  | 0, k, _ => by
    rw [List.drop_of_length_le (by rw [pth_len]; omega)]
    rfl
  | d + 1, k, hkd => by
    have hk : k < (pth L i (k + (d + 1))).length := by rw [pth_len]; omega
    rw [List.drop_eq_getElem_cons hk]
    have e1 : (pth L i (k + (d + 1)))[k] = hat (lev k L) (sib (wide L.length k) (ix i k)) := by
      have := pth_at L i (k + (d + 1)) k (by omega)
      unfold hat at this
      rw [List.getD_eq_getElem?_getD, List.getElem?_eq_getElem hk] at this
      exact this
    rw [e1]
    have hlt := ix_lt L.length i hi k
    have hlv : lvl (wide L.length k) (ix i k) (hat (lev k L) (ix i k)) (hat (lev k L) (sib (wide L.length k) (ix i k))) = true := by
      unfold lvl
      by_cases hl : ix i k + 1 = wide L.length k ∧ ix i k % 2 = 0
      · have e2 : sib (wide L.length k) (ix i k) = ix i k := by unfold sib; rw [if_neg (by omega), if_neg (by omega)]
        rw [e2]
        simp [hl]
      · have hne : hat (lev k L) (ix i k) ≠ hat (lev k L) (sib (wide L.length k) (ix i k)) := fun e => by
          have : dbl L = true := by
            refine dbl_true L k (by omega) (pairs_true (lev k L) (ix i k / 2) (by rw [lev_len]; omega) ?_)
            by_cases h2 : ix i k % 2 = 0
            · have e3 : sib (wide L.length k) (ix i k) = ix i k + 1 := by unfold sib; rw [if_neg (by omega), if_pos (by omega)]
              rw [e3] at e
              rw [show 2 * (ix i k / 2) = ix i k by omega]
              exact e
            · have e3 : sib (wide L.length k) (ix i k) = ix i k - 1 := by unfold sib; rw [if_pos (by omega)]
              rw [e3] at e
              rw [show 2 * (ix i k / 2) = ix i k - 1 by omega, show ix i k - 1 + 1 = ix i k by omega]
              exact e.symm
          rw [hd] at this
          simp at this
        rw [decide_eq_false hl, decide_eq_false hne]
        rfl
    unfold goUp
    rw [if_pos hlv]
    have := two_up (lev k L) (ix i k) (by rw [lev_len]; exact hlt)
    rw [lev_len] at this
    rw [this]
    have ih := goUp_at L i hi hd d (k + 1) (by omega)
    rw [show k + 1 + d = k + (d + 1) by omega] at ih
    exact ih
set_option maxRecDepth 100000 in
theorem ix_top (n i : Nat) (h : i < n) : ix i (depth n) = 0 := by
  have := ix_lt n i h (depth n)
  rw [wide_one n (by omega)] at this
  omega
set_option maxRecDepth 100000 in
theorem top_root (L : List (List UInt8)) (i : Nat) (hi : i < L.length) : hat (lev (depth L.length) L) (ix i (depth L.length)) = rootH L := by
  rw [ix_top _ _ hi]
  unfold rootH
  rw [if_neg (by omega)]
set_option maxRecDepth 100000 in
theorem made_up (L : List (List UInt8)) (i : Nat) (hi : i < L.length) (hd : dbl L = false) : goUp L.length i (hat L i) (pth L i (depth L.length)) = some (rootH L) := by
  have := goUp_at L i hi hd (depth L.length) 0 (by omega)
  rw [Nat.zero_add, List.drop_zero, top_root L i hi] at this
  exact this
set_option maxRecDepth 100000 in
theorem made_way (L : List (List UInt8)) (i : Nat) (hi : i < L.length) : wayUp i (hat L i) (pth L i (depth L.length)) = rootH L := by
  have := way_at L i hi (depth L.length) 0
  rw [Nat.zero_add, List.drop_zero, top_root L i hi] at this
  exact this
/-- Where two ways from a leaf come together by two texts. -/
def meetB : Nat → List UInt8 → List UInt8 → List (List UInt8) → List (List UInt8) → Bool
  | a, x, y, b :: r, c :: s => (decide (two a x b = two a y c) && !(decide (x = y) && decide (b = c))) || meetB (a / 2) (two a x b) (two a y c) r s
  | _, _, _, _, _ => false
set_option maxRecDepth 100000 in
theorem meet_two : ∀ (P Q : List (List UInt8)) (a : Nat) (x y : List UInt8), P.length = Q.length → (x ≠ y ∨ P ≠ Q) → wayUp a x P = wayUp a y Q → meetB a x y P Q = true
  | [], [], a, x, y, _, h, e => by simp [wayUp] at e; simp [e] at h
  | [], _ :: _, a, x, y, hl, _, _ => by simp at hl
  | _ :: _, [], a, x, y, hl, _, _ => by simp at hl
  | b :: r, c :: s, a, x, y, hl, h, e => by
    unfold meetB
    by_cases h1 : x = y ∧ b = c
    · obtain ⟨rfl, rfl⟩ := h1
      have hrs : r ≠ s := fun hrs => by rcases h with h | h; exact h rfl; exact h (by rw [hrs])
      rw [meet_two r s (a / 2) _ _ (by simpa using hl) (.inr hrs) e, Bool.or_true]
    · by_cases h2 : two a x b = two a y c
      · have : (decide (x = y) && decide (b = c)) = false := by
          by_cases hx : x = y
          · have hb : b ≠ c := fun hb => h1 ⟨hx, hb⟩
            simp [hb]
          · simp [hx]
        rw [decide_eq_true h2, this]
        rfl
      · rw [meet_two r s (a / 2) _ _ (by simpa using hl) (.inl h2) e, Bool.or_true]
end Go.Proofs.YtnfcnjboeocnmaaDoor
