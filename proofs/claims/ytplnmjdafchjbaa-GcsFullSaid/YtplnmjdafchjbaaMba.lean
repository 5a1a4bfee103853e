/- Merged texts: SrtM SrtA SrtB. -/
import Derived.Sort.Walk13a
import Derived.Sort.LotD4
import Derived.Sort.AssemblyPlain
import Derived.Test.YtplnmjdafchjbaaMaa
import Derived.Test.YtplnmjdafchjbaaMab
import Derived.BigCall
import Derived.BigGuard
import Derived.CellFam
import Derived.BigQuiet
import Derived.RegionTactic
import Derived.Deep.Draws
import Derived.Deep.LoopGhost
import Derived.Deep.Cut
/- Plain mathematics of the sort's functions: what each way of a round does. Nothing of the program is named here. -/
namespace Go.Proofs.Ytplnmjdafchjbaa
open Go.Sort
set_option linter.unusedVariables false
section
variable {α : Type} [Inhabited α] (lt : α → α → Bool)
set_option maxRecDepth 100000 in
theorem swz (d : Array α) (i j : Nat) : (swp d i j).size = d.size := by simp [swp]
set_option maxRecDepth 100000 in
theorem inn_on {a j : Nat} {d : Array α} (h : a < j) (hl : lt d[j]! d[j - 1]! = true) : insInner lt a j d = insInner lt a (j - 1) (swp d j (j - 1)) := by
  cases j with
  | zero => omega
  | succ k =>
    have hl' : lt d[k + 1]! d[k]! = true := hl
    show (if k + 1 > a && lt d[k + 1]! d[k]! then insInner lt a k (swp d (k + 1) k) else d) = _
    rw [hl', if_pos (by simp; omega)]
    rfl
set_option maxRecDepth 100000 in
theorem inn_off {a j : Nat} {d : Array α} (h : a < j → lt d[j]! d[j - 1]! = false) : insInner lt a j d = d := by
  cases j with
  | zero => rfl
  | succ k =>
    show (if k + 1 > a && lt d[k + 1]! d[k]! then insInner lt a k (swp d (k + 1) k) else d) = d
    by_cases hk : a < k + 1
    · have h' : lt d[k + 1]! d[k]! = false := h hk
      rw [h']
      simp
    · simp [show ¬ k + 1 > a by omega]
set_option maxRecDepth 100000 in
theorem out_on {a b i : Nat} {d : Array α} (h : i < b) : insOuter lt a b i d = insOuter lt a b (i + 1) (insInner lt a i d) := by rw [insOuter, if_pos h]
set_option maxRecDepth 100000 in
theorem out_off {a b i : Nat} {d : Array α} (h : ¬ i < b) : insOuter lt a b i d = d := by rw [insOuter, if_neg h]
set_option maxRecDepth 100000 in
/-- One step of siftDown: which child, then whether. -/
theorem sif_end {hi F r : Nat} {d : Array α} (h : hi ≤ 2 * r + 1) : siftDown lt hi F r d = d := by rw [siftDown, dif_pos h]
set_option maxRecDepth 100000 in
theorem sif_at {hi F r c : Nat} {d : Array α} (h : 2 * r + 1 < hi) (hc : c = if 2 * r + 2 < hi ∧ lt d[F + (2 * r + 1)]! d[F + (2 * r + 2)]! = true then 2 * r + 2 else 2 * r + 1) :
    siftDown lt hi F r d = if lt d[F + r]! d[F + c]! = true then siftDown lt hi F c (swp d (F + r) (F + c)) else d := by
  rw [siftDown, dif_neg (by omega), show F + (2 * r + 1) + 1 = F + (2 * r + 2) by omega]
  by_cases h2 : 2 * r + 2 < hi ∧ lt d[F + (2 * r + 1)]! d[F + (2 * r + 2)]! = true
  · rw [if_pos h2] at hc
    subst hc
    rw [h2.2, if_pos (by simp; omega)]
    cases hx : lt d[F + r]! d[F + (2 * r + 2)]!
    · simp
    · simp [h2.1]
  · rw [if_neg h2] at hc
    subst hc
    rw [if_neg (by
      intro h3
      rw [Bool.and_eq_true, decide_eq_true_eq] at h3
      exact h2 ⟨by omega, h3.2⟩)]
    cases hx : lt d[F + r]! d[F + (2 * r + 1)]!
    · simp
    · simp
set_option maxRecDepth 100000 in
theorem sUp_on {p : α → Bool} {d : Array α} {i j : Nat} (h : i ≤ j) (hp : p d[i]! = true) : scanUp p d j i = scanUp p d j (i + 1) := by rw [scanUp, if_pos (by simp [h, hp])]
set_option maxRecDepth 100000 in
theorem sUp_off {p : α → Bool} {d : Array α} {i j : Nat} (h : i ≤ j → p d[i]! = false) : scanUp p d j i = i := by
  rw [scanUp, if_neg (by
    intro h'
    rw [Bool.and_eq_true, decide_eq_true_eq] at h'
    rw [h h'.1] at h'
    exact Bool.false_ne_true h'.2)]
set_option maxRecDepth 100000 in
theorem sDn_on {p : α → Bool} {d : Array α} {i j : Nat} (h0 : 0 < j) (h : i ≤ j) (hp : p d[j]! = true) : scanDown p d i j = scanDown p d i (j - 1) := by
  cases j with
  | zero => omega
  | succ k =>
    show (if i ≤ k + 1 && p d[k + 1]! then scanDown p d i k else k + 1) = scanDown p d i k
    rw [if_pos (by simp [h, hp])]
set_option maxRecDepth 100000 in
theorem sDn_off {p : α → Bool} {d : Array α} {i j : Nat} (h : i ≤ j → p d[j]! = false) : scanDown p d i j = j := by
  cases j with
  | zero => rfl
  | succ k =>
    show (if i ≤ k + 1 && p d[k + 1]! then scanDown p d i k else k + 1) = k + 1
    rw [if_neg (by
      intro h'
      rw [Bool.and_eq_true, decide_eq_true_eq] at h'
      rw [h h'.1] at h'
      exact Bool.false_ne_true h'.2)]
set_option maxRecDepth 100000 in
theorem srt_on {d : Array α} {b i : Nat} (h : i < b) (hl : lt d[i]! d[i - 1]! = false) : scanSorted lt d b i = scanSorted lt d b (i + 1) := by rw [scanSorted, if_pos (by simp [h, hl])]
set_option maxRecDepth 100000 in
theorem srt_off {d : Array α} {b i : Nat} (h : i < b → lt d[i]! d[i - 1]! = true) : scanSorted lt d b i = i := by
  rw [scanSorted, if_neg (by
    intro h'
    rw [Bool.and_eq_true, decide_eq_true_eq] at h'
    rw [h h'.1] at h'
    exact Bool.false_ne_true h'.2)]
set_option maxRecDepth 100000 in
theorem shD_on {d : Array α} {j : Nat} (h : 1 ≤ j) (hl : lt d[j]! d[j - 1]! = true) : shiftDown lt j d = shiftDown lt (j - 1) (swp d j (j - 1)) := by
  cases j with
  | zero => omega
  | succ k =>
    have hl' : lt d[k + 1]! d[k]! = true := hl
    show (if !lt d[k + 1]! d[k]! then d else shiftDown lt k (swp d (k + 1) k)) = _
    rw [hl']
    rfl
set_option maxRecDepth 100000 in
theorem shD_off {d : Array α} {j : Nat} (h : 1 ≤ j → lt d[j]! d[j - 1]! = false) : shiftDown lt j d = d := by
  cases j with
  | zero => rfl
  | succ k =>
    have hl' : lt d[k + 1]! d[k]! = false := h (by omega)
    show (if !lt d[k + 1]! d[k]! then d else shiftDown lt k (swp d (k + 1) k)) = _
    rw [hl']
    rfl
set_option maxRecDepth 100000 in
theorem shU_on {d : Array α} {b j : Nat} (h : j < b) (hl : lt d[j]! d[j - 1]! = true) : shiftUp lt b j d = shiftUp lt b (j + 1) (swp d j (j - 1)) := by
  rw [shiftUp, if_pos h, hl]
  rfl
set_option maxRecDepth 100000 in
theorem shU_off {d : Array α} {b j : Nat} (h : j < b → lt d[j]! d[j - 1]! = false) : shiftUp lt b j d = d := by
  rw [shiftUp]
  by_cases hj : j < b
  · rw [if_pos hj, h hj]
    rfl
  · rw [if_neg hj]
end
end Go.Proofs.Ytplnmjdafchjbaa

/- Sorting a slice of numbers of 64 bits: the world while it is sorted (Rw: the row holds an array, else all is as it was, new blocks apart), and what each function of the sort is to answer. -/
namespace Go.Proofs.Ytplnmjdafchjbaa
open Go.RowKit
set_option linter.unusedVariables false
set_option linter.unusedSimpArgs false

/-- A number of 64 bits in memory. -/
def eU : Int → Value := Value.int .u64
def lI : Int → Int → Bool := Sort.ltInt
set_option maxRecDepth 100000 in
theorem swo_lI : Sort.SWO lI := Sort.swo_ltInt

/-- W is w0, but that the row of n places at off in block blk holds d; blocks may have been made. -/
def Rw (w0 : World) (blk off n : Nat) (d : Array Int) (W : World) : Prop :=
  d.size = n ∧ blk < w0.heap.size ∧ (∃ d0 : Array Int, d0.size = n ∧ Sort.Holds eU w0 blk off d0) ∧ Sort.At eU w0 blk off d W
section
variable {w0 W : World} {blk off n : Nat} {d d' : Array Int}
set_option maxRecDepth 100000 in
theorem Rw.start (h : Sort.Holds eU w0 blk off d) (hb : blk < w0.heap.size) : Rw w0 blk off d.size d w0 := ⟨rfl, hb, ⟨d, rfl, h⟩, Sort.At.refl h⟩
set_option maxRecDepth 100000 in
theorem Rw.size (h : Rw w0 blk off n d W) : d.size = n := h.1
set_option maxRecDepth 100000 in
theorem Rw.holds (h : Rw w0 blk off n d W) : Sort.Holds eU W blk off d ∧ blk < W.heap.size := by
  obtain ⟨h1, h2, ⟨d0, h3, h4⟩, h5⟩ := h
  exact h5.holds h4 (by rw [h1, h3]) h2
set_option maxRecDepth 100000 in
/-- The row's contents, with a letter of their own. -/
theorem Rw.fam (h : Rw w0 blk off n d W) : ∃ G : Nat → Int, Hid (∀ t, G t = d[t]!) ∧ (∀ t, t < n → W.cell? ⟨blk, off + t, none⟩ = some (.int .u64 (G t))) ∧ (∀ t, t < n → W.frozen? ⟨blk, off + t, none⟩ = false) :=
  ⟨fun t => d[t]!, Lib.hid fun _ => rfl, fun t ht => (h.holds.1 t (by rw [h.1]; exact ht)).1, fun t ht => (h.holds.1 t (by rw [h.1]; exact ht)).2⟩
set_option maxRecDepth 100000 in
theorem Rw.again (h : Rw w0 blk off n d W) {G : Nat → Int} (hG : Hid (∀ t, G t = d[t]!)) : (∀ t, t < n → W.cell? ⟨blk, off + t, none⟩ = some (.int .u64 (G t))) ∧ (∀ t, t < n → W.frozen? ⟨blk, off + t, none⟩ = false) :=
  ⟨fun t ht => by rw [hG.out]; exact (h.holds.1 t (by rw [h.1]; exact ht)).1, fun t ht => (h.holds.1 t (by rw [h.1]; exact ht)).2⟩
set_option maxRecDepth 100000 in
theorem Rw.drewN (h : Rw w0 blk off n d W) (q : Nat) : Rw w0 blk off n d (W.drewN q) := ⟨h.1, h.2.1, h.2.2.1, h.2.2.2.ahead q⟩
set_option maxRecDepth 100000 in
theorem Rw.drew (h : Rw w0 blk off n d W) : Rw w0 blk off n d W.drew := h.drewN 1
set_option maxRecDepth 100000 in
theorem Rw.swap0 (h : Rw w0 blk off n d W) (i j : Nat) (hi : i < n) (hj : j < n) :
    Rw w0 blk off n (Sort.swp d i j) ((W.setCell ⟨blk, off + i, none⟩ (eU d[j]!)).setCell ⟨blk, off + j, none⟩ (eU d[i]!)) := by
  have hs : (Sort.swp d i j).size = d.size := by simp [Sort.swp]
  refine ⟨hs.trans h.1, h.2.1, h.2.2.1, ?_⟩
  have e : (W.setCell ⟨blk, off + i, none⟩ (eU d[j]!)).setCell ⟨blk, off + j, none⟩ (eU d[i]!) = Sort.putRow eU (Sort.ahead W 0) blk off (Sort.swp d i j) := by
    rw [Sort.ahead_zero, ← Sort.putRow_swp eU W blk off d i j (by rw [h.1]; exact hi) (by rw [h.1]; exact hj), Sort.putRow_self eU W blk off d h.holds.1]
  exact h.2.2.2.step h.2.1 hs ⟨0, e⟩
set_option maxRecDepth 100000 in
/-- Two places exchanged. -/
theorem Rw.swap (h : Rw w0 blk off n d W) {G : Nat → Int} (hG : Hid (∀ t, G t = d[t]!)) (i j : Nat) (hi : i < n) (hj : j < n) :
    Rw w0 blk off n (Sort.swp d i j) ((W.setCell ⟨blk, off + i, none⟩ (.int .u64 (G j))).setCell ⟨blk, off + j, none⟩ (.int .u64 (G i))).drew := by
  rw [hG.out, hG.out]
  exact (h.swap0 i j hi hj).drew
set_option maxRecDepth 100000 in
/-- Behind the first store of an exchange the second place still holds something. -/
theorem Rw.snd (h : Rw w0 blk off n d W) (i j : Nat) (hj : j < n) (v : Value) : ∃ u, (W.setCell ⟨blk, off + i, none⟩ v).cell? ⟨blk, off + j, none⟩ = some u := by
  have hc := (h.holds.1 j (by rw [h.1]; exact hj)).1
  by_cases e : i = j
  · subst e
    exact ⟨v, World.cell?_setCell_same _ _ _ hc⟩
  · exact ⟨_, (World.cell?_setCell_other _ _ _ _ (by intro e'; simp only [Addr.mk.injEq] at e'; omega)).trans hc⟩
set_option maxRecDepth 100000 in
/-- Blocks are made, cells of new blocks are set. -/
theorem Rw.alloc (h : Rw w0 blk off n d W) (o : Obj) : Rw w0 blk off n d (W.alloc o) := by
  obtain ⟨h1, h2, h3, m, os, rfl⟩ := h
  exact ⟨h1, h2, h3, m, os ++ #[o], by rw [Sort.alloc_eq_grow, Sort.grow_grow]⟩
set_option maxRecDepth 100000 in
theorem Rw.le (h : Rw w0 blk off n d W) : w0.heap.size ≤ W.heap.size := by
  obtain ⟨h1, h2, h3, m, os, rfl⟩ := h
  rw [Sort.size_grow, Sort.size_putRow]
  show w0.heap.size ≤ w0.heap.size + _
  omega
end
/-- A cell of a block made meanwhile, which counts. -/
def Ctr (w0 : World) (blk off n : Nat) (d : Array Int) (g s : Nat) (W : World) : Prop :=
  Rw w0 blk off n d W ∧ W.cell? ⟨g, 0, none⟩ = some (.int .i64 (s : Int)) ∧ W.frozen? ⟨g, 0, none⟩ = false ∧ w0.heap.size ≤ g ∧ g < W.heap.size
section
variable {w0 W : World} {blk off n g s : Nat} {d : Array Int}
set_option maxRecDepth 100000 in
theorem Rw.setNew (h : Rw w0 blk off n d W) (v : Value) (hg : w0.heap.size ≤ g) : Rw w0 blk off n d (W.setCell ⟨g, 0, none⟩ v) := by
  obtain ⟨h1, h2, h3, m, os, rfl⟩ := h
  have e := Sort.mapBlock_grow_new (Sort.putRow eU (Sort.ahead w0 m) blk off d) os g (·.setIfInBounds 0 v) (by rw [Sort.size_putRow]; exact hg)
  exact ⟨h1, h2, h3, m, _, (Sort.setCell_eq _ g 0 v).trans e⟩
set_option maxRecDepth 100000 in
theorem Ctr.drewN (h : Ctr w0 blk off n d g s W) (q : Nat) : Ctr w0 blk off n d g s (W.drewN q) := ⟨h.1.drewN q, h.2⟩
set_option maxRecDepth 100000 in
theorem Ctr.bump (h : Ctr w0 blk off n d g s W) (t : Nat) : Ctr w0 blk off n d g t (W.setCell ⟨g, 0, none⟩ (.int .i64 (t : Int))) :=
  ⟨h.1.setNew _ h.2.2.2.1, World.cell?_setCell_same _ _ _ h.2.1, by rw [World.frozen?_setCell]; exact h.2.2.1, h.2.2.2.1, by simpa using h.2.2.2.2⟩
end

set_option maxRecDepth 100000 in
set_option maxHeartbeats 1000000 in
theorem isnan_calls (x : Int) (w : World) : Calls Try.prog 108 #[.int .u64 x] w fun e w' => e = .returned (.bool false) ∧ w' = w := by
  go_enter Try.func108, Try.ntmps108
  go_wp2
  go_ret
  exact ⟨by simp, rfl⟩
set_option maxRecDepth 100000 in
set_option maxHeartbeats 1000000 in
theorem less_calls (x y : Int) (w : World) : Calls Try.prog 84 #[.int .u64 x, .int .u64 y] w fun e w' => e = .returned (.bool (lI x y)) ∧ w' = w := by
  go_enter Try.func84, Try.ntmps84
  go_wp2_with (go_at_call 108; refine (isnan_calls _ _).mono ?_; rintro e w' ⟨rfl, rfl⟩)
  go_ret
  exact ⟨rfl, rfl⟩

def InsSays : Prop := ∀ (w0 W : World) (blk off n cap a b : Nat) (d : Array Int), Rw w0 blk off n d W → a ≤ b → b ≤ n → n ≤ 1000000 →
  Calls Try.prog 78 #[.slice (some ⟨blk, off, none⟩) n cap, .int .i64 a, .int .i64 b] W fun e w' => e = .returned (.tuple #[]) ∧ Rw w0 blk off n (Sort.insertionSort lI d a b) w'
def DownSays : Prop := ∀ (w0 W : World) (blk off n cap lo hi first : Nat) (d : Array Int), Rw w0 blk off n d W → lo ≤ hi → first + hi ≤ n → n ≤ 1000000 →
  Calls Try.prog 103 #[.slice (some ⟨blk, off, none⟩) n cap, .int .i64 lo, .int .i64 hi, .int .i64 first] W fun e w' => e = .returned (.tuple #[]) ∧ Rw w0 blk off n (Sort.siftDown lI hi first lo d) w'
def HeapSays : Prop := ∀ (w0 W : World) (blk off n cap a b : Nat) (d : Array Int), Rw w0 blk off n d W → a < b → b ≤ n → n ≤ 1000000 →
  Calls Try.prog 79 #[.slice (some ⟨blk, off, none⟩) n cap, .int .i64 a, .int .i64 b] W fun e w' => e = .returned (.tuple #[]) ∧ Rw w0 blk off n (Sort.heapSort lI d a b) w'
def BrkSays : Prop := ∀ (w0 W : World) (blk off n cap a b : Nat) (d : Array Int), Rw w0 blk off n d W → a + 12 < b → b ≤ n → n ≤ 1000000 →
  Calls Try.prog 80 #[.slice (some ⟨blk, off, none⟩) n cap, .int .i64 a, .int .i64 b] W fun e w' => e = .returned (.tuple #[]) ∧ Rw w0 blk off n (Sort.breakPatterns d a b) w'
def RevSays : Prop := ∀ (w0 W : World) (blk off n cap a b : Nat) (d : Array Int), Rw w0 blk off n d W → a + 12 < b → b ≤ n → n ≤ 1000000 →
  Calls Try.prog 82 #[.slice (some ⟨blk, off, none⟩) n cap, .int .i64 a, .int .i64 b] W fun e w' => e = .returned (.tuple #[]) ∧ Rw w0 blk off n (Sort.reverseRange d a b) w'
def PivSays : Prop := ∀ (w0 W : World) (blk off n cap a b : Nat) (d : Array Int), Rw w0 blk off n d W → a + 12 < b → b ≤ n → n ≤ 1000000 →
  Calls Try.prog 81 #[.slice (some ⟨blk, off, none⟩) n cap, .int .i64 a, .int .i64 b] W fun e w' => e = .returned (.tuple #[.int .i64 ((Sort.choosePivot lI d a b).1 : Nat), .int .i64 (Sort.hintCode (Sort.choosePivot lI d a b).2)]) ∧ Rw w0 blk off n d w'
def ParSays : Prop := ∀ (w0 W : World) (blk off n cap a b : Nat) (d : Array Int), Rw w0 blk off n d W → a < b → b ≤ n → n ≤ 1000000 →
  Calls Try.prog 83 #[.slice (some ⟨blk, off, none⟩) n cap, .int .i64 a, .int .i64 b] W fun e w' => e = .returned (.bool (Sort.partialInsertionSort lI d a b).2) ∧ Rw w0 blk off n (Sort.partialInsertionSort lI d a b).1 w'
def PeqSays : Prop := ∀ (w0 W : World) (blk off n cap a b pivot : Nat) (d : Array Int), Rw w0 blk off n d W → a ≤ pivot → pivot < b → b ≤ n → n ≤ 1000000 →
  Calls Try.prog 85 #[.slice (some ⟨blk, off, none⟩) n cap, .int .i64 a, .int .i64 b, .int .i64 pivot] W fun e w' => e = .returned (.int .i64 ((Sort.partitionEqual lI d a b pivot).1 : Nat)) ∧ Rw w0 blk off n (Sort.partitionEqual lI d a b pivot).2 w'
def PrtSays : Prop := ∀ (w0 W : World) (blk off n cap a b pivot : Nat) (d : Array Int), Rw w0 blk off n d W → a ≤ pivot → pivot < b → b ≤ n → n ≤ 1000000 →
  Calls Try.prog 86 #[.slice (some ⟨blk, off, none⟩) n cap, .int .i64 a, .int .i64 b, .int .i64 pivot] W fun e w' => e = .returned (.tuple #[.int .i64 ((Sort.partition lI d a b pivot).1 : Nat), .bool (Sort.partition lI d a b pivot).2.1]) ∧ Rw w0 blk off n (Sort.partition lI d a b pivot).2.2 w'
def PdqSays : Prop := ∀ (w0 W : World) (blk off n cap a b limit : Nat) (d : Array Int), Rw w0 blk off n d W → a ≤ b → b ≤ n → n ≤ 1000000 → limit ≤ 1000000 → Sort.Below lI a b d →
  Calls Try.prog 47 #[.slice (some ⟨blk, off, none⟩) n cap, .int .i64 a, .int .i64 b, .int .i64 limit] W fun e w' => e = .returned (.tuple #[]) ∧ ∃ R, Rw w0 blk off n R w' ∧ Sort.PermIn a b d R ∧ Sort.SortedIn lI a b R
end Go.Proofs.Ytplnmjdafchjbaa

/- Sorting numbers of 64 bits: insertionSortOrdered. -/
namespace Go.Proofs.Ytplnmjdafchjbaa
open Go.RowKit
set_option linter.unusedVariables false
set_option linter.unusedSimpArgs false

set_option maxRecDepth 100000 in
set_option maxHeartbeats 2000000 in
theorem ins_says : InsSays := by
  intro w0 W blk off n cap a b d hR hab hb hn
  obtain ⟨X, hX⟩ : ∃ X, X = Sort.insertionSort lI d a b := ⟨_, rfl⟩
  have HX : Hid (Sort.insOuter lI a b (a + 1) d = X) := Lib.hid hX.symm
  rw [← hX]
  clear hX
  have HR := Lib.hid hR
  clear hR
  go_enter Try.func78, Try.ntmps78
  go_wp2
  go_loopw [6] (fun vi wr => ∃ (i : Nat) (dk : Array Int), vi = .int .i64 (i : Int) ∧ a < i ∧ i ≤ b + 1 ∧ Hid (Rw w0 blk off n dk wr) ∧ Hid (Sort.insOuter lI a b i dk = X)) (fun vi _ => b + 1 - (intOf vi).toNat)
  case atStart => exact ⟨a + 1, d, by go_num, by omega, by omega, HR, HX⟩
  case round =>
    clear HR HX
    obtain ⟨i, dk, rfl, hai, hib, HR, HX⟩ := hrel
    by_cases hlt : i < b
    · have hlt' : (i : Int) < (b : Int) := by omega
      have HY : Hid (Sort.insOuter lI a b (i + 1) (Sort.insInner lI a i dk) = X) := Lib.hid (by rw [← out_on lI hlt]; exact HX.out)
      clear HX
      obtain ⟨Y, hY⟩ : ∃ Y, Y = Sort.insInner lI a i dk := ⟨_, rfl⟩
      rw [← hY] at HY
      have HI : Hid (Sort.insInner lI a i dk = Y) := Lib.hid hY.symm
      clear hY
      go_wp2
      go_loopw [7] (fun vj w2 => ∃ (j : Nat) (dj : Array Int), vj = .int .i64 (j : Int) ∧ a ≤ j ∧ j ≤ i ∧ Hid (Rw w0 blk off n dj w2) ∧ Hid (Sort.insInner lI a j dj = Y)) (fun vj _ => (intOf vj).toNat)
      case atStart => exact ⟨i, dk, rfl, by omega, by omega, HR, HI⟩
      case round =>
        clear HR HI
        obtain ⟨j, dj, rfl, haj, hji, HR, HI⟩ := hrel
        obtain ⟨G, HG, hc, hf⟩ := HR.out.fam
        by_cases hja : a < j
        · have hja' : (a : Int) < (j : Int) := by omega
          go_wp2_with fail
          go_big_quiet (first | (go_at_call 84; refine Calls.quiet_of_same (less_calls _ _ _)))
          have HR2 := Lib.hid (HR.out.drewN nq)
          generalize wr.drewN nq = W2 at HR2 ⊢
          clear hc hf HR
          obtain ⟨hc, hf⟩ := HR2.out.again HG
          go_wp2_with fail
          · have hl : lI (G j) (G (j - 1)) = true := by assumption
            have HS := Lib.hid (HR2.out.swap HG j (j - 1) (by omega) (by omega))
            go_region
            all_goals go_wp2
            go_roundw
            case rel => exact ⟨j - 1, Sort.swp dj j (j - 1), by congr 1; omega, by omega, by omega, HS, Lib.hid (by rw [← inn_on lI hja (by rw [← HG.out, ← HG.out]; exact hl)]; exact HI.out)⟩
            case measure => simp [intOf]; omega
          · have hl : lI (G j) (G (j - 1)) = false := by assumption
            go_roundw
            case rel => exact ⟨i + 1, dj, by go_num, by omega, by omega, HR2, Lib.hid (by rw [← HY.out, ← HI.out, inn_off lI (fun _ => by rw [← HG.out, ← HG.out]; exact hl)])⟩
            case measure => simp [intOf]; omega
        · have hja' : decide ((a : Int) < (j : Int)) = false := decide_eq_false (by omega)
          have hja2 : ¬ (a : Int) < (j : Int) := by omega
          go_wp2_with fail
          go_big_quiet (first | (go_at_call 84; refine Calls.quiet_of_same (less_calls _ _ _)))
          have HR2 := Lib.hid (HR.out.drewN nq)
          generalize wr.drewN nq = W2 at HR2 ⊢
          go_wp2_with fail
          go_roundw
          case rel => exact ⟨i + 1, dj, by go_num, by omega, by omega, HR2, Lib.hid (by rw [← HY.out, ← HI.out, inn_off lI (fun h => absurd h hja)])⟩
          case measure => simp [intOf]; omega
    · have hlt' : ¬ (i : Int) < (b : Int) := by omega
      have HZ : Hid (dk = X) := Lib.hid (by rw [← HX.out, out_off lI hlt])
      go_wp2
      go_end0
      exact ⟨rfl, by rw [← HZ.out]; exact HR.out⟩
end Go.Proofs.Ytplnmjdafchjbaa
