/- Merged texts: ShaM ShaR Blk. -/
import Derived.Test.YthkkllcpogagiaaDoorMaa
import Derived.Deep.MidRow
import Derived.Deep.WholeRow
import Derived.Laws.OwnMore
/- Plain mathematics of layer 2: the hash of a list of bytes, as the document says it. Nothing of the program is named here. -/
namespace Go.Proofs.YthkkllcpogagiaaDoor

/-- A word, rotated to the right by k (0 < k < 32). -/
def rotr (x k : Nat) : Nat := rol 32 x (32 - k)
set_option maxRecDepth 100000 in
theorem rotr_lt (x k : Nat) (hx : x < 4294967296) : rotr x k < 4294967296 := rol_lt 32 x (32 - k) (by omega) hx

/-- The eight words of a state. -/
structure St where
  a : Nat
  b : Nat
  c : Nat
  d : Nat
  e : Nat
  f : Nat
  g : Nat
  h : Nat

def St.list (s : St) : List Nat := [s.a, s.b, s.c, s.d, s.e, s.f, s.g, s.h]
/-- Each word has 32 bits. -/
def St.ok (s : St) : Prop := ∀ x ∈ s.list, x < 4294967296

def bigS (x i j k : Nat) : Nat := rotr x i ^^^ rotr x j ^^^ rotr x k
def smallS (x i j k : Nat) : Nat := rotr x i ^^^ rotr x j ^^^ x / 2 ^ k
def ch (e f g : Nat) : Nat := (e &&& f) ^^^ ((4294967295 - e) &&& g)
def maj (a b c : Nat) : Nat := (a &&& b) ^^^ (a &&& c) ^^^ (b &&& c)

set_option maxRecDepth 100000 in
theorem xor_lt32 {x y : Nat} (hx : x < 4294967296) (hy : y < 4294967296) : x ^^^ y < 4294967296 := Nat.xor_lt_two_pow (n := 32) hx hy
set_option maxRecDepth 100000 in
theorem and_lt32 {x : Nat} (y : Nat) (hx : x < 4294967296) : x &&& y < 4294967296 := Nat.lt_of_le_of_lt Nat.and_le_left hx
set_option maxRecDepth 100000 in
theorem bigS_lt (x i j k : Nat) (hx : x < 4294967296) : bigS x i j k < 4294967296 := xor_lt32 (xor_lt32 (rotr_lt _ _ hx) (rotr_lt _ _ hx)) (rotr_lt _ _ hx)
set_option maxRecDepth 100000 in
theorem smallS_lt (x i j k : Nat) (hx : x < 4294967296) : smallS x i j k < 4294967296 := xor_lt32 (xor_lt32 (rotr_lt _ _ hx) (rotr_lt _ _ hx)) (Nat.lt_of_le_of_lt (Nat.div_le_self _ _) hx)
set_option maxRecDepth 100000 in
theorem ch_lt (e f g : Nat) (he : e < 4294967296) : ch e f g < 4294967296 := xor_lt32 (and_lt32 _ he) (and_lt32 _ (by omega))
set_option maxRecDepth 100000 in
theorem maj_lt (a b c : Nat) (ha : a < 4294967296) (hb : b < 4294967296) : maj a b c < 4294967296 := xor_lt32 (xor_lt32 (and_lt32 _ ha) (and_lt32 _ ha)) (and_lt32 _ hb)

set_option maxRecDepth 100000 in
theorem nat_not32 (e : Nat) (he : e < 4294967296) : 4294967295 ^^^ e = 4294967295 - e := by
  have h : (4294967295#32 ^^^ BitVec.ofNat 32 e) = 4294967295#32 - BitVec.ofNat 32 e := by
    rw [show (4294967295#32) = BitVec.allOnes 32 from by decide, BitVec.allOnes_sub_eq_not, BitVec.allOnes_xor]
  have h2 := congrArg BitVec.toNat h
  rw [BitVec.toNat_xor, BitVec.toNat_sub, BitVec.toNat_ofNat, BitVec.toNat_ofNat, Nat.mod_eq_of_lt (by omega : e < 2 ^ 32)] at h2
  rw [Nat.mod_eq_of_lt (by omega : 4294967295 < 2 ^ 32)] at h2
  omega
def St.p (s : St) (kw : Nat) : Nat := (s.h + bigS s.e 6 11 25 + ch s.e s.f s.g + kw) % 4294967296
def St.q (s : St) : Nat := (bigS s.a 2 13 22 + maj s.a s.b s.c) % 4294967296
/-- One round, kw being K(t) + w(t). -/
def St.round (s : St) (kw : Nat) : St := ⟨(s.p kw + s.q) % 4294967296, s.a, s.b, s.c, (s.d + s.p kw) % 4294967296, s.e, s.f, s.g⟩
def St.add (s r : St) : St := ⟨(s.a + r.a) % 4294967296, (s.b + r.b) % 4294967296, (s.c + r.c) % 4294967296, (s.d + r.d) % 4294967296, (s.e + r.e) % 4294967296, (s.f + r.f) % 4294967296, (s.g + r.g) % 4294967296, (s.h + r.h) % 4294967296⟩
set_option maxRecDepth 100000 in
theorem St.ok_iff (s : St) : s.ok ↔ s.a < 4294967296 ∧ s.b < 4294967296 ∧ s.c < 4294967296 ∧ s.d < 4294967296 ∧ s.e < 4294967296 ∧ s.f < 4294967296 ∧ s.g < 4294967296 ∧ s.h < 4294967296 := by
  simp [St.ok, St.list]
set_option maxRecDepth 100000 in
theorem St.round_ok (s : St) (kw : Nat) (hs : s.ok) : (s.round kw).ok := by
  rw [St.ok_iff] at *
  obtain ⟨h1, h2, h3, h4, h5, h6, h7, h8⟩ := hs
  exact ⟨Nat.mod_lt _ (by omega), h1, h2, h3, Nat.mod_lt _ (by omega), h5, h6, h7⟩
set_option maxRecDepth 100000 in
theorem St.add_ok (s r : St) : (s.add r).ok := by
  rw [St.ok_iff]
  exact ⟨Nat.mod_lt _ (by omega), Nat.mod_lt _ (by omega), Nat.mod_lt _ (by omega), Nat.mod_lt _ (by omega), Nat.mod_lt _ (by omega), Nat.mod_lt _ (by omega), Nat.mod_lt _ (by omega), Nat.mod_lt _ (by omega)⟩

/-- K(0) to K(63). -/
def kk : List Nat := [1116352408, 1899447441, 3049323471, 3921009573, 961987163, 1508970993, 2453635748, 2870763221, 3624381080, 310598401, 607225278, 1426881987, 1925078388, 2162078206, 2614888103, 3248222580, 3835390401, 4022224774, 264347078, 604807628, 770255983, 1249150122, 1555081692, 1996064986, 2554220882, 2821834349, 2952996808, 3210313671, 3336571891, 3584528711, 113926993, 338241895, 666307205, 773529912, 1294757372, 1396182291, 1695183700, 1986661051, 2177026350, 2456956037, 2730485921, 2820302411, 3259730800, 3345764771, 3516065817, 3600352804, 4094571909, 275423344, 430227734, 506948616, 659060556, 883997877, 958139571, 1322822218, 1537002063, 1747873779, 1955562222, 2024104815, 2227730452, 2361852424, 2428436474, 2756734187, 3204031479, 3329325298]
set_option maxRecDepth 100000 in
theorem kk_len : kk.length = 64 := by decide
set_option maxRecDepth 100000 in
theorem kk_lt : ∀ x ∈ kk, x < 4294967296 := by decide
/-- The state ahead of the first block. -/
def h0 : St := ⟨1779033703, 3144134277, 1013904242, 2773480762, 1359893119, 2600822924, 528734635, 1541459225⟩
set_option maxRecDepth 100000 in
theorem h0_ok : h0.ok := by unfold St.ok; decide

/-- The next word of a schedule. -/
def wnext (l : List Nat) : Nat :=
  (l.getD (l.length - 16) 0 + smallS (l.getD (l.length - 15) 0) 7 18 3 + l.getD (l.length - 7) 0 + smallS (l.getD (l.length - 2) 0) 17 19 10) % 4294967296
/-- A schedule with k words more. -/
def sched (l : List Nat) : Nat → List Nat
  | 0 => l
  | k + 1 => sched l k ++ [wnext (sched l k)]
set_option maxRecDepth 100000 in
@[simp] theorem sched_len (l : List Nat) (k : Nat) : (sched l k).length = l.length + k := by
  induction k with
  | zero => rfl
  | succ k ih => simp [sched, ih]; omega
/-- The number of the four bytes at place 4t, the highest first. -/
def word (l : List UInt8) (t : Nat) : Nat := numL ((l.drop (4 * t)).take 4).reverse
def words (l : List UInt8) (n : Nat) : List Nat := (List.range n).map (word l)
set_option maxRecDepth 100000 in
@[simp] theorem words_len (l : List UInt8) (n : Nat) : (words l n).length = n := by simp [words]
set_option maxRecDepth 100000 in
theorem words_succ (l : List UInt8) (n : Nat) : words l (n + 1) = words l n ++ [word l n] := by simp [words, List.range_succ]
set_option maxRecDepth 100000 in
theorem word_lt (l : List UInt8) (t : Nat) : word l t < 4294967296 := by
  have h := numL_lt ((l.drop (4 * t)).take 4).reverse
  have hl : ((l.drop (4 * t)).take 4).reverse.length ≤ 4 := by rw [List.length_reverse, List.length_take]; omega
  have h2 := Nat.pow_le_pow_right (n := 256) (by omega) hl
  exact Nat.lt_of_lt_of_le h h2
/-- w(0) to w(63) of a block. -/
def wall (l : List UInt8) : List Nat := sched (words l 16) 48
/-- The state after t rounds. -/
def rounds (s : St) (w : List Nat) : Nat → St
  | 0 => s
  | t + 1 => (rounds s w t).round ((kk.getD t 0 + w.getD t 0) % 4294967296)
set_option maxRecDepth 100000 in
theorem rounds_ok (s : St) (w : List Nat) (t : Nat) (hs : s.ok) : (rounds s w t).ok := by
  induction t with
  | zero => exact hs
  | succ t ih => exact St.round_ok _ _ ih
/-- What processing the block l leaves of the state s. -/
def comp (s : St) (l : List UInt8) : St := s.add (rounds s (wall l) 64)
set_option maxRecDepth 100000 in
theorem comp_ok (s : St) (l : List UInt8) : (comp s l).ok := St.add_ok _ _
/-- The state after the first n blocks of l. -/
def chain (s : St) (l : List UInt8) : Nat → St
  | 0 => s
  | n + 1 => comp (chain s l n) ((l.drop (64 * n)).take 64)
set_option maxRecDepth 100000 in
theorem chain_ok (s : St) (l : List UInt8) (n : Nat) (hs : s.ok) : (chain s l n).ok := by
  cases n with
  | zero => exact hs
  | succ n => exact comp_ok _ _
set_option maxRecDepth 100000 in
theorem chain_append (s : St) (l r : List UInt8) (n : Nat) (h : 64 * n ≤ l.length) : chain s (l ++ r) n = chain s l n := by
  induction n with
  | zero => rfl
  | succ n ih =>
    rw [chain, chain, ih (by omega), List.drop_append_of_le_length (by omega), List.take_append_of_le_length (by rw [List.length_drop]; omega)]
/-- What follows a text of n bytes. -/
def tail (n : Nat) : List UInt8 := [128] ++ List.replicate ((64 - (n + 9) % 64) % 64) 0 ++ great (8 * n) 8
set_option maxRecDepth 100000 in
theorem tail_len (n : Nat) : (tail n).length = 9 + (64 - (n + 9) % 64) % 64 := by simp [tail]; omega
set_option maxRecDepth 100000 in
theorem pad_mod (n : Nat) : (n + (tail n).length) % 64 = 0 := by rw [tail_len]; omega
/-- The state at the end of a text. -/
def fin (l : List UInt8) : St := chain h0 (l ++ tail l.length) ((l ++ tail l.length).length / 64)
/-- The bytes of a state. -/
def St.bytes (s : St) : List UInt8 := (s.list.map fun x => great x 4).flatten
set_option maxRecDepth 100000 in
theorem St.bytes_len (s : St) : s.bytes.length = 32 := by simp [St.bytes, St.list]
/-- The hash of a text. -/
def sha (l : List UInt8) : List UInt8 := (fin l).bytes
set_option maxRecDepth 100000 in
theorem sha_len (l : List UInt8) : (sha l).length = 32 := St.bytes_len _
set_option maxRecDepth 100000 in
theorem sha_abc : (sha [97, 98, 99])[0]? = some 186 ∧ (sha [97, 98, 99])[1]? = some 120 ∧ (sha [97, 98, 99])[30]? = some 21 ∧ (sha [97, 98, 99])[31]? = some 173 := by decide +kernel
end Go.Proofs.YthkkllcpogagiaaDoor

/- The contract of sha2.round: one round. -/
namespace Go.Proofs.YthkkllcpogagiaaDoor
open Go.RowKit

/-- A word as a cell holds it. -/
def W32 (n : Nat) : Value := .int .u32 (n : Int)
def St.arr (s : St) : Array Value := #[.int .u32 (s.a : Int), .int .u32 (s.b : Int), .int .u32 (s.c : Int), .int .u32 (s.d : Int), .int .u32 (s.e : Int), .int .u32 (s.f : Int), .int .u32 (s.g : Int), .int .u32 (s.h : Int)]
def St.vals (s : St) : List Value := s.list.map W32
set_option maxRecDepth 100000 in
theorem St.arr_eq (s : St) : s.arr = s.vals.toArray := rfl

set_option maxRecDepth 100000 in
theorem rr_calls (x k : Nat) (w : World) (hx : x < 4294967296) (hk : k < 32) :
    Calls Tryd.prog 56 #[.int .u32 (x : Int), .int .i64 (k : Int)] w (Quiet w (.int .u32 (rotr x k : Int))) := by
  have h := right32_calls x k w hx
  rw [show ((k : Int) % 32).toNat = k from by omega] at h
  exact h

set_option maxRecDepth 100000 in
theorem not32 (e : Nat) (he : e < 4294967296) : bits .xor .u32 IntKind.u32.max (e : Int) = ((4294967295 - e : Nat) : Int) := by
  rw [show IntKind.u32.max = ((4294967295 : Nat) : Int) from rfl, u32_xor_nat _ _ (by omega) he]
  congr 1
  exact nat_not32 e he

set_option maxRecDepth 100000 in
set_option maxHeartbeats 1000000 in
theorem round_calls (s : St) (kw : Nat) (w : World) (hs : s.ok) :
    Calls Tryd.prog 53 #[.agg s.arr, .int .u32 (kw : Int)] w (Ret w (.agg (s.round kw).arr)) := by
  rw [St.ok_iff] at hs
  obtain ⟨a, b, c, d, e, f, g, h'⟩ := s
  obtain ⟨ha, hb, hc, hd, he, hf, hg, hh⟩ := hs
  simp only at ha hb hc hd he hf hg hh
  unfold St.arr
  simp only
  go_enter Tryd.func53, Tryd.ntmps53
  go_wp2
  go_quiet (fail)
  go_wp2_with (go_at_call 56; refine (rr_calls _ _ _ (by assumption) (by decide)).mono ?_; rintro e' w' ⟨rfl, n, rfl⟩)
  have e1 : bits .xor .u32 (bits .xor .u32 (rotr e 6 : Int) (rotr e 11 : Int)) (rotr e 25 : Int) = (bigS e 6 11 25 : Int) := by
    rw [u32_xor_nat _ _ (rotr_lt _ _ he) (rotr_lt _ _ he), u32_xor_nat _ _ (xor_lt32 (rotr_lt _ _ he) (rotr_lt _ _ he)) (rotr_lt _ _ he)]; rfl
  have e2 : bits .xor .u32 (bits .xor .u32 (rotr a 2 : Int) (rotr a 13 : Int)) (rotr a 22 : Int) = (bigS a 2 13 22 : Int) := by
    rw [u32_xor_nat _ _ (rotr_lt _ _ ha) (rotr_lt _ _ ha), u32_xor_nat _ _ (xor_lt32 (rotr_lt _ _ ha) (rotr_lt _ _ ha)) (rotr_lt _ _ ha)]; rfl
  have e3 : bits .xor .u32 (bits .and .u32 (e : Int) (f : Int)) (bits .and .u32 (bits .xor .u32 IntKind.u32.max (e : Int)) (g : Int)) = (ch e f g : Int) := by
    rw [not32 e he, u32_and_nat _ _ he hf, u32_and_nat _ _ (by omega) hg, u32_xor_nat _ _ (and_lt32 _ he) (and_lt32 _ (by omega))]; rfl
  have e4 : bits .xor .u32 (bits .xor .u32 (bits .and .u32 (a : Int) (b : Int)) (bits .and .u32 (a : Int) (c : Int))) (bits .and .u32 (b : Int) (c : Int)) = (maj a b c : Int) := by
    rw [u32_and_nat _ _ ha hb, u32_and_nat _ _ ha hc, u32_and_nat _ _ hb hc, u32_xor_nat _ _ (and_lt32 _ ha) (and_lt32 _ ha), u32_xor_nat _ _ (xor_lt32 (and_lt32 _ ha) (and_lt32 _ ha)) (and_lt32 _ hb)]; rfl
  rw [e1, e2, e3, e4]
  clear e1 e2 e3 e4
  refine bodyPost_ret (v := .agg ((⟨a, b, c, d, e, f, g, h'⟩ : St).round kw).arr) ?_ rfl ⟨rfl, ?_⟩
  · simp [results, Tryd.results53, go_sem]
    have x1 : ((h' : Int) + (bigS e 6 11 25 : Int) + (ch e f g : Int) + (kw : Int) + ((bigS a 2 13 22 : Int) + (maj a b c : Int))) % 4294967296 = ((((h' + bigS e 6 11 25 + ch e f g + kw) % 4294967296 + (bigS a 2 13 22 + maj a b c) % 4294967296) % 4294967296 : Nat) : Int) := by omega
    have x2 : ((d : Int) + ((h' : Int) + (bigS e 6 11 25 : Int) + (ch e f g : Int) + (kw : Int))) % 4294967296 = (((d + (h' + bigS e 6 11 25 + ch e f g + kw) % 4294967296) % 4294967296 : Nat) : Int) := by omega
    rw [x1, x2]
    rfl
  · have hB : w.heap.size ≤ w.heap.size + 1 := Nat.le_succ _
    exact (((((((((below_drewN (((Below.refl _ w).alloc (Nat.le_refl _) _).alloc (by simp) _) _).setCell hB _).setCell hB _).setCell hB _).setCell hB _).setCell hB _).setCell hB _).setCell hB _).setCell hB _)
end Go.Proofs.YthkkllcpogagiaaDoor

/- Words for blocks that a call made: what a block holds, and how that is carried from world to world. -/
namespace Go.Proofs.YthkkllcpogagiaaDoor
open Go.RowKit
set_option linter.unusedVariables false

/-- The block g holds the cells cs, none of them frozen. -/
def Blk (w : World) (g : Nat) (cs : List Value) (t : TypeId) : Prop := w.heap[g]? = some (.cells cs.toArray t (0, 0))

set_option maxRecDepth 100000 in
theorem Blk.lt {w : World} {g : Nat} {cs : List Value} {t : TypeId} (h : Blk w g cs t) : g < w.heap.size := (Array.getElem?_eq_some_iff.1 h).1
set_option maxRecDepth 100000 in
theorem Blk.cell {w : World} {g : Nat} {cs : List Value} {t : TypeId} (h : Blk w g cs t) (j : Nat) : w.cell? ⟨g, j, none⟩ = cs[j]? := by
  rw [cell_of_row w g j _ t (0, 0) h]; simp
set_option maxRecDepth 100000 in
theorem Blk.free {w : World} {g : Nat} {cs : List Value} {t : TypeId} (h : Blk w g cs t) (j : Nat) : w.frozen? ⟨g, j, none⟩ = false := frozen_of_row w g j _ t h
set_option maxRecDepth 100000 in
theorem Blk.range {w : World} {g : Nat} {cs : List Value} {t : TypeId} (h : Blk w g cs t) : w.rangeAt g 0 cs := fun j v hv => by rw [Nat.zero_add, h.cell j, hv]
set_option maxRecDepth 100000 in
theorem Blk.mid {w : World} {g : Nat} {cs : List Value} {t : TypeId} (h : Blk w g cs t) (o n : Nat) : w.rangeAt g o ((cs.drop o).take n) := fun j v hv => by
  rw [h.cell]
  rw [List.getElem?_take] at hv
  split at hv
  · rw [List.getElem?_drop] at hv; exact hv
  · cases hv
set_option maxRecDepth 100000 in
theorem Blk.there {w : World} {g : Nat} {cs : List Value} {t : TypeId} (h : Blk w g cs t) (o n : Nat) (hn : o + n ≤ cs.length) : w.there g o n := fun j hj => by
  rw [h.cell]
  exact ⟨by simp; omega, h.free _⟩
set_option maxRecDepth 100000 in
theorem Blk.set {w : World} {g : Nat} {cs : List Value} {t : TypeId} (h : Blk w g cs t) (i : Nat) (v : Value) : Blk (w.setCell ⟨g, i, none⟩ v) g (cs.set i v) t := by
  have := heap_setCell_same w g i _ t v h
  rw [List.setIfInBounds_toArray] at this
  exact this
set_option maxRecDepth 100000 in
theorem Blk.set_other {w : World} {g : Nat} {cs : List Value} {t : TypeId} (h : Blk w g cs t) (a : Addr) (v : Value) (hne : g ≠ a.block) : Blk (w.setCell a v) g cs t :=
  (heap_setCell_other w a g v hne).trans h
set_option maxRecDepth 100000 in
theorem Blk.below {B : Nat} {w w' : World} {g : Nat} {cs : List Value} {t : TypeId} (h : Blk w g cs t) (hb : Below B w w') (hg : g < B) : Blk w' g cs t := (hb.block g hg).trans h
set_option maxRecDepth 100000 in
theorem Blk.alloc {w : World} {g : Nat} {cs : List Value} {t : TypeId} (h : Blk w g cs t) (o : Obj) : Blk (w.alloc o) g cs t := (heap_alloc_old w o h.lt).trans h
set_option maxRecDepth 100000 in
theorem Blk.drew {w : World} {g : Nat} {cs : List Value} {t : TypeId} (h : Blk w g cs t) : Blk w.drew g cs t := h
set_option maxRecDepth 100000 in
theorem Blk.drewN {w : World} {g : Nat} {cs : List Value} {t : TypeId} (h : Blk w g cs t) (n : Nat) : Blk (w.drewN n) g cs t := h
set_option maxRecDepth 100000 in
theorem Blk.new (w : World) (cs : Array Value) (t : TypeId) : Blk (w.alloc (.cells cs t)) w.heap.size cs.toList t := by
  have := heap_alloc_new w (.cells cs t)
  simpa [Blk] using this
set_option maxRecDepth 100000 in
theorem Blk.new' (w : World) (cs : Array Value) (t : TypeId) (g : Nat) (hg : w.heap.size = g) : Blk (w.alloc (.cells cs t)) g cs.toList t := hg ▸ Blk.new w cs t
/-- list with a part written over. -/
def over (L : List Value) (o : Nat) (vs : List Value) : List Value := L.take o ++ vs ++ L.drop (o + vs.length)
set_option maxRecDepth 100000 in
theorem set_over (v : Value) (vs : List Value) : ∀ (L : List Value) (o : Nat), o + (v :: vs).length ≤ L.length → over (L.set o v) (o + 1) vs = over L o (v :: vs) := by
  intro L o h
  simp only [List.length_cons] at h
  unfold over
  rw [List.take_set, List.length_cons, show o + 1 + vs.length = o + (vs.length + 1) from by omega, List.drop_set_of_lt (by omega)]
  rw [List.take_succ_eq_append_getElem (by omega : o < L.length), List.set_append_right _ _ (by simp; omega)]
  simp [Nat.min_eq_left (by omega : o ≤ L.length)]
set_option maxRecDepth 100000 in
theorem Blk.setCells {g : Nat} {t : TypeId} : ∀ (vs : List Value) (w : World) (cs : List Value) (o : Nat), Blk w g cs t → o + vs.length ≤ cs.length → Blk (w.setCells g o vs) g (over cs o vs) t
  | [], w, cs, o, h, _ => by simpa [over, World.setCells] using h
  | v :: vs, w, cs, o, h, hl => by
    rw [World.setCells, ← set_over v vs cs o hl]
    exact Blk.setCells vs _ _ _ (h.set o v) (by simp at hl ⊢; omega)
set_option maxRecDepth 100000 in
theorem Blk.setCells_other {g b : Nat} {t : TypeId} {cs : List Value} (hne : g ≠ b) : ∀ (vs : List Value) (w : World) (o : Nat), Blk w g cs t → Blk (w.setCells b o vs) g cs t
  | [], _, _, h => h
  | v :: vs, w, o, h => Blk.setCells_other hne vs _ _ (h.set_other ⟨b, o, none⟩ v hne)
set_option maxRecDepth 100000 in
theorem below_setCells {B b : Nat} (hb : B ≤ b) : ∀ (vs : List Value) (a w : World) (o : Nat), Below B a w → Below B a (w.setCells b o vs)
  | [], _, _, _, h => h
  | v :: vs, a, w, o, h => below_setCells hb vs a _ _ (h.setCell (p := ⟨b, o, none⟩) hb v)
set_option maxRecDepth 100000 in
@[simp] theorem size_setCells (b : Nat) : ∀ (vs : List Value) (w : World) (o : Nat), (w.setCells b o vs).heap.size = w.heap.size
  | [], _, _ => rfl
  | v :: vs, w, o => by rw [World.setCells, size_setCells b vs]; simp
set_option maxRecDepth 100000 in
theorem over_all (L vs : List Value) (h : L.length = vs.length) : over L 0 vs = vs := by simp [over, ← h]
set_option maxRecDepth 100000 in
/-- The bytes of a block are bytes that a slice of it reads. -/
theorem Blk.rd {w : World} {g : Nat} {cs : List Value} {t : TypeId} (h : Blk w g cs t) (o n : Nat) (l : List UInt8) (hl : l.length = n) (hc : ∀ j (hj : j < l.length), cs[o + j]? = some (.int .u8 (l[j].toNat : Int))) :
    Rd w (some ⟨g, o, none⟩) n l :=
  ⟨hl, fun _ => ⟨g, o, rfl, h.lt, fun j hj => by rw [h.cell, hc j hj]⟩⟩

/-! Slices of an array that lies in a block, of one-cell elements. -/
set_option maxRecDepth 100000 in
theorem run_sl_lh {P : Program} (t e : TypeId) (N : Nat) (hu : P.underlying t = some (.array N e)) (hs : (P.info? e).map (·.size) = some 1) (g o l h : Nat) (zl zh : Int) (hzl : zl = l) (hzh : zh = h) (h1 : l < h) (h2 : h ≤ N) (w : World) :
    (Instr.sliceAt t (.pointer (some ⟨g, o, none⟩)) (some (.int .i64 zl)) (some (.int .i64 zh)) none).run P w = .ok (.slice (some ⟨g, o + l, none⟩) (h - l) (N - l)) w := by
  subst hzl hzh
  obtain ⟨i, hi, hsz⟩ := Option.map_eq_some_iff.1 hs
  have e1 : (Instr.sliceBound (.int .i64 (h : Int)) N .sliceAlen).run P w = .ok h w := by rw [run_sliceBound (h0 := by omega) (h1 := by omega)]; simp
  have e2 : (Instr.sliceBound (.int .i64 (l : Int)) h .sliceB).run P w = .ok l w := by rw [run_sliceBound (h0 := by omega) (h1 := by omega)]; simp
  simp [Instr.sliceAt, Instr.sureAddr, run_underlying hu, Instr.sliceBounds, e1, e2, sizeOf, typeInfo, hi, hsz, Addr.add_mid, show ¬ N = l from by omega]
set_option maxRecDepth 100000 in
theorem run_sl_l {P : Program} (t e : TypeId) (N : Nat) (hu : P.underlying t = some (.array N e)) (hs : (P.info? e).map (·.size) = some 1) (g o l : Nat) (zl : Int) (hzl : zl = l) (h1 : l < N) (w : World) :
    (Instr.sliceAt t (.pointer (some ⟨g, o, none⟩)) (some (.int .i64 zl)) none none).run P w = .ok (.slice (some ⟨g, o + l, none⟩) (N - l) (N - l)) w := by
  subst hzl
  obtain ⟨i, hi, hsz⟩ := Option.map_eq_some_iff.1 hs
  have e2 : ∀ c, (Instr.sliceBound (.int .i64 (l : Int)) N c).run P w = .ok l w := by intro c; rw [run_sliceBound (h0 := by omega) (h1 := by omega)]; simp
  simp [Instr.sliceAt, Instr.sureAddr, run_underlying hu, Instr.sliceBounds, e2, sizeOf, typeInfo, hi, hsz, Addr.add_mid, show ¬ N = l from by omega]
set_option maxRecDepth 100000 in
theorem run_sl_all {P : Program} (t e : TypeId) (N : Nat) (hu : P.underlying t = some (.array N e)) (hs : (P.info? e).map (·.size) = some 1) (g o : Nat) (h1 : 0 < N) (w : World) :
    (Instr.sliceAt t (.pointer (some ⟨g, o, none⟩)) none none none).run P w = .ok (.slice (some ⟨g, o, none⟩) N N) w := by
  obtain ⟨i, hi, hsz⟩ := Option.map_eq_some_iff.1 hs
  simp [Instr.sliceAt, Instr.sureAddr, run_underlying hu, Instr.sliceBounds, sizeOf, typeInfo, hi, Addr.add_mid]
/-- Nothing but block g has changed, and no block is new. -/
structure Only (g : Nat) (w w2 : World) : Prop where
  os : w2.os = w.os
  tape : w2.tape = w.tape
  output : w2.output = w.output
  size : w2.heap.size = w.heap.size
  block : ∀ i, i ≠ g → w2.heap[i]? = w.heap[i]?
set_option maxRecDepth 100000 in
theorem Only.refl (g : Nat) (w : World) : Only g w w := ⟨rfl, rfl, rfl, rfl, fun _ _ => rfl⟩
set_option maxRecDepth 100000 in
theorem Only.set {g : Nat} {w w2 : World} (h : Only g w w2) (o : Nat) (v : Value) : Only g w (w2.setCell ⟨g, o, none⟩ v) :=
  ⟨h.os, h.tape, h.output, by rw [← h.size]; simp, fun i hi => by rw [heap_setCell_other w2 ⟨g, o, none⟩ i v hi]; exact h.block i hi⟩
set_option maxRecDepth 100000 in
theorem Only.setCells {g : Nat} : ∀ (vs : List Value) (w w2 : World) (o : Nat), Only g w w2 → Only g w (w2.setCells g o vs)
  | [], _, _, _, h => h
  | v :: vs, w, _, o, h => Only.setCells vs w _ _ (h.set o v)
set_option maxRecDepth 100000 in
theorem Only.blk {g i : Nat} {w w2 : World} {cs : List Value} {t : TypeId} (h : Only g w w2) (hb : Blk w i cs t) (hi : i ≠ g) : Blk w2 i cs t := (h.block i hi).trans hb
set_option maxRecDepth 100000 in
theorem Only.below {g B : Nat} {w w2 : World} (h : Only g w w2) (hB : B ≤ g) : Below B w w2 := ⟨h.os, h.tape, h.output, by rw [h.size]; exact Nat.le_refl _, fun i hi => h.block i (by omega)⟩
set_option maxRecDepth 100000 in
/-- A whole array or struct is stored into its block. -/
theorem wpList_store_blk {P : Program} {ops : Array Oper} {rest : List Oper} {op : Oper} {a : Act} {w : World} {Q : Exit → Act → World → Prop} (hgd : op.guard = none) (ty : TypeId) (x y : Operand) (ho : op.op = .store ty x y)
    (g : Nat) (cs0 cells : List Value) (t : TypeId) (hx : a.eval x = .pointer (some ⟨g, 0, none⟩)) (hy : a.eval y = .agg cells.toArray) (hb : Blk w g cs0 t) (hl : cs0.length = cells.length)
    (hi : (P.info? ty).map (·.size) = some cells.length) (h1 : ∀ v ∈ cells, v.oneCell' = true)
    (h : ∀ w2, Blk w2 g cells t → Only g w w2 → wpList P ops Q rest (a.put op.dst undef) w2) : wpList P ops Q (op :: rest) a w := by
  refine wpList_store_mid hgd ty x y ho g 0 cells.toArray hx hy (hb.there 0 _ (by rw [List.size_toArray]; omega)) (by rw [List.size_toArray]; exact hi) (all_oneCell_toArray h1) ?_
  have hs := Blk.setCells cells w cs0 0 hb (by omega)
  rw [over_all _ _ hl] at hs
  exact h _ hs (Only.setCells _ _ _ _ (Only.refl g w))
/-! Guards: the next operation of a plain region is this store, this load. -/
set_option maxRecDepth 100000 in
theorem at_store {P : Program} {ops : Array Oper} {rest : List Oper} {Q : Exit → Act → World → Prop} {a : Act} {w : World} {dst : Option Tmp} {t : TypeId} {p : String} {af : Array Edge} (ty : TypeId) (x y : Operand)
    (h : wpList P ops Q ({ dst := dst, op := .store ty x y, type := t, pos := p, after := af, guard := none } :: rest) a w) : wpList P ops Q ({ dst := dst, op := .store ty x y, type := t, pos := p, after := af, guard := none } :: rest) a w := h
set_option maxRecDepth 100000 in
theorem at_load {P : Program} {ops : Array Oper} {rest : List Oper} {Q : Exit → Act → World → Prop} {a : Act} {w : World} {dst : Option Tmp} {t : TypeId} {p : String} {af : Array Edge} (ty : TypeId) (x : Operand)
    (h : wpList P ops Q ({ dst := dst, op := .load ty x, type := t, pos := p, after := af, guard := none } :: rest) a w) : wpList P ops Q ({ dst := dst, op := .load ty x, type := t, pos := p, after := af, guard := none } :: rest) a w := h
set_option maxRecDepth 100000 in
theorem size8 : (Tryd.prog.info? 5).map (·.size) = some 1 := by kernel_rfl
end Go.Proofs.YthkkllcpogagiaaDoor
