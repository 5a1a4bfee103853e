/- Plain mathematics of layer 2: the hash of a list of bytes, as the document says it. Nothing of the program is named here. -/
import Derived.Test.YtfnlclooneanaaaDoorPlain
namespace Go.Proofs.YtfnlclooneanaaaDoor

/-- A word, rotated to the right by k (0 < k < 32). -/
def rotr (x k : Nat) : Nat := rol 32 x (32 - k)
theorem rotr_lt (x k : Nat) (hx : x < 4294967296) : rotr x k < 4294967296 := rol_lt 32 x (32 - k) (by omega) hx

/-- The eight words of a state. -/
structure St where
  a : Nat
  b : Nat
  c : Nat
  d : Nat
  e : Nat
  f : Nat
  g : Nat
  h : Nat

def St.list (s : St) : List Nat := [s.a, s.b, s.c, s.d, s.e, s.f, s.g, s.h]
/-- Each word has 32 bits. -/
def St.ok (s : St) : Prop := ∀ x ∈ s.list, x < 4294967296

def bigS (x i j k : Nat) : Nat := rotr x i ^^^ rotr x j ^^^ rotr x k
def smallS (x i j k : Nat) : Nat := rotr x i ^^^ rotr x j ^^^ x / 2 ^ k
def ch (e f g : Nat) : Nat := (e &&& f) ^^^ ((4294967295 - e) &&& g)
def maj (a b c : Nat) : Nat := (a &&& b) ^^^ (a &&& c) ^^^ (b &&& c)

theorem xor_lt32 {x y : Nat} (hx : x < 4294967296) (hy : y < 4294967296) : x ^^^ y < 4294967296 := Nat.xor_lt_two_pow (n := 32) hx hy
theorem and_lt32 {x : Nat} (y : Nat) (hx : x < 4294967296) : x &&& y < 4294967296 := Nat.lt_of_le_of_lt Nat.and_le_left hx
theorem bigS_lt (x i j k : Nat) (hx : x < 4294967296) : bigS x i j k < 4294967296 := xor_lt32 (xor_lt32 (rotr_lt _ _ hx) (rotr_lt _ _ hx)) (rotr_lt _ _ hx)
theorem smallS_lt (x i j k : Nat) (hx : x < 4294967296) : smallS x i j k < 4294967296 := xor_lt32 (xor_lt32 (rotr_lt _ _ hx) (rotr_lt _ _ hx)) (Nat.lt_of_le_of_lt (Nat.div_le_self _ _) hx)
theorem ch_lt (e f g : Nat) (he : e < 4294967296) : ch e f g < 4294967296 := xor_lt32 (and_lt32 _ he) (and_lt32 _ (by omega))
theorem maj_lt (a b c : Nat) (ha : a < 4294967296) (hb : b < 4294967296) : maj a b c < 4294967296 := xor_lt32 (xor_lt32 (and_lt32 _ ha) (and_lt32 _ ha)) (and_lt32 _ hb)

theorem nat_not32 (e : Nat) (he : e < 4294967296) : 4294967295 ^^^ e = 4294967295 - e := by
  have h : (4294967295#32 ^^^ BitVec.ofNat 32 e) = 4294967295#32 - BitVec.ofNat 32 e := by
    rw [show (4294967295#32) = BitVec.allOnes 32 from by decide, BitVec.allOnes_sub_eq_not, BitVec.allOnes_xor]
  have h2 := congrArg BitVec.toNat h
  rw [BitVec.toNat_xor, BitVec.toNat_sub, BitVec.toNat_ofNat, BitVec.toNat_ofNat, Nat.mod_eq_of_lt (by omega : e < 2 ^ 32)] at h2
  rw [Nat.mod_eq_of_lt (by omega : 4294967295 < 2 ^ 32)] at h2
  omega
def St.p (s : St) (kw : Nat) : Nat := (s.h + bigS s.e 6 11 25 + ch s.e s.f s.g + kw) % 4294967296
def St.q (s : St) : Nat := (bigS s.a 2 13 22 + maj s.a s.b s.c) % 4294967296
/-- One round, kw being K(t) + w(t). -/
def St.round (s : St) (kw : Nat) : St := ⟨(s.p kw + s.q) % 4294967296, s.a, s.b, s.c, (s.d + s.p kw) % 4294967296, s.e, s.f, s.g⟩
def St.add (s r : St) : St := ⟨(s.a + r.a) % 4294967296, (s.b + r.b) % 4294967296, (s.c + r.c) % 4294967296, (s.d + r.d) % 4294967296, (s.e + r.e) % 4294967296, (s.f + r.f) % 4294967296, (s.g + r.g) % 4294967296, (s.h + r.h) % 4294967296⟩
theorem St.ok_iff (s : St) : s.ok ↔ s.a < 4294967296 ∧ s.b < 4294967296 ∧ s.c < 4294967296 ∧ s.d < 4294967296 ∧ s.e < 4294967296 ∧ s.f < 4294967296 ∧ s.g < 4294967296 ∧ s.h < 4294967296 := by
  simp [St.ok, St.list]
theorem St.round_ok (s : St) (kw : Nat) (hs : s.ok) : (s.round kw).ok := by
  rw [St.ok_iff] at *
  obtain ⟨h1, h2, h3, h4, h5, h6, h7, h8⟩ := hs
  exact ⟨Nat.mod_lt _ (by omega), h1, h2, h3, Nat.mod_lt _ (by omega), h5, h6, h7⟩
theorem St.add_ok (s r : St) : (s.add r).ok := by
  rw [St.ok_iff]
  exact ⟨Nat.mod_lt _ (by omega), Nat.mod_lt _ (by omega), Nat.mod_lt _ (by omega), Nat.mod_lt _ (by omega), Nat.mod_lt _ (by omega), Nat.mod_lt _ (by omega), Nat.mod_lt _ (by omega), Nat.mod_lt _ (by omega)⟩

/-- K(0) to K(63). -/
def kk : List Nat := [1116352408, 1899447441, 3049323471, 3921009573, 961987163, 1508970993, 2453635748, 2870763221, 3624381080, 310598401, 607225278, 1426881987, 1925078388, 2162078206, 2614888103, 3248222580, 3835390401, 4022224774, 264347078, 604807628, 770255983, 1249150122, 1555081692, 1996064986, 2554220882, 2821834349, 2952996808, 3210313671, 3336571891, 3584528711, 113926993, 338241895, 666307205, 773529912, 1294757372, 1396182291, 1695183700, 1986661051, 2177026350, 2456956037, 2730485921, 2820302411, 3259730800, 3345764771, 3516065817, 3600352804, 4094571909, 275423344, 430227734, 506948616, 659060556, 883997877, 958139571, 1322822218, 1537002063, 1747873779, 1955562222, 2024104815, 2227730452, 2361852424, 2428436474, 2756734187, 3204031479, 3329325298]
theorem kk_len : kk.length = 64 := by decide
theorem kk_lt : ∀ x ∈ kk, x < 4294967296 := by decide
/-- The state ahead of the first block. -/
def h0 : St := ⟨1779033703, 3144134277, 1013904242, 2773480762, 1359893119, 2600822924, 528734635, 1541459225⟩
theorem h0_ok : h0.ok := by unfold St.ok; decide

/-- The next word of a schedule. -/
def wnext (l : List Nat) : Nat :=
  (l.getD (l.length - 16) 0 + smallS (l.getD (l.length - 15) 0) 7 18 3 + l.getD (l.length - 7) 0 + smallS (l.getD (l.length - 2) 0) 17 19 10) % 4294967296
/-- A schedule with k words more. -/
def sched (l : List Nat) : Nat → List Nat
  | 0 => l
  | k + 1 => sched l k ++ [wnext (sched l k)]
@[simp] theorem sched_len (l : List Nat) (k : Nat) : (sched l k).length = l.length + k := by
  induction k with
  | zero => rfl
  | succ k ih => simp [sched, ih]; omega
/-- The number of the four bytes at place 4t, the highest first. -/
def word (l : List UInt8) (t : Nat) : Nat := numL ((l.drop (4 * t)).take 4).reverse
def words (l : List UInt8) (n : Nat) : List Nat := (List.range n).map (word l)
@[simp] theorem words_len (l : List UInt8) (n : Nat) : (words l n).length = n := by simp [words]
theorem words_succ (l : List UInt8) (n : Nat) : words l (n + 1) = words l n ++ [word l n] := by simp [words, List.range_succ]
theorem word_lt (l : List UInt8) (t : Nat) : word l t < 4294967296 := by
  have h := numL_lt ((l.drop (4 * t)).take 4).reverse
  have hl : ((l.drop (4 * t)).take 4).reverse.length ≤ 4 := by rw [List.length_reverse, List.length_take]; omega
  have h2 := Nat.pow_le_pow_right (n := 256) (by omega) hl
  exact Nat.lt_of_lt_of_le h h2
/-- w(0) to w(63) of a block. -/
def wall (l : List UInt8) : List Nat := sched (words l 16) 48
/-- The state after t rounds. -/
def rounds (s : St) (w : List Nat) : Nat → St
  | 0 => s
  | t + 1 => (rounds s w t).round ((kk.getD t 0 + w.getD t 0) % 4294967296)
theorem rounds_ok (s : St) (w : List Nat) (t : Nat) (hs : s.ok) : (rounds s w t).ok := by
  induction t with
  | zero => exact hs
  | succ t ih => exact St.round_ok _ _ ih
/-- What processing the block l leaves of the state s. -/
def comp (s : St) (l : List UInt8) : St := s.add (rounds s (wall l) 64)
theorem comp_ok (s : St) (l : List UInt8) : (comp s l).ok := St.add_ok _ _
/-- The state after the first n blocks of l. -/
def chain (s : St) (l : List UInt8) : Nat → St
  | 0 => s
  | n + 1 => comp (chain s l n) ((l.drop (64 * n)).take 64)
theorem chain_ok (s : St) (l : List UInt8) (n : Nat) (hs : s.ok) : (chain s l n).ok := by
  cases n with
  | zero => exact hs
  | succ n => exact comp_ok _ _
theorem chain_append (s : St) (l r : List UInt8) (n : Nat) (h : 64 * n ≤ l.length) : chain s (l ++ r) n = chain s l n := by
  induction n with
  | zero => rfl
  | succ n ih =>
    rw [chain, chain, ih (by omega), List.drop_append_of_le_length (by omega), List.take_append_of_le_length (by rw [List.length_drop]; omega)]
/-- What follows a text of n bytes. -/
def tail (n : Nat) : List UInt8 := [128] ++ List.replicate ((64 - (n + 9) % 64) % 64) 0 ++ great (8 * n) 8
theorem tail_len (n : Nat) : (tail n).length = 9 + (64 - (n + 9) % 64) % 64 := by simp [tail]; omega
theorem pad_mod (n : Nat) : (n + (tail n).length) % 64 = 0 := by rw [tail_len]; omega
/-- The state at the end of a text. -/
def fin (l : List UInt8) : St := chain h0 (l ++ tail l.length) ((l ++ tail l.length).length / 64)
/-- The bytes of a state. -/
def St.bytes (s : St) : List UInt8 := (s.list.map fun x => great x 4).flatten
theorem St.bytes_len (s : St) : s.bytes.length = 32 := by simp [St.bytes, St.list]
/-- The hash of a text. -/
def sha (l : List UInt8) : List UInt8 := (fin l).bytes
theorem sha_len (l : List UInt8) : (sha l).length = 32 := St.bytes_len _
set_option maxRecDepth 100000 in
theorem sha_abc : (sha [97, 98, 99])[0]? = some 186 ∧ (sha [97, 98, 99])[1]? = some 120 ∧ (sha [97, 98, 99])[30]? = some 21 ∧ (sha [97, 98, 99])[31]? = some 173 := by decide +kernel
end Go.Proofs.YtfnlclooneanaaaDoor
