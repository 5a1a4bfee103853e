/- Merged texts: JoinC ShaM ShaR. -/
import Derived.Test.YtnfcnjboeocnmaaDoorMac
import Derived.Test.YtnfcnjboeocnmaaDoorMab
import Derived.Deep.RegionLaw
import Derived.Test.YtnfcnjboeocnmaaDoorMaa
/- The contract of octet.Join. -/
namespace Go.Proofs.YtnfcnjboeocnmaaDoor
open Go.RowKit

set_option maxRecDepth 100000 in
set_option maxHeartbeats 400000 in
theorem join_calls (A : Option Addr) (n c : Nat) (L : List (List UInt8)) (w : World) (hn : n ≤ 1000000) (hf : L.flatten.length ≤ 1000000) (hr : RdL w A n L) :
    Calls Tryd.prog 50 #[.slice A n c] w (Mk w L.flatten) := by
  have HL := Lib.hid hr.len
  have HR := Lib.hid hr
  clear hr
  go_enter Tryd.func50, Tryd.ntmps50
  go_wp2
  go_loop [3, 11] (fun v i => ∃ t q : Nat, t ≤ n ∧ i = .int .i64 t ∧ v = .int .i64 q ∧ q ≤ 1000000 ∧ Hid (q = (L.take t).flatten.length)) (fun _ i => n - (intOf i).toNat)
  case atStart => exact ⟨0, 0, Nat.zero_le _, rfl, rfl, by omega, by show 0 = _; simp⟩
  case round =>
    obtain ⟨t, q, ht, rfl, rfl, hq, HQ⟩ := hrel
    by_cases hlt : t < n
    · obtain ⟨b, off, A', m, c', hl, rfl, hcell, _, hrd⟩ := HR.out.at_ (k := t) hlt
      have hm : m ≤ 1000000 := by
        have h1 := flat_le L (t + 1)
        rw [flat_take L t hl, List.length_append, hrd.len] at h1
        omega
      have hqm : q + m ≤ 1000000 := by
        have h1 := flat_le L (t + 1)
        rw [flat_take L t hl, List.length_append, hrd.len, ← HQ.out] at h1
        omega
      have HRD := Lib.hid hrd.len
      clear hrd
      go_wp2
      go_round
      case rel =>
        refine ⟨t + 1, q + m, by omega, by go_num, by go_num, hqm, ?_⟩
        show q + m = _
        rw [flat_take L t hl, List.length_append, HRD.out, ← HQ.out]
      case measure => simp [intOf]; omega
    · have e : t = n := by omega
      subst e
      have hmk := fun W => run_mk8c (q : Int) q rfl (by omega) W
      go_wp2
      clear hmk
      go_loopw [6, 24] (fun o i wr => ∃ (k p : Nat) (B : Option Addr) (d : Nat), k ≤ t ∧ i = .int .i64 k ∧ o = .slice B p d ∧ Own wr w.heap.size B p d (L.take k).flatten ∧ Below w.heap.size w wr) (fun _ i _ => t - (intOf i).toNat)
      case atStart => exact ⟨0, 0, _, _, Nat.zero_le _, rfl, rfl, Own.room _ _ (by unfold maxLen; omega), (Below.refl _ _).alloc (Nat.le_refl _) _⟩
      case round =>
        obtain ⟨k, p, B, d, hk, rfl, rfl, hown, hbel⟩ := hrel
        by_cases hlt2 : k < t
        · obtain ⟨b, off, A', m, c', hl, rfl, hcell, _, hrd⟩ := (HR.out.below hbel).at_ (k := k) hlt2
          have hpm : p + m ≤ 1000000 := by
            have h1 := flat_le L (k + 1)
            rw [flat_take L k hl, List.length_append, hrd.len, hown.len] at h1
            omega
          go_wp2_with (at_builtin; refine app8_all _ rfl _ _ rfl w.heap.size B p d _ A' m c' _ rfl rfl hown hrd (by omega) hbel.size ?_; intro A2 c2 w2 hown' hbel')
          go_roundw
          case rel =>
            rw [← flat_take L k hl] at hown'
            exact ⟨k + 1, p + m, A2, c2, by omega, by go_num, rfl, hown', hbel.trans hbel'⟩
          case measure => simp [intOf]; omega
        · have e : k = t := by omega
          subst e
          rw [List.take_of_length_le (by rw [HL.out]; omega)] at hown
          go_wp2
          go_ret
          exact ⟨_, _, _, rfl, hown, hbel⟩
end Go.Proofs.YtnfcnjboeocnmaaDoor

/- Plain mathematics of layer 2: the hash of a list of bytes, as the document says it. Nothing of the program is named here. -/
namespace Go.Proofs.YtnfcnjboeocnmaaDoor

/-- A word, rotated to the right by k (0 < k < 32). -/
def rotr (x k : Nat) : Nat := rol 32 x (32 - k)
set_option maxRecDepth 100000 in
theorem rotr_lt (x k : Nat) (hx : x < 4294967296) : rotr x k < 4294967296 := rol_lt 32 x (32 - k) (by omega) hx

/-- The eight words of a state. -/
structure St where
  a : Nat
  b : Nat
  c : Nat
  d : Nat
  e : Nat
  f : Nat
  g : Nat
  h : Nat

def St.list (s : St) : List Nat := [s.a, s.b, s.c, s.d, s.e, s.f, s.g, s.h]
/-- Each word has 32 bits. -/
def St.ok (s : St) : Prop := ∀ x ∈ s.list, x < 4294967296

def bigS (x i j k : Nat) : Nat := rotr x i ^^^ rotr x j ^^^ rotr x k
def smallS (x i j k : Nat) : Nat := rotr x i ^^^ rotr x j ^^^ x / 2 ^ k
def ch (e f g : Nat) : Nat := (e &&& f) ^^^ ((4294967295 - e) &&& g)
def maj (a b c : Nat) : Nat := (a &&& b) ^^^ (a &&& c) ^^^ (b &&& c)

set_option maxRecDepth 100000 in
theorem xor_lt32 {x y : Nat} (hx : x < 4294967296) (hy : y < 4294967296) : x ^^^ y < 4294967296 := Nat.xor_lt_two_pow (n := 32) hx hy
set_option maxRecDepth 100000 in
theorem and_lt32 {x : Nat} (y : Nat) (hx : x < 4294967296) : x &&& y < 4294967296 := Nat.lt_of_le_of_lt Nat.and_le_left hx
set_option maxRecDepth 100000 in
theorem bigS_lt (x i j k : Nat) (hx : x < 4294967296) : bigS x i j k < 4294967296 := xor_lt32 (xor_lt32 (rotr_lt _ _ hx) (rotr_lt _ _ hx)) (rotr_lt _ _ hx)
set_option maxRecDepth 100000 in
theorem smallS_lt (x i j k : Nat) (hx : x < 4294967296) : smallS x i j k < 4294967296 := xor_lt32 (xor_lt32 (rotr_lt _ _ hx) (rotr_lt _ _ hx)) (Nat.lt_of_le_of_lt (Nat.div_le_self _ _) hx)
set_option maxRecDepth 100000 in
theorem ch_lt (e f g : Nat) (he : e < 4294967296) : ch e f g < 4294967296 := xor_lt32 (and_lt32 _ he) (and_lt32 _ (by omega))
set_option maxRecDepth 100000 in
theorem maj_lt (a b c : Nat) (ha : a < 4294967296) (hb : b < 4294967296) : maj a b c < 4294967296 := xor_lt32 (xor_lt32 (and_lt32 _ ha) (and_lt32 _ ha)) (and_lt32 _ hb)

set_option maxRecDepth 100000 in
theorem nat_not32 (e : Nat) (he : e < 4294967296) : 4294967295 ^^^ e = 4294967295 - e := by
  have h : (4294967295#32 ^^^ BitVec.ofNat 32 e) = 4294967295#32 - BitVec.ofNat 32 e := by
    rw [show (4294967295#32) = BitVec.allOnes 32 from by decide, BitVec.allOnes_sub_eq_not, BitVec.allOnes_xor]
  have h2 := congrArg BitVec.toNat h
  rw [BitVec.toNat_xor, BitVec.toNat_sub, BitVec.toNat_ofNat, BitVec.toNat_ofNat, Nat.mod_eq_of_lt (by omega : e < 2 ^ 32)] at h2
  rw [Nat.mod_eq_of_lt (by omega : 4294967295 < 2 ^ 32)] at h2
  omega
def St.p (s : St) (kw : Nat) : Nat := (s.h + bigS s.e 6 11 25 + ch s.e s.f s.g + kw) % 4294967296
def St.q (s : St) : Nat := (bigS s.a 2 13 22 + maj s.a s.b s.c) % 4294967296
/-- One round, kw being K(t) + w(t). -/
def St.round (s : St) (kw : Nat) : St := ⟨(s.p kw + s.q) % 4294967296, s.a, s.b, s.c, (s.d + s.p kw) % 4294967296, s.e, s.f, s.g⟩
def St.add (s r : St) : St := ⟨(s.a + r.a) % 4294967296, (s.b + r.b) % 4294967296, (s.c + r.c) % 4294967296, (s.d + r.d) % 4294967296, (s.e + r.e) % 4294967296, (s.f + r.f) % 4294967296, (s.g + r.g) % 4294967296, (s.h + r.h) % 4294967296⟩
set_option maxRecDepth 100000 in
theorem St.ok_iff (s : St) : s.ok ↔ s.a < 4294967296 ∧ s.b < 4294967296 ∧ s.c < 4294967296 ∧ s.d < 4294967296 ∧ s.e < 4294967296 ∧ s.f < 4294967296 ∧ s.g < 4294967296 ∧ s.h < 4294967296 := by
  simp [St.ok, St.list]
set_option maxRecDepth 100000 in
theorem St.round_ok (s : St) (kw : Nat) (hs : s.ok) : (s.round kw).ok := by
  rw [St.ok_iff] at *
  obtain ⟨h1, h2, h3, h4, h5, h6, h7, h8⟩ := hs
  exact ⟨Nat.mod_lt _ (by omega), h1, h2, h3, Nat.mod_lt _ (by omega), h5, h6, h7⟩
set_option maxRecDepth 100000 in
theorem St.add_ok (s r : St) : (s.add r).ok := by
  rw [St.ok_iff]
  exact ⟨Nat.mod_lt _ (by omega), Nat.mod_lt _ (by omega), Nat.mod_lt _ (by omega), Nat.mod_lt _ (by omega), Nat.mod_lt _ (by omega), Nat.mod_lt _ (by omega), Nat.mod_lt _ (by omega), Nat.mod_lt _ (by omega)⟩

/-- K(0) to K(63). -/
def kk : List Nat := [1116352408, 1899447441, 3049323471, 3921009573, 961987163, 1508970993, 2453635748, 2870763221, 3624381080, 310598401, 607225278, 1426881987, 1925078388, 2162078206, 2614888103, 3248222580, 3835390401, 4022224774, 264347078, 604807628, 770255983, 1249150122, 1555081692, 1996064986, 2554220882, 2821834349, 2952996808, 3210313671, 3336571891, 3584528711, 113926993, 338241895, 666307205, 773529912, 1294757372, 1396182291, 1695183700, 1986661051, 2177026350, 2456956037, 2730485921, 2820302411, 3259730800, 3345764771, 3516065817, 3600352804, 4094571909, 275423344, 430227734, 506948616, 659060556, 883997877, 958139571, 1322822218, 1537002063, 1747873779, 1955562222, 2024104815, 2227730452, 2361852424, 2428436474, 2756734187, 3204031479, 3329325298]
set_option maxRecDepth 100000 in
theorem kk_len : kk.length = 64 := by decide
set_option maxRecDepth 100000 in
theorem kk_lt : ∀ x ∈ kk, x < 4294967296 := by decide
/-- The state ahead of the first block. -/
def h0 : St := ⟨1779033703, 3144134277, 1013904242, 2773480762, 1359893119, 2600822924, 528734635, 1541459225⟩
set_option maxRecDepth 100000 in
theorem h0_ok : h0.ok := by unfold St.ok; decide

/-- The next word of a schedule. -/
def wnext (l : List Nat) : Nat :=
  (l.getD (l.length - 16) 0 + smallS (l.getD (l.length - 15) 0) 7 18 3 + l.getD (l.length - 7) 0 + smallS (l.getD (l.length - 2) 0) 17 19 10) % 4294967296
/-- A schedule with k words more. -/
def sched (l : List Nat) : Nat → List Nat
  | 0 => l
  | k + 1 => sched l k ++ [wnext (sched l k)]
set_option maxRecDepth 100000 in
@[simp] theorem sched_len (l : List Nat) (k : Nat) : (sched l k).length = l.length + k := by
  induction k with
  | zero => rfl
  | succ k ih => simp [sched, ih]; omega
/-- The number of the four bytes at place 4t, the highest first. -/
def word (l : List UInt8) (t : Nat) : Nat := numL ((l.drop (4 * t)).take 4).reverse
def words (l : List UInt8) (n : Nat) : List Nat := (List.range n).map (word l)
set_option maxRecDepth 100000 in
@[simp] theorem words_len (l : List UInt8) (n : Nat) : (words l n).length = n := by simp [words]
set_option maxRecDepth 100000 in
theorem words_succ (l : List UInt8) (n : Nat) : words l (n + 1) = words l n ++ [word l n] := by simp [words, List.range_succ]
set_option maxRecDepth 100000 in
theorem word_lt (l : List UInt8) (t : Nat) : word l t < 4294967296 := by
  have h := numL_lt ((l.drop (4 * t)).take 4).reverse
  have hl : ((l.drop (4 * t)).take 4).reverse.length ≤ 4 := by rw [List.length_reverse, List.length_take]; omega
  have h2 := Nat.pow_le_pow_right (n := 256) (by omega) hl
  exact Nat.lt_of_lt_of_le h h2
/-- w(0) to w(63) of a block. -/
def wall (l : List UInt8) : List Nat := sched (words l 16) 48
/-- The state after t rounds. -/
def rounds (s : St) (w : List Nat) : Nat → St
  | 0 => s
  | t + 1 => (rounds s w t).round ((kk.getD t 0 + w.getD t 0) % 4294967296)
set_option maxRecDepth 100000 in
theorem rounds_ok (s : St) (w : List Nat) (t : Nat) (hs : s.ok) : (rounds s w t).ok := by
  induction t with
  | zero => exact hs
  | succ t ih => exact St.round_ok _ _ ih
/-- What processing the block l leaves of the state s. -/
def comp (s : St) (l : List UInt8) : St := s.add (rounds s (wall l) 64)
set_option maxRecDepth 100000 in
theorem comp_ok (s : St) (l : List UInt8) : (comp s l).ok := St.add_ok _ _
/-- The state after the first n blocks of l. -/
def chain (s : St) (l : List UInt8) : Nat → St
  | 0 => s
  | n + 1 => comp (chain s l n) ((l.drop (64 * n)).take 64)
set_option maxRecDepth 100000 in
theorem chain_ok (s : St) (l : List UInt8) (n : Nat) (hs : s.ok) : (chain s l n).ok := by
  cases n with
  | zero => exact hs
  | succ n => exact comp_ok _ _
set_option maxRecDepth 100000 in
theorem chain_append (s : St) (l r : List UInt8) (n : Nat) (h : 64 * n ≤ l.length) : chain s (l ++ r) n = chain s l n := by
  induction n with
  | zero => rfl
  | succ n ih =>
    rw [chain, chain, ih (by omega), List.drop_append_of_le_length (by omega), List.take_append_of_le_length (by rw [List.length_drop]; omega)]
/-- What follows a text of n bytes. -/
def tail (n : Nat) : List UInt8 := [128] ++ List.replicate ((64 - (n + 9) % 64) % 64) 0 ++ great (8 * n) 8
set_option maxRecDepth 100000 in
theorem tail_len (n : Nat) : (tail n).length = 9 + (64 - (n + 9) % 64) % 64 := by simp [tail]; omega
set_option maxRecDepth 100000 in
theorem pad_mod (n : Nat) : (n + (tail n).length) % 64 = 0 := by rw [tail_len]; omega
/-- The state at the end of a text. -/
def fin (l : List UInt8) : St := chain h0 (l ++ tail l.length) ((l ++ tail l.length).length / 64)
/-- The bytes of a state. -/
def St.bytes (s : St) : List UInt8 := (s.list.map fun x => great x 4).flatten
set_option maxRecDepth 100000 in
theorem St.bytes_len (s : St) : s.bytes.length = 32 := by simp [St.bytes, St.list]
/-- The hash of a text. -/
def sha (l : List UInt8) : List UInt8 := (fin l).bytes
set_option maxRecDepth 100000 in
theorem sha_len (l : List UInt8) : (sha l).length = 32 := St.bytes_len _
set_option maxRecDepth 100000 in
theorem sha_abc : (sha [97, 98, 99])[0]? = some 186 ∧ (sha [97, 98, 99])[1]? = some 120 ∧ (sha [97, 98, 99])[30]? = some 21 ∧ (sha [97, 98, 99])[31]? = some 173 := by decide +kernel
end Go.Proofs.YtnfcnjboeocnmaaDoor

/- The contract of sha2.round: one round. -/
namespace Go.Proofs.YtnfcnjboeocnmaaDoor
open Go.RowKit

/-- A word as a cell holds it. -/
def W32 (n : Nat) : Value := .int .u32 (n : Int)
def St.arr (s : St) : Array Value := #[.int .u32 (s.a : Int), .int .u32 (s.b : Int), .int .u32 (s.c : Int), .int .u32 (s.d : Int), .int .u32 (s.e : Int), .int .u32 (s.f : Int), .int .u32 (s.g : Int), .int .u32 (s.h : Int)]
def St.vals (s : St) : List Value := s.list.map W32
set_option maxRecDepth 100000 in
theorem St.arr_eq (s : St) : s.arr = s.vals.toArray := rfl

set_option maxRecDepth 100000 in
theorem rr_calls (x k : Nat) (w : World) (hx : x < 4294967296) (hk : k < 32) :
    Calls Tryd.prog 53 #[.int .u32 (x : Int), .int .i64 (k : Int)] w (Quiet w (.int .u32 (rotr x k : Int))) := by
  have h := right32_calls x k w hx
  rw [show ((k : Int) % 32).toNat = k from by omega] at h
  exact h

set_option maxRecDepth 100000 in
theorem not32 (e : Nat) (he : e < 4294967296) : bits .xor .u32 IntKind.u32.max (e : Int) = ((4294967295 - e : Nat) : Int) := by
  rw [show IntKind.u32.max = ((4294967295 : Nat) : Int) from rfl, u32_xor_nat _ _ (by omega) he]
  congr 1
  exact nat_not32 e he

set_option maxRecDepth 100000 in
set_option maxHeartbeats 1000000 in
theorem round_calls (s : St) (kw : Nat) (w : World) (hs : s.ok) :
    Calls Tryd.prog 49 #[.agg s.arr, .int .u32 (kw : Int)] w (Ret w (.agg (s.round kw).arr)) := by
  rw [St.ok_iff] at hs
  obtain ⟨a, b, c, d, e, f, g, h'⟩ := s
  obtain ⟨ha, hb, hc, hd, he, hf, hg, hh⟩ := hs
  simp only at ha hb hc hd he hf hg hh
  unfold St.arr
  simp only
  go_enter Tryd.func49, Tryd.ntmps49
  go_wp2
  go_quiet (fail)
  go_wp2_with (go_at_call 53; refine (rr_calls _ _ _ (by assumption) (by decide)).mono ?_; rintro e' w' ⟨rfl, n, rfl⟩)
  have e1 : bits .xor .u32 (bits .xor .u32 (rotr e 6 : Int) (rotr e 11 : Int)) (rotr e 25 : Int) = (bigS e 6 11 25 : Int) := by
    rw [u32_xor_nat _ _ (rotr_lt _ _ he) (rotr_lt _ _ he), u32_xor_nat _ _ (xor_lt32 (rotr_lt _ _ he) (rotr_lt _ _ he)) (rotr_lt _ _ he)]; rfl
  have e2 : bits .xor .u32 (bits .xor .u32 (rotr a 2 : Int) (rotr a 13 : Int)) (rotr a 22 : Int) = (bigS a 2 13 22 : Int) := by
    rw [u32_xor_nat _ _ (rotr_lt _ _ ha) (rotr_lt _ _ ha), u32_xor_nat _ _ (xor_lt32 (rotr_lt _ _ ha) (rotr_lt _ _ ha)) (rotr_lt _ _ ha)]; rfl
  have e3 : bits .xor .u32 (bits .and .u32 (e : Int) (f : Int)) (bits .and .u32 (bits .xor .u32 IntKind.u32.max (e : Int)) (g : Int)) = (ch e f g : Int) := by
    rw [not32 e he, u32_and_nat _ _ he hf, u32_and_nat _ _ (by omega) hg, u32_xor_nat _ _ (and_lt32 _ he) (and_lt32 _ (by omega))]; rfl
  have e4 : bits .xor .u32 (bits .xor .u32 (bits .and .u32 (a : Int) (b : Int)) (bits .and .u32 (a : Int) (c : Int))) (bits .and .u32 (b : Int) (c : Int)) = (maj a b c : Int) := by
    rw [u32_and_nat _ _ ha hb, u32_and_nat _ _ ha hc, u32_and_nat _ _ hb hc, u32_xor_nat _ _ (and_lt32 _ ha) (and_lt32 _ ha), u32_xor_nat _ _ (xor_lt32 (and_lt32 _ ha) (and_lt32 _ ha)) (and_lt32 _ hb)]; rfl
  rw [e1, e2, e3, e4]
  clear e1 e2 e3 e4
  refine bodyPost_ret (v := .agg ((⟨a, b, c, d, e, f, g, h'⟩ : St).round kw).arr) ?_ rfl ⟨rfl, ?_⟩
  · simp [results, Tryd.results49, go_sem]
    have x1 : ((h' : Int) + (bigS e 6 11 25 : Int) + (ch e f g : Int) + (kw : Int) + ((bigS a 2 13 22 : Int) + (maj a b c : Int))) % 4294967296 = ((((h' + bigS e 6 11 25 + ch e f g + kw) % 4294967296 + (bigS a 2 13 22 + maj a b c) % 4294967296) % 4294967296 : Nat) : Int) := by omega
    have x2 : ((d : Int) + ((h' : Int) + (bigS e 6 11 25 : Int) + (ch e f g : Int) + (kw : Int))) % 4294967296 = (((d + (h' + bigS e 6 11 25 + ch e f g + kw) % 4294967296) % 4294967296 : Nat) : Int) := by omega
    rw [x1, x2]
    rfl
  · have hB : w.heap.size ≤ w.heap.size + 1 := Nat.le_succ _
    exact (((((((((below_drewN (((Below.refl _ w).alloc (Nat.le_refl _) _).alloc (by simp) _) _).setCell hB _).setCell hB _).setCell hB _).setCell hB _).setCell hB _).setCell hB _).setCell hB _).setCell hB _)
end Go.Proofs.YtnfcnjboeocnmaaDoor
