/- Merged texts: Lit Num Value Dgs CodM CodF. -/
import Derived.Test.YtpoinhjkdgcnaaaDoorMaa
import Derived.Laws.BitsAllLaws
import Derived.WalkKit
import Derived.WalkSpells
import Derived.WalkLawsBesides
import Derived.Lib.Hide
import Derived.Test.YtpoinhjkdgcnaaaDoorMab
import Derived.Test.YtpoinhjkdgcnaaaDoorMad
import Derived.Test.YtpoinhjkdgcnaaaDoorMaj
/- The contract of octet.Little: new memory that holds the bytes of a number, the lowest first. -/
namespace Go.Proofs.YtpoinhjkdgcnaaaDoor
open Go.RowKit

/-- What stands in the slice while Little goes: the first i of the m bytes. -/
def lpart (n m i : Nat) : List UInt8 := little n i ++ List.replicate (m - i) 0
set_option maxRecDepth 100000 in
@[simp] theorem lpart_len (n m i : Nat) (h : i ≤ m) : (lpart n m i).length = m := by simp [lpart]; omega
set_option maxRecDepth 100000 in
theorem lpart_set (n m i : Nat) (h : i < m) : (lpart n m i).set i (UInt8.ofNat (n / 256 ^ i)) = lpart n m (i + 1) := by
  unfold lpart
  rw [List.set_append_right _ _ (by simp)]
  simp only [little_len, Nat.sub_self]
  rw [show m - i = (m - (i + 1)) + 1 from by omega, List.replicate_succ, List.set_cons_zero]
  simp [little, List.range_succ]

end Go.Proofs.YtpoinhjkdgcnaaaDoor

/- The contract of octet.Num: the number of the first eight bytes, the lowest first. -/
namespace Go.Proofs.YtpoinhjkdgcnaaaDoor
open Go.RowKit

set_option maxRecDepth 100000 in
theorem num_step (l : List UInt8) (t : Nat) (hl : t < l.length) (ht : t < 8) :
    bits .or .u64 (numL (l.take t) : Int) (IntKind.u64.wrap ((l[t].toNat : Int) * 2 ^ (8 * t))) = (numL (l.take (t + 1)) : Int) := by
  have hx := numL_lt (l.take t)
  rw [List.length_take, Nat.min_eq_left (by omega)] at hx
  have hc := l[t].toNat_lt
  have hp := pow_le64 (t + 1) (by omega)
  have hpos : 0 < 256 ^ t := Nat.pow_pos (by omega)
  have hz : l[t].toNat * 256 ^ t < 18446744073709551616 := by
    rw [Nat.pow_succ] at hp
    have : l[t].toNat * 256 ^ t ≤ 255 * 256 ^ t := Nat.mul_le_mul_right _ (by omega)
    omega
  have e : (l[t].toNat : Int) * 2 ^ (8 * t) = ((l[t].toNat * 256 ^ t : Nat) : Int) := by
    rw [← pow8, Int.natCast_mul, Int.natCast_pow]; rfl
  rw [e, wrap64_nat _ hz, u64_or_nat _ _ (by have := pow_le64 t (by omega); omega) hz]
  congr 1
  rw [take_snoc l t hl, numL_append, List.length_take, Nat.min_eq_left (by omega), Nat.or_comm]
  rw [nat_join (8 * t) _ _ (by rw [pow8]; exact Nat.mul_mod_left _ _) (by rw [pow8]; exact hx)]
  simp only [numL]
  rw [Nat.mul_zero, Nat.add_zero, Nat.mul_comm (256 ^ t), Nat.add_comm]
end Go.Proofs.YtpoinhjkdgcnaaaDoor

/- The contract of the document's own Value. -/
namespace Go.Proofs.YtpoinhjkdgcnaaaDoor
open Go.RowKit

set_option maxRecDepth 100000 in
theorem val_add (x c : Nat) (hx : x < 72057594037927936) (hc : c < 256) : IntKind.u64.wrap (IntKind.u64.wrap ((x : Int) * 256) + (c : Int)) = ((c + 256 * x : Nat) : Int) := by
  have e : (x : Int) * 256 = ((x * 256 : Nat) : Int) := by omega
  rw [e, wrap64_nat _ (by omega), IntKind.wrap_u64]
  omega
set_option maxRecDepth 100000 in
theorem val_step (l : List UInt8) (t : Nat) (hl : t - 1 < l.length) (h0 : 0 < t) (ht : t ≤ 8) :
    IntKind.u64.wrap (IntKind.u64.wrap ((numL ((l.take 8).drop t) : Int) * 256) + (l[t - 1].toNat : Int)) = (numL ((l.take 8).drop (t - 1)) : Int) := by
  have hx := numL_lt ((l.take 8).drop t)
  have h7 : ((l.take 8).drop t).length ≤ 7 := by rw [List.length_drop, List.length_take]; omega
  have := pow_lt56 _ h7
  rw [val_add _ _ (by omega) l[t - 1].toNat_lt]
  congr 1
  have hd : (l.take 8).drop (t - 1) = l[t - 1] :: (l.take 8).drop t := by
    have h := List.drop_eq_getElem_cons (l := l.take 8) (i := t - 1) (by rw [List.length_take]; omega)
    rw [h, show t - 1 + 1 = t from by omega, List.getElem_take]
  rw [hd]
  rfl
end Go.Proofs.YtpoinhjkdgcnaaaDoor

/- Slices of ints that a call made; contracts of the document's own Held (a width within 0 and 8) and Digits (the bytes of a number as ints). -/
namespace Go.Proofs.YtpoinhjkdgcnaaaDoor
open Go.RowKit

set_option maxRecDepth 100000 in
theorem infoInt : (Tryd.prog.info? 3).map (fun i => (i.zero, i.size, i.bytes)) = some (some (.int .i64 0), 1, 8) := by kernel_rfl

/-- The slice of ints that the call made. -/
def OwnJ (w : World) (base : Nat) (A : Option Addr) (n c : Nat) (l : List Int) : Prop := l.length = n ∧ w.ownsRow base 3 1 (.slice A n c) n (l.map (Value.int .i64))

set_option maxRecDepth 100000 in
theorem OwnJ.at_ {w : World} {base n c : Nat} {A : Option Addr} {l : List Int} (h : OwnJ w base A n c l) {k : Nat} (hk : k < n) :
    ∃ g, ∃ hl : k < l.length, A = some ⟨g, 0, none⟩ ∧ g < w.heap.size ∧ w.cell? ⟨g, k, none⟩ = some (.int .i64 l[k]) := by
  obtain ⟨hl, h⟩ := h
  obtain ⟨g, cap, hv, _, hlt⟩ := World.ownsRow.form h (by omega)
  have hA : A = some ⟨g, 0, none⟩ := by injection hv
  subst hA
  have := World.ownsRow.cellAt h k (by omega)
  refine ⟨g, by omega, rfl, hlt, ?_⟩
  rw [this]
  simp [List.getElem?_eq_getElem (show k < l.length by omega)]
set_option maxRecDepth 100000 in
theorem OwnJ.below {w w' : World} {base n c : Nat} {A : Option Addr} {l : List Int} (h : OwnJ w base A n c l) (hb : Below w.heap.size w w') : OwnJ w' base A n c l := by
  refine ⟨h.1, h.2.1, ?_⟩
  rcases h.2.2 with h' | ⟨g, cap, cur, e, hbg, hh, hr⟩
  · exact .inl h'
  · refine .inr ⟨g, cap, cur, e, hbg, ?_, hr⟩
    have hlt : g < w.heap.size := by
      rcases Nat.lt_or_ge g w.heap.size with h1 | h1
      · exact h1
      · rw [Array.getElem?_eq_none h1] at hh; cases hh
    rw [hb.block g hlt]; exact hh

/-- The first m bytes of n as ints. -/
def dgs (n m : Nat) : List Int := (List.range m).map fun i => ((n / 256 ^ i % 256 : Nat) : Int)
set_option maxRecDepth 100000 in
theorem dgs_succ (n m : Nat) : dgs n (m + 1) = dgs n m ++ [((n / 256 ^ m % 256 : Nat) : Int)] := by simp [dgs, List.range_succ]

def MkI (w : World) (l : List Int) (e : Ending) (w' : World) : Prop :=
  ∃ A n c, e = .returned (.slice A n c) ∧ OwnJ w' w.heap.size A n c l ∧ Below w.heap.size w w'

set_option maxRecDepth 100000 in
theorem OwnJ.nil (w : World) (base : Nat) : OwnJ w base none 0 0 [] := ⟨rfl, World.ownsRow_nil _ _ _ _⟩

end Go.Proofs.YtpoinhjkdgcnaaaDoor

/- Plain mathematics of layer 6: counts and their bytes; what a reader is left with. Nothing of the program is named here. -/
namespace Go.Proofs.YtpoinhjkdgcnaaaDoor

/-- How many bytes follow the first byte of the count n. -/
def more (n : Nat) : Nat := if n < 253 then 0 else if n < 65536 then 2 else if n < 4294967296 then 4 else 8
/-- The first byte of the count n. -/
def headB (n : Nat) : UInt8 := if n < 253 then UInt8.ofNat n else if n < 65536 then 253 else if n < 4294967296 then 254 else 255
/-- The bytes of the count n. -/
def cnt (n : Nat) : List UInt8 := headB n :: little n (more n)
/-- How many bytes follow a first byte. -/
def foll (c : UInt8) : Nat := if c = 253 then 2 else if c = 254 then 4 else if c = 255 then 8 else 0
/-- The number that bytes spell as a count. -/
def cval (c : UInt8) (r : List UInt8) : Nat := if foll c = 0 then c.toNat else numL (r.take (foll c))
/-- The count with which bytes begin (0 if none), how many bytes it has (0 if none), and the error. -/
def first (l : List UInt8) (most : Nat) : Nat × Nat × Nat :=
  match l with
  | [] => (0, 0, 2)
  | c :: r => if r.length < foll c then (0, 0, 2) else if foll c ≠ more (cval c r) then (0, 0, 3) else if most < cval c r then (0, 0, 4) else (cval c r, 1 + foll c, 0)
/-- What is taken as n bytes, what is left, and the error. -/
def tkV (l : List UInt8) (e n : Nat) : List UInt8 := if e = 0 ∧ n ≤ l.length then l.take n else []
def tkL (l : List UInt8) (e n : Nat) : List UInt8 := if e = 0 ∧ n ≤ l.length then l.drop n else l
def tkE (l : List UInt8) (e n : Nat) : Nat := if e = 0 then (if n ≤ l.length then 0 else 2) else e
/-- What is taken as a count, what is left, and the error. -/
def cvV (l : List UInt8) (e most : Nat) : Nat := if e = 0 then (first l most).1 else 0
def cvL (l : List UInt8) (e most : Nat) : List UInt8 := if e = 0 then l.drop (first l most).2.1 else l
def cvE (l : List UInt8) (e most : Nat) : Nat := if e = 0 then (first l most).2.2 else e
/-- What is taken as a text, what is left, and the error. -/
def txV (l : List UInt8) (e most : Nat) : List UInt8 := tkV (cvL l e most) (cvE l e most) (cvV l e most)
def txE (l : List UInt8) (e most : Nat) : Nat := tkE (cvL l e most) (cvE l e most) (cvV l e most)
def txL (l : List UInt8) (e most : Nat) : List UInt8 := if txE l e most = 0 then tkL (cvL l e most) (cvE l e most) (cvV l e most) else l

set_option maxRecDepth 100000 in
theorem foll_le (c : UInt8) : foll c ≤ 8 := by unfold foll; (repeat' split) <;> omega
set_option maxRecDepth 100000 in
theorem more_le (n : Nat) : more n ≤ 8 := by unfold more; (repeat' split) <;> omega
set_option maxRecDepth 100000 in
@[simp] theorem cnt_len (n : Nat) : (cnt n).length = 1 + more n := by simp [cnt]; omega
set_option maxRecDepth 100000 in
theorem cval_lt (c : UInt8) (r : List UInt8) : cval c r < 18446744073709551616 := by
  unfold cval
  split
  · have := c.toNat_lt; omega
  · have h1 := numL_lt (r.take (foll c))
    have h2 : (r.take (foll c)).length ≤ 8 := by rw [List.length_take]; have := foll_le c; omega
    have h3 := Nat.pow_le_pow_right (n := 256) (by omega) h2
    have h4 : 256 ^ 8 = 18446744073709551616 := by decide
    omega
set_option maxRecDepth 100000 in
theorem little_numL (l : List UInt8) : little (numL l) l.length = l := by
  induction l with
  | nil => rfl
  | cons c r ih =>
    rw [List.length_cons, little_succ, numL]
    have hc := c.toNat_lt
    congr 1
    · apply UInt8.toNat_inj.1
      rw [ofNat_toNat]
      omega
    · rw [show (c.toNat + 256 * numL r) / 256 = numL r from by omega]
      exact ih
set_option maxRecDepth 100000 in
theorem head_more (n : Nat) : (more n = 0 → n < 253) ∧ (more n = 2 → headB n = 253) ∧ (more n = 4 → headB n = 254) ∧ (more n = 8 → headB n = 255) := by
  unfold more headB
  by_cases h1 : n < 253
  · simp [h1]
  · by_cases h2 : n < 65536
    · simp [h1, h2]
    · by_cases h3 : n < 4294967296
      · simp [h1, h2, h3]
      · simp [h1, h2, h3]
set_option maxRecDepth 100000 in
theorem foll_more {c : UInt8} {r : List UInt8} (hl : foll c ≤ r.length) (h : foll c = more (cval c r)) : c :: r.take (foll c) = cnt (cval c r) := by
  unfold cnt
  have hlen : (r.take (foll c)).length = foll c := by rw [List.length_take]; omega
  by_cases h0 : foll c = 0
  · have hv : cval c r = c.toNat := by simp [cval, h0]
    rw [hv, h0] at h
    rw [hv]
    have hlt : c.toNat < 253 := by unfold more at h; split at h; assumption; split at h; omega; split at h <;> omega
    rw [h0, ← h]
    simp [headB, hlt, little]
  · have hv : cval c r = numL (r.take (foll c)) := by simp [cval, h0]
    have hlit : little (cval c r) (more (cval c r)) = r.take (foll c) := by
      rw [← h, hv]
      have := little_numL (r.take (foll c))
      rw [hlen] at this
      exact this
    rw [hlit]
    congr 1
    have hh := head_more (cval c r)
    unfold foll at h h0
    by_cases e1 : c = 253
    · rw [if_pos e1] at h
      exact e1.trans (hh.2.1 h.symm).symm
    · by_cases e2 : c = 254
      · rw [if_neg e1, if_pos e2] at h
        exact e2.trans (hh.2.2.1 h.symm).symm
      · by_cases e3 : c = 255
        · rw [if_neg e1, if_neg e2, if_pos e3] at h
          exact e3.trans (hh.2.2.2 h.symm).symm
        · rw [if_neg e1, if_neg e2, if_neg e3] at h0
          exact absurd rfl h0
set_option maxRecDepth 100000 in
/-- Bytes spell a count just if they are its bytes. -/
theorem spell_iff {c : UInt8} {r : List UInt8} (hl : foll c ≤ r.length) : cnt (cval c r) = c :: r.take (foll c) ↔ foll c = more (cval c r) := by
  constructor
  · intro h
    have := congrArg List.length h
    rw [cnt_len, List.length_cons, List.length_take] at this
    omega
  · exact fun h => (foll_more hl h).symm
set_option maxRecDepth 100000 in
theorem first_ok {l : List UInt8} {most : Nat} (h : (first l most).2.2 = 0) : l = cnt (first l most).1 ++ l.drop (first l most).2.1 ∧ (first l most).1 ≤ most ∧ (first l most).2.1 ≤ l.length ∧ (first l most).1 < 18446744073709551616 := by
  unfold first at h ⊢
  match l with
  | [] => simp at h
  | c :: r =>
    simp only at h ⊢
    split at h
    · simp at h
    · split at h
      · simp at h
      · split at h
        · simp at h
        · rename_i h1 h2 h3
          rw [if_neg h1, if_neg h2, if_neg h3]
          have h2' : foll c = more (cval c r) := by omega
          refine ⟨?_, by omega, by simp; omega, cval_lt c r⟩
          show c :: r = cnt (cval c r) ++ (c :: r).drop (1 + foll c)
          rw [← foll_more (by omega) h2', Nat.add_comm 1, List.drop_succ_cons, List.cons_append, List.take_append_drop]
set_option maxRecDepth 100000 in
theorem first_err {l : List UInt8} {most : Nat} (h : (first l most).2.2 ≠ 0) : (first l most).1 = 0 ∧ (first l most).2.1 = 0 := by
  unfold first at h ⊢
  match l with
  | [] => simp
  | c :: r =>
    simp only at h ⊢
    split
    · simp
    · split
      · simp
      · split
        · simp
        · rename_i h1 h2 h3
          rw [if_neg h1, if_neg h2, if_neg h3] at h
          simp at h
set_option maxRecDepth 100000 in
theorem first_le (l : List UInt8) (most : Nat) : (first l most).2.1 ≤ l.length ∧ (first l most).1 ≤ most ∧ (first l most).1 < 18446744073709551616 ∧ (first l most).2.2 ≤ 4 := by
  refine ⟨?_, ?_, ?_, ?_⟩
  · by_cases h : (first l most).2.2 = 0
    · exact (first_ok h).2.2.1
    · rw [(first_err h).2]; omega
  · by_cases h : (first l most).2.2 = 0
    · exact (first_ok h).2.1
    · rw [(first_err h).1]; omega
  · by_cases h : (first l most).2.2 = 0
    · exact (first_ok h).2.2.2
    · rw [(first_err h).1]; omega
  · unfold first
    match l with
    | [] => simp
    | c :: r => simp only; (repeat' split) <;> simp only [Nat.le_refl, Nat.reduceLeDiff, Nat.zero_le]
set_option maxRecDepth 100000 in
theorem foll_head (n : Nat) : foll (headB n) = more n := by
  unfold foll headB more
  split
  · rename_i h
    have hn : ∀ c : UInt8, 253 ≤ c.toNat → UInt8.ofNat n ≠ c := fun c hc e => by
      have := congrArg UInt8.toNat e
      rw [ofNat_toNat] at this
      omega
    rw [if_neg (hn 253 (by decide)), if_neg (hn 254 (by decide)), if_neg (hn 255 (by decide))]
  · split
    · rfl
    · split <;> rfl
set_option maxRecDepth 100000 in
theorem cval_cnt (n : Nat) (hn : n < 18446744073709551616) (r : List UInt8) : cval (headB n) (little n (more n) ++ r) = n := by
  unfold cval
  rw [foll_head, List.take_append_of_le_length (by simp), List.take_of_length_le (by simp), numL_little]
  split
  · rename_i h
    have hlt : n < 253 := by unfold more at h; split at h; assumption; split at h; omega; split at h <;> omega
    unfold headB
    rw [if_pos hlt, ofNat_toNat]
    omega
  · rename_i h
    apply Nat.mod_eq_of_lt
    unfold more
    split
    · rename_i h1; simp [more, h1] at h
    · split
      · show n < 65536; assumption
      · split
        · show n < 4294967296; assumption
        · show n < 18446744073709551616; exact hn
set_option maxRecDepth 100000 in
theorem first_cnt (n most : Nat) (hn : n < 18446744073709551616) (hm : n ≤ most) (r : List UInt8) : first (cnt n ++ r) most = (n, 1 + more n, 0) := by
  have hv := cval_cnt n hn r
  unfold first cnt
  simp only [List.cons_append, hv, foll_head]
  rw [if_neg (by simp), if_neg (by omega), if_neg (by omega)]
set_option maxRecDepth 100000 in
theorem drop_cnt (n : Nat) (r : List UInt8) : (cnt n ++ r).drop (1 + more n) = r := by
  rw [← cnt_len n, List.drop_left]
end Go.Proofs.YtpoinhjkdgcnaaaDoor

/- Words for objects that are written again and again: all but some blocks still hold what they held. -/
namespace Go.Proofs.YtpoinhjkdgcnaaaDoor
open Go.RowKit
set_option linter.unusedVariables false

/-- All blocks that were there but those of S still hold what they held. -/
structure Frm (S : Nat → Prop) (w w' : World) : Prop where
  os : w'.os = w.os
  tape : w'.tape = w.tape
  output : w'.output = w.output
  size : w.heap.size ≤ w'.heap.size
  block : ∀ i, i < w.heap.size → ¬ S i → w'.heap[i]? = w.heap[i]?
set_option maxRecDepth 100000 in
theorem Frm.refl (S : Nat → Prop) (w : World) : Frm S w w := ⟨rfl, rfl, rfl, Nat.le_refl _, fun _ _ _ => rfl⟩
set_option maxRecDepth 100000 in
theorem Frm.trans {S : Nat → Prop} {a b c : World} (h : Frm S a b) (k : Frm S b c) : Frm S a c :=
  ⟨k.os.trans h.os, k.tape.trans h.tape, k.output.trans h.output, Nat.le_trans h.size k.size, fun i hi hS => (k.block i (Nat.lt_of_lt_of_le hi h.size) hS).trans (h.block i hi hS)⟩
set_option maxRecDepth 100000 in
theorem Frm.step {S T : Nat → Prop} {a b c : World} (h : Frm S a b) (k : Frm T b c) (hT : ∀ i, T i → S i ∨ a.heap.size ≤ i) : Frm S a c :=
  ⟨k.os.trans h.os, k.tape.trans h.tape, k.output.trans h.output, Nat.le_trans h.size k.size, fun i hi hS => (k.block i (Nat.lt_of_lt_of_le hi h.size) (fun ht => by rcases hT i ht with h1 | h1; exact hS h1; omega)).trans (h.block i hi hS)⟩
set_option maxRecDepth 100000 in
theorem Frm.mono {S T : Nat → Prop} {w w' : World} (h : Frm S w w') (hT : ∀ i, S i → T i) : Frm T w w' := ⟨h.os, h.tape, h.output, h.size, fun i hi hn => h.block i hi (fun hs => hn (hT i hs))⟩
set_option maxRecDepth 100000 in
theorem Frm.of_below {S : Nat → Prop} {w w' : World} (h : Below w.heap.size w w') : Frm S w w' := ⟨h.os, h.tape, h.output, h.size, fun i hi _ => h.block i hi⟩
set_option maxRecDepth 100000 in
theorem Frm.alloc {S : Nat → Prop} {w w' : World} (h : Frm S w w') (o : Obj) : Frm S w (w'.alloc o) :=
  h.trans (Frm.of_below ((Below.refl _ _).alloc (Nat.le_refl _) o))
set_option maxRecDepth 100000 in
theorem Frm.drew {S : Nat → Prop} {w w' : World} (h : Frm S w w') : Frm S w w'.drew := ⟨h.os, h.tape, h.output, h.size, h.block⟩
set_option maxRecDepth 100000 in
theorem Frm.undrew {S : Nat → Prop} {w w' : World} (h : Frm S w.drew w') : Frm S w w' := ⟨h.os, h.tape, h.output, h.size, h.block⟩
set_option maxRecDepth 100000 in
theorem Frm.below {S : Nat → Prop} {w w' : World} (h : Frm S w w') {B : Nat} (hB : B ≤ w.heap.size) (hS : ∀ i, S i → B ≤ i) : Below B w w' :=
  ⟨h.os, h.tape, h.output, h.size, fun i hi => h.block i (by omega) (fun hs => by have := hS i hs; omega)⟩
set_option maxRecDepth 100000 in
theorem Frm.cell {S : Nat → Prop} {w w' : World} (h : Frm S w w') {p : Addr} (hp : p.block < w.heap.size) (hS : ¬ S p.block) : w'.cell? p = w.cell? p := World.cell?_of_block (w := w) (h.block p.block hp hS)
set_option maxRecDepth 100000 in
theorem Frm.blk {S : Nat → Prop} {w w' : World} {g : Nat} {cs : List Value} {t : TypeId} (h : Frm S w w') (hb : Blk w g cs t) (hS : ¬ S g) : Blk w' g cs t := (h.block g hb.lt hS).trans hb
set_option maxRecDepth 100000 in
theorem Frm.only {g : Nat} {S : Nat → Prop} {w w' : World} (h : Only g w w') (hS : S g) : Frm S w w' :=
  ⟨h.os, h.tape, h.output, by rw [h.size]; exact Nat.le_refl _, fun i hi hn => h.block i (fun e => hn (e ▸ hS))⟩
set_option maxRecDepth 100000 in
theorem Frm.setCell {S : Nat → Prop} {w w' : World} (h : Frm S w w') (g o : Nat) (v : Value) (hS : S g) : Frm S w (w'.setCell ⟨g, o, none⟩ v) :=
  h.trans (Frm.only ((Only.refl g w').set o v) hS)

/-- The slice of n bytes that begins at A holds the bytes l, and lies in no block of S. -/
def RdF (w : World) (S : Nat → Prop) (A : Option Addr) (n : Nat) (l : List UInt8) : Prop :=
  l.length = n ∧ (0 < n → ∃ b off, A = some ⟨b, off, none⟩ ∧ ¬ S b ∧ b < w.heap.size ∧ ∀ j (h : j < l.length), w.cell? ⟨b, off + j, none⟩ = some (.int .u8 (l[j].toNat : Int)))
set_option maxRecDepth 100000 in
theorem RdF.len {w : World} {S : Nat → Prop} {A : Option Addr} {n : Nat} {l : List UInt8} (h : RdF w S A n l) : l.length = n := h.1
set_option maxRecDepth 100000 in
theorem RdF.nil (w : World) (S : Nat → Prop) (A : Option Addr) : RdF w S A 0 [] := ⟨rfl, fun h => absurd h (by omega)⟩
set_option maxRecDepth 100000 in
theorem RdF.rd {w : World} {S : Nat → Prop} {A : Option Addr} {n : Nat} {l : List UInt8} (h : RdF w S A n l) : Rd w A n l :=
  ⟨h.1, fun hn => by obtain ⟨b, off, e, _, hb, hc⟩ := h.2 hn; exact ⟨b, off, e, hb, hc⟩⟩
set_option maxRecDepth 100000 in
theorem RdF.frm {w w' : World} {S : Nat → Prop} {A : Option Addr} {n : Nat} {l : List UInt8} (h : RdF w S A n l) (hf : Frm S w w') : RdF w' S A n l :=
  ⟨h.1, fun hn => by
    obtain ⟨b, off, e, hS, hb, hc⟩ := h.2 hn
    exact ⟨b, off, e, hS, Nat.lt_of_lt_of_le hb hf.size, fun j hj => (hf.cell (p := ⟨b, off + j, none⟩) hb hS).trans (hc j hj)⟩⟩
set_option maxRecDepth 100000 in
theorem RdF.below {w w' : World} {S : Nat → Prop} {A : Option Addr} {n : Nat} {l : List UInt8} (h : RdF w S A n l) (hf : Below w.heap.size w w') : RdF w' S A n l := h.frm (Frm.of_below hf)
set_option maxRecDepth 100000 in
theorem RdF.drop {w : World} {S : Nat → Prop} {A : Option Addr} {n c : Nat} {l : List UInt8} (h : RdF w S A n l) (k : Nat) (hnc : n ≤ c) : RdF w S (sub A c k) (n - k) (l.drop k) := by
  refine ⟨by rw [List.length_drop, h.1], fun hn => ?_⟩
  obtain ⟨b, off, rfl, hS, hb, hc⟩ := h.2 (by omega)
  refine ⟨b, off + k, ?_, hS, hb, fun j hj => ?_⟩
  · unfold sub
    rw [if_neg (by omega), Option.map_some, Addr.add_mid]
  · rw [List.length_drop] at hj
    rw [List.getElem_drop, Nat.add_assoc]
    exact hc (k + j) (by omega)
set_option maxRecDepth 100000 in
/-- What was there ahead of all of S lies in none of it. -/
theorem RdF.old {w W : World} {S : Nat → Prop} {A : Option Addr} {n : Nat} {l : List UInt8} (h : Rd w A n l) (hb : Below w.heap.size w W) (hS : ∀ i, S i → w.heap.size ≤ i) : RdF W S A n l :=
  ⟨h.1, fun hn => by
    obtain ⟨b, off, e, hlt, hc⟩ := h.2 hn
    have hs := hb.size
    exact ⟨b, off, e, fun hs => by have := hS b hs; omega, by omega, fun j hj => (hb.cell (p := ⟨b, off + j, none⟩) hlt).trans (hc j hj)⟩⟩
set_option maxRecDepth 100000 in
/-- What a call made lies in no block that was there. -/
theorem RdF.own {W : World} {base : Nat} {S : Nat → Prop} {A : Option Addr} {n c : Nat} {l : List UInt8} (h : Own W base A n c l) (hS : ∀ i, S i → i < base) : RdF W S A n l := by
  obtain ⟨hl, hw⟩ := h
  refine ⟨hl, fun hn => ?_⟩
  obtain ⟨g, cap, hv, hb, hlt⟩ := World.ownsRow.form hw hn
  have hA : A = some ⟨g, 0, none⟩ := by injection hv
  subst hA
  refine ⟨g, 0, rfl, fun hs => by have := hS g hs; omega, hlt, fun j hj => ?_⟩
  have := World.ownsRow.cellAt hw j (by omega)
  rw [Nat.zero_add, this]
  simp [List.getElem?_eq_getElem hj, B8]

/-- The block of a slice. -/
def blkOf (A : Option Addr) : Option Nat := A.map (·.block)
/-- The blocks of a writer: its own and its bytes'. -/
def WS (p : Nat) (A : Option Addr) (i : Nat) : Prop := i = p ∨ blkOf A = some i
set_option maxRecDepth 100000 in
theorem Own.lt {w : World} {base n c : Nat} {A : Option Addr} {l : List UInt8} (h : Own w base A n c l) {g : Nat} (hg : blkOf A = some g) : g < w.heap.size ∧ base ≤ g := by
  rcases h.2.2 with ⟨hv, _⟩ | ⟨g', cap, cur, hv, hb, hh, _⟩
  · injection hv with e1; rw [e1] at hg; simp [blkOf] at hg
  · injection hv with e1
    rw [e1] at hg
    simp [blkOf] at hg
    subst hg
    exact ⟨(Array.getElem?_eq_some_iff.1 hh).1, hb⟩
set_option maxRecDepth 100000 in
theorem Own.frm {w w' : World} {base n c : Nat} {A : Option Addr} {l : List UInt8} {S : Nat → Prop} (h : Own w base A n c l) (hf : Frm S w w') (hS : ∀ g, blkOf A = some g → ¬ S g) : Own w' base A n c l := by
  have hlt := fun g (hg : blkOf A = some g) => h.lt hg
  obtain ⟨h1, h2, h3⟩ := h
  refine ⟨h1, h2, ?_⟩
  rcases h3 with h' | ⟨g, cap, cur, e, hb, hh, hr⟩
  · exact .inl h'
  · refine .inr ⟨g, cap, cur, e, hb, ?_, hr⟩
    injection e with e1
    have hA : blkOf A = some g := by rw [e1]; rfl
    rw [hf.block g (hlt g hA).1 (hS g hA)]; exact hh
set_option maxRecDepth 100000 in
theorem Own.base {w : World} {base base' n c : Nat} {A : Option Addr} {l : List UInt8} (h : Own w base A n c l) (hb : ∀ g, blkOf A = some g → base' ≤ g) : Own w base' A n c l := by
  obtain ⟨h1, h2, h3⟩ := h
  refine ⟨h1, h2, ?_⟩
  rcases h3 with h' | ⟨g, cap, cur, e, _, hh, hr⟩
  · exact .inl h'
  · refine .inr ⟨g, cap, cur, e, ?_, hh, hr⟩
    injection e with e1
    exact hb g (by rw [e1]; rfl)
/-- The slice of n byte slices that begins at X holds the byte lists L, and nothing of it lies in a block of S. -/
def RdLF (w : World) (S : Nat → Prop) (X : Option Addr) (n : Nat) (L : List (List UInt8)) : Prop :=
  L.length = n ∧ (0 < n → ∃ b off, X = some ⟨b, off, none⟩ ∧ ¬ S b ∧ b < w.heap.size ∧ ∀ j (h : j < L.length), ∃ A' m c', w.cell? ⟨b, off + j, none⟩ = some (.slice A' m c') ∧ RdF w S A' m L[j])
set_option maxRecDepth 100000 in
theorem RdLF.len {w : World} {S : Nat → Prop} {X : Option Addr} {n : Nat} {L : List (List UInt8)} (h : RdLF w S X n L) : L.length = n := h.1
set_option maxRecDepth 100000 in
theorem RdLF.at_ {w : World} {S : Nat → Prop} {X : Option Addr} {n : Nat} {L : List (List UInt8)} (h : RdLF w S X n L) {k : Nat} (hk : k < n) :
    ∃ b off A' m c', ∃ hl : k < L.length, X = some ⟨b, off, none⟩ ∧ w.cell? ⟨b, off + k, none⟩ = some (.slice A' m c') ∧ RdF w S A' m L[k] := by
  obtain ⟨b, off, e, _, hb, hc⟩ := h.2 (by omega)
  have hl : k < L.length := by have := h.1; omega
  obtain ⟨A', m, c', h1, h2⟩ := hc k hl
  exact ⟨b, off, A', m, c', hl, e, h1, h2⟩
set_option maxRecDepth 100000 in
theorem RdLF.frm {w w' : World} {S : Nat → Prop} {X : Option Addr} {n : Nat} {L : List (List UInt8)} (h : RdLF w S X n L) (hf : Frm S w w') : RdLF w' S X n L :=
  ⟨h.1, fun hn => by
    obtain ⟨b, off, e, hS, hb, hc⟩ := h.2 hn
    refine ⟨b, off, e, hS, Nat.lt_of_lt_of_le hb hf.size, fun j hj => ?_⟩
    obtain ⟨A', m, c', h1, h2⟩ := hc j hj
    exact ⟨A', m, c', (hf.cell (p := ⟨b, off + j, none⟩) hb hS).trans h1, h2.frm hf⟩⟩
set_option maxRecDepth 100000 in
theorem flatT (L : List (List UInt8)) (t : Nat) (h : t < L.length) : (L.take (t + 1)).flatten = (L.take t).flatten ++ L[t] := by
  rw [List.take_succ_eq_append_getElem h, List.flatten_append, List.flatten_cons, List.flatten_nil, List.append_nil]
set_option maxRecDepth 100000 in
theorem flatL (L : List (List UInt8)) (t : Nat) : (L.take t).flatten.length ≤ L.flatten.length := by
  conv => rhs; rw [← List.take_append_drop t L, List.flatten_append, List.length_append]
  omega
set_option maxRecDepth 100000 in
/-- Byte slices that are laid out anew as a list. -/
theorem rdlf1 (W : World) (S : Nat → Prop) (g : Nat) (hg : W.heap.size = g) (hS : ∀ i, S i → i < g) (A1 : Option Addr) (n1 c1 : Nat) (l1 : List UInt8) (h1 : RdF W S A1 n1 l1) (t : TypeId) :
    RdLF (W.alloc (.cells #[.slice A1 n1 c1] t)) S (some ⟨g, 0, none⟩) 1 [l1] := by
  have hb := Blk.new' W #[.slice A1 n1 c1] t g hg
  refine ⟨rfl, fun _ => ⟨g, 0, rfl, fun hs => by have := hS g hs; omega, hb.lt, fun j hj => ?_⟩⟩
  have : j = 0 := by simp at hj; omega
  subst this
  exact ⟨A1, n1, c1, hb.cell 0, h1.below ((Below.refl _ _).alloc (Nat.le_refl _) _)⟩
set_option maxRecDepth 100000 in
theorem rdlf2 (W : World) (S : Nat → Prop) (g : Nat) (hg : W.heap.size = g) (hS : ∀ i, S i → i < g) (A1 A2 : Option Addr) (n1 c1 n2 c2 : Nat) (l1 l2 : List UInt8) (h1 : RdF W S A1 n1 l1) (h2 : RdF W S A2 n2 l2) (t : TypeId) :
    RdLF (W.alloc (.cells #[.slice A1 n1 c1, .slice A2 n2 c2] t)) S (some ⟨g, 0, none⟩) 2 [l1, l2] := by
  have hb := Blk.new' W #[.slice A1 n1 c1, .slice A2 n2 c2] t g hg
  refine ⟨rfl, fun _ => ⟨g, 0, rfl, fun hs => by have := hS g hs; omega, hb.lt, fun j hj => ?_⟩⟩
  rcases j with _ | _ | j
  · exact ⟨A1, n1, c1, hb.cell 0, h1.below ((Below.refl _ _).alloc (Nat.le_refl _) _)⟩
  · exact ⟨A2, n2, c2, hb.cell 1, h2.below ((Below.refl _ _).alloc (Nat.le_refl _) _)⟩
  · exact absurd hj (by simp)
set_option maxRecDepth 100000 in
theorem rdlf3 (W : World) (S : Nat → Prop) (g : Nat) (hg : W.heap.size = g) (hS : ∀ i, S i → i < g) (A1 A2 A3 : Option Addr) (n1 c1 n2 c2 n3 c3 : Nat) (l1 l2 l3 : List UInt8) (h1 : RdF W S A1 n1 l1) (h2 : RdF W S A2 n2 l2) (h3 : RdF W S A3 n3 l3) (t : TypeId) :
    RdLF (W.alloc (.cells #[.slice A1 n1 c1, .slice A2 n2 c2, .slice A3 n3 c3] t)) S (some ⟨g, 0, none⟩) 3 [l1, l2, l3] := by
  have hb := Blk.new' W #[.slice A1 n1 c1, .slice A2 n2 c2, .slice A3 n3 c3] t g hg
  refine ⟨rfl, fun _ => ⟨g, 0, rfl, fun hs => by have := hS g hs; omega, hb.lt, fun j hj => ?_⟩⟩
  rcases j with _ | _ | _ | j
  · exact ⟨A1, n1, c1, hb.cell 0, h1.below ((Below.refl _ _).alloc (Nat.le_refl _) _)⟩
  · exact ⟨A2, n2, c2, hb.cell 1, h2.below ((Below.refl _ _).alloc (Nat.le_refl _) _)⟩
  · exact ⟨A3, n3, c3, hb.cell 2, h3.below ((Below.refl _ _).alloc (Nat.le_refl _) _)⟩
  · exact absurd hj (by simp)
end Go.Proofs.YtpoinhjkdgcnaaaDoor
