/- Merged texts: Arr Lit Num Value Dgs CodM. -/
import Derived.Test.YtnfcnjboeocnmaaDoorMaa
import Derived.OpenShut
import Derived.Laws.BitsAllLaws
import Derived.WalkKit
import Derived.WalkSpells
import Derived.WalkLawsBesides
import Derived.Lib.Hide
import Derived.Test.YtnfcnjboeocnmaaDoorMac
/- Arrays of integers that came in, as they are read off the row's data. -/
namespace Go.Proofs.YtnfcnjboeocnmaaDoor
open Go.RowKit

set_option maxRecDepth 100000 in
theorem mapM_ints {H : Type} {enc : TypeId × Value → H} {P : Program} {W : World} {base : Nat} {sp : Nat → Bool} {held : Bool} {e : TypeId} {q : IntKind} (he : P.underlying e = some (.int q)) {m : Nat} {cs : List Value} : ∀ (L : List Nat) (xs : List (DataW H × List MemPlace)),
    L.mapM (fun i => DataW.trod enc P W base sp held m e ((cs.drop (i * 1)).take 1)) = some xs → ∀ i ∈ L, ∃ z, (cs.drop (i * 1)).take 1 = [.int q z] ∧ (Lit.int q z).wf = true
  | [], _, _ => fun i hi => by simp at hi
  | j :: L, xs, h => by
    rw [List.mapM_cons] at h
    simp only [bind, Option.bind_eq_some_iff, pure, Option.some.injEq] at h
    obtain ⟨y, hy, ys, hys, rfl⟩ := h
    obtain ⟨a, ea, rfl, wa⟩ := DataW.trod_int he hy
    intro i hi
    rcases List.mem_cons.1 hi with rfl | hi
    · exact ⟨a, ea, wa⟩
    · exact mapM_ints he L ys hys i hi
set_option maxRecDepth 100000 in
theorem ints_of {q : IntKind} : ∀ (cs : List Value), (∀ i, i < cs.length → ∃ z, (cs.drop (i * 1)).take 1 = [.int q z] ∧ (Lit.int q z).wf = true) → ∃ zs : List Int, cs = zs.map (Value.int q) ∧ ∀ z ∈ zs, (Lit.int q z).wf = true
  | [], _ => ⟨[], rfl, fun z hz => by simp at hz⟩
  | c :: cs, h => by
    obtain ⟨z, hz, wz⟩ := h 0 (by simp)
    obtain ⟨zs, rfl, hw⟩ := ints_of cs (fun i hi => by
      obtain ⟨z, hz, wz⟩ := h (i + 1) (by simpa using hi)
      exact ⟨z, by simpa using hz, wz⟩)
    simp at hz
    exact ⟨z :: zs, by rw [hz]; rfl, fun y hy => by
      rcases List.mem_cons.1 hy with rfl | hy
      · exact wz
      · exact hw y hy⟩
set_option maxRecDepth 100000 in
/-- An array of integers. -/
theorem open_arr {H : Type} {enc : TypeId × Value → H} {P : Program} {W : World} {base : Nat} {sp : Nat → Bool} {held : Bool} {r : Reach} {b0 : Nat} {t e : TypeId} {n : Nat} {q : IntKind} {v : Value} {d : DataW H} {ps : List MemPlace}
    (hu : P.underlying t = some (.array n e)) (he : P.underlying e = some (.int q)) (hce : P.cellsOf e = 1) (hct : P.cellsOf t = n) (hv : Value.okWide P W r b0 t v) (hd : DataW.Trod enc P W base sp held t v d ps) :
    ∃ zs : List Int, zs.length = n ∧ v = .agg (zs.map (Value.int q)).toArray ∧ ∀ z ∈ zs, (Lit.int q z).wf = true := by
  simp only [Value.okWide, hu] at hv
  obtain ⟨cs, rfl, hs, _⟩ := hv
  rw [hct] at hs
  obtain ⟨fuel, hf⟩ := hd
  cases fuel with
  | zero => simp [DataW.trod] at hf
  | succ m =>
    unfold DataW.trod at hf
    simp only [hu, Value.cells] at hf
    rw [if_pos (by rw [hct]; simpa using hs)] at hf
    simp only [Option.map_eq_some_iff] at hf
    obtain ⟨ys, hy, _⟩ := hf
    rw [hce] at hy
    have h := mapM_ints he _ ys hy
    obtain ⟨zs, hz, hw⟩ := ints_of cs.toList (q := q) (fun i hi => h i (by simp at hi ⊢; omega))
    refine ⟨zs, ?_, ?_, hw⟩
    · have := congrArg List.length hz
      simp at this
      omega
    · rw [← hz]
set_option maxRecDepth 100000 in
/-- Bytes. -/
theorem bytes_of_ints (zs : List Int) (h : ∀ z ∈ zs, (Lit.int .u8 z).wf = true) : ∃ l : List UInt8, l.length = zs.length ∧ zs.map (Value.int .u8) = l.map B8 := by
  refine ⟨zs.map fun z => UInt8.ofNat z.toNat, by simp, ?_⟩
  rw [List.map_map]
  apply List.map_congr_left
  intro z hz
  have hb := bounds_u8 (h z hz)
  simp only [Function.comp, B8]
  congr 1
  rw [UInt8.toNat_ofNat']
  omega
set_option maxRecDepth 100000 in
/-- Words of 64 bits. -/
theorem nats_of_ints (zs : List Int) (h : ∀ z ∈ zs, (Lit.int .u64 z).wf = true) : ∃ l : List Nat, l.length = zs.length ∧ zs = l.map (fun n : Nat => (n : Int)) ∧ ∀ n ∈ l, n < 2 ^ 64 := by
  refine ⟨zs.map Int.toNat, by simp, ?_, ?_⟩
  · rw [List.map_map]
    conv => lhs; rw [← List.map_id zs]
    apply List.map_congr_left
    intro z hz
    have hb := bounds_u64 (h z hz)
    simp only [Function.comp, id]
    omega
  · intro n hn
    simp only [List.mem_map] at hn
    obtain ⟨z, hz, rfl⟩ := hn
    have hb := bounds_u64 (h z hz)
    omega
end Go.Proofs.YtnfcnjboeocnmaaDoor

/- The contract of octet.Little: new memory that holds the bytes of a number, the lowest first. -/
namespace Go.Proofs.YtnfcnjboeocnmaaDoor
open Go.RowKit

/-- What stands in the slice while Little goes: the first i of the m bytes. -/
def lpart (n m i : Nat) : List UInt8 := little n i ++ List.replicate (m - i) 0
set_option maxRecDepth 100000 in
@[simp] theorem lpart_len (n m i : Nat) (h : i ≤ m) : (lpart n m i).length = m := by simp [lpart]; omega
set_option maxRecDepth 100000 in
theorem lpart_set (n m i : Nat) (h : i < m) : (lpart n m i).set i (UInt8.ofNat (n / 256 ^ i)) = lpart n m (i + 1) := by
  unfold lpart
  rw [List.set_append_right _ _ (by simp)]
  simp only [little_len, Nat.sub_self]
  rw [show m - i = (m - (i + 1)) + 1 from by omega, List.replicate_succ, List.set_cons_zero]
  simp [little, List.range_succ]

end Go.Proofs.YtnfcnjboeocnmaaDoor

/- The contract of octet.Num: the number of the first eight bytes, the lowest first. -/
namespace Go.Proofs.YtnfcnjboeocnmaaDoor
open Go.RowKit

set_option maxRecDepth 100000 in
theorem num_step (l : List UInt8) (t : Nat) (hl : t < l.length) (ht : t < 8) :
    bits .or .u64 (numL (l.take t) : Int) (IntKind.u64.wrap ((l[t].toNat : Int) * 2 ^ (8 * t))) = (numL (l.take (t + 1)) : Int) := by
  have hx := numL_lt (l.take t)
  rw [List.length_take, Nat.min_eq_left (by omega)] at hx
  have hc := l[t].toNat_lt
  have hp := pow_le64 (t + 1) (by omega)
  have hpos : 0 < 256 ^ t := Nat.pow_pos (by omega)
  have hz : l[t].toNat * 256 ^ t < 18446744073709551616 := by
    rw [Nat.pow_succ] at hp
    have : l[t].toNat * 256 ^ t ≤ 255 * 256 ^ t := Nat.mul_le_mul_right _ (by omega)
    omega
  have e : (l[t].toNat : Int) * 2 ^ (8 * t) = ((l[t].toNat * 256 ^ t : Nat) : Int) := by
    rw [← pow8, Int.natCast_mul, Int.natCast_pow]; rfl
  rw [e, wrap64_nat _ hz, u64_or_nat _ _ (by have := pow_le64 t (by omega); omega) hz]
  congr 1
  rw [take_snoc l t hl, numL_append, List.length_take, Nat.min_eq_left (by omega), Nat.or_comm]
  rw [nat_join (8 * t) _ _ (by rw [pow8]; exact Nat.mul_mod_left _ _) (by rw [pow8]; exact hx)]
  simp only [numL]
  rw [Nat.mul_zero, Nat.add_zero, Nat.mul_comm (256 ^ t), Nat.add_comm]
end Go.Proofs.YtnfcnjboeocnmaaDoor

/- The contract of the document's own Value. -/
namespace Go.Proofs.YtnfcnjboeocnmaaDoor
open Go.RowKit

set_option maxRecDepth 100000 in
theorem val_add (x c : Nat) (hx : x < 72057594037927936) (hc : c < 256) : IntKind.u64.wrap (IntKind.u64.wrap ((x : Int) * 256) + (c : Int)) = ((c + 256 * x : Nat) : Int) := by
  have e : (x : Int) * 256 = ((x * 256 : Nat) : Int) := by omega
  rw [e, wrap64_nat _ (by omega), IntKind.wrap_u64]
  omega
set_option maxRecDepth 100000 in
theorem val_step (l : List UInt8) (t : Nat) (hl : t - 1 < l.length) (h0 : 0 < t) (ht : t ≤ 8) :
    IntKind.u64.wrap (IntKind.u64.wrap ((numL ((l.take 8).drop t) : Int) * 256) + (l[t - 1].toNat : Int)) = (numL ((l.take 8).drop (t - 1)) : Int) := by
  have hx := numL_lt ((l.take 8).drop t)
  have h7 : ((l.take 8).drop t).length ≤ 7 := by rw [List.length_drop, List.length_take]; omega
  have := pow_lt56 _ h7
  rw [val_add _ _ (by omega) l[t - 1].toNat_lt]
  congr 1
  have hd : (l.take 8).drop (t - 1) = l[t - 1] :: (l.take 8).drop t := by
    have h := List.drop_eq_getElem_cons (l := l.take 8) (i := t - 1) (by rw [List.length_take]; omega)
    rw [h, show t - 1 + 1 = t from by omega, List.getElem_take]
  rw [hd]
  rfl
end Go.Proofs.YtnfcnjboeocnmaaDoor

/- Slices of ints that a call made; contracts of the document's own Held (a width within 0 and 8) and Digits (the bytes of a number as ints). -/
namespace Go.Proofs.YtnfcnjboeocnmaaDoor
open Go.RowKit

set_option maxRecDepth 100000 in
theorem infoInt : (Tryd.prog.info? 3).map (fun i => (i.zero, i.size, i.bytes)) = some (some (.int .i64 0), 1, 8) := by kernel_rfl

/-- The slice of ints that the call made. -/
def OwnJ (w : World) (base : Nat) (A : Option Addr) (n c : Nat) (l : List Int) : Prop := l.length = n ∧ w.ownsRow base 3 1 (.slice A n c) n (l.map (Value.int .i64))

set_option maxRecDepth 100000 in
theorem OwnJ.at_ {w : World} {base n c : Nat} {A : Option Addr} {l : List Int} (h : OwnJ w base A n c l) {k : Nat} (hk : k < n) :
    ∃ g, ∃ hl : k < l.length, A = some ⟨g, 0, none⟩ ∧ g < w.heap.size ∧ w.cell? ⟨g, k, none⟩ = some (.int .i64 l[k]) := by
  obtain ⟨hl, h⟩ := h
  obtain ⟨g, cap, hv, _, hlt⟩ := World.ownsRow.form h (by omega)
  have hA : A = some ⟨g, 0, none⟩ := by injection hv
  subst hA
  have := World.ownsRow.cellAt h k (by omega)
  refine ⟨g, by omega, rfl, hlt, ?_⟩
  rw [this]
  simp [List.getElem?_eq_getElem (show k < l.length by omega)]
set_option maxRecDepth 100000 in
theorem OwnJ.below {w w' : World} {base n c : Nat} {A : Option Addr} {l : List Int} (h : OwnJ w base A n c l) (hb : Below w.heap.size w w') : OwnJ w' base A n c l := by
  refine ⟨h.1, h.2.1, ?_⟩
  rcases h.2.2 with h' | ⟨g, cap, cur, e, hbg, hh, hr⟩
  · exact .inl h'
  · refine .inr ⟨g, cap, cur, e, hbg, ?_, hr⟩
    have hlt : g < w.heap.size := by
      rcases Nat.lt_or_ge g w.heap.size with h1 | h1
      · exact h1
      · rw [Array.getElem?_eq_none h1] at hh; cases hh
    rw [hb.block g hlt]; exact hh

/-- The first m bytes of n as ints. -/
def dgs (n m : Nat) : List Int := (List.range m).map fun i => ((n / 256 ^ i % 256 : Nat) : Int)
set_option maxRecDepth 100000 in
theorem dgs_succ (n m : Nat) : dgs n (m + 1) = dgs n m ++ [((n / 256 ^ m % 256 : Nat) : Int)] := by simp [dgs, List.range_succ]

def MkI (w : World) (l : List Int) (e : Ending) (w' : World) : Prop :=
  ∃ A n c, e = .returned (.slice A n c) ∧ OwnJ w' w.heap.size A n c l ∧ Below w.heap.size w w'

set_option maxRecDepth 100000 in
theorem OwnJ.nil (w : World) (base : Nat) : OwnJ w base none 0 0 [] := ⟨rfl, World.ownsRow_nil _ _ _ _⟩

end Go.Proofs.YtnfcnjboeocnmaaDoor

/- Plain mathematics of layer 6: counts and their bytes; what a reader is left with. Nothing of the program is named here. -/
namespace Go.Proofs.YtnfcnjboeocnmaaDoor

/-- How many bytes follow the first byte of the count n. -/
def more (n : Nat) : Nat := if n < 253 then 0 else if n < 65536 then 2 else if n < 4294967296 then 4 else 8
/-- The first byte of the count n. -/
def headB (n : Nat) : UInt8 := if n < 253 then UInt8.ofNat n else if n < 65536 then 253 else if n < 4294967296 then 254 else 255
/-- The bytes of the count n. -/
def cnt (n : Nat) : List UInt8 := headB n :: little n (more n)
/-- How many bytes follow a first byte. -/
def foll (c : UInt8) : Nat := if c = 253 then 2 else if c = 254 then 4 else if c = 255 then 8 else 0
/-- The number that bytes spell as a count. -/
def cval (c : UInt8) (r : List UInt8) : Nat := if foll c = 0 then c.toNat else numL (r.take (foll c))
/-- The count with which bytes begin (0 if none), how many bytes it has (0 if none), and the error. -/
def first (l : List UInt8) (most : Nat) : Nat × Nat × Nat :=
  match l with
  | [] => (0, 0, 2)
  | c :: r => if r.length < foll c then (0, 0, 2) else if foll c ≠ more (cval c r) then (0, 0, 3) else if most < cval c r then (0, 0, 4) else (cval c r, 1 + foll c, 0)
/-- What is taken as n bytes, what is left, and the error. -/
def tkV (l : List UInt8) (e n : Nat) : List UInt8 := if e = 0 ∧ n ≤ l.length then l.take n else []
def tkL (l : List UInt8) (e n : Nat) : List UInt8 := if e = 0 ∧ n ≤ l.length then l.drop n else l
def tkE (l : List UInt8) (e n : Nat) : Nat := if e = 0 then (if n ≤ l.length then 0 else 2) else e
/-- What is taken as a count, what is left, and the error. -/
def cvV (l : List UInt8) (e most : Nat) : Nat := if e = 0 then (first l most).1 else 0
def cvL (l : List UInt8) (e most : Nat) : List UInt8 := if e = 0 then l.drop (first l most).2.1 else l
def cvE (l : List UInt8) (e most : Nat) : Nat := if e = 0 then (first l most).2.2 else e
/-- What is taken as a text, what is left, and the error. -/
def txV (l : List UInt8) (e most : Nat) : List UInt8 := tkV (cvL l e most) (cvE l e most) (cvV l e most)
def txE (l : List UInt8) (e most : Nat) : Nat := tkE (cvL l e most) (cvE l e most) (cvV l e most)
def txL (l : List UInt8) (e most : Nat) : List UInt8 := if txE l e most = 0 then tkL (cvL l e most) (cvE l e most) (cvV l e most) else l

set_option maxRecDepth 100000 in
theorem foll_le (c : UInt8) : foll c ≤ 8 := by unfold foll; (repeat' split) <;> omega
set_option maxRecDepth 100000 in
theorem more_le (n : Nat) : more n ≤ 8 := by unfold more; (repeat' split) <;> omega
set_option maxRecDepth 100000 in
@[simp] theorem cnt_len (n : Nat) : (cnt n).length = 1 + more n := by simp [cnt]; omega
set_option maxRecDepth 100000 in
theorem cval_lt (c : UInt8) (r : List UInt8) : cval c r < 18446744073709551616 := by
  unfold cval
  split
  · have := c.toNat_lt; omega
  · have h1 := numL_lt (r.take (foll c))
    have h2 : (r.take (foll c)).length ≤ 8 := by rw [List.length_take]; have := foll_le c; omega
    have h3 := Nat.pow_le_pow_right (n := 256) (by omega) h2
    have h4 : 256 ^ 8 = 18446744073709551616 := by decide
    omega
set_option maxRecDepth 100000 in
theorem little_numL (l : List UInt8) : little (numL l) l.length = l := by
  induction l with
  | nil => rfl
  | cons c r ih =>
    rw [List.length_cons, little_succ, numL]
    have hc := c.toNat_lt
    congr 1
    · apply UInt8.toNat_inj.1
      rw [ofNat_toNat]
      omega
    · rw [show (c.toNat + 256 * numL r) / 256 = numL r from by omega]
      exact ih
set_option maxRecDepth 100000 in
theorem head_more (n : Nat) : (more n = 0 → n < 253) ∧ (more n = 2 → headB n = 253) ∧ (more n = 4 → headB n = 254) ∧ (more n = 8 → headB n = 255) := by
  unfold more headB
  by_cases h1 : n < 253
  · simp [h1]
  · by_cases h2 : n < 65536
    · simp [h1, h2]
    · by_cases h3 : n < 4294967296
      · simp [h1, h2, h3]
      · simp [h1, h2, h3]
set_option maxRecDepth 100000 in
theorem foll_more {c : UInt8} {r : List UInt8} (hl : foll c ≤ r.length) (h : foll c = more (cval c r)) : c :: r.take (foll c) = cnt (cval c r) := by
  unfold cnt
  have hlen : (r.take (foll c)).length = foll c := by rw [List.length_take]; omega
  by_cases h0 : foll c = 0
  · have hv : cval c r = c.toNat := by simp [cval, h0]
    rw [hv, h0] at h
    rw [hv]
    have hlt : c.toNat < 253 := by unfold more at h; split at h; assumption; split at h; omega; split at h <;> omega
    rw [h0, ← h]
    simp [headB, hlt, little]
  · have hv : cval c r = numL (r.take (foll c)) := by simp [cval, h0]
    have hlit : little (cval c r) (more (cval c r)) = r.take (foll c) := by
      rw [← h, hv]
      have := little_numL (r.take (foll c))
      rw [hlen] at this
      exact this
    rw [hlit]
    congr 1
    have hh := head_more (cval c r)
    unfold foll at h h0
    by_cases e1 : c = 253
    · rw [if_pos e1] at h
      exact e1.trans (hh.2.1 h.symm).symm
    · by_cases e2 : c = 254
      · rw [if_neg e1, if_pos e2] at h
        exact e2.trans (hh.2.2.1 h.symm).symm
      · by_cases e3 : c = 255
        · rw [if_neg e1, if_neg e2, if_pos e3] at h
          exact e3.trans (hh.2.2.2 h.symm).symm
        · rw [if_neg e1, if_neg e2, if_neg e3] at h0
          exact absurd rfl h0
set_option maxRecDepth 100000 in
/-- Bytes spell a count just if they are its bytes. -/
theorem spell_iff {c : UInt8} {r : List UInt8} (hl : foll c ≤ r.length) : cnt (cval c r) = c :: r.take (foll c) ↔ foll c = more (cval c r) := by
  constructor
  · intro h
    have := congrArg List.length h
    rw [cnt_len, List.length_cons, List.length_take] at this
    omega
  · exact fun h => (foll_more hl h).symm
set_option maxRecDepth 100000 in
theorem first_ok {l : List UInt8} {most : Nat} (h : (first l most).2.2 = 0) : l = cnt (first l most).1 ++ l.drop (first l most).2.1 ∧ (first l most).1 ≤ most ∧ (first l most).2.1 ≤ l.length ∧ (first l most).1 < 18446744073709551616 := by
  unfold first at h ⊢
  match l with
  | [] => simp at h
  | c :: r =>
    simp only at h ⊢
    split at h
    · simp at h
    · split at h
      · simp at h
      · split at h
        · simp at h
        · rename_i h1 h2 h3
          rw [if_neg h1, if_neg h2, if_neg h3]
          have h2' : foll c = more (cval c r) := by omega
          refine ⟨?_, by omega, by simp; omega, cval_lt c r⟩
          show c :: r = cnt (cval c r) ++ (c :: r).drop (1 + foll c)
          rw [← foll_more (by omega) h2', Nat.add_comm 1, List.drop_succ_cons, List.cons_append, List.take_append_drop]
set_option maxRecDepth 100000 in
theorem first_err {l : List UInt8} {most : Nat} (h : (first l most).2.2 ≠ 0) : (first l most).1 = 0 ∧ (first l most).2.1 = 0 := by
  unfold first at h ⊢
  match l with
  | [] => simp
  | c :: r =>
    simp only at h ⊢
    split
    · simp
    · split
      · simp
      · split
        · simp
        · rename_i h1 h2 h3
          rw [if_neg h1, if_neg h2, if_neg h3] at h
          simp at h
set_option maxRecDepth 100000 in
theorem first_le (l : List UInt8) (most : Nat) : (first l most).2.1 ≤ l.length ∧ (first l most).1 ≤ most ∧ (first l most).1 < 18446744073709551616 ∧ (first l most).2.2 ≤ 4 := by
  refine ⟨?_, ?_, ?_, ?_⟩
  · by_cases h : (first l most).2.2 = 0
    · exact (first_ok h).2.2.1
    · rw [(first_err h).2]; omega
  · by_cases h : (first l most).2.2 = 0
    · exact (first_ok h).2.1
    · rw [(first_err h).1]; omega
  · by_cases h : (first l most).2.2 = 0
    · exact (first_ok h).2.2.2
    · rw [(first_err h).1]; omega
  · unfold first
    match l with
    | [] => simp
    | c :: r => simp only; (repeat' split) <;> simp only [Nat.le_refl, Nat.reduceLeDiff, Nat.zero_le]
set_option maxRecDepth 100000 in
theorem foll_head (n : Nat) : foll (headB n) = more n := by
  unfold foll headB more
  split
  · rename_i h
    have hn : ∀ c : UInt8, 253 ≤ c.toNat → UInt8.ofNat n ≠ c := fun c hc e => by
      have := congrArg UInt8.toNat e
      rw [ofNat_toNat] at this
      omega
    rw [if_neg (hn 253 (by decide)), if_neg (hn 254 (by decide)), if_neg (hn 255 (by decide))]
  · split
    · rfl
    · split <;> rfl
set_option maxRecDepth 100000 in
theorem cval_cnt (n : Nat) (hn : n < 18446744073709551616) (r : List UInt8) : cval (headB n) (little n (more n) ++ r) = n := by
  unfold cval
  rw [foll_head, List.take_append_of_le_length (by simp), List.take_of_length_le (by simp), numL_little]
  split
  · rename_i h
    have hlt : n < 253 := by unfold more at h; split at h; assumption; split at h; omega; split at h <;> omega
    unfold headB
    rw [if_pos hlt, ofNat_toNat]
    omega
  · rename_i h
    apply Nat.mod_eq_of_lt
    unfold more
    split
    · rename_i h1; simp [more, h1] at h
    · split
      · show n < 65536; assumption
      · split
        · show n < 4294967296; assumption
        · show n < 18446744073709551616; exact hn
set_option maxRecDepth 100000 in
theorem first_cnt (n most : Nat) (hn : n < 18446744073709551616) (hm : n ≤ most) (r : List UInt8) : first (cnt n ++ r) most = (n, 1 + more n, 0) := by
  have hv := cval_cnt n hn r
  unfold first cnt
  simp only [List.cons_append, hv, foll_head]
  rw [if_neg (by simp), if_neg (by omega), if_neg (by omega)]
set_option maxRecDepth 100000 in
theorem drop_cnt (n : Nat) (r : List UInt8) : (cnt n ++ r).drop (1 + more n) = r := by
  rw [← cnt_len n, List.drop_left]
end Go.Proofs.YtnfcnjboeocnmaaDoor
