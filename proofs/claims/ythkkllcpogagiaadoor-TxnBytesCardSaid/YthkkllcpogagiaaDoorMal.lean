/- Merged texts: Num Lit Dgs Value CodM. -/
import Derived.Test.YthkkllcpogagiaaDoorMaa
import Derived.Laws.BitsAllLaws
import Derived.Test.YthkkllcpogagiaaDoorMab
import Derived.WalkKit
import Derived.WalkSpells
import Derived.WalkLawsBesides
import Derived.Lib.Hide
/- The contract of octet.Num: the number of the first eight bytes, the lowest first. -/
namespace Go.Proofs.YthkkllcpogagiaaDoor
open Go.RowKit

set_option maxRecDepth 100000 in
theorem num_step (l : List UInt8) (t : Nat) (hl : t < l.length) (ht : t < 8) :
    bits .or .u64 (numL (l.take t) : Int) (IntKind.u64.wrap ((l[t].toNat : Int) * 2 ^ (8 * t))) = (numL (l.take (t + 1)) : Int) := by
  have hx := numL_lt (l.take t)
  rw [List.length_take, Nat.min_eq_left (by omega)] at hx
  have hc := l[t].toNat_lt
  have hp := pow_le64 (t + 1) (by omega)
  have hpos : 0 < 256 ^ t := Nat.pow_pos (by omega)
  have hz : l[t].toNat * 256 ^ t < 18446744073709551616 := by
    rw [Nat.pow_succ] at hp
    have : l[t].toNat * 256 ^ t ≤ 255 * 256 ^ t := Nat.mul_le_mul_right _ (by omega)
    omega
  have e : (l[t].toNat : Int) * 2 ^ (8 * t) = ((l[t].toNat * 256 ^ t : Nat) : Int) := by
    rw [← pow8, Int.natCast_mul, Int.natCast_pow]; rfl
  rw [e, wrap64_nat _ hz, u64_or_nat _ _ (by have := pow_le64 t (by omega); omega) hz]
  congr 1
  rw [take_snoc l t hl, numL_append, List.length_take, Nat.min_eq_left (by omega), Nat.or_comm]
  rw [nat_join (8 * t) _ _ (by rw [pow8]; exact Nat.mul_mod_left _ _) (by rw [pow8]; exact hx)]
  simp only [numL]
  rw [Nat.mul_zero, Nat.add_zero, Nat.mul_comm (256 ^ t), Nat.add_comm]
set_option maxRecDepth 100000 in
set_option maxHeartbeats 400000 in
theorem num_calls (A : Option Addr) (n c : Nat) (l : List UInt8) (w : World) (hr : Rd w A n l) :
    Calls Tryd.prog 36 #[.slice A n c] w fun e w' => e = .returned (.int .u64 (numL (l.take 8) : Int)) ∧ w = w' := by
  have hl := hr.len
  obtain ⟨m, hm⟩ : ∃ m, m = min n 8 := ⟨_, rfl⟩
  have hm8 : m ≤ 8 := by omega
  have hmn : m ≤ n := by omega
  have hc : cw (n : Int) = (m : Int) := by rw [hm]; exact cw_nat n
  have HM := Lib.hid hm
  have HC := Lib.hid hc
  have HL := Lib.hid hl
  have HR := Lib.hid hr
  clear hm hc hl hr
  go_enter Tryd.func36, Tryd.ntmps36
  go_wp2_with (go_at_call 42; refine (clamp_nat _ _ HC.out _).mono ?_; rintro e w' ⟨rfl, rfl⟩)
  go_loop [3, 8] (fun v i => ∃ t : Nat, t ≤ m ∧ i = .int .i64 t ∧ v = .int .u64 (numL (l.take t) : Int)) (fun _ i => m - (intOf i).toNat)
  case atStart => exact ⟨0, Nat.zero_le _, rfl, rfl⟩
  case round =>
    obtain ⟨t, ht, rfl, rfl⟩ := hrel
    by_cases hlt : t < m
    · obtain ⟨b, off, hl, rfl, _, hcell⟩ := HR.out.at_ (k := t) (by omega)
      have hb := l[t].toNat_lt
      go_wp2
      go_round
      case rel => exact ⟨t + 1, by omega, by go_num, by rw [num_step l t hl (by omega)]⟩
      case measure => simp [intOf]; omega
    · have e : t = m := by omega
      subst e
      go_wp2
      go_ret
      have hx : l.take t = l.take 8 := by
        have h1 := HM.out
        have h2 := HL.out
        by_cases h8 : n ≤ 8
        · rw [List.take_of_length_le (by omega), List.take_of_length_le (by omega)]
        · rw [h1, Nat.min_eq_right (by omega)]
      rw [← hx]
      exact ⟨rfl, rfl⟩
end Go.Proofs.YthkkllcpogagiaaDoor

/- The contract of octet.Little: new memory that holds the bytes of a number, the lowest first. -/
namespace Go.Proofs.YthkkllcpogagiaaDoor
open Go.RowKit

/-- What stands in the slice while Little goes: the first i of the m bytes. -/
def lpart (n m i : Nat) : List UInt8 := little n i ++ List.replicate (m - i) 0
set_option maxRecDepth 100000 in
@[simp] theorem lpart_len (n m i : Nat) (h : i ≤ m) : (lpart n m i).length = m := by simp [lpart]; omega
set_option maxRecDepth 100000 in
theorem lpart_set (n m i : Nat) (h : i < m) : (lpart n m i).set i (UInt8.ofNat (n / 256 ^ i)) = lpart n m (i + 1) := by
  unfold lpart
  rw [List.set_append_right _ _ (by simp)]
  simp only [little_len, Nat.sub_self]
  rw [show m - i = (m - (i + 1)) + 1 from by omega, List.replicate_succ, List.set_cons_zero]
  simp [little, List.range_succ]

set_option maxRecDepth 100000 in
set_option maxHeartbeats 400000 in
theorem little_calls (n : Nat) (k : Int) (m : Nat) (hm : cw k = m) (w : World) :
    Calls Tryd.prog 31 #[.int .u64 (n : Int), .int .i64 k] w (Mk w (little n m)) := by
  have hm8 : m ≤ 8 := by have := cw_bd k; omega
  have H := Lib.hid hm
  clear hm
  have hmk := fun W => run_mk8 m (by omega) W
  go_enter Tryd.func31, Tryd.ntmps31
  go_wp2_with (go_at_call 42; refine (clamp_nat _ _ H.out _).mono ?_; rintro e w' ⟨rfl, rfl⟩)
  go_loopw [12] (fun i wr => ∃ t : Nat, t ≤ m ∧ i = .int .i64 t ∧ Own wr w.heap.size (some ⟨w.heap.size, 0, none⟩) m m (lpart n m t) ∧ Below w.heap.size w wr) (fun i _ => m - (intOf i).toNat)
  case atStart =>
    refine ⟨0, Nat.zero_le _, rfl, ?_, (Below.refl _ _).alloc (Nat.le_refl _) _⟩
    have := Own.made w m (by unfold maxLen; omega)
    simpa [lpart, little] using this
  case round =>
    obtain ⟨t, ht, rfl, hown, hbel⟩ := hrel
    by_cases hlt : t < m
    · have hl : t < (lpart n m t).length := by rw [lpart_len n m t ht]; exact hlt
      have hc := hown.cell hl
      have hf := hown.free t
      have HO := Lib.hid hown
      clear hown
      go_wp2
      go_roundw
      case rel =>
        have h1 := HO.out.set t (UInt8.ofNat (n / 256 ^ t))
        rw [lpart_set n m t hlt, ← byte_at] at h1
        exact ⟨t + 1, by omega, by go_num, h1, hbel.setCell (Nat.le_refl _) _⟩
      case measure => simp [intOf]; omega
    · have e : t = m := by omega
      subst e
      have HO := Lib.hid hown
      clear hown
      go_wp2
      go_ret
      have hx : lpart n t t = little n t := by simp [lpart]
      rw [hx] at HO
      exact ⟨_, _, _, rfl, HO.out, hbel⟩
end Go.Proofs.YthkkllcpogagiaaDoor

/- Slices of ints that a call made; contracts of the document's own Held (a width within 0 and 8) and Digits (the bytes of a number as ints). -/
namespace Go.Proofs.YthkkllcpogagiaaDoor
open Go.RowKit

set_option maxRecDepth 100000 in
theorem infoInt : (Tryd.prog.info? 3).map (fun i => (i.zero, i.size, i.bytes)) = some (some (.int .i64 0), 1, 8) := by kernel_rfl

set_option maxRecDepth 100000 in
theorem held_any (k : Int) (w : World) : Calls Tryd.prog 35 #[.int .i64 k] w fun e w' => e = .returned (.int .i64 (cw k)) ∧ w = w' := by
  unfold cw
  by_cases h : k < 0
  · go_enter Tryd.func35, Tryd.ntmps35
    go_wp2
    go_ret
    exact ⟨rfl, rfl⟩
  · by_cases h8 : 8 < k
    · go_enter Tryd.func35, Tryd.ntmps35
      go_wp2
      go_ret
      exact ⟨rfl, rfl⟩
    · go_enter Tryd.func35, Tryd.ntmps35
      go_wp2
      go_ret
      exact ⟨rfl, rfl⟩

set_option maxRecDepth 100000 in
theorem held_nat (k : Int) (m : Nat) (h : cw k = m) (w : World) : Calls Tryd.prog 35 #[.int .i64 k] w fun e w' => e = .returned (.int .i64 (m : Int)) ∧ w = w' := by
  rw [← h]; exact held_any k w
/-- The slice of ints that the call made. -/
def OwnJ (w : World) (base : Nat) (A : Option Addr) (n c : Nat) (l : List Int) : Prop := l.length = n ∧ w.ownsRow base 3 1 (.slice A n c) n (l.map (Value.int .i64))

set_option maxRecDepth 100000 in
theorem OwnJ.at_ {w : World} {base n c : Nat} {A : Option Addr} {l : List Int} (h : OwnJ w base A n c l) {k : Nat} (hk : k < n) :
    ∃ g, ∃ hl : k < l.length, A = some ⟨g, 0, none⟩ ∧ g < w.heap.size ∧ w.cell? ⟨g, k, none⟩ = some (.int .i64 l[k]) := by
  obtain ⟨hl, h⟩ := h
  obtain ⟨g, cap, hv, _, hlt⟩ := World.ownsRow.form h (by omega)
  have hA : A = some ⟨g, 0, none⟩ := by injection hv
  subst hA
  have := World.ownsRow.cellAt h k (by omega)
  refine ⟨g, by omega, rfl, hlt, ?_⟩
  rw [this]
  simp [List.getElem?_eq_getElem (show k < l.length by omega)]
set_option maxRecDepth 100000 in
theorem OwnJ.below {w w' : World} {base n c : Nat} {A : Option Addr} {l : List Int} (h : OwnJ w base A n c l) (hb : Below w.heap.size w w') : OwnJ w' base A n c l := by
  refine ⟨h.1, h.2.1, ?_⟩
  rcases h.2.2 with h' | ⟨g, cap, cur, e, hbg, hh, hr⟩
  · exact .inl h'
  · refine .inr ⟨g, cap, cur, e, hbg, ?_, hr⟩
    have hlt : g < w.heap.size := by
      rcases Nat.lt_or_ge g w.heap.size with h1 | h1
      · exact h1
      · rw [Array.getElem?_eq_none h1] at hh; cases hh
    rw [hb.block g hlt]; exact hh

set_option maxRecDepth 100000 in
theorem appI_one {ops : Array Oper} {rest : List Oper} {o : Oper} {a : Act} {Q : Exit → Act → World → Prop} (w : World) (hgd : o.guard = none) (s x : Operand)
    (ho : o.op = .call { callee := .builtin .append, args := #[s, x], argTypes := #[73, 73] })
    (base : Nat) (A : Option Addr) (n c : Nat) (l : List Int) (z : Int) (hs : a.eval s = .slice A n c) (hx : a.eval x = .slice (some ⟨w.heap.size, 0, none⟩) 1 1)
    (hown : OwnJ w base A n c l) (hb : (n + 1) * 8 ≤ 140737488355328) (hbase : base ≤ w.heap.size)
    (h : ∀ A' c' w', OwnJ w' base A' (n + 1) c' (l ++ [z]) → Below base w w' → wpList Tryd.prog ops Q rest (a.put o.dst (.slice A' (n + 1) c')) w') :
    wpList Tryd.prog ops Q (o :: rest) a (w.alloc (.cells #[.int .i64 z] 3)) := by
  refine wpList_plain hgd fun _ hK => wpo_appG _ s x 73 ho 3 (.int .i64 0) 8 Tryd.underlying73 infoInt rfl base _ n (l.map (Value.int .i64)) hs (own_alloc hown.2 _) _ 1 1 [.int .i64 z] hx rfl ?_ ?_ (by unfold maxLen; omega) (by omega) (by simp; omega) ?_
  · intro _
    refine ⟨_, rfl, fun j v hj => ?_⟩
    cases j with
    | zero => simp at hj; subst hj; exact cell_one_alloc w _ _
    | succ j => simp at hj
  · intro v hv; simp at hv; subst hv; rfl
  · intro A' c' w' hown' hbel _ _
    exact hK _ _ (h A' c' w' ⟨by simp [hown.1], by rw [List.map_append]; exact hown'⟩ (((Below.refl _ _).alloc hbase _).trans hbel))
/-- The first m bytes of n as ints. -/
def dgs (n m : Nat) : List Int := (List.range m).map fun i => ((n / 256 ^ i % 256 : Nat) : Int)
set_option maxRecDepth 100000 in
theorem dgs_succ (n m : Nat) : dgs n (m + 1) = dgs n m ++ [((n / 256 ^ m % 256 : Nat) : Int)] := by simp [dgs, List.range_succ]

def MkI (w : World) (l : List Int) (e : Ending) (w' : World) : Prop :=
  ∃ A n c, e = .returned (.slice A n c) ∧ OwnJ w' w.heap.size A n c l ∧ Below w.heap.size w w'

set_option maxRecDepth 100000 in
theorem OwnJ.nil (w : World) (base : Nat) : OwnJ w base none 0 0 [] := ⟨rfl, World.ownsRow_nil _ _ _ _⟩

set_option maxRecDepth 100000 in
set_option maxHeartbeats 400000 in
theorem digits_calls (n m : Nat) (hn : n < 18446744073709551616) (hm : m ≤ 1000000) (w : World) :
    Calls Tryd.prog 34 #[.int .u64 (n : Int), .int .i64 (m : Int)] w (MkI w (dgs n m)) := by
  have HN := Lib.hid hn
  clear hn
  go_enter Tryd.func34, Tryd.ntmps34
  go_wp2
  go_loopw [0, 5, 6] (fun v o i wr => ∃ (t q : Nat) (A : Option Addr) (c : Nat), t ≤ m ∧ i = .int .i64 t ∧ v = .int .u64 q ∧ Hid (q = n / 256 ^ t) ∧ o = .slice A t c ∧ OwnJ wr w.heap.size A t c (dgs n t) ∧ Below w.heap.size w wr) (fun _ _ i _ => m - (intOf i).toNat)
  case atStart => exact ⟨0, n, none, 0, Nat.zero_le _, rfl, rfl, by show n = n / 256 ^ 0; simp, rfl, OwnJ.nil _ _, Below.refl _ _⟩
  case round =>
    obtain ⟨t, q, A, c, ht, rfl, rfl, HQ, rfl, hown, hbel⟩ := hrel
    by_cases hlt : t < m
    · go_wp2_with (at_builtin; refine appI_one _ rfl _ _ rfl w.heap.size A t c _ _ rfl rfl hown (by omega) hbel.size ?_; intro A' c' w' hown' hbel')
      go_roundw
      case rel =>
        refine ⟨t + 1, q / 256, A', c', by omega, by go_num, by rw [show ((q : Int) / 256) = ((q / 256 : Nat) : Int) from by omega, wrap64_nat _ (by have h1 := HN.out; have h2 : q ≤ n := (by rw [HQ.out]; exact Nat.div_le_self _ _); omega)], ?_, rfl, ?_, hbel.trans hbel'⟩
        · show q / 256 = n / 256 ^ (t + 1)
          rw [HQ.out, Nat.div_div_eq_div_mul, Nat.pow_succ]
        · rw [dgs_succ, ← HQ.out]
          exact hown'
      case measure => simp [intOf]; omega
    · have e : t = m := by omega
      subst e
      go_wp2
      go_ret
      exact ⟨_, _, _, rfl, hown, hbel⟩
end Go.Proofs.YthkkllcpogagiaaDoor

/- The contract of the document's own Value. -/
namespace Go.Proofs.YthkkllcpogagiaaDoor
open Go.RowKit

set_option maxRecDepth 100000 in
theorem val_add (x c : Nat) (hx : x < 72057594037927936) (hc : c < 256) : IntKind.u64.wrap (IntKind.u64.wrap ((x : Int) * 256) + (c : Int)) = ((c + 256 * x : Nat) : Int) := by
  have e : (x : Int) * 256 = ((x * 256 : Nat) : Int) := by omega
  rw [e, wrap64_nat _ (by omega), IntKind.wrap_u64]
  omega
set_option maxRecDepth 100000 in
theorem val_step (l : List UInt8) (t : Nat) (hl : t - 1 < l.length) (h0 : 0 < t) (ht : t ≤ 8) :
    IntKind.u64.wrap (IntKind.u64.wrap ((numL ((l.take 8).drop t) : Int) * 256) + (l[t - 1].toNat : Int)) = (numL ((l.take 8).drop (t - 1)) : Int) := by
  have hx := numL_lt ((l.take 8).drop t)
  have h7 : ((l.take 8).drop t).length ≤ 7 := by rw [List.length_drop, List.length_take]; omega
  have := pow_lt56 _ h7
  rw [val_add _ _ (by omega) l[t - 1].toNat_lt]
  congr 1
  have hd : (l.take 8).drop (t - 1) = l[t - 1] :: (l.take 8).drop t := by
    have h := List.drop_eq_getElem_cons (l := l.take 8) (i := t - 1) (by rw [List.length_take]; omega)
    rw [h, show t - 1 + 1 = t from by omega, List.getElem_take]
  rw [hd]
  rfl
end Go.Proofs.YthkkllcpogagiaaDoor

/- Plain mathematics of layer 6: counts and their bytes; what a reader is left with. Nothing of the program is named here. -/
namespace Go.Proofs.YthkkllcpogagiaaDoor

/-- How many bytes follow the first byte of the count n. -/
def more (n : Nat) : Nat := if n < 253 then 0 else if n < 65536 then 2 else if n < 4294967296 then 4 else 8
/-- The first byte of the count n. -/
def headB (n : Nat) : UInt8 := if n < 253 then UInt8.ofNat n else if n < 65536 then 253 else if n < 4294967296 then 254 else 255
/-- The bytes of the count n. -/
def cnt (n : Nat) : List UInt8 := headB n :: little n (more n)
/-- How many bytes follow a first byte. -/
def foll (c : UInt8) : Nat := if c = 253 then 2 else if c = 254 then 4 else if c = 255 then 8 else 0
/-- The number that bytes spell as a count. -/
def cval (c : UInt8) (r : List UInt8) : Nat := if foll c = 0 then c.toNat else numL (r.take (foll c))
/-- The count with which bytes begin (0 if none), how many bytes it has (0 if none), and the error. -/
def first (l : List UInt8) (most : Nat) : Nat × Nat × Nat :=
  match l with
  | [] => (0, 0, 2)
  | c :: r => if r.length < foll c then (0, 0, 2) else if foll c ≠ more (cval c r) then (0, 0, 3) else if most < cval c r then (0, 0, 4) else (cval c r, 1 + foll c, 0)
/-- What is taken as n bytes, what is left, and the error. -/
def tkV (l : List UInt8) (e n : Nat) : List UInt8 := if e = 0 ∧ n ≤ l.length then l.take n else []
def tkL (l : List UInt8) (e n : Nat) : List UInt8 := if e = 0 ∧ n ≤ l.length then l.drop n else l
def tkE (l : List UInt8) (e n : Nat) : Nat := if e = 0 then (if n ≤ l.length then 0 else 2) else e
/-- What is taken as a count, what is left, and the error. -/
def cvV (l : List UInt8) (e most : Nat) : Nat := if e = 0 then (first l most).1 else 0
def cvL (l : List UInt8) (e most : Nat) : List UInt8 := if e = 0 then l.drop (first l most).2.1 else l
def cvE (l : List UInt8) (e most : Nat) : Nat := if e = 0 then (first l most).2.2 else e
/-- What is taken as a text, what is left, and the error. -/
def txV (l : List UInt8) (e most : Nat) : List UInt8 := tkV (cvL l e most) (cvE l e most) (cvV l e most)
def txE (l : List UInt8) (e most : Nat) : Nat := tkE (cvL l e most) (cvE l e most) (cvV l e most)
def txL (l : List UInt8) (e most : Nat) : List UInt8 := if txE l e most = 0 then tkL (cvL l e most) (cvE l e most) (cvV l e most) else l

set_option maxRecDepth 100000 in
theorem foll_le (c : UInt8) : foll c ≤ 8 := by unfold foll; (repeat' split) <;> omega
set_option maxRecDepth 100000 in
theorem more_le (n : Nat) : more n ≤ 8 := by unfold more; (repeat' split) <;> omega
set_option maxRecDepth 100000 in
@[simp] theorem cnt_len (n : Nat) : (cnt n).length = 1 + more n := by simp [cnt]; omega
set_option maxRecDepth 100000 in
theorem cval_lt (c : UInt8) (r : List UInt8) : cval c r < 18446744073709551616 := by
  unfold cval
  split
  · have := c.toNat_lt; omega
  · have h1 := numL_lt (r.take (foll c))
    have h2 : (r.take (foll c)).length ≤ 8 := by rw [List.length_take]; have := foll_le c; omega
    have h3 := Nat.pow_le_pow_right (n := 256) (by omega) h2
    have h4 : 256 ^ 8 = 18446744073709551616 := by decide
    omega
set_option maxRecDepth 100000 in
theorem little_numL (l : List UInt8) : little (numL l) l.length = l := by
  induction l with
  | nil => rfl
  | cons c r ih =>
    rw [List.length_cons, little_succ, numL]
    have hc := c.toNat_lt
    congr 1
    · apply UInt8.toNat_inj.1
      rw [ofNat_toNat]
      omega
    · rw [show (c.toNat + 256 * numL r) / 256 = numL r from by omega]
      exact ih
set_option maxRecDepth 100000 in
theorem head_more (n : Nat) : (more n = 0 → n < 253) ∧ (more n = 2 → headB n = 253) ∧ (more n = 4 → headB n = 254) ∧ (more n = 8 → headB n = 255) := by
  unfold more headB
  by_cases h1 : n < 253
  · simp [h1]
  · by_cases h2 : n < 65536
    · simp [h1, h2]
    · by_cases h3 : n < 4294967296
      · simp [h1, h2, h3]
      · simp [h1, h2, h3]
set_option maxRecDepth 100000 in
theorem foll_more {c : UInt8} {r : List UInt8} (hl : foll c ≤ r.length) (h : foll c = more (cval c r)) : c :: r.take (foll c) = cnt (cval c r) := by
  unfold cnt
  have hlen : (r.take (foll c)).length = foll c := by rw [List.length_take]; omega
  by_cases h0 : foll c = 0
  · have hv : cval c r = c.toNat := by simp [cval, h0]
    rw [hv, h0] at h
    rw [hv]
    have hlt : c.toNat < 253 := by unfold more at h; split at h; assumption; split at h; omega; split at h <;> omega
    rw [h0, ← h]
    simp [headB, hlt, little]
  · have hv : cval c r = numL (r.take (foll c)) := by simp [cval, h0]
    have hlit : little (cval c r) (more (cval c r)) = r.take (foll c) := by
      rw [← h, hv]
      have := little_numL (r.take (foll c))
      rw [hlen] at this
      exact this
    rw [hlit]
    congr 1
    have hh := head_more (cval c r)
    unfold foll at h h0
    by_cases e1 : c = 253
    · rw [if_pos e1] at h
      exact e1.trans (hh.2.1 h.symm).symm
    · by_cases e2 : c = 254
      · rw [if_neg e1, if_pos e2] at h
        exact e2.trans (hh.2.2.1 h.symm).symm
      · by_cases e3 : c = 255
        · rw [if_neg e1, if_neg e2, if_pos e3] at h
          exact e3.trans (hh.2.2.2 h.symm).symm
        · rw [if_neg e1, if_neg e2, if_neg e3] at h0
          exact absurd rfl h0
set_option maxRecDepth 100000 in
/-- Bytes spell a count just if they are its bytes. -/
theorem spell_iff {c : UInt8} {r : List UInt8} (hl : foll c ≤ r.length) : cnt (cval c r) = c :: r.take (foll c) ↔ foll c = more (cval c r) := by
  constructor
  · intro h
    have := congrArg List.length h
    rw [cnt_len, List.length_cons, List.length_take] at this
    omega
  · exact fun h => (foll_more hl h).symm
set_option maxRecDepth 100000 in
theorem first_ok {l : List UInt8} {most : Nat} (h : (first l most).2.2 = 0) : l = cnt (first l most).1 ++ l.drop (first l most).2.1 ∧ (first l most).1 ≤ most ∧ (first l most).2.1 ≤ l.length ∧ (first l most).1 < 18446744073709551616 := by
  unfold first at h ⊢
  match l with
  | [] => simp at h
  | c :: r =>
    simp only at h ⊢
    split at h
    · simp at h
    · split at h
      · simp at h
      · split at h
        · simp at h
        · rename_i h1 h2 h3
          rw [if_neg h1, if_neg h2, if_neg h3]
          have h2' : foll c = more (cval c r) := by omega
          refine ⟨?_, by omega, by simp; omega, cval_lt c r⟩
          show c :: r = cnt (cval c r) ++ (c :: r).drop (1 + foll c)
          rw [← foll_more (by omega) h2', Nat.add_comm 1, List.drop_succ_cons, List.cons_append, List.take_append_drop]
set_option maxRecDepth 100000 in
theorem first_err {l : List UInt8} {most : Nat} (h : (first l most).2.2 ≠ 0) : (first l most).1 = 0 ∧ (first l most).2.1 = 0 := by
  unfold first at h ⊢
  match l with
  | [] => simp
  | c :: r =>
    simp only at h ⊢
    split
    · simp
    · split
      · simp
      · split
        · simp
        · rename_i h1 h2 h3
          rw [if_neg h1, if_neg h2, if_neg h3] at h
          simp at h
set_option maxRecDepth 100000 in
theorem first_le (l : List UInt8) (most : Nat) : (first l most).2.1 ≤ l.length ∧ (first l most).1 ≤ most ∧ (first l most).1 < 18446744073709551616 ∧ (first l most).2.2 ≤ 4 := by
  refine ⟨?_, ?_, ?_, ?_⟩
  · by_cases h : (first l most).2.2 = 0
    · exact (first_ok h).2.2.1
    · rw [(first_err h).2]; omega
  · by_cases h : (first l most).2.2 = 0
    · exact (first_ok h).2.1
    · rw [(first_err h).1]; omega
  · by_cases h : (first l most).2.2 = 0
    · exact (first_ok h).2.2.2
    · rw [(first_err h).1]; omega
  · unfold first
    match l with
    | [] => simp
    | c :: r => simp only; (repeat' split) <;> simp only [Nat.le_refl, Nat.reduceLeDiff, Nat.zero_le]
set_option maxRecDepth 100000 in
theorem foll_head (n : Nat) : foll (headB n) = more n := by
  unfold foll headB more
  split
  · rename_i h
    have hn : ∀ c : UInt8, 253 ≤ c.toNat → UInt8.ofNat n ≠ c := fun c hc e => by
      have := congrArg UInt8.toNat e
      rw [ofNat_toNat] at this
      omega
    rw [if_neg (hn 253 (by decide)), if_neg (hn 254 (by decide)), if_neg (hn 255 (by decide))]
  · split
    · rfl
    · split <;> rfl
set_option maxRecDepth 100000 in
theorem cval_cnt (n : Nat) (hn : n < 18446744073709551616) (r : List UInt8) : cval (headB n) (little n (more n) ++ r) = n := by
  unfold cval
  rw [foll_head, List.take_append_of_le_length (by simp), List.take_of_length_le (by simp), numL_little]
  split
  · rename_i h
    have hlt : n < 253 := by unfold more at h; split at h; assumption; split at h; omega; split at h <;> omega
    unfold headB
    rw [if_pos hlt, ofNat_toNat]
    omega
  · rename_i h
    apply Nat.mod_eq_of_lt
    unfold more
    split
    · rename_i h1; simp [more, h1] at h
    · split
      · show n < 65536; assumption
      · split
        · show n < 4294967296; assumption
        · show n < 18446744073709551616; exact hn
set_option maxRecDepth 100000 in
theorem first_cnt (n most : Nat) (hn : n < 18446744073709551616) (hm : n ≤ most) (r : List UInt8) : first (cnt n ++ r) most = (n, 1 + more n, 0) := by
  have hv := cval_cnt n hn r
  unfold first cnt
  simp only [List.cons_append, hv, foll_head]
  rw [if_neg (by simp), if_neg (by omega), if_neg (by omega)]
set_option maxRecDepth 100000 in
theorem drop_cnt (n : Nat) (r : List UInt8) : (cnt n ++ r).drop (1 + more n) = r := by
  rw [← cnt_len n, List.drop_left]
end Go.Proofs.YthkkllcpogagiaaDoor
