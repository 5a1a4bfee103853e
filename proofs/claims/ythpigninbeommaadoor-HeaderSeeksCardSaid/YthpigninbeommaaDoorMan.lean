/- Merged texts: Lit Num Value Dgs. -/
import Derived.Test.YthpigninbeommaaDoorMaa
import Derived.Laws.BitsAllLaws
import Derived.WalkKit
import Derived.WalkSpells
import Derived.WalkLawsBesides
import Derived.Lib.Hide
import Derived.Test.YthpigninbeommaaDoorMac
/- The contract of octet.Little: new memory that holds the bytes of a number, the lowest first. -/
namespace Go.Proofs.YthpigninbeommaaDoor
open Go.RowKit

/-- What stands in the slice while Little goes: the first i of the m bytes. -/
def lpart (n m i : Nat) : List UInt8 := little n i ++ List.replicate (m - i) 0
set_option maxRecDepth 100000 in
@[simp] theorem lpart_len (n m i : Nat) (h : i ≤ m) : (lpart n m i).length = m := by simp [lpart]; omega
set_option maxRecDepth 100000 in
theorem lpart_set (n m i : Nat) (h : i < m) : (lpart n m i).set i (UInt8.ofNat (n / 256 ^ i)) = lpart n m (i + 1) := by
  unfold lpart
  rw [List.set_append_right _ _ (by simp)]
  simp only [little_len, Nat.sub_self]
  rw [show m - i = (m - (i + 1)) + 1 from by omega, List.replicate_succ, List.set_cons_zero]
  simp [little, List.range_succ]

set_option maxRecDepth 100000 in
set_option maxHeartbeats 400000 in
theorem little_calls (n : Nat) (k : Int) (m : Nat) (hm : cw k = m) (w : World) :
    Calls Tryd.prog 34 #[.int .u64 (n : Int), .int .i64 k] w (Mk w (little n m)) := by
  have hm8 : m ≤ 8 := by have := cw_bd k; omega
  have H := Lib.hid hm
  clear hm
  have hmk := fun W => run_mk8 m (by omega) W
  go_enter Tryd.func34, Tryd.ntmps34
  go_wp2_with (go_at_call 48; refine (clamp_nat _ _ H.out _).mono ?_; rintro e w' ⟨rfl, rfl⟩)
  go_loopw [12] (fun i wr => ∃ t : Nat, t ≤ m ∧ i = .int .i64 t ∧ Own wr w.heap.size (some ⟨w.heap.size, 0, none⟩) m m (lpart n m t) ∧ Below w.heap.size w wr) (fun i _ => m - (intOf i).toNat)
  case atStart =>
    refine ⟨0, Nat.zero_le _, rfl, ?_, (Below.refl _ _).alloc (Nat.le_refl _) _⟩
    have := Own.made w m (by unfold maxLen; omega)
    simpa [lpart, little] using this
  case round =>
    obtain ⟨t, ht, rfl, hown, hbel⟩ := hrel
    by_cases hlt : t < m
    · have hl : t < (lpart n m t).length := by rw [lpart_len n m t ht]; exact hlt
      have hc := hown.cell hl
      have hf := hown.free t
      have HO := Lib.hid hown
      clear hown
      go_wp2
      go_roundw
      case rel =>
        have h1 := HO.out.set t (UInt8.ofNat (n / 256 ^ t))
        rw [lpart_set n m t hlt, ← byte_at] at h1
        exact ⟨t + 1, by omega, by go_num, h1, hbel.setCell (Nat.le_refl _) _⟩
      case measure => simp [intOf]; omega
    · have e : t = m := by omega
      subst e
      have HO := Lib.hid hown
      clear hown
      go_wp2
      go_ret
      have hx : lpart n t t = little n t := by simp [lpart]
      rw [hx] at HO
      exact ⟨_, _, _, rfl, HO.out, hbel⟩
end Go.Proofs.YthpigninbeommaaDoor

/- The contract of octet.Num: the number of the first eight bytes, the lowest first. -/
namespace Go.Proofs.YthpigninbeommaaDoor
open Go.RowKit

set_option maxRecDepth 100000 in
theorem num_step (l : List UInt8) (t : Nat) (hl : t < l.length) (ht : t < 8) :
    bits .or .u64 (numL (l.take t) : Int) (IntKind.u64.wrap ((l[t].toNat : Int) * 2 ^ (8 * t))) = (numL (l.take (t + 1)) : Int) := by
  have hx := numL_lt (l.take t)
  rw [List.length_take, Nat.min_eq_left (by omega)] at hx
  have hc := l[t].toNat_lt
  have hp := pow_le64 (t + 1) (by omega)
  have hpos : 0 < 256 ^ t := Nat.pow_pos (by omega)
  have hz : l[t].toNat * 256 ^ t < 18446744073709551616 := by
    rw [Nat.pow_succ] at hp
    have : l[t].toNat * 256 ^ t ≤ 255 * 256 ^ t := Nat.mul_le_mul_right _ (by omega)
    omega
  have e : (l[t].toNat : Int) * 2 ^ (8 * t) = ((l[t].toNat * 256 ^ t : Nat) : Int) := by
    rw [← pow8, Int.natCast_mul, Int.natCast_pow]; rfl
  rw [e, wrap64_nat _ hz, u64_or_nat _ _ (by have := pow_le64 t (by omega); omega) hz]
  congr 1
  rw [take_snoc l t hl, numL_append, List.length_take, Nat.min_eq_left (by omega), Nat.or_comm]
  rw [nat_join (8 * t) _ _ (by rw [pow8]; exact Nat.mul_mod_left _ _) (by rw [pow8]; exact hx)]
  simp only [numL]
  rw [Nat.mul_zero, Nat.add_zero, Nat.mul_comm (256 ^ t), Nat.add_comm]
set_option maxRecDepth 100000 in
set_option maxHeartbeats 400000 in
theorem num_calls (A : Option Addr) (n c : Nat) (l : List UInt8) (w : World) (hr : Rd w A n l) :
    Calls Tryd.prog 36 #[.slice A n c] w fun e w' => e = .returned (.int .u64 (numL (l.take 8) : Int)) ∧ w = w' := by
  have hl := hr.len
  obtain ⟨m, hm⟩ : ∃ m, m = min n 8 := ⟨_, rfl⟩
  have hm8 : m ≤ 8 := by omega
  have hmn : m ≤ n := by omega
  have hc : cw (n : Int) = (m : Int) := by rw [hm]; exact cw_nat n
  have HM := Lib.hid hm
  have HC := Lib.hid hc
  have HL := Lib.hid hl
  have HR := Lib.hid hr
  clear hm hc hl hr
  go_enter Tryd.func36, Tryd.ntmps36
  go_wp2_with (go_at_call 48; refine (clamp_nat _ _ HC.out _).mono ?_; rintro e w' ⟨rfl, rfl⟩)
  go_loop [3, 8] (fun v i => ∃ t : Nat, t ≤ m ∧ i = .int .i64 t ∧ v = .int .u64 (numL (l.take t) : Int)) (fun _ i => m - (intOf i).toNat)
  case atStart => exact ⟨0, Nat.zero_le _, rfl, rfl⟩
  case round =>
    obtain ⟨t, ht, rfl, rfl⟩ := hrel
    by_cases hlt : t < m
    · obtain ⟨b, off, hl, rfl, _, hcell⟩ := HR.out.at_ (k := t) (by omega)
      have hb := l[t].toNat_lt
      go_wp2
      go_round
      case rel => exact ⟨t + 1, by omega, by go_num, by rw [num_step l t hl (by omega)]⟩
      case measure => simp [intOf]; omega
    · have e : t = m := by omega
      subst e
      go_wp2
      go_ret
      have hx : l.take t = l.take 8 := by
        have h1 := HM.out
        have h2 := HL.out
        by_cases h8 : n ≤ 8
        · rw [List.take_of_length_le (by omega), List.take_of_length_le (by omega)]
        · rw [h1, Nat.min_eq_right (by omega)]
      rw [← hx]
      exact ⟨rfl, rfl⟩
end Go.Proofs.YthpigninbeommaaDoor

/- The contract of the document's own Value. -/
namespace Go.Proofs.YthpigninbeommaaDoor
open Go.RowKit

set_option maxRecDepth 100000 in
theorem val_add (x c : Nat) (hx : x < 72057594037927936) (hc : c < 256) : IntKind.u64.wrap (IntKind.u64.wrap ((x : Int) * 256) + (c : Int)) = ((c + 256 * x : Nat) : Int) := by
  have e : (x : Int) * 256 = ((x * 256 : Nat) : Int) := by omega
  rw [e, wrap64_nat _ (by omega), IntKind.wrap_u64]
  omega
set_option maxRecDepth 100000 in
theorem val_step (l : List UInt8) (t : Nat) (hl : t - 1 < l.length) (h0 : 0 < t) (ht : t ≤ 8) :
    IntKind.u64.wrap (IntKind.u64.wrap ((numL ((l.take 8).drop t) : Int) * 256) + (l[t - 1].toNat : Int)) = (numL ((l.take 8).drop (t - 1)) : Int) := by
  have hx := numL_lt ((l.take 8).drop t)
  have h7 : ((l.take 8).drop t).length ≤ 7 := by rw [List.length_drop, List.length_take]; omega
  have := pow_lt56 _ h7
  rw [val_add _ _ (by omega) l[t - 1].toNat_lt]
  congr 1
  have hd : (l.take 8).drop (t - 1) = l[t - 1] :: (l.take 8).drop t := by
    have h := List.drop_eq_getElem_cons (l := l.take 8) (i := t - 1) (by rw [List.length_take]; omega)
    rw [h, show t - 1 + 1 = t from by omega, List.getElem_take]
  rw [hd]
  rfl
end Go.Proofs.YthpigninbeommaaDoor

/- Slices of ints that a call made; contracts of the document's own Held (a width within 0 and 8) and Digits (the bytes of a number as ints). -/
namespace Go.Proofs.YthpigninbeommaaDoor
open Go.RowKit

set_option maxRecDepth 100000 in
theorem infoInt : (Tryd.prog.info? 3).map (fun i => (i.zero, i.size, i.bytes)) = some (some (.int .i64 0), 1, 8) := by kernel_rfl

set_option maxRecDepth 100000 in
theorem held_any (k : Int) (w : World) : Calls Tryd.prog 39 #[.int .i64 k] w fun e w' => e = .returned (.int .i64 (cw k)) ∧ w = w' := by
  unfold cw
  by_cases h : k < 0
  · go_enter Tryd.func39, Tryd.ntmps39
    go_wp2
    go_ret
    exact ⟨rfl, rfl⟩
  · by_cases h8 : 8 < k
    · go_enter Tryd.func39, Tryd.ntmps39
      go_wp2
      go_ret
      exact ⟨rfl, rfl⟩
    · go_enter Tryd.func39, Tryd.ntmps39
      go_wp2
      go_ret
      exact ⟨rfl, rfl⟩

set_option maxRecDepth 100000 in
theorem held_nat (k : Int) (m : Nat) (h : cw k = m) (w : World) : Calls Tryd.prog 39 #[.int .i64 k] w fun e w' => e = .returned (.int .i64 (m : Int)) ∧ w = w' := by
  rw [← h]; exact held_any k w
/-- The slice of ints that the call made. -/
def OwnJ (w : World) (base : Nat) (A : Option Addr) (n c : Nat) (l : List Int) : Prop := l.length = n ∧ w.ownsRow base 3 1 (.slice A n c) n (l.map (Value.int .i64))

set_option maxRecDepth 100000 in
theorem OwnJ.at_ {w : World} {base n c : Nat} {A : Option Addr} {l : List Int} (h : OwnJ w base A n c l) {k : Nat} (hk : k < n) :
    ∃ g, ∃ hl : k < l.length, A = some ⟨g, 0, none⟩ ∧ g < w.heap.size ∧ w.cell? ⟨g, k, none⟩ = some (.int .i64 l[k]) := by
  obtain ⟨hl, h⟩ := h
  obtain ⟨g, cap, hv, _, hlt⟩ := World.ownsRow.form h (by omega)
  have hA : A = some ⟨g, 0, none⟩ := by injection hv
  subst hA
  have := World.ownsRow.cellAt h k (by omega)
  refine ⟨g, by omega, rfl, hlt, ?_⟩
  rw [this]
  simp [List.getElem?_eq_getElem (show k < l.length by omega)]
set_option maxRecDepth 100000 in
theorem OwnJ.below {w w' : World} {base n c : Nat} {A : Option Addr} {l : List Int} (h : OwnJ w base A n c l) (hb : Below w.heap.size w w') : OwnJ w' base A n c l := by
  refine ⟨h.1, h.2.1, ?_⟩
  rcases h.2.2 with h' | ⟨g, cap, cur, e, hbg, hh, hr⟩
  · exact .inl h'
  · refine .inr ⟨g, cap, cur, e, hbg, ?_, hr⟩
    have hlt : g < w.heap.size := by
      rcases Nat.lt_or_ge g w.heap.size with h1 | h1
      · exact h1
      · rw [Array.getElem?_eq_none h1] at hh; cases hh
    rw [hb.block g hlt]; exact hh

set_option maxRecDepth 100000 in
theorem appI_one {ops : Array Oper} {rest : List Oper} {o : Oper} {a : Act} {Q : Exit → Act → World → Prop} (w : World) (hgd : o.guard = none) (s x : Operand)
    (ho : o.op = .call { callee := .builtin .append, args := #[s, x], argTypes := #[65, 65] })
    (base : Nat) (A : Option Addr) (n c : Nat) (l : List Int) (z : Int) (hs : a.eval s = .slice A n c) (hx : a.eval x = .slice (some ⟨w.heap.size, 0, none⟩) 1 1)
    (hown : OwnJ w base A n c l) (hb : (n + 1) * 8 ≤ 140737488355328) (hbase : base ≤ w.heap.size)
    (h : ∀ A' c' w', OwnJ w' base A' (n + 1) c' (l ++ [z]) → Below base w w' → wpList Tryd.prog ops Q rest (a.put o.dst (.slice A' (n + 1) c')) w') :
    wpList Tryd.prog ops Q (o :: rest) a (w.alloc (.cells #[.int .i64 z] 3)) := by
  refine wpList_plain hgd fun _ hK => wpo_appG _ s x 65 ho 3 (.int .i64 0) 8 Tryd.underlying65 infoInt rfl base _ n (l.map (Value.int .i64)) hs (own_alloc hown.2 _) _ 1 1 [.int .i64 z] hx rfl ?_ ?_ (by unfold maxLen; omega) (by omega) (by simp; omega) ?_
  · intro _
    refine ⟨_, rfl, fun j v hj => ?_⟩
    cases j with
    | zero => simp at hj; subst hj; exact cell_one_alloc w _ _
    | succ j => simp at hj
  · intro v hv; simp at hv; subst hv; rfl
  · intro A' c' w' hown' hbel _ _
    exact hK _ _ (h A' c' w' ⟨by simp [hown.1], by rw [List.map_append]; exact hown'⟩ (((Below.refl _ _).alloc hbase _).trans hbel))
/-- The first m bytes of n as ints. -/
def dgs (n m : Nat) : List Int := (List.range m).map fun i => ((n / 256 ^ i % 256 : Nat) : Int)
set_option maxRecDepth 100000 in
theorem dgs_succ (n m : Nat) : dgs n (m + 1) = dgs n m ++ [((n / 256 ^ m % 256 : Nat) : Int)] := by simp [dgs, List.range_succ]

def MkI (w : World) (l : List Int) (e : Ending) (w' : World) : Prop :=
  ∃ A n c, e = .returned (.slice A n c) ∧ OwnJ w' w.heap.size A n c l ∧ Below w.heap.size w w'

set_option maxRecDepth 100000 in
theorem OwnJ.nil (w : World) (base : Nat) : OwnJ w base none 0 0 [] := ⟨rfl, World.ownsRow_nil _ _ _ _⟩

set_option maxRecDepth 100000 in
set_option maxHeartbeats 400000 in
theorem digits_calls (n m : Nat) (hn : n < 18446744073709551616) (hm : m ≤ 1000000) (w : World) :
    Calls Tryd.prog 38 #[.int .u64 (n : Int), .int .i64 (m : Int)] w (MkI w (dgs n m)) := by
  have HN := Lib.hid hn
  clear hn
  go_enter Tryd.func38, Tryd.ntmps38
  go_wp2
  go_loopw [0, 5, 6] (fun v o i wr => ∃ (t q : Nat) (A : Option Addr) (c : Nat), t ≤ m ∧ i = .int .i64 t ∧ v = .int .u64 q ∧ Hid (q = n / 256 ^ t) ∧ o = .slice A t c ∧ OwnJ wr w.heap.size A t c (dgs n t) ∧ Below w.heap.size w wr) (fun _ _ i _ => m - (intOf i).toNat)
  case atStart => exact ⟨0, n, none, 0, Nat.zero_le _, rfl, rfl, by show n = n / 256 ^ 0; simp, rfl, OwnJ.nil _ _, Below.refl _ _⟩
  case round =>
    obtain ⟨t, q, A, c, ht, rfl, rfl, HQ, rfl, hown, hbel⟩ := hrel
    by_cases hlt : t < m
    · go_wp2_with (at_builtin; refine appI_one _ rfl _ _ rfl w.heap.size A t c _ _ rfl rfl hown (by omega) hbel.size ?_; intro A' c' w' hown' hbel')
      go_roundw
      case rel =>
        refine ⟨t + 1, q / 256, A', c', by omega, by go_num, by rw [show ((q : Int) / 256) = ((q / 256 : Nat) : Int) from by omega, wrap64_nat _ (by have h1 := HN.out; have h2 : q ≤ n := (by rw [HQ.out]; exact Nat.div_le_self _ _); omega)], ?_, rfl, ?_, hbel.trans hbel'⟩
        · show q / 256 = n / 256 ^ (t + 1)
          rw [HQ.out, Nat.div_div_eq_div_mul, Nat.pow_succ]
        · rw [dgs_succ, ← HQ.out]
          exact hown'
      case measure => simp [intOf]; omega
    · have e : t = m := by omega
      subst e
      go_wp2
      go_ret
      exact ⟨_, _, _, rfl, hown, hbel⟩
end Go.Proofs.YthpigninbeommaaDoor
