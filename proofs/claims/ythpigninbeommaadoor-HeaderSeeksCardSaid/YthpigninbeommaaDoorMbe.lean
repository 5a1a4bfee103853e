/- Merged texts: Still BigM BigR BigA. -/
import Derived.Test.YthpigninbeommaaDoorMab
import Derived.PlainAid
import Derived.Test.YthpigninbeommaaDoorMam
import Derived.Test.YthpigninbeommaaDoorMac
/- What was there at w still stands: through draws, new memory and calls. -/
namespace Go.Proofs.YthpigninbeommaaDoor
open Go.RowKit

def Still (w W : World) : Prop := Below w.heap.size w W
set_option maxRecDepth 100000 in
theorem Still.refl (w : World) : Still w w := Below.refl _ _
set_option maxRecDepth 100000 in
theorem Still.drew {w W : World} (h : Still w W) : Still w W.drew := ⟨h.os, h.tape, h.output, h.size, h.block⟩
set_option maxRecDepth 100000 in
theorem Still.drewN {w W : World} (h : Still w W) (n : Nat) : Still w (W.drewN n) := ⟨h.os, h.tape, h.output, h.size, h.block⟩
set_option maxRecDepth 100000 in
theorem Still.alloc {w W : World} (h : Still w W) (o : Obj) : Still w (W.alloc o) := Below.alloc (w := W) h h.size o
set_option maxRecDepth 100000 in
theorem Still.step {w W W' : World} (h : Still w W) (hb : Below W.heap.size W W') : Still w W' := Below.trans h (hb.mono h.size)
set_option maxRecDepth 100000 in
theorem Still.trans {w W W' : World} (h : Still w W) (hb : Still W W') : Still w W' := h.step hb
set_option maxRecDepth 100000 in
theorem ret_still {P : Program} {f : FuncId} {args : Array Value} {v : Value} {w W : World} (hc : Calls P f args W (Ret W v)) (h : Still w W) :
    Calls P f args W fun e W' => e = .returned v ∧ Still w W' := hc.mono fun _ _ ⟨he, hb⟩ => ⟨he, h.step hb⟩
end Go.Proofs.YthpigninbeommaaDoor

/- Plain mathematics of layer 4's reference: numbers as lists of digits to the base 65536, the lowest first, without noughts at the end. -/
namespace Go.Proofs.YthpigninbeommaaDoor

/-- The number of a list of digits. -/
def valB : List Nat → Nat
  | [] => 0
  | d :: r => d + 65536 * valB r
/-- The digits of a number. -/
def digs (n : Nat) : List Nat := if h : n = 0 then [] else n % 65536 :: digs (n / 65536)
termination_by n
decreasing_by omega
set_option maxRecDepth 100000 in
theorem digs_zero : digs 0 = [] := by unfold digs; simp
set_option maxRecDepth 100000 in
theorem digs_pos {n : Nat} (h : n ≠ 0) : digs n = n % 65536 :: digs (n / 65536) := by
  rw [digs]
  simp [h]
/-- Digits. -/
def Dg (l : List Nat) : Prop := ∀ d ∈ l, d < 65536
set_option maxRecDepth 100000 in
theorem digs_lt (n : Nat) : Dg (digs n) := by
  induction n using Nat.strongRecOn with
  | _ n ih =>
    by_cases h : n = 0
    · rw [h, digs_zero]; intro d hd; simp at hd
    · rw [digs_pos h]
      intro d hd
      rcases List.mem_cons.1 hd with rfl | hd
      · exact Nat.mod_lt _ (by omega)
      · exact ih (n / 65536) (by omega) d hd
set_option maxRecDepth 100000 in
theorem val_digs (n : Nat) : valB (digs n) = n := by
  induction n using Nat.strongRecOn with
  | _ n ih =>
    by_cases h : n = 0
    · rw [h, digs_zero]; rfl
    · rw [digs_pos h, valB, ih (n / 65536) (by omega)]
      omega
set_option maxRecDepth 100000 in
theorem valB_append (l r : List Nat) : valB (l ++ r) = valB l + 65536 ^ l.length * valB r := by
  induction l with
  | nil => simp [valB]
  | cons d l ih =>
    simp only [List.cons_append, valB, ih, List.length_cons, Nat.pow_succ, Nat.mul_add]
    rw [Nat.mul_comm (65536 ^ l.length) 65536, Nat.mul_assoc]
    omega
set_option maxRecDepth 100000 in
theorem valB_lt (l : List Nat) (h : Dg l) : valB l < 65536 ^ l.length := by
  induction l with
  | nil => simp [valB]
  | cons d r ih =>
    have h1 := h d (by simp)
    have h2 := ih (fun x hx => h x (by simp [hx]))
    simp only [valB, List.length_cons, Nat.pow_succ]
    omega
set_option maxRecDepth 100000 in
theorem valB_zeros (n : Nat) : valB (List.replicate n 0) = 0 := by
  induction n with
  | zero => rfl
  | succ n ih => simp [List.replicate_succ, valB, ih]
set_option maxRecDepth 100000 in
theorem valB_zero (l : List Nat) (h : ∀ d ∈ l, d = 0) : valB l = 0 := by
  induction l with
  | nil => rfl
  | cons d r ih => rw [valB, h d (by simp), ih (fun x hx => h x (by simp [hx]))]
set_option maxRecDepth 100000 in
/-- Digits without noughts at the end are those of their number. -/
theorem canon (l : List Nat) (h : Dg l) (hl : ∀ h : l ≠ [], l.getLast h ≠ 0) : l = digs (valB l) := by
  induction l with
  | nil => rw [valB, digs_zero]
  | cons d r ih =>
    have hd := h d (by simp)
    by_cases hr : r = []
    · subst hr
      have h0 : d ≠ 0 := hl (by simp)
      simp only [valB, Nat.mul_zero, Nat.add_zero]
      rw [digs_pos h0, Nat.mod_eq_of_lt hd, Nat.div_eq_of_lt hd, digs_zero]
    · have hr' := ih (fun x hx => h x (by simp [hx])) (fun h' => by have := hl (by simp); rw [List.getLast_cons hr] at this; exact this)
      have hv : valB r ≠ 0 := by
        intro h0
        rw [h0, digs_zero] at hr'
        exact hr hr'
      rw [valB, digs_pos (by omega), show (d + 65536 * valB r) % 65536 = d from by omega, show (d + 65536 * valB r) / 65536 = valB r from by omega, ← hr']
set_option maxRecDepth 100000 in
theorem digs_last (n : Nat) : ∀ h : digs n ≠ [], (digs n).getLast h ≠ 0 := by
  induction n using Nat.strongRecOn with
  | _ n ih =>
    intro h
    by_cases h0 : n = 0
    · subst h0; rw [digs_zero] at h; exact absurd rfl h
    · have e := digs_pos h0
      by_cases hq : n / 65536 = 0
      · have e2 : digs n = [n % 65536] := by rw [e, hq, digs_zero]
        simp only [e2, List.getLast_singleton]
        omega
      · have hne : digs (n / 65536) ≠ [] := by rw [digs_pos hq]; simp
        have := ih (n / 65536) (by omega) hne
        simp only [e, List.getLast_cons hne]
        exact this
set_option maxRecDepth 100000 in
theorem digs_len (n k : Nat) : (digs n).length ≤ k ↔ n < 65536 ^ k := by
  induction k generalizing n with
  | zero =>
    by_cases h : n = 0
    · subst h; simp [digs_zero]
    · rw [digs_pos h]; simp; omega
  | succ k ih =>
    by_cases h : n = 0
    · subst h; rw [digs_zero]; exact ⟨fun _ => Nat.pow_pos (by omega), fun _ => by simp⟩
    · rw [digs_pos h, List.length_cons, Nat.succ_le_succ_iff, ih, Nat.pow_succ]
      rw [Nat.div_lt_iff_lt_mul (by omega)]
set_option maxRecDepth 100000 in
/-- What is left of digits when the noughts at the end go. -/
theorem trimmed (l : List Nat) (m : Nat) (h : Dg l) (hm : m ≤ l.length) (hz : ∀ d ∈ l.drop m, d = 0) (hl : 0 < m → l.getD (m - 1) 0 ≠ 0) : l.take m = digs (valB l) := by
  have e : valB l = valB (l.take m) := by
    conv => lhs; rw [← List.take_append_drop m l]
    rw [valB_append, valB_zero _ hz]
    simp
  rw [e]
  refine canon _ (fun d hd => h d (List.mem_of_mem_take hd)) (fun hne => ?_)
  have hm0 : 0 < m := by
    rcases Nat.eq_zero_or_pos m with h0 | h0
    · subst h0; simp at hne
    · exact h0
  have := hl hm0
  rw [List.getLast_eq_getElem, List.getElem_take]
  simp only [List.length_take, Nat.min_eq_left hm]
  rw [List.getD_eq_getElem?_getD, List.getElem?_eq_getElem (by omega)] at this
  exact this
end Go.Proofs.YthpigninbeommaaDoor

/- Words for slices of digits; the contract of the reference's trim. -/
namespace Go.Proofs.YthpigninbeommaaDoor
open Go.RowKit
set_option linter.unusedVariables false

/-- The slice of n ints that begins at A holds the digits l. -/
def RdI (w : World) (A : Option Addr) (n : Nat) (l : List Nat) : Prop :=
  l.length = n ∧ (0 < n → ∃ b off, A = some ⟨b, off, none⟩ ∧ b < w.heap.size ∧ ∀ j, j < n → w.cell? ⟨b, off + j, none⟩ = some (.int .i64 (l.getD j 0 : Int)))
set_option maxRecDepth 100000 in
theorem RdI.len {w : World} {A : Option Addr} {n : Nat} {l : List Nat} (h : RdI w A n l) : l.length = n := h.1
set_option maxRecDepth 100000 in
theorem RdI.nil (w : World) (A : Option Addr) : RdI w A 0 [] := ⟨rfl, fun h => absurd h (by omega)⟩
set_option maxRecDepth 100000 in
theorem RdI.below {w w' : World} {A : Option Addr} {n : Nat} {l : List Nat} (h : RdI w A n l) (hb : Below w.heap.size w w') : RdI w' A n l :=
  ⟨h.1, fun hn => by
    obtain ⟨b, off, e, hlt, hc⟩ := h.2 hn
    exact ⟨b, off, e, Nat.lt_of_lt_of_le hlt hb.size, fun j hj => (hb.cell (p := ⟨b, off + j, none⟩) hlt).trans (hc j hj)⟩⟩
set_option maxRecDepth 100000 in
theorem RdI.at_ {w : World} {A : Option Addr} {n : Nat} {l : List Nat} (h : RdI w A n l) {k : Nat} (hk : k < n) :
    ∃ b off, A = some ⟨b, off, none⟩ ∧ w.cell? ⟨b, off + k, none⟩ = some (.int .i64 (l.getD k 0 : Int)) := by
  obtain ⟨b, off, e, _, hc⟩ := h.2 (by omega)
  exact ⟨b, off, e, hc k hk⟩
set_option maxRecDepth 100000 in
theorem RdI.take {w : World} {A : Option Addr} {n : Nat} {l : List Nat} (h : RdI w A n l) (c m : Nat) (hm : m ≤ n) (hnc : n ≤ c) : RdI w (sub A c 0) m (l.take m) := by
  refine ⟨by rw [List.length_take, h.1]; omega, fun h0 => ?_⟩
  obtain ⟨b, off, rfl, hlt, hc⟩ := h.2 (by omega)
  refine ⟨b, off, ?_, hlt, fun j hj => ?_⟩
  · unfold sub
    rw [if_neg (by omega), Option.map_some, Addr.add_mid, Nat.add_zero]
  · rw [hc j (by omega)]
    rw [List.getD_eq_getElem?_getD, List.getD_eq_getElem?_getD, List.getElem?_take, if_pos hj]
/-- What a call ends in that makes the digits of N. -/
def MkB (w : World) (N : Nat) (e : Ending) (w' : World) : Prop :=
  ∃ A n c, e = .returned (.slice A n c) ∧ RdI w' A n (digs N) ∧ n ≤ c ∧ c ≤ maxLen ∧ Below w.heap.size w w'
set_option maxRecDepth 100000 in
theorem sizeI : (Tryd.prog.info? 3).map (·.size) = some 1 := by kernel_rfl
set_option maxRecDepth 100000 in
theorem infoI : (Tryd.prog.info? 3).map (fun i => (i.zero, i.size, i.bytes)) = some (some (.int .i64 0), 1, 8) := by kernel_rfl

set_option maxRecDepth 100000 in
set_option maxHeartbeats 1000000 in
theorem trim_calls (A : Option Addr) (n c : Nat) (l : List Nat) (w : World) (hd : Dg l) (hr : RdI w A n l) (hnc : n ≤ c) (hcm : c ≤ maxLen) :
    Calls Tryd.prog 61 #[.slice A n c] w fun e w' => ∃ A' m, e = .returned (.slice A' m c) ∧ m ≤ n ∧ RdI w A' m (digs (valB l)) ∧ w' = w := by
  have HR := Lib.hid hr
  have HD := Lib.hid hd
  have HL := Lib.hid hr.len
  have hcb : (c : Int) ≤ 9223372036854775807 := by unfold maxLen at hcm; omega
  have hnb : (n : Int) ≤ 9223372036854775807 := by omega
  clear hr hd
  go_enter Tryd.func61, Tryd.ntmps61
  go_wp2
  go_loop [3] (fun v => ∃ m : Nat, m ≤ n ∧ v = .int .i64 (m : Int) ∧ Hid (∀ d ∈ l.drop m, d = 0)) (fun v => (intOf v).toNat)
  case atStart => exact ⟨n, Nat.le_refl _, rfl, fun d hd => by rw [List.drop_of_length_le (by rw [HL.out]; exact Nat.le_refl _)] at hd; simp at hd⟩
  case round =>
    obtain ⟨m, hm, rfl, HZ⟩ := hrel
    have fin : Hid ((0 < m → l.getD (m - 1) 0 ≠ 0) → RdI w (sub A c 0) m (digs (valB l))) := Lib.hid fun h => by
      rw [← trimmed l m HD.out (by rw [HL.out]; exact hm) HZ.out h]
      exact HR.out.take c m hm hnc
    have hsl := fun W => run_subH (P := Tryd.prog) 66 3 Tryd.underlying66 sizeI A n c m (m : Int) rfl (by omega) W
    by_cases h0 : 0 < m
    · obtain ⟨b, off, rfl, hc⟩ := HR.out.at_ (k := m - 1) (by omega)
      obtain ⟨x, hx⟩ : ∃ x, x = l.getD (m - 1) 0 := ⟨_, rfl⟩
      rw [← hx] at hc
      obtain ⟨q, hq⟩ : ∃ q, q = m - 1 := ⟨_, rfl⟩
      rw [← hq] at hc
      have v1 : IntKind.i64.wrap ((m : Int) - 1) = (q : Int) := by rw [IntKind.wrap_i64]; omega
      have v2 : (m : Int) - 1 = (q : Int) := by omega
      have bq : (q : Int) < (n : Int) := by omega
      have b0 : (0 : Int) < (m : Int) := by omega
      by_cases hx0 : x = 0
      · have HZ2 : Hid (∀ d ∈ l.drop q, d = 0) := Lib.hid fun d hd => by
          have hql : q < l.length := by rw [HL.out]; omega
          rw [List.drop_eq_getElem_cons hql] at hd
          rcases List.mem_cons.1 hd with h | h
          · rw [h]
            rw [hx0, ← hq, List.getD_eq_getElem?_getD, List.getElem?_eq_getElem hql] at hx
            exact hx.symm
          · exact HZ.out d (by rw [show m = q + 1 from by omega]; exact h)
        have hx0' : (x : Int) = 0 := by omega
        clear hx hq
        go_wp2
        go_round
        case rel => exact ⟨q, by omega, rfl, HZ2⟩
        case measure => simp [intOf]; omega
      · have F := Lib.hid (fin.out (fun _ => by rw [← hx]; exact hx0))
        have hx0' : ¬ (x : Int) = 0 := by omega
        clear hx hq
        go_wp2
        go_ret
        exact ⟨_, m, rfl, hm, F.out, rfl⟩
    · have e : m = 0 := by omega
      subst e
      have F := Lib.hid (fin.out (fun h => absurd h (by omega)))
      go_wp2
      go_ret
      exact ⟨_, 0, rfl, hm, ⟨F.out.len, fun h => absurd h (by omega)⟩, rfl⟩

def WI (n : Nat) : Value := .int .i64 (n : Int)
/-- The slice of n digits that begins at A was made by the call. -/
def OwnI (w : World) (base : Nat) (A : Option Addr) (n c : Nat) (l : List Nat) : Prop := l.length = n ∧ w.ownsRow base 3 1 (.slice A n c) n (l.map WI)
set_option maxRecDepth 100000 in
theorem OwnI.len {w : World} {base n c : Nat} {A : Option Addr} {l : List Nat} (h : OwnI w base A n c l) : l.length = n := h.1
set_option maxRecDepth 100000 in
theorem OwnI.nil (w : World) (base : Nat) : OwnI w base none 0 0 [] := ⟨rfl, World.ownsRow_nil _ _ _ _⟩
set_option maxRecDepth 100000 in
theorem OwnI.cap {w : World} {base n c : Nat} {A : Option Addr} {l : List Nat} (h : OwnI w base A n c l) : n ≤ c ∧ c ≤ maxLen := by
  obtain ⟨hl, h1, h | ⟨g', cap, cur, hv, hb, _, hc, hm, _⟩⟩ := h
  · obtain ⟨h, h0⟩ := h
    injection h with e1 e2 e3
    exact ⟨by omega, by unfold maxLen; omega⟩
  · injection hv with e1 e2 e3
    exact ⟨by omega, by omega⟩
set_option maxRecDepth 100000 in
theorem mapI_at (l : List Nat) (t : Nat) (h : t < l.length) : (l.map WI)[t]? = some (.int .i64 (l.getD t 0 : Int)) := by
  simp [WI, List.getElem?_eq_getElem h, List.getD]
set_option maxRecDepth 100000 in
theorem OwnI.rd {w : World} {base n c : Nat} {A : Option Addr} {l : List Nat} (h : OwnI w base A n c l) : RdI w A n l := by
  obtain ⟨hl, h⟩ := h
  refine ⟨hl, fun hn => ?_⟩
  obtain ⟨g, cap, hv, hb, hlt⟩ := World.ownsRow.form h hn
  have hA : A = some ⟨g, 0, none⟩ := by injection hv
  subst hA
  refine ⟨g, 0, rfl, hlt, fun k hk => ?_⟩
  rw [Nat.zero_add, World.ownsRow.cellAt h k (by omega), mapI_at l k (by omega)]
set_option maxRecDepth 100000 in
theorem appI_big {ops : Array Oper} {rest : List Oper} {o : Oper} {a : Act} {Q : Exit → Act → World → Prop} (w : World) (hgd : o.guard = none) (s x : Operand)
    (ho : o.op = .call { callee := .builtin .append, args := #[s, x], argTypes := #[66, 66] })
    (base : Nat) (A : Option Addr) (n c : Nat) (l : List Nat) (z : Int) (u : Nat) (hz : z = (u : Int)) (hs : a.eval s = .slice A n c) (hx : a.eval x = .slice (some ⟨w.heap.size, 0, none⟩) 1 1)
    (hown : OwnI w base A n c l) (hb : n + 1 ≤ 1000000) (hbase : base ≤ w.heap.size)
    (h : ∀ A' c' w', OwnI w' base A' (n + 1) c' (l ++ [u]) → Below base w w' → wpList Tryd.prog ops Q rest (a.put o.dst (.slice A' (n + 1) c')) w') :
    wpList Tryd.prog ops Q (o :: rest) a (w.alloc (.cells #[.int .i64 z] 3)) := by
  subst hz
  refine wpList_plain hgd fun _ hK => ?_
  refine wpo_appG _ s x 66 ho 3 (.int .i64 0) 8 Tryd.underlying66 infoI rfl base _ n (l.map WI) hs (own_alloc hown.2 _) _ 1 1 [WI u] hx rfl ?_ ?_ (by unfold maxLen; omega) (by omega) (by simp; omega) ?_
  · intro _
    refine ⟨_, rfl, fun j v hj => ?_⟩
    rw [Addr.add_mid, cell_of_row _ w.heap.size (0 + j) _ 3 (0, 0) (heap_alloc_new w _)]
    simpa [WI] using hj
  · intro v hv; simp at hv; subst hv; rfl
  · intro A' c' w' hown' hbel _ _
    exact hK _ _ (h A' c' w' ⟨by simp [hown.1], by rw [List.map_append]; exact hown'⟩ (((Below.refl _ _).alloc hbase _).trans hbel))
end Go.Proofs.YthpigninbeommaaDoor

/- The contract of the reference's Add of layer 4: the digits of a sum. -/
namespace Go.Proofs.YthpigninbeommaaDoor
open Go.RowKit
set_option linter.unusedVariables false

set_option maxRecDepth 100000 in
theorem getD_out (l : List Nat) (t : Nat) (h : l.length ≤ t) : l.getD t 0 = 0 := by
  rw [List.getD_eq_getElem?_getD, List.getElem?_eq_none h]; rfl
set_option maxRecDepth 100000 in
theorem Dg.getD {l : List Nat} (h : Dg l) (t : Nat) : l.getD t 0 < 65536 := by
  rw [List.getD_eq_getElem?_getD]
  cases hx : l[t]? with
  | none => simp
  | some x => exact h x (List.mem_of_getElem? hx)
set_option maxRecDepth 100000 in
theorem take_val (l : List Nat) (t : Nat) : valB (l.take (t + 1)) = valB (l.take t) + 65536 ^ t * l.getD t 0 := by
  by_cases h : t < l.length
  · rw [List.take_succ_eq_append_getElem h, valB_append, List.length_take, Nat.min_eq_left (by omega), List.getD_eq_getElem?_getD, List.getElem?_eq_getElem h]
    simp [valB]
  · rw [getD_out l t (by omega), List.take_of_length_le (by omega), List.take_of_length_le (by omega)]
    simp
set_option maxRecDepth 100000 in
theorem add_step (la lb o : List Nat) (t c x y d c2 : Nat) (hx : x = la.getD t 0) (hy : y = lb.getD t 0) (ho : o.length = t) (hn : d + 65536 * c2 = c + x + y) (h : valB o + 65536 ^ t * c = valB (la.take t) + valB (lb.take t)) :
    valB (o ++ [d]) + 65536 ^ (t + 1) * c2 = valB (la.take (t + 1)) + valB (lb.take (t + 1)) := by
  rw [take_val, take_val, ← hx, ← hy, valB_append, ho, Nat.pow_succ]
  simp only [valB, Nat.mul_zero, Nat.add_zero]
  have e : 65536 ^ t * d + 65536 ^ t * 65536 * c2 = 65536 ^ t * c + 65536 ^ t * x + 65536 ^ t * y := by
    rw [Nat.mul_assoc, ← Nat.mul_add, hn, Nat.mul_add, Nat.mul_add]
  omega

end Go.Proofs.YthpigninbeommaaDoor
