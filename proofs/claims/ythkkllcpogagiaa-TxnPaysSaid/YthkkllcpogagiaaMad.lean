/- Merged texts: BigM BigR BigA BigL. -/
import Derived.PlainAid
import Derived.Test.YthkkllcpogagiaaMab
import Derived.Test.YthkkllcpogagiaaMaa
import Derived.Test.YthkkllcpogagiaaMac
import Derived.Deep.QuietTactic
import Derived.BigQuiet
/- Plain mathematics of layer 4's reference: numbers as lists of digits to the base 65536, the lowest first, without noughts at the end. -/
namespace Go.Proofs.Ythkkllcpogagiaa

/-- The number of a list of digits. -/
def valB : List Nat → Nat
  | [] => 0
  | d :: r => d + 65536 * valB r
/-- The digits of a number. -/
def digs (n : Nat) : List Nat := if h : n = 0 then [] else n % 65536 :: digs (n / 65536)
termination_by n
decreasing_by omega
set_option maxRecDepth 100000 in
theorem digs_zero : digs 0 = [] := by unfold digs; simp
set_option maxRecDepth 100000 in
theorem digs_pos {n : Nat} (h : n ≠ 0) : digs n = n % 65536 :: digs (n / 65536) := by
  rw [digs]
  simp [h]
/-- Digits. -/
def Dg (l : List Nat) : Prop := ∀ d ∈ l, d < 65536
set_option maxRecDepth 100000 in
theorem digs_lt (n : Nat) : Dg (digs n) := by
  induction n using Nat.strongRecOn with
  | _ n ih =>
    by_cases h : n = 0
    · rw [h, digs_zero]; intro d hd; simp at hd
    · rw [digs_pos h]
      intro d hd
      rcases List.mem_cons.1 hd with rfl | hd
      · exact Nat.mod_lt _ (by omega)
      · exact ih (n / 65536) (by omega) d hd
set_option maxRecDepth 100000 in
theorem val_digs (n : Nat) : valB (digs n) = n := by
  induction n using Nat.strongRecOn with
  | _ n ih =>
    by_cases h : n = 0
    · rw [h, digs_zero]; rfl
    · rw [digs_pos h, valB, ih (n / 65536) (by omega)]
      omega
set_option maxRecDepth 100000 in
theorem valB_append (l r : List Nat) : valB (l ++ r) = valB l + 65536 ^ l.length * valB r := by
  induction l with
  | nil => simp [valB]
  | cons d l ih =>
    simp only [List.cons_append, valB, ih, List.length_cons, Nat.pow_succ, Nat.mul_add]
    rw [Nat.mul_comm (65536 ^ l.length) 65536, Nat.mul_assoc]
    omega
set_option maxRecDepth 100000 in
theorem valB_lt (l : List Nat) (h : Dg l) : valB l < 65536 ^ l.length := by
  induction l with
  | nil => simp [valB]
  | cons d r ih =>
    have h1 := h d (by simp)
    have h2 := ih (fun x hx => h x (by simp [hx]))
    simp only [valB, List.length_cons, Nat.pow_succ]
    omega
set_option maxRecDepth 100000 in
theorem valB_zeros (n : Nat) : valB (List.replicate n 0) = 0 := by
  induction n with
  | zero => rfl
  | succ n ih => simp [List.replicate_succ, valB, ih]
set_option maxRecDepth 100000 in
theorem valB_zero (l : List Nat) (h : ∀ d ∈ l, d = 0) : valB l = 0 := by
  induction l with
  | nil => rfl
  | cons d r ih => rw [valB, h d (by simp), ih (fun x hx => h x (by simp [hx]))]
set_option maxRecDepth 100000 in
/-- Digits without noughts at the end are those of their number. -/
theorem canon (l : List Nat) (h : Dg l) (hl : ∀ h : l ≠ [], l.getLast h ≠ 0) : l = digs (valB l) := by
  induction l with
  | nil => rw [valB, digs_zero]
  | cons d r ih =>
    have hd := h d (by simp)
    by_cases hr : r = []
    · subst hr
      have h0 : d ≠ 0 := hl (by simp)
      simp only [valB, Nat.mul_zero, Nat.add_zero]
      rw [digs_pos h0, Nat.mod_eq_of_lt hd, Nat.div_eq_of_lt hd, digs_zero]
    · have hr' := ih (fun x hx => h x (by simp [hx])) (fun h' => by have := hl (by simp); rw [List.getLast_cons hr] at this; exact this)
      have hv : valB r ≠ 0 := by
        intro h0
        rw [h0, digs_zero] at hr'
        exact hr hr'
      rw [valB, digs_pos (by omega), show (d + 65536 * valB r) % 65536 = d from by omega, show (d + 65536 * valB r) / 65536 = valB r from by omega, ← hr']
set_option maxRecDepth 100000 in
theorem digs_last (n : Nat) : ∀ h : digs n ≠ [], (digs n).getLast h ≠ 0 := by
  induction n using Nat.strongRecOn with
  | _ n ih =>
    intro h
    by_cases h0 : n = 0
    · subst h0; rw [digs_zero] at h; exact absurd rfl h
    · have e := digs_pos h0
      by_cases hq : n / 65536 = 0
      · have e2 : digs n = [n % 65536] := by rw [e, hq, digs_zero]
        simp only [e2, List.getLast_singleton]
        omega
      · have hne : digs (n / 65536) ≠ [] := by rw [digs_pos hq]; simp
        have := ih (n / 65536) (by omega) hne
        simp only [e, List.getLast_cons hne]
        exact this
set_option maxRecDepth 100000 in
theorem digs_len (n k : Nat) : (digs n).length ≤ k ↔ n < 65536 ^ k := by
  induction k generalizing n with
  | zero =>
    by_cases h : n = 0
    · subst h; simp [digs_zero]
    · rw [digs_pos h]; simp; omega
  | succ k ih =>
    by_cases h : n = 0
    · subst h; rw [digs_zero]; exact ⟨fun _ => Nat.pow_pos (by omega), fun _ => by simp⟩
    · rw [digs_pos h, List.length_cons, Nat.succ_le_succ_iff, ih, Nat.pow_succ]
      rw [Nat.div_lt_iff_lt_mul (by omega)]
set_option maxRecDepth 100000 in
/-- What is left of digits when the noughts at the end go. -/
theorem trimmed (l : List Nat) (m : Nat) (h : Dg l) (hm : m ≤ l.length) (hz : ∀ d ∈ l.drop m, d = 0) (hl : 0 < m → l.getD (m - 1) 0 ≠ 0) : l.take m = digs (valB l) := by
  have e : valB l = valB (l.take m) := by
    conv => lhs; rw [← List.take_append_drop m l]
    rw [valB_append, valB_zero _ hz]
    simp
  rw [e]
  refine canon _ (fun d hd => h d (List.mem_of_mem_take hd)) (fun hne => ?_)
  have hm0 : 0 < m := by
    rcases Nat.eq_zero_or_pos m with h0 | h0
    · subst h0; simp at hne
    · exact h0
  have := hl hm0
  rw [List.getLast_eq_getElem, List.getElem_take]
  simp only [List.length_take, Nat.min_eq_left hm]
  rw [List.getD_eq_getElem?_getD, List.getElem?_eq_getElem (by omega)] at this
  exact this
end Go.Proofs.Ythkkllcpogagiaa

/- Words for slices of digits; the contract of the reference's trim. -/
namespace Go.Proofs.Ythkkllcpogagiaa
open Go.RowKit
set_option linter.unusedVariables false

/-- The slice of n ints that begins at A holds the digits l. -/
def RdI (w : World) (A : Option Addr) (n : Nat) (l : List Nat) : Prop :=
  l.length = n ∧ (0 < n → ∃ b off, A = some ⟨b, off, none⟩ ∧ b < w.heap.size ∧ ∀ j, j < n → w.cell? ⟨b, off + j, none⟩ = some (.int .i64 (l.getD j 0 : Int)))
set_option maxRecDepth 100000 in
theorem RdI.len {w : World} {A : Option Addr} {n : Nat} {l : List Nat} (h : RdI w A n l) : l.length = n := h.1
set_option maxRecDepth 100000 in
theorem RdI.nil (w : World) (A : Option Addr) : RdI w A 0 [] := ⟨rfl, fun h => absurd h (by omega)⟩
set_option maxRecDepth 100000 in
theorem RdI.below {w w' : World} {A : Option Addr} {n : Nat} {l : List Nat} (h : RdI w A n l) (hb : Below w.heap.size w w') : RdI w' A n l :=
  ⟨h.1, fun hn => by
    obtain ⟨b, off, e, hlt, hc⟩ := h.2 hn
    exact ⟨b, off, e, Nat.lt_of_lt_of_le hlt hb.size, fun j hj => (hb.cell (p := ⟨b, off + j, none⟩) hlt).trans (hc j hj)⟩⟩
set_option maxRecDepth 100000 in
theorem RdI.at_ {w : World} {A : Option Addr} {n : Nat} {l : List Nat} (h : RdI w A n l) {k : Nat} (hk : k < n) :
    ∃ b off, A = some ⟨b, off, none⟩ ∧ w.cell? ⟨b, off + k, none⟩ = some (.int .i64 (l.getD k 0 : Int)) := by
  obtain ⟨b, off, e, _, hc⟩ := h.2 (by omega)
  exact ⟨b, off, e, hc k hk⟩
set_option maxRecDepth 100000 in
theorem RdI.take {w : World} {A : Option Addr} {n : Nat} {l : List Nat} (h : RdI w A n l) (c m : Nat) (hm : m ≤ n) (hnc : n ≤ c) : RdI w (sub A c 0) m (l.take m) := by
  refine ⟨by rw [List.length_take, h.1]; omega, fun h0 => ?_⟩
  obtain ⟨b, off, rfl, hlt, hc⟩ := h.2 (by omega)
  refine ⟨b, off, ?_, hlt, fun j hj => ?_⟩
  · unfold sub
    rw [if_neg (by omega), Option.map_some, Addr.add_mid, Nat.add_zero]
  · rw [hc j (by omega)]
    rw [List.getD_eq_getElem?_getD, List.getD_eq_getElem?_getD, List.getElem?_take, if_pos hj]
/-- What a call ends in that makes the digits of N. -/
def MkB (w : World) (N : Nat) (e : Ending) (w' : World) : Prop :=
  ∃ A n c, e = .returned (.slice A n c) ∧ RdI w' A n (digs N) ∧ n ≤ c ∧ c ≤ maxLen ∧ Below w.heap.size w w'
set_option maxRecDepth 100000 in
theorem sizeI : (Try.prog.info? 3).map (·.size) = some 1 := by kernel_rfl
set_option maxRecDepth 100000 in
theorem infoI : (Try.prog.info? 3).map (fun i => (i.zero, i.size, i.bytes)) = some (some (.int .i64 0), 1, 8) := by kernel_rfl

set_option maxRecDepth 100000 in
set_option maxHeartbeats 1000000 in
theorem trim_calls (A : Option Addr) (n c : Nat) (l : List Nat) (w : World) (hd : Dg l) (hr : RdI w A n l) (hnc : n ≤ c) (hcm : c ≤ maxLen) :
    Calls Try.prog 46 #[.slice A n c] w fun e w' => ∃ A' m, e = .returned (.slice A' m c) ∧ m ≤ n ∧ RdI w A' m (digs (valB l)) ∧ w' = w := by
  have HR := Lib.hid hr
  have HD := Lib.hid hd
  have HL := Lib.hid hr.len
  have hcb : (c : Int) ≤ 9223372036854775807 := by unfold maxLen at hcm; omega
  have hnb : (n : Int) ≤ 9223372036854775807 := by omega
  clear hr hd
  go_enter Try.func46, Try.ntmps46
  go_wp2
  go_loop [3] (fun v => ∃ m : Nat, m ≤ n ∧ v = .int .i64 (m : Int) ∧ Hid (∀ d ∈ l.drop m, d = 0)) (fun v => (intOf v).toNat)
  case atStart => exact ⟨n, Nat.le_refl _, rfl, fun d hd => by rw [List.drop_of_length_le (by rw [HL.out]; exact Nat.le_refl _)] at hd; simp at hd⟩
  case round =>
    obtain ⟨m, hm, rfl, HZ⟩ := hrel
    have fin : Hid ((0 < m → l.getD (m - 1) 0 ≠ 0) → RdI w (sub A c 0) m (digs (valB l))) := Lib.hid fun h => by
      rw [← trimmed l m HD.out (by rw [HL.out]; exact hm) HZ.out h]
      exact HR.out.take c m hm hnc
    have hsl := fun W => run_subH (P := Try.prog) 43 3 Try.underlying43 sizeI A n c m (m : Int) rfl (by omega) W
    by_cases h0 : 0 < m
    · obtain ⟨b, off, rfl, hc⟩ := HR.out.at_ (k := m - 1) (by omega)
      obtain ⟨x, hx⟩ : ∃ x, x = l.getD (m - 1) 0 := ⟨_, rfl⟩
      rw [← hx] at hc
      obtain ⟨q, hq⟩ : ∃ q, q = m - 1 := ⟨_, rfl⟩
      rw [← hq] at hc
      have v1 : IntKind.i64.wrap ((m : Int) - 1) = (q : Int) := by rw [IntKind.wrap_i64]; omega
      have v2 : (m : Int) - 1 = (q : Int) := by omega
      have bq : (q : Int) < (n : Int) := by omega
      have b0 : (0 : Int) < (m : Int) := by omega
      by_cases hx0 : x = 0
      · have HZ2 : Hid (∀ d ∈ l.drop q, d = 0) := Lib.hid fun d hd => by
          have hql : q < l.length := by rw [HL.out]; omega
          rw [List.drop_eq_getElem_cons hql] at hd
          rcases List.mem_cons.1 hd with h | h
          · rw [h]
            rw [hx0, ← hq, List.getD_eq_getElem?_getD, List.getElem?_eq_getElem hql] at hx
            exact hx.symm
          · exact HZ.out d (by rw [show m = q + 1 from by omega]; exact h)
        have hx0' : (x : Int) = 0 := by omega
        clear hx hq
        go_wp2
        go_round
        case rel => exact ⟨q, by omega, rfl, HZ2⟩
        case measure => simp [intOf]; omega
      · have F := Lib.hid (fin.out (fun _ => by rw [← hx]; exact hx0))
        have hx0' : ¬ (x : Int) = 0 := by omega
        clear hx hq
        go_wp2
        go_ret
        exact ⟨_, m, rfl, hm, F.out, rfl⟩
    · have e : m = 0 := by omega
      subst e
      have F := Lib.hid (fin.out (fun h => absurd h (by omega)))
      go_wp2
      go_ret
      exact ⟨_, 0, rfl, hm, ⟨F.out.len, fun h => absurd h (by omega)⟩, rfl⟩

def WI (n : Nat) : Value := .int .i64 (n : Int)
/-- The slice of n digits that begins at A was made by the call. -/
def OwnI (w : World) (base : Nat) (A : Option Addr) (n c : Nat) (l : List Nat) : Prop := l.length = n ∧ w.ownsRow base 3 1 (.slice A n c) n (l.map WI)
set_option maxRecDepth 100000 in
theorem OwnI.len {w : World} {base n c : Nat} {A : Option Addr} {l : List Nat} (h : OwnI w base A n c l) : l.length = n := h.1
set_option maxRecDepth 100000 in
theorem OwnI.nil (w : World) (base : Nat) : OwnI w base none 0 0 [] := ⟨rfl, World.ownsRow_nil _ _ _ _⟩
set_option maxRecDepth 100000 in
theorem OwnI.cap {w : World} {base n c : Nat} {A : Option Addr} {l : List Nat} (h : OwnI w base A n c l) : n ≤ c ∧ c ≤ maxLen := by
  obtain ⟨hl, h1, h | ⟨g', cap, cur, hv, hb, _, hc, hm, _⟩⟩ := h
  · obtain ⟨h, h0⟩ := h
    injection h with e1 e2 e3
    exact ⟨by omega, by unfold maxLen; omega⟩
  · injection hv with e1 e2 e3
    exact ⟨by omega, by omega⟩
set_option maxRecDepth 100000 in
theorem mapI_at (l : List Nat) (t : Nat) (h : t < l.length) : (l.map WI)[t]? = some (.int .i64 (l.getD t 0 : Int)) := by
  simp [WI, List.getElem?_eq_getElem h, List.getD]
set_option maxRecDepth 100000 in
theorem OwnI.rd {w : World} {base n c : Nat} {A : Option Addr} {l : List Nat} (h : OwnI w base A n c l) : RdI w A n l := by
  obtain ⟨hl, h⟩ := h
  refine ⟨hl, fun hn => ?_⟩
  obtain ⟨g, cap, hv, hb, hlt⟩ := World.ownsRow.form h hn
  have hA : A = some ⟨g, 0, none⟩ := by injection hv
  subst hA
  refine ⟨g, 0, rfl, hlt, fun k hk => ?_⟩
  rw [Nat.zero_add, World.ownsRow.cellAt h k (by omega), mapI_at l k (by omega)]
set_option maxRecDepth 100000 in
theorem appI_big {ops : Array Oper} {rest : List Oper} {o : Oper} {a : Act} {Q : Exit → Act → World → Prop} (w : World) (hgd : o.guard = none) (s x : Operand)
    (ho : o.op = .call { callee := .builtin .append, args := #[s, x], argTypes := #[43, 43] })
    (base : Nat) (A : Option Addr) (n c : Nat) (l : List Nat) (z : Int) (u : Nat) (hz : z = (u : Int)) (hs : a.eval s = .slice A n c) (hx : a.eval x = .slice (some ⟨w.heap.size, 0, none⟩) 1 1)
    (hown : OwnI w base A n c l) (hb : n + 1 ≤ 1000000) (hbase : base ≤ w.heap.size)
    (h : ∀ A' c' w', OwnI w' base A' (n + 1) c' (l ++ [u]) → Below base w w' → wpList Try.prog ops Q rest (a.put o.dst (.slice A' (n + 1) c')) w') :
    wpList Try.prog ops Q (o :: rest) a (w.alloc (.cells #[.int .i64 z] 3)) := by
  subst hz
  refine wpList_plain hgd fun _ hK => ?_
  refine wpo_appG _ s x 43 ho 3 (.int .i64 0) 8 Try.underlying43 infoI rfl base _ n (l.map WI) hs (own_alloc hown.2 _) _ 1 1 [WI u] hx rfl ?_ ?_ (by unfold maxLen; omega) (by omega) (by simp; omega) ?_
  · intro _
    refine ⟨_, rfl, fun j v hj => ?_⟩
    rw [Addr.add_mid, cell_of_row _ w.heap.size (0 + j) _ 3 (0, 0) (heap_alloc_new w _)]
    simpa [WI] using hj
  · intro v hv; simp at hv; subst hv; rfl
  · intro A' c' w' hown' hbel _ _
    exact hK _ _ (h A' c' w' ⟨by simp [hown.1], by rw [List.map_append]; exact hown'⟩ (((Below.refl _ _).alloc hbase _).trans hbel))
end Go.Proofs.Ythkkllcpogagiaa

/- The contract of the reference's Add of layer 4: the digits of a sum. -/
namespace Go.Proofs.Ythkkllcpogagiaa
open Go.RowKit
set_option linter.unusedVariables false

set_option maxRecDepth 100000 in
theorem getD_out (l : List Nat) (t : Nat) (h : l.length ≤ t) : l.getD t 0 = 0 := by
  rw [List.getD_eq_getElem?_getD, List.getElem?_eq_none h]; rfl
set_option maxRecDepth 100000 in
theorem Dg.getD {l : List Nat} (h : Dg l) (t : Nat) : l.getD t 0 < 65536 := by
  rw [List.getD_eq_getElem?_getD]
  cases hx : l[t]? with
  | none => simp
  | some x => exact h x (List.mem_of_getElem? hx)
set_option maxRecDepth 100000 in
theorem take_val (l : List Nat) (t : Nat) : valB (l.take (t + 1)) = valB (l.take t) + 65536 ^ t * l.getD t 0 := by
  by_cases h : t < l.length
  · rw [List.take_succ_eq_append_getElem h, valB_append, List.length_take, Nat.min_eq_left (by omega), List.getD_eq_getElem?_getD, List.getElem?_eq_getElem h]
    simp [valB]
  · rw [getD_out l t (by omega), List.take_of_length_le (by omega), List.take_of_length_le (by omega)]
    simp
set_option maxRecDepth 100000 in
theorem add_step (la lb o : List Nat) (t c x y d c2 : Nat) (hx : x = la.getD t 0) (hy : y = lb.getD t 0) (ho : o.length = t) (hn : d + 65536 * c2 = c + x + y) (h : valB o + 65536 ^ t * c = valB (la.take t) + valB (lb.take t)) :
    valB (o ++ [d]) + 65536 ^ (t + 1) * c2 = valB (la.take (t + 1)) + valB (lb.take (t + 1)) := by
  rw [take_val, take_val, ← hx, ← hy, valB_append, ho, Nat.pow_succ]
  simp only [valB, Nat.mul_zero, Nat.add_zero]
  have e : 65536 ^ t * d + 65536 ^ t * 65536 * c2 = 65536 ^ t * c + 65536 ^ t * x + 65536 ^ t * y := by
    rw [Nat.mul_assoc, ← Nat.mul_add, hn, Nat.mul_add, Nat.mul_add]
  omega

set_option maxRecDepth 100000 in
set_option maxHeartbeats 4000000 in
theorem badd_calls (A B : Option Addr) (na nb ca cb : Nat) (a b : Nat) (w : World) (hna : na ≤ 10000) (hnb : nb ≤ 10000) (hra : RdI w A na (digs a)) (hrb : RdI w B nb (digs b)) :
    Calls Try.prog 32 #[.slice A na ca, .slice B nb cb] w (MkB w (a + b)) := by
  obtain ⟨la, hla⟩ : ∃ la, la = digs a := ⟨_, rfl⟩
  obtain ⟨lb, hlb⟩ : ∃ lb, lb = digs b := ⟨_, rfl⟩
  rw [← hla] at hra
  rw [← hlb] at hrb
  have HDA : Hid (∀ t, la.getD t 0 < 65536) := Lib.hid fun t => by rw [hla]; exact (digs_lt a).getD t
  have HDB : Hid (∀ t, lb.getD t 0 < 65536) := Lib.hid fun t => by rw [hlb]; exact (digs_lt b).getD t
  have HVA : Hid (valB la = a) := Lib.hid (by rw [hla]; exact val_digs a)
  have HVB : Hid (valB lb = b) := Lib.hid (by rw [hlb]; exact val_digs b)
  have HA := Lib.hid hra
  have HB := Lib.hid hrb
  have HLA := Lib.hid hra.len
  have HLB := Lib.hid hrb.len
  obtain ⟨X, hXd⟩ : ∃ X, X = max na nb := ⟨_, rfl⟩
  have hXa : na ≤ X := by omega
  have hXb : nb ≤ X := by omega
  have hXX : X ≤ 10000 := by omega
  have HXD : Hid (X = na ∨ X = nb) := Lib.hid (show X = na ∨ X = nb by omega)
  clear hra hrb hla hlb hXd
  go_enter Try.func32, Try.ntmps32
  go_wp2
  go_loopw [5, 6, 7] (fun v cv i wr => ∃ (t c : Nat) (B : Option Addr) (e : Nat) (o : List Nat), t ≤ X + 1 ∧ c ≤ 1 ∧ (X < t → c = 0) ∧ v = .slice B t e ∧ cv = .int .i64 (c : Int) ∧ i = .int .i64 (t : Int) ∧ OwnI wr w.heap.size B t e o ∧ Hid (Dg o) ∧ valB o + 65536 ^ t * c = valB (la.take t) + valB (lb.take t) ∧ Below w.heap.size w wr) (fun _ _ i _ => X + 2 - (intOf i).toNat)
  case atStart => exact ⟨0, 0, none, 0, [], by omega, by omega, fun _ => rfl, rfl, rfl, rfl, OwnI.nil _ _, fun d hd => by simp at hd, rfl, Below.refl _ _⟩
  case round =>
    obtain ⟨t, c, B, e, o, ht, hc1, hX, rfl, rfl, rfl, hown, hdo, hval, hbel⟩ := hrel
    have hol := hown.len
    by_cases ia : t < na
    · by_cases ib : t < nb
      · have htX : t ≤ X := by omega
        have ka : (t : Int) < (na : Int) := by omega
        have kb : (t : Int) < (nb : Int) := by omega
        obtain ⟨ba, oa, rfl, ca⟩ := (HA.out.below hbel).at_ (k := t) (by omega)
        obtain ⟨bb, ob, rfl, cb⟩ := (HB.out.below hbel).at_ (k := t) (by omega)
        obtain ⟨x, hx⟩ : ∃ x, x = la.getD t 0 := ⟨_, rfl⟩
        obtain ⟨y, hy⟩ : ∃ y, y = lb.getD t 0 := ⟨_, rfl⟩
        rw [← hx] at ca
        have lx : x < 65536 := by rw [hx]; exact HDA.out t
        rw [← hy] at cb
        have ly : y < 65536 := by rw [hy]; exact HDB.out t
        obtain ⟨m, hm⟩ : ∃ m, m = c + x + y := ⟨_, rfl⟩
        obtain ⟨d, hdd⟩ : ∃ d, d = m % 65536 := ⟨_, rfl⟩
        obtain ⟨c2, hc2⟩ : ∃ c2, c2 = m / 65536 := ⟨_, rfl⟩
        obtain ⟨m1, hm1⟩ : ∃ m, m = c + x := ⟨_, rfl⟩
        have s1 : IntKind.i64.wrap ((c : Int) + (x : Int)) = (m1 : Int) := by rw [IntKind.wrap_i64]; omega
        have s1b : (c : Int) + (x : Int) = (m1 : Int) := by omega
        have s2 : IntKind.i64.wrap ((m1 : Int) + (y : Int)) = (m : Int) := by rw [IntKind.wrap_i64]; omega
        have s2b : (m1 : Int) + (y : Int) = (m : Int) := by omega
        have r1 : (m : Int).tmod 65536 = (d : Int) := by rw [Int.tmod_eq_emod_of_nonneg (by omega)]; omega
        have r2 : (m : Int).tdiv 65536 = (c2 : Int) := by rw [Int.tdiv_eq_ediv_of_nonneg (by omega)]; omega
        have r3 : (m : Int) % 65536 = (d : Int) := by omega
        have r4 : (m : Int) / 65536 = (c2 : Int) := by omega
        have hstep := add_step la lb o t c x y d c2 hx hy hol (by omega) hval
        have HS := Lib.hid hstep
        have HD2 : Hid (Dg (o ++ [d])) := Lib.hid fun e he => by rcases List.mem_append.1 he with h | h; (exact hdo.out e h); (simp at h; omega)
        have HO := Lib.hid hown
        have HBE := Lib.hid hbel
        have hc21 : c2 ≤ 1 := by omega
        have hcx : X < t + 1 → c2 = 0 := by intro h; have := hX; omega
        have HCX := Lib.hid hcx
        clear hown hbel hval hx hy hm hdd hc2 hstep hcx hm1
        go_wp2_with (at_builtin; refine appI_big _ rfl _ _ rfl w.heap.size B t e _ _ d rfl rfl rfl HO.out (by omega) HBE.out.size ?_; intro A5 c5 w5 hown5 hbel5)
        go_roundw
        case rel => exact ⟨t + 1, c2, A5, c5, o ++ [d], by omega, hc21, HCX.out, rfl, rfl, by go_num, hown5, HD2, HS.out, HBE.out.trans hbel5⟩
        case measure => simp [intOf]; omega
      · have htX : t ≤ X := by omega
        have ka : (t : Int) < (na : Int) := by omega
        have kb : ¬ (t : Int) < (nb : Int) := by omega
        obtain ⟨ba, oa, rfl, ca⟩ := (HA.out.below hbel).at_ (k := t) (by omega)
        obtain ⟨x, hx⟩ : ∃ x, x = la.getD t 0 := ⟨_, rfl⟩
        obtain ⟨y, hy⟩ : ∃ y, y = lb.getD t 0 := ⟨_, rfl⟩
        rw [← hx] at ca
        have lx : x < 65536 := by rw [hx]; exact HDA.out t
        have ly : y = 0 := by rw [hy]; exact getD_out lb t (by rw [HLB.out]; omega)
        obtain ⟨m, hm⟩ : ∃ m, m = c + x + y := ⟨_, rfl⟩
        obtain ⟨d, hdd⟩ : ∃ d, d = m % 65536 := ⟨_, rfl⟩
        obtain ⟨c2, hc2⟩ : ∃ c2, c2 = m / 65536 := ⟨_, rfl⟩
        have s1 : IntKind.i64.wrap ((c : Int) + (x : Int)) = (m : Int) := by rw [IntKind.wrap_i64]; omega
        have s1b : (c : Int) + (x : Int) = (m : Int) := by omega
        have r1 : (m : Int).tmod 65536 = (d : Int) := by rw [Int.tmod_eq_emod_of_nonneg (by omega)]; omega
        have r2 : (m : Int).tdiv 65536 = (c2 : Int) := by rw [Int.tdiv_eq_ediv_of_nonneg (by omega)]; omega
        have r3 : (m : Int) % 65536 = (d : Int) := by omega
        have r4 : (m : Int) / 65536 = (c2 : Int) := by omega
        have hstep := add_step la lb o t c x y d c2 hx hy hol (by omega) hval
        have HS := Lib.hid hstep
        have HD2 : Hid (Dg (o ++ [d])) := Lib.hid fun e he => by rcases List.mem_append.1 he with h | h; (exact hdo.out e h); (simp at h; omega)
        have HO := Lib.hid hown
        have HBE := Lib.hid hbel
        have hc21 : c2 ≤ 1 := by omega
        have hcx : X < t + 1 → c2 = 0 := by intro h; have := hX; omega
        have HCX := Lib.hid hcx
        clear hown hbel hval hx hy hm hdd hc2 hstep hcx
        go_wp2_with (at_builtin; refine appI_big _ rfl _ _ rfl w.heap.size B t e _ _ d rfl rfl rfl HO.out (by omega) HBE.out.size ?_; intro A5 c5 w5 hown5 hbel5)
        go_roundw
        case rel => exact ⟨t + 1, c2, A5, c5, o ++ [d], by omega, hc21, HCX.out, rfl, rfl, by go_num, hown5, HD2, HS.out, HBE.out.trans hbel5⟩
        case measure => simp [intOf]; omega
    · by_cases ib : t < nb
      · have htX : t ≤ X := by omega
        have ka : ¬ (t : Int) < (na : Int) := by omega
        have kb : (t : Int) < (nb : Int) := by omega
        obtain ⟨bb, ob, rfl, cb⟩ := (HB.out.below hbel).at_ (k := t) (by omega)
        obtain ⟨x, hx⟩ : ∃ x, x = la.getD t 0 := ⟨_, rfl⟩
        obtain ⟨y, hy⟩ : ∃ y, y = lb.getD t 0 := ⟨_, rfl⟩
        have lx : x = 0 := by rw [hx]; exact getD_out la t (by rw [HLA.out]; omega)
        rw [← hy] at cb
        have ly : y < 65536 := by rw [hy]; exact HDB.out t
        obtain ⟨m, hm⟩ : ∃ m, m = c + x + y := ⟨_, rfl⟩
        obtain ⟨d, hdd⟩ : ∃ d, d = m % 65536 := ⟨_, rfl⟩
        obtain ⟨c2, hc2⟩ : ∃ c2, c2 = m / 65536 := ⟨_, rfl⟩
        have s1 : IntKind.i64.wrap ((c : Int) + (y : Int)) = (m : Int) := by rw [IntKind.wrap_i64]; omega
        have s1b : (c : Int) + (y : Int) = (m : Int) := by omega
        have r1 : (m : Int).tmod 65536 = (d : Int) := by rw [Int.tmod_eq_emod_of_nonneg (by omega)]; omega
        have r2 : (m : Int).tdiv 65536 = (c2 : Int) := by rw [Int.tdiv_eq_ediv_of_nonneg (by omega)]; omega
        have r3 : (m : Int) % 65536 = (d : Int) := by omega
        have r4 : (m : Int) / 65536 = (c2 : Int) := by omega
        have hstep := add_step la lb o t c x y d c2 hx hy hol (by omega) hval
        have HS := Lib.hid hstep
        have HD2 : Hid (Dg (o ++ [d])) := Lib.hid fun e he => by rcases List.mem_append.1 he with h | h; (exact hdo.out e h); (simp at h; omega)
        have HO := Lib.hid hown
        have HBE := Lib.hid hbel
        have hc21 : c2 ≤ 1 := by omega
        have hcx : X < t + 1 → c2 = 0 := by intro h; have := hX; omega
        have HCX := Lib.hid hcx
        clear hown hbel hval hx hy hm hdd hc2 hstep hcx
        go_wp2_with (at_builtin; refine appI_big _ rfl _ _ rfl w.heap.size B t e _ _ d rfl rfl rfl HO.out (by omega) HBE.out.size ?_; intro A5 c5 w5 hown5 hbel5)
        go_roundw
        case rel => exact ⟨t + 1, c2, A5, c5, o ++ [d], by omega, hc21, HCX.out, rfl, rfl, by go_num, hown5, HD2, HS.out, HBE.out.trans hbel5⟩
        case measure => simp [intOf]; omega
      · by_cases hc0 : 0 < c
        · have hc0' : (0 : Int) < (c : Int) := by omega
          have htX : t ≤ X := by
            rcases Nat.lt_or_ge X t with h | h
            · have := hX h; omega
            · exact h
          have ka : ¬ (t : Int) < (na : Int) := by omega
          have kb : ¬ (t : Int) < (nb : Int) := by omega
          obtain ⟨x, hx⟩ : ∃ x, x = la.getD t 0 := ⟨_, rfl⟩
          obtain ⟨y, hy⟩ : ∃ y, y = lb.getD t 0 := ⟨_, rfl⟩
          have lx : x = 0 := by rw [hx]; exact getD_out la t (by rw [HLA.out]; omega)
          have ly : y = 0 := by rw [hy]; exact getD_out lb t (by rw [HLB.out]; omega)
          obtain ⟨m, hm⟩ : ∃ m, m = c + x + y := ⟨_, rfl⟩
          obtain ⟨d, hdd⟩ : ∃ d, d = m % 65536 := ⟨_, rfl⟩
          obtain ⟨c2, hc2⟩ : ∃ c2, c2 = m / 65536 := ⟨_, rfl⟩
          have r1 : (c : Int).tmod 65536 = (d : Int) := by rw [Int.tmod_eq_emod_of_nonneg (by omega)]; omega
          have r2 : (c : Int).tdiv 65536 = (c2 : Int) := by rw [Int.tdiv_eq_ediv_of_nonneg (by omega)]; omega
          have r3 : (c : Int) % 65536 = (d : Int) := by omega
          have r4 : (c : Int) / 65536 = (c2 : Int) := by omega
          have hstep := add_step la lb o t c x y d c2 hx hy hol (by omega) hval
          have HS := Lib.hid hstep
          have HD2 : Hid (Dg (o ++ [d])) := Lib.hid fun e he => by rcases List.mem_append.1 he with h | h; (exact hdo.out e h); (simp at h; omega)
          have HO := Lib.hid hown
          have HBE := Lib.hid hbel
          have hc21 : c2 ≤ 1 := by omega
          have hcx : X < t + 1 → c2 = 0 := by intro h; have := hX; omega
          have HCX := Lib.hid hcx
          clear hown hbel hval hx hy hm hdd hc2 hstep hcx
          go_wp2_with (at_builtin; refine appI_big _ rfl _ _ rfl w.heap.size B t e _ _ d rfl rfl rfl HO.out (by omega) HBE.out.size ?_; intro A5 c5 w5 hown5 hbel5)
          go_roundw
          case rel => exact ⟨t + 1, c2, A5, c5, o ++ [d], by omega, hc21, HCX.out, rfl, rfl, by go_num, hown5, HD2, HS.out, HBE.out.trans hbel5⟩
          case measure => simp [intOf]; omega
        · have hc00 : c = 0 := by omega
          subst hc00
          have hfin : valB o = a + b := by
            rw [List.take_of_length_le (by rw [HLA.out]; omega), List.take_of_length_le (by rw [HLB.out]; omega), HVA.out, HVB.out] at hval
            omega
          have hcap := hown.cap
          have CT := Lib.hid (trim_calls B t e o wr hdo.out hown.rd hcap.1 hcap.2)
          have HBE := Lib.hid hbel
          have HF := Lib.hid hfin
          have ka : ¬ (t : Int) < (na : Int) := by omega
          have kb : ¬ (t : Int) < (nb : Int) := by omega
          clear hown hbel hval hfin
          go_wp2_with (go_at_call 46; refine CT.out.mono ?_; rintro e' w' ⟨A9, m9, rfl, hm9, hr9, rfl⟩)
          go_ret
          rw [HF.out] at hr9
          exact ⟨_, _, _, rfl, hr9, Nat.le_trans hm9 hcap.1, hcap.2, HBE.out⟩
end Go.Proofs.Ythkkllcpogagiaa

/- The contract of the reference's Less of layer 4. -/
namespace Go.Proofs.Ythkkllcpogagiaa
open Go.RowKit
set_option linter.unusedVariables false

set_option maxRecDepth 100000 in
theorem less_len (a b : Nat) (h : (digs a).length < (digs b).length) : a < b := by
  have h1 := (digs_len a (digs a).length).1 (Nat.le_refl _)
  rcases Nat.lt_or_ge a b with h2 | h2
  · exact h2
  · have h3 := (digs_len b (digs a).length).2 (Nat.lt_of_le_of_lt h2 h1)
    omega
set_option maxRecDepth 100000 in
theorem val_split (l : List Nat) (i : Nat) (hi : i < l.length) : valB l = valB (l.take i) + 65536 ^ i * (l.getD i 0 + 65536 * valB (l.drop (i + 1))) := by
  conv => lhs; rw [← List.take_append_drop i l]
  rw [valB_append, List.length_take, Nat.min_eq_left (by omega), List.drop_eq_getElem_cons hi, List.getD_eq_getElem?_getD, List.getElem?_eq_getElem hi]
  rfl
set_option maxRecDepth 100000 in
theorem less_at (la lb : List Nat) (i : Nat) (ha : Dg la) (hia : i < la.length) (hib : i < lb.length) (hd : la.drop (i + 1) = lb.drop (i + 1)) (hl : la.getD i 0 < lb.getD i 0) : valB la < valB lb := by
  rw [val_split la i hia, val_split lb i hib, hd]
  have h1 : valB (la.take i) < 65536 ^ i := by
    have := valB_lt (la.take i) (fun d hd => ha d (List.mem_of_mem_take hd))
    rw [List.length_take, Nat.min_eq_left (by omega)] at this
    exact this
  have h2 : 65536 ^ i * (la.getD i 0 + 65536 * valB (lb.drop (i + 1))) + 65536 ^ i ≤ 65536 ^ i * (lb.getD i 0 + 65536 * valB (lb.drop (i + 1))) := by
    have e : 65536 ^ i * (la.getD i 0 + 65536 * valB (lb.drop (i + 1))) + 65536 ^ i = 65536 ^ i * (la.getD i 0 + 65536 * valB (lb.drop (i + 1)) + 1) := by rw [Nat.mul_add (65536 ^ i) _ 1, Nat.mul_one]
    rw [e]
    exact Nat.mul_le_mul_left _ (by omega)
  omega

end Go.Proofs.Ythkkllcpogagiaa
