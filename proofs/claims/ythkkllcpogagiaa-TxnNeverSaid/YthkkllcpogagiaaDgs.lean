/- Slices of ints that a call made; contracts of the document's own Held (a width within 0 and 8) and Digits (the bytes of a number as ints). -/
import Derived.Test.YthkkllcpogagiaaClamp
import Derived.Test.YthkkllcpogagiaaNumP
import Derived.Test.YthkkllcpogagiaaAppC
namespace Go.Proofs.Ythkkllcpogagiaa
open Go.RowKit

set_option maxRecDepth 100000 in
theorem infoInt : (Try.prog.info? 3).map (fun i => (i.zero, i.size, i.bytes)) = some (some (.int .i64 0), 1, 8) := by kernel_rfl

set_option maxRecDepth 100000 in
theorem held_any (k : Int) (w : World) : Calls Try.prog 40 #[.int .i64 k] w fun e w' => e = .returned (.int .i64 (cw k)) ∧ w = w' := by
  unfold cw
  by_cases h : k < 0
  · go_enter Try.func40, Try.ntmps40
    go_wp2
    go_ret
    exact ⟨rfl, rfl⟩
  · by_cases h8 : 8 < k
    · go_enter Try.func40, Try.ntmps40
      go_wp2
      go_ret
      exact ⟨rfl, rfl⟩
    · go_enter Try.func40, Try.ntmps40
      go_wp2
      go_ret
      exact ⟨rfl, rfl⟩

set_option maxRecDepth 100000 in
theorem held_nat (k : Int) (m : Nat) (h : cw k = m) (w : World) : Calls Try.prog 40 #[.int .i64 k] w fun e w' => e = .returned (.int .i64 (m : Int)) ∧ w = w' := by
  rw [← h]; exact held_any k w
/-- The slice of ints that the call made. -/
def OwnJ (w : World) (base : Nat) (A : Option Addr) (n c : Nat) (l : List Int) : Prop := l.length = n ∧ w.ownsRow base 3 1 (.slice A n c) n (l.map (Value.int .i64))

set_option maxRecDepth 100000 in
theorem OwnJ.at_ {w : World} {base n c : Nat} {A : Option Addr} {l : List Int} (h : OwnJ w base A n c l) {k : Nat} (hk : k < n) :
    ∃ g, ∃ hl : k < l.length, A = some ⟨g, 0, none⟩ ∧ g < w.heap.size ∧ w.cell? ⟨g, k, none⟩ = some (.int .i64 l[k]) := by
  obtain ⟨hl, h⟩ := h
  obtain ⟨g, cap, hv, _, hlt⟩ := World.ownsRow.form h (by omega)
  have hA : A = some ⟨g, 0, none⟩ := by injection hv
  subst hA
  have := World.ownsRow.cellAt h k (by omega)
  refine ⟨g, by omega, rfl, hlt, ?_⟩
  rw [this]
  simp [List.getElem?_eq_getElem (show k < l.length by omega)]
set_option maxRecDepth 100000 in
theorem OwnJ.below {w w' : World} {base n c : Nat} {A : Option Addr} {l : List Int} (h : OwnJ w base A n c l) (hb : Below w.heap.size w w') : OwnJ w' base A n c l := by
  refine ⟨h.1, h.2.1, ?_⟩
  rcases h.2.2 with h' | ⟨g, cap, cur, e, hbg, hh, hr⟩
  · exact .inl h'
  · refine .inr ⟨g, cap, cur, e, hbg, ?_, hr⟩
    have hlt : g < w.heap.size := by
      rcases Nat.lt_or_ge g w.heap.size with h1 | h1
      · exact h1
      · rw [Array.getElem?_eq_none h1] at hh; cases hh
    rw [hb.block g hlt]; exact hh

set_option maxRecDepth 100000 in
theorem appI_one {ops : Array Oper} {rest : List Oper} {o : Oper} {a : Act} {Q : Exit → Act → World → Prop} (w : World) (hgd : o.guard = none) (s x : Operand)
    (ho : o.op = .call { callee := .builtin .append, args := #[s, x], argTypes := #[42, 42] })
    (base : Nat) (A : Option Addr) (n c : Nat) (l : List Int) (z : Int) (hs : a.eval s = .slice A n c) (hx : a.eval x = .slice (some ⟨w.heap.size, 0, none⟩) 1 1)
    (hown : OwnJ w base A n c l) (hb : (n + 1) * 8 ≤ 140737488355328) (hbase : base ≤ w.heap.size)
    (h : ∀ A' c' w', OwnJ w' base A' (n + 1) c' (l ++ [z]) → Below base w w' → wpList Try.prog ops Q rest (a.put o.dst (.slice A' (n + 1) c')) w') :
    wpList Try.prog ops Q (o :: rest) a (w.alloc (.cells #[.int .i64 z] 3)) := by
  refine wpList_plain hgd fun _ hK => wpo_appG _ s x 42 ho 3 (.int .i64 0) 8 Try.underlying42 infoInt rfl base _ n (l.map (Value.int .i64)) hs (own_alloc hown.2 _) _ 1 1 [.int .i64 z] hx rfl ?_ ?_ (by unfold maxLen; omega) (by omega) (by simp; omega) ?_
  · intro _
    refine ⟨_, rfl, fun j v hj => ?_⟩
    cases j with
    | zero => simp at hj; subst hj; exact cell_one_alloc w _ _
    | succ j => simp at hj
  · intro v hv; simp at hv; subst hv; rfl
  · intro A' c' w' hown' hbel _ _
    exact hK _ _ (h A' c' w' ⟨by simp [hown.1], by rw [List.map_append]; exact hown'⟩ (((Below.refl _ _).alloc hbase _).trans hbel))
/-- The first m bytes of n as ints. -/
def dgs (n m : Nat) : List Int := (List.range m).map fun i => ((n / 256 ^ i % 256 : Nat) : Int)
set_option maxRecDepth 100000 in
theorem dgs_succ (n m : Nat) : dgs n (m + 1) = dgs n m ++ [((n / 256 ^ m % 256 : Nat) : Int)] := by simp [dgs, List.range_succ]

def MkI (w : World) (l : List Int) (e : Ending) (w' : World) : Prop :=
  ∃ A n c, e = .returned (.slice A n c) ∧ OwnJ w' w.heap.size A n c l ∧ Below w.heap.size w w'

set_option maxRecDepth 100000 in
theorem OwnJ.nil (w : World) (base : Nat) : OwnJ w base none 0 0 [] := ⟨rfl, World.ownsRow_nil _ _ _ _⟩

set_option maxRecDepth 100000 in
set_option maxHeartbeats 400000 in
theorem digits_calls (n m : Nat) (hn : n < 18446744073709551616) (hm : m ≤ 1000000) (w : World) :
    Calls Try.prog 50 #[.int .u64 (n : Int), .int .i64 (m : Int)] w (MkI w (dgs n m)) := by
  have HN := Lib.hid hn
  clear hn
  go_enter Try.func50, Try.ntmps50
  go_wp2
  go_loopw [0, 5, 6] (fun v o i wr => ∃ (t q : Nat) (A : Option Addr) (c : Nat), t ≤ m ∧ i = .int .i64 t ∧ v = .int .u64 q ∧ Hid (q = n / 256 ^ t) ∧ o = .slice A t c ∧ OwnJ wr w.heap.size A t c (dgs n t) ∧ Below w.heap.size w wr) (fun _ _ i _ => m - (intOf i).toNat)
  case atStart => exact ⟨0, n, none, 0, Nat.zero_le _, rfl, rfl, by show n = n / 256 ^ 0; simp, rfl, OwnJ.nil _ _, Below.refl _ _⟩
  case round =>
    obtain ⟨t, q, A, c, ht, rfl, rfl, HQ, rfl, hown, hbel⟩ := hrel
    by_cases hlt : t < m
    · go_wp2_with (at_builtin; refine appI_one _ rfl _ _ rfl w.heap.size A t c _ _ rfl rfl hown (by omega) hbel.size ?_; intro A' c' w' hown' hbel')
      go_roundw
      case rel =>
        refine ⟨t + 1, q / 256, A', c', by omega, by go_num, by rw [show ((q : Int) / 256) = ((q / 256 : Nat) : Int) from by omega, wrap64_nat _ (by have h1 := HN.out; have h2 : q ≤ n := (by rw [HQ.out]; exact Nat.div_le_self _ _); omega)], ?_, rfl, ?_, hbel.trans hbel'⟩
        · show q / 256 = n / 256 ^ (t + 1)
          rw [HQ.out, Nat.div_div_eq_div_mul, Nat.pow_succ]
        · rw [dgs_succ, ← HQ.out]
          exact hown'
      case measure => simp [intOf]; omega
    · have e : t = m := by omega
      subst e
      go_wp2
      go_ret
      exact ⟨_, _, _, rfl, hown, hbel⟩
end Go.Proofs.Ythkkllcpogagiaa
