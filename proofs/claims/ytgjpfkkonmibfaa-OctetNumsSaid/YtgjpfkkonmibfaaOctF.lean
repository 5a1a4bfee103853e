/- Contracts of the document's own Digits (the bytes of a number as ints) and Turned (bytes the other way round). -/
import Derived.Test.YtgjpfkkonmibfaaOctE
import Derived.Test.YtgjpfkkonmibfaaApp
namespace Go.Proofs.Ytgjpfkkonmibfaa
open Go.RowKit

/-- The first m bytes of n as ints. -/
def digs (n m : Nat) : List Int := (List.range m).map fun i => ((n / 256 ^ i % 256 : Nat) : Int)
theorem digs_succ (n m : Nat) : digs n (m + 1) = digs n m ++ [((n / 256 ^ m % 256 : Nat) : Int)] := by simp [digs, List.range_succ]

def MkI (w : World) (l : List Int) (e : Ending) (w' : World) : Prop :=
  ∃ A n c, e = .returned (.slice A n c) ∧ OwnI w' w.heap.size A n c l ∧ Below w.heap.size w w'

theorem OwnI.nil (w : World) (base : Nat) : OwnI w base none 0 0 [] := ⟨rfl, World.ownsRow_nil _ _ _ _⟩
theorem Own.nil (w : World) (base : Nat) : Own w base none 0 0 [] := ⟨rfl, World.ownsRow_nil _ _ _ _⟩

set_option maxHeartbeats 400000 in
theorem digits_calls (n m : Nat) (hn : n < 18446744073709551616) (hm : m ≤ 1000000) (w : World) :
    Calls Try.prog 10 #[.int .u64 (n : Int), .int .i64 (m : Int)] w (MkI w (digs n m)) := by
  have HN := Lib.hid hn
  clear hn
  go_enter Try.func10, Try.ntmps10
  go_wp2
  go_loopw [0, 5, 6] (fun v o i wr => ∃ (t q : Nat) (A : Option Addr) (c : Nat), t ≤ m ∧ i = .int .i64 t ∧ v = .int .u64 q ∧ Hid (q = n / 256 ^ t) ∧ o = .slice A t c ∧ OwnI wr w.heap.size A t c (digs n t) ∧ Below w.heap.size w wr) (fun _ _ i _ => m - (intOf i).toNat)
  case atStart => exact ⟨0, n, none, 0, Nat.zero_le _, rfl, rfl, by show n = n / 256 ^ 0; simp, rfl, OwnI.nil _ _, Below.refl _ _⟩
  case round =>
    obtain ⟨t, q, A, c, ht, rfl, rfl, HQ, rfl, hown, hbel⟩ := hrel
    by_cases hlt : t < m
    · go_wp2_with (at_builtin; refine appI_one _ rfl _ _ rfl w.heap.size A t c _ _ rfl rfl hown (by omega) hbel.size ?_; intro A' c' w' hown' hbel')
      go_roundw
      case rel =>
        refine ⟨t + 1, q / 256, A', c', by omega, by go_num, by rw [show ((q : Int) / 256) = ((q / 256 : Nat) : Int) from by omega, wrap64_nat _ (by have h1 := HN.out; have h2 : q ≤ n := (by rw [HQ.out]; exact Nat.div_le_self _ _); omega)], ?_, rfl, ?_, hbel.trans hbel'⟩
        · show q / 256 = n / 256 ^ (t + 1)
          rw [HQ.out, Nat.div_div_eq_div_mul, Nat.pow_succ]
        · rw [digs_succ, ← HQ.out]
          exact hown'
      case measure => simp [intOf]; omega
    · have e : t = m := by omega
      subst e
      go_wp2
      go_ret
      exact ⟨_, _, _, rfl, hown, hbel⟩

set_option maxHeartbeats 400000 in
theorem turned_calls (A : Option Addr) (n c : Nat) (l : List UInt8) (w : World) (hn : n ≤ 1000000) (hr : Rd w A n l) :
    Calls Try.prog 18 #[.slice A n c] w (Mk w l.reverse) := by
  have HL := Lib.hid hr.len
  have HR := Lib.hid hr
  clear hr
  go_enter Try.func18, Try.ntmps18
  go_wp2
  go_loopw [3, 4] (fun o i wr => ∃ (t : Nat) (B : Option Addr) (d : Nat), t ≤ n ∧ i = .int .i64 (t - 1) ∧ o = .slice B (n - t) d ∧ Own wr w.heap.size B (n - t) d (l.drop t).reverse ∧ Below w.heap.size w wr) (fun _ i _ => (intOf i + 1).toNat)
  case atStart =>
    refine ⟨n, none, 0, Nat.le_refl _, rfl, by rw [Nat.sub_self], ?_, Below.refl _ _⟩
    rw [List.drop_of_length_le (by rw [HL.out]; omega), Nat.sub_self]
    exact Own.nil _ _
  case round =>
    obtain ⟨t, B, d, ht, rfl, rfl, hown, hbel⟩ := hrel
    by_cases hlt : 0 < t
    · obtain ⟨b, off, hl, rfl, _, hcell⟩ := (HR.out.below hbel).at_ (k := t - 1) (by omega)
      go_wp2_with (at_builtin; refine app8_one _ rfl _ _ rfl w.heap.size B (n - t) d _ _ l[t - 1] rfl rfl rfl hown (by omega) hbel.size ?_; intro A' c' w' hown' hbel')
      go_roundw
      case rel =>
        have e1 : n - (t - 1) = n - t + 1 := by omega
        have e2 : (l.drop (t - 1)).reverse = (l.drop t).reverse ++ [l[t - 1]] := by
          rw [List.drop_eq_getElem_cons hl, List.reverse_cons, show t - 1 + 1 = t from by omega]
        refine ⟨t - 1, A', c', by omega, by go_num, by rw [e1], ?_, hbel.trans hbel'⟩
        rw [e1, e2]
        exact hown'
      case measure => simp [intOf]; omega
    · have e : t = 0 := by omega
      subst e
      go_wp2
      go_ret
      exact ⟨_, _, _, rfl, hown, hbel⟩
end Go.Proofs.Ytgjpfkkonmibfaa
