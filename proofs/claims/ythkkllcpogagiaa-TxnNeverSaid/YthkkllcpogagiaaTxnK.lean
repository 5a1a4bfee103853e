/- What package txn is to answer; layer 14's own awake. -/
import Derived.Test.YthkkllcpogagiaaTxnD
namespace Go.Proofs.Ythkkllcpogagiaa
open Go.RowKit
set_option linter.unusedVariables false
set_option linter.unusedSimpArgs false

structure TxnOk : Prop where
  bytes : ∀ (W : World) (s : Nat) (A : Option Addr) (n c : Nat) (O : List (Nat × List UInt8)), s < 18446744073709551616 → RdT W A n O → n ≤ c → c ≤ maxLen → n ≤ 20 → (∀ o ∈ O, o.2.length ≤ 200) →
    Calls Try.prog 11 #[.agg #[.int .u64 (s : Int), .slice A n c]] W fun e w' => ∃ A' n' c', e = .returned (.tuple #[.slice A' n' c', .int .i64 (tbE s O : Int)]) ∧ Rd w' A' n' (tbB s O) ∧ n' ≤ c' ∧ c' ≤ maxLen ∧ Below W.heap.size W w'
  parse : ∀ (W : World) (A : Option Addr) (n c : Nat) (b : List UInt8), Rd W A n b → n ≤ c → c ≤ maxLen → n ≤ 1000 →
    Calls Try.prog 7 #[.slice A n c] W fun e w' => ∃ A' n' c', e = .returned (.tuple #[.agg #[.int .u64 (tpS b : Int), .slice A' n' c'], .int .i64 (tpE b : Int)]) ∧ RdT w' A' n' (tpO b) ∧ n' ≤ c' ∧ c' ≤ maxLen ∧ Below W.heap.size W w'
structure TxnPay : Prop where
  pays : ∀ (W : World) (s : Nat) (A : Option Addr) (n c : Nat) (O : List (Nat × List UInt8)) (X : Option Addr) (m d : Nat) (t : List UInt8), s < 18446744073709551616 → RdT W A n O → n ≤ c → c ≤ maxLen → n ≤ 20 → (∀ o ∈ O, o.2.length ≤ 200) → Rd W X m t → m ≤ d → d ≤ maxLen → m ≤ 200 →
    Calls Try.prog 15 #[.agg #[.int .u64 (s : Int), .slice A n c], .slice X m d] W (Ret W (.bool (pays t O)))
  sum : ∀ (W : World) (s : Nat) (A : Option Addr) (n c : Nat) (O : List (Nat × List UInt8)) (X : Option Addr) (m d : Nat) (t : List UInt8), s < 18446744073709551616 → RdT W A n O → n ≤ c → c ≤ maxLen → n ≤ 20 → (∀ o ∈ O, o.2.length ≤ 200) → Rd W X m t → m ≤ d → d ≤ maxLen → m ≤ 200 →
    Calls Try.prog 14 #[.agg #[.int .u64 (s : Int), .slice A n c], .slice X m d] W (Ret W (.tuple #[.int .u64 ((if paid t O < 18446744073709551616 then paid t O else 0 : Nat) : Int), .bool (decide (paid t O < 18446744073709551616))]))
set_option maxRecDepth 100000 in
theorem tb_five : tbE 5 [] = 0 ∧ tbB 5 [] = [1, 5, 0, 0, 0, 0, 0, 0, 0, 0] := by decide
set_option maxRecDepth 100000 in
set_option maxHeartbeats 2000000 in
theorem awake14_calls (K : TxnOk) (w : World) : Calls Try.prog 6 #[] w (Ret w (.bool true)) := by
  have C1 : Hid (∀ W : World, Calls Try.prog 11 #[.agg #[.int .u64 5, .slice none 0 0]] W fun e w' => ∃ A' c', e = .returned (.tuple #[.slice A' 10 c', .int .i64 0]) ∧ (convert 22 9 (.slice A' 10 c')).run Try.prog w' = .ok (.string ⟨#[1, 5, 0, 0, 0, 0, 0, 0, 0, 0]⟩) w' ∧ c' ≤ 9223372036854775807 ∧ 10 ≤ c' ∧ Below W.heap.size W w') := Lib.hid fun W => by
    have h := K.bytes W 5 none 0 0 [] (by omega) (RdT.nil _ _) (by omega) (by unfold maxLen; omega) (by omega) (fun o ho => by simp at ho)
    rw [tb_five.1, tb_five.2] at h
    refine h.mono ?_
    rintro e w' ⟨A', n', c', rfl, h1, h2, h3, h4⟩
    have hn := h1.len
    simp at hn
    subst hn
    exact ⟨A', c', rfl, conv8 w' A' 10 c' _ h1, by unfold maxLen at h3; omega, h2, h4⟩
  clear K
  go_enter Try.func6, Try.ntmps6
  go_wp2_with (go_at_call 11; refine (C1.out _).mono ?_; rintro e' w1 ⟨A1, c1, rfl, hcv, hc1, hc2, hB1⟩)
  go_ret
  exact ⟨rfl, hB1⟩
set_option maxRecDepth 100000 in
theorem tb_len (s : Nat) (O : List (Nat × List UInt8)) (h : tbE s O = 0) : (tbB s O).length ≠ 64 := by
  unfold tbB
  rw [if_pos h]
  exact (tbE_ok h).2.2
set_option maxRecDepth 100000 in
theorem tp_small (b : List UInt8) : (tpO b).length ≤ 8 ∧ ∀ o ∈ tpO b, o.2.length ≤ 64 := by
  by_cases h : tpE b = 0
  · obtain ⟨h1, h2, h3, h4⟩ := tp_back h
    exact ⟨(tbE_ok h2).1, fun o ho => (h4 o ho).2⟩
  · unfold tpO
    rw [if_neg h]
    exact ⟨Nat.zero_le _, fun o ho => by simp at ho⟩
set_option maxRecDepth 100000 in
theorem tpS_lt (b : List UInt8) : tpS b < 18446744073709551616 := by
  by_cases h : tpE b = 0
  · exact (tp_back h).2.2.1
  · unfold tpS
    rw [if_neg h]
    omega
end Go.Proofs.Ythkkllcpogagiaa
