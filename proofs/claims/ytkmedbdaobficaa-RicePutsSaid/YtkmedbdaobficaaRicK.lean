/- What package rice is to answer, whatever bit's writers and readers are made of. -/
import Derived.Test.YtkmedbdaobficaaBitK
import Derived.Test.YtkmedbdaobficaaRicB
namespace Go.Proofs.Ytkmedbdaobficaa
open Go.RowKit
set_option linter.unusedVariables false

structure RiceOk (BW : World → Nat → (Nat → Prop) → List Bool → Prop) (BR : World → Nat → Nat → (Nat → Prop) → List Bool → Prop) : Prop where
  size : ∀ (W : World) (p : Int) (n : Nat), n < 18446744073709551616 → -9223372036854775808 ≤ p → p ≤ 9223372036854775807 → Calls Try.prog 16 #[.int .i64 p, .int .u64 (n : Int)] W (Ret W (.int .u64 (rsz p n : Int)))
  putB : ∀ (W : World) (w : Nat) (S : Nat → Prop) (l : List Bool) (p : Int) (n : Nat), BW W w S l → n < 18446744073709551616 → -9223372036854775808 ≤ p → p ≤ 9223372036854775807 → 65536 < rq p n →
    Calls Try.prog 11 #[.pointer (some ⟨w, 0, none⟩), .int .i64 p, .int .u64 (n : Int)] W (Ret W (.int .i64 4))
  put : ∀ (W : World) (w : Nat) (S : Nat → Prop) (l : List Bool) (p : Int) (n : Nat), BW W w S l → n < 18446744073709551616 → -9223372036854775808 ≤ p → p ≤ 9223372036854775807 → rq p n ≤ 65536 → l.length ≤ 900000 →
    Calls Try.prog 11 #[.pointer (some ⟨w, 0, none⟩), .int .i64 p, .int .u64 (n : Int)] W fun e w' => ∃ S', e = .returned (.int .i64 0) ∧ BW w' w S' (l ++ rcode p n) ∧ Frm S W w' ∧ ∀ i, S' i → S i ∨ W.heap.size ≤ i
  get : ∀ (W : World) (base r : Nat) (S : Nat → Prop) (l : List Bool) (p m : Int), BR W base r S l → l.length ≤ 1000000 → -9223372036854775808 ≤ p → p ≤ 9223372036854775807 → -9223372036854775808 ≤ m → m ≤ 9223372036854775807 →
    Calls Try.prog 20 #[.pointer (some ⟨r, 0, none⟩), .int .i64 p, .int .i64 m] W fun e w' => ∃ S', e = .returned (.tuple #[.int .u64 (gtV l p m : Int), .int .i64 (gtE l p m : Int)]) ∧ BR w' base r S' (gtL l p m) ∧ Frm S W w' ∧ ∀ i, S' i → S i ∨ W.heap.size ≤ i
  steps : ∀ (W : World) (A : Option Addr) (n c : Nat) (N : List Nat) (p : Int), RdN W A n N → n ≤ c → c ≤ maxLen → n ≤ 100000 → -9223372036854775808 ≤ p → p ≤ 9223372036854775807 → stL p 0 N ≤ 100000 →
    Calls Try.prog 24 #[.int .i64 p, .slice A n c] W fun e w' => ∃ A' n' c', e = .returned (.tuple #[.slice A' n' c', .int .i64 ((stp p 0 N).2 : Int)]) ∧ Rd w' A' n' (stB (stp p 0 N)) ∧ n' ≤ c' ∧ c' ≤ maxLen ∧ Below W.heap.size W w'
end Go.Proofs.Ytkmedbdaobficaa
