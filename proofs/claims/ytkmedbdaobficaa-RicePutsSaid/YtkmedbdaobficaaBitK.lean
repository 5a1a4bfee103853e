/- What package bit is to answer, whatever its writers and readers are made of. -/
import Derived.Test.YtkmedbdaobficaaBitM
import Derived.Test.YtkmedbdaobficaaCodF
import Derived.Test.YtkmedbdaobficaaOwnB
namespace Go.Proofs.Ytkmedbdaobficaa
open Go.RowKit
set_option linter.unusedVariables false

/-- BW w p S l: the writer at block p, made of the blocks S, holds the bits l. BR w base p S l: the reader at block p, made of the blocks S and of bytes below base, has the bits l left. -/
structure BitOk (BW : World → Nat → (Nat → Prop) → List Bool → Prop) (BR : World → Nat → Nat → (Nat → Prop) → List Bool → Prop) : Prop where
  wfrm : ∀ {w w' : World} {p : Nat} {S X : Nat → Prop} {l : List Bool}, BW w p S l → Frm X w w' → (∀ i, X i → ¬ S i) → BW w' p S l
  wlt : ∀ {w : World} {p : Nat} {S : Nat → Prop} {l : List Bool}, BW w p S l → ∀ i, S i → i < w.heap.size
  rfrm : ∀ {w w' : World} {base p : Nat} {S X : Nat → Prop} {l : List Bool}, BR w base p S l → Frm X w w' → (∀ i, X i → ¬ S i ∧ base ≤ i) → BR w' base p S l
  rlt : ∀ {w : World} {base p : Nat} {S : Nat → Prop} {l : List Bool}, BR w base p S l → ∀ i, S i → i < w.heap.size
  new : ∀ W : World, Calls Try.prog 8 #[] W fun e w' => ∃ p S, e = .returned (.pointer (some ⟨p, 0, none⟩)) ∧ BW w' p S [] ∧ Below W.heap.size W w' ∧ ∀ i, S i → W.heap.size ≤ i
  put : ∀ (W : World) (p : Nat) (S : Nat → Prop) (l : List Bool) (n : Nat) (k : Int), BW W p S l → l.length ≤ 1000000 → n < 18446744073709551616 → -9223372036854775808 ≤ k → k ≤ 9223372036854775807 →
    Calls Try.prog 28 #[.pointer (some ⟨p, 0, none⟩), .int .u64 (n : Int), .int .i64 k] W fun e w' => ∃ S', e = .returned (.tuple #[]) ∧ BW w' p S' (l ++ bN n (hld k 64)) ∧ Frm S W w' ∧ ∀ i, S' i → S i ∨ W.heap.size ≤ i
  ones : ∀ (W : World) (p : Nat) (S : Nat → Prop) (l : List Bool) (n : Int), BW W p S l → l.length ≤ 1000000 → -9223372036854775808 ≤ n → n ≤ 9223372036854775807 →
    Calls Try.prog 27 #[.pointer (some ⟨p, 0, none⟩), .int .i64 n] W fun e w' => ∃ S', e = .returned (.tuple #[]) ∧ BW w' p S' (l ++ List.replicate (hld n 65536) true) ∧ Frm S W w' ∧ ∀ i, S' i → S i ∨ W.heap.size ≤ i
  len : ∀ (W : World) (p : Nat) (S : Nat → Prop) (l : List Bool), BW W p S l → l.length ≤ 1000000 → Calls Try.prog 13 #[.pointer (some ⟨p, 0, none⟩)] W (Ret W (.int .i64 (l.length : Int)))
  bytes : ∀ (W : World) (p : Nat) (S : Nat → Prop) (l : List Bool), BW W p S l → l.length ≤ 1000000 → Calls Try.prog 14 #[.pointer (some ⟨p, 0, none⟩)] W fun e w' => ∃ A n c, e = .returned (.slice A n c) ∧ Rd w' A n (pack l) ∧ n ≤ c ∧ c ≤ maxLen ∧ Below W.heap.size W w'
  of_ : ∀ (W : World) (A : Option Addr) (n c : Nat) (b : List UInt8) (base : Nat), RdF W (fun i => base ≤ i) A n b → n ≤ c → c ≤ maxLen → n ≤ 140737488355328 → base ≤ W.heap.size →
    Calls Try.prog 18 #[.slice A n c] W fun e w' => ∃ p S, e = .returned (.pointer (some ⟨p, 0, none⟩)) ∧ BR w' base p S (unp b) ∧ Below W.heap.size W w' ∧ ∀ i, S i → W.heap.size ≤ i
  take : ∀ (W : World) (base p : Nat) (S : Nat → Prop) (l : List Bool) (k : Int), BR W base p S l → l.length ≤ 1000000 → -9223372036854775808 ≤ k → k ≤ 9223372036854775807 →
    Calls Try.prog 34 #[.pointer (some ⟨p, 0, none⟩), .int .i64 k] W fun e w' => ∃ S', e = .returned (.tuple #[.int .u64 (btV l (hld k 64) : Int), .int .i64 (btE l (hld k 64) : Int)]) ∧ BR w' base p S' (btL l (hld k 64)) ∧ Frm S W w' ∧ ∀ i, S' i → S i ∨ W.heap.size ≤ i
  run : ∀ (W : World) (base p : Nat) (S : Nat → Prop) (l : List Bool) (k : Int), BR W base p S l → l.length ≤ 1000000 → -9223372036854775808 ≤ k → k ≤ 9223372036854775807 →
    Calls Try.prog 33 #[.pointer (some ⟨p, 0, none⟩), .int .i64 k] W fun e w' => ∃ S', e = .returned (.tuple #[.int .i64 (rnV l k.toNat : Int), .int .i64 (rnE l k.toNat : Int)]) ∧ BR w' base p S' (rnL l k.toNat) ∧ Frm S W w' ∧ ∀ i, S' i → S i ∨ W.heap.size ≤ i
  left : ∀ (W : World) (base p : Nat) (S : Nat → Prop) (l : List Bool), BR W base p S l → l.length ≤ 1000000 → Calls Try.prog 22 #[.pointer (some ⟨p, 0, none⟩)] W (Ret W (.int .i64 (l.length : Int)))
  clean : ∀ (W : World) (base p : Nat) (S : Nat → Prop) (l : List Bool), BR W base p S l → l.length ≤ 1000000 → Calls Try.prog 23 #[.pointer (some ⟨p, 0, none⟩)] W (Ret W (.bool (cln l)))
end Go.Proofs.Ytkmedbdaobficaa
