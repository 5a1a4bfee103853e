/- Contracts of a writer's methods: New, Put, Num, Var, Text, Len, Bytes. -/
import Derived.Test.YtkmedbdaobficaaCodS
namespace Go.Proofs.Ytkmedbdaobficaa
open Go.RowKit
set_option linter.unusedVariables false

set_option maxRecDepth 100000 in
theorem frm_grown {w w' : World} {A : Option Addr} {n c : Nat} (h : w.grownBy w' (Value.ownBlock (.slice A n c))) : Frm (fun i => blkOf A = some i) w w' :=
  ⟨h.os, h.tape, h.output, h.size, fun i hi hS => h.block i hi (fun e => hS (by cases A with | none => simp [Value.ownBlock] at e | some a => simpa [Value.ownBlock, blkOf] using e.symm))⟩
set_option maxRecDepth 100000 in
theorem own_blkOf (A : Option Addr) (n c : Nat) : Value.ownBlock (.slice A n c) = blkOf A := by cases A <;> rfl
set_option maxRecDepth 100000 in
theorem RdF.turn {w w' : World} {S T : Nat → Prop} {A : Option Addr} {n : Nat} {l : List UInt8} (h : RdF w S A n l) (hf : Frm S w w') (hT : ∀ i, T i → S i ∨ w.heap.size ≤ i) : RdF w' T A n l :=
  ⟨h.1, fun hn => by
    obtain ⟨b, off, e, hS, hb, hc⟩ := h.2 hn
    exact ⟨b, off, e, fun ht => by rcases hT b ht with h1 | h1; exact hS h1; omega, Nat.lt_of_lt_of_le hb hf.size, fun j hj => (hf.cell (p := ⟨b, off + j, none⟩) hb hS).trans (hc j hj)⟩⟩
set_option maxRecDepth 100000 in
theorem ws_turn {p B : Nat} {A A' : Option Addr} (hn : ∀ g, blkOf A' = some g → blkOf A = some g ∨ B ≤ g) : ∀ i, WS p A' i → WS p A i ∨ B ≤ i := fun i hi => by
  rcases hi with rfl | hi
  · exact .inl (.inl rfl)
  · rcases hn i hi with h1 | h1
    · exact .inl (.inr h1)
    · exact .inr h1
set_option maxRecDepth 100000 in
theorem below_al {w W : World} (h : Below w.heap.size w W) (o : Obj) : Below w.heap.size w (W.alloc o) := h.alloc h.size o

set_option maxRecDepth 100000 in
theorem cw_more (n : Nat) : cw ((more n : Nat) : Int) = more n := by rw [cw_nat, Nat.min_eq_left (more_le n)]
set_option maxRecDepth 100000 in
theorem below_frm {w a b : World} {S : Nat → Prop} (h : Below w.heap.size w a) (hf : Frm S a b) (hS : ∀ i, S i → w.heap.size ≤ i) : Below w.heap.size w b := h.trans (hf.below h.size hS)
set_option maxRecDepth 100000 in
theorem below_more {w a b : World} (h : Below w.heap.size w a) (hb : Below a.heap.size a b) : Below w.heap.size w b := h.trans (hb.mono h.size)
set_option maxRecDepth 100000 in
theorem ws_new {p B : Nat} (h : B ≤ p) : ∀ i, WS p none i → B ≤ i := fun i hi => by
  rcases hi with rfl | hi
  · exact h
  · simp [blkOf] at hi
set_option maxRecDepth 100000 in
theorem ws_on {p B : Nat} {A A' : Option Addr} {n : Nat} (hA : ∀ i, WS p A i → B ≤ i) (hn : ∀ g, blkOf A' = some g → blkOf A = some g ∨ n ≤ g) (hB : B ≤ n) : ∀ i, WS p A' i → B ≤ i := fun i hi => by
  rcases ws_turn hn i hi with h | h
  · exact hA i h
  · omega
end Go.Proofs.Ytkmedbdaobficaa
