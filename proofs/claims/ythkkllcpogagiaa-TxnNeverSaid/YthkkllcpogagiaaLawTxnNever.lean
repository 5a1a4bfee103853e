/- Proved: for every transaction and every 64 bytes: these are no transaction's, and the transaction's bytes aren't 64; of more than 20 outputs, or of an item of more than 200 bytes, nothing more than the document's example is said. The arguments read as they did. No condition. -/
import Derived.Test.YthkkllcpogagiaaRows
import Derived.Test.YthkkllcpogagiaaTxnQ
import Derived.Lib.SmallJoins
import Derived.Deep.Slices
import Derived.Test.YthkkllcpogagiaaTxnZ
import Derived.Test.YthkkllcpogagiaaArr
import Derived.ProofKit
import Derived.OpenShut
import Derived.ShutString
import Derived.ChangeOld
import Derived.Test.YthkkllcpogagiaaOpen
namespace Go.Proofs.Ythkkllcpogagiaa.txnNever
open Go.ChangeShapes Go.WideShapes Go.ChangeAt Go.RowKit
open Go.ChangeMaps (open_string shut_string)
set_option linter.unusedVariables false
set_option linter.unusedSimpArgs false

set_option maxRecDepth 100000 in
theorem own : ownKnob Try.prog.godebug = none := by kernel_rfl
set_option maxRecDepth 100000 in
theorem laidOut : laidOutB Try.prog = true := by kernel_rfl

set_option maxRecDepth 100000 in
theorem arr64 {H : Type} {enc : TypeId × Value → H} {W : World} {base : Nat} {sp : Nat → Bool} {held : Bool} {r : Reach} {b0 : Nat} {v : Value} {d : DataW H} {ps : List MemPlace}
    (hv : Value.okWide Try.prog W r b0 51 v) (hd : DataW.Trod enc Try.prog W base sp held 51 v d ps) : ∃ l : List UInt8, v = .agg (l.map B8).toArray ∧ l.length = 64 := by
  obtain ⟨zs, hl, rfl, hw⟩ := open_arr Try.underlying51 Try.underlying5 (by kernel_rfl) (by kernel_rfl) hv hd
  obtain ⟨l, hl2, e⟩ := bytes_of_ints zs hw
  exact ⟨l, by rw [e], by omega⟩
set_option maxRecDepth 100000 in
theorem walk (s : Nat) (A : Option Addr) (n c : Nat) (O : List (Nat × List UInt8)) (l : List UInt8) (w : World) (ws : s < 18446744073709551616) (w1 : RdT w A n O ∧ n ≤ c ∧ c ≤ maxLen) (w2 : l.length = 64) : Calls Try.prog 5 #[.agg #[.int .u64 (s : Int), .slice A n c], .agg (l.map B8).toArray] w (Ret w (.bool true)) := txnNever_walk txnOk s A n c O l w ws w1 w2

set_option maxRecDepth 100000 in
theorem lifted (os : Os) (started : os.Started) (H : Type) (enc : TypeId × Value → H) :
    ReturnsInHanded {} Try.checked os 5 .any (Rows.txnNeverSpec.pre6 enc Try.prog Try.f5 Rows.txnNeverRow.domain false) (Rows.txnNeverSpec.post enc Try.prog Try.f5 false true false false) := by
  refine returnsInHanded_of_change (C := Try.checked) own started (by kernel_rfl) Try.func5
    (ChangeSpec.witness6 (enc := enc) (C := Try.checked) false ⟨#[], #[.agg #[.int .u64 0, .slice none 0 0], .agg (Array.replicate 64 (.int .u8 0))], []⟩ 8 (by kernel_rfl) (by kernel_rfl) (by kernel_rfl) (by kernel_rfl)) ?_
  intro W base args ds gs before hval0 hW hcnd _
  have hval : ∀ (j : Nat) t v, Try.f5.params[j]? = some t → args[j]? = some v → Value.okWide Try.prog W .any base t v := hval0
  have hW' := hW
  obtain ⟨p, q, hA0, hV, rfl, hfz, hnd⟩ := hW
  have hA : DataW.TrodAll enc Try.prog W 0 (fun _ => true) true Try.f5.params.toList args.toList ds p := hA0
  rw [Try.params5] at hA hval
  obtain ⟨v0, vs0, d0, ds0, p0, q0, hargs, rfl, rfl, h0, r0⟩ := trodAll_cons hA
  obtain ⟨v1, vs1, d1, ds1, p1, q1, rfl, rfl, rfl, h1, r1⟩ := trodAll_cons r0
  obtain ⟨rfl, rfl, rfl⟩ := trodAll_nil r1
  obtain rfl : args = #[v0, v1] := by cases args; simp_all
  obtain ⟨rfl, rfl⟩ := trodVars_none hV
  have k0 := h0
  have lt0 : ∀ x ∈ p0, x.block < W.heap.size := by obtain ⟨m, hm⟩ := k0; exact DataW.trod_lt m _ _ _ hm
  obtain ⟨s0, a0, len0, cap0, l0, rfl, ws0, w0⟩ := open_tx (hval 0 27 v0 rfl rfl) h0
  have k1 := h1
  have lt1 : ∀ x ∈ p1, x.block < W.heap.size := by obtain ⟨m, hm⟩ := k1; exact DataW.trod_lt m _ _ _ hm
  obtain ⟨a1, rfl, w1⟩ := arr64 (hval 1 51 v1 rfl rfl) h1
  clear hA0 hval0
  refine (walk s0 a0 len0 cap0 l0 a1 W ws0 w0 w1).mono fun e W' ⟨he, bel⟩ => ?_
  subst he
  exact ⟨_, rfl, _, _, _, [], _, [], hW', trodAll_mk1 (shut_bool Try.underlying4 _), (trodAll_cons_mk (Below.trod laidOut (by kernel_rfl) (of_decide_eq_true (by kernel_rfl)) k0 bel lt0) (trodAll_cons_mk (Below.trod laidOut (by kernel_rfl) (of_decide_eq_true (by kernel_rfl)) k1 bel lt1) trodAll_mk0)), rfl, bel.frame _, fun h => by cases h⟩

set_option maxRecDepth 100000 in
theorem over : Rows.txnNeverRow.holds Try.pinned (OpenSpec.ofChange Rows.txnNeverSpec) :=
  OpenClaim.holds_of_wide 5 Try.f5 rfl rfl rfl rfl rfl rfl rfl ⟨rfl, rfl, rfl, rfl, rfl⟩ rfl rfl rfl rfl rfl (by kernel_rfl) Try.func5 (by kernel_rfl)
    (of_decide_eq_true (by kernel_rfl)) (by unfold Func.isWrapper; first | (rw [if_pos (by decide +kernel)]; kernel_rfl) | (rw [if_neg (by decide +kernel)]; exact ⟨rfl, rfl⟩))
    (fun os started H enc _ => lifted os started H enc)

set_option maxRecDepth 100000 in
theorem proved : Rows.TxnNeverSaid := over
end Go.Proofs.Ythkkllcpogagiaa.txnNever
