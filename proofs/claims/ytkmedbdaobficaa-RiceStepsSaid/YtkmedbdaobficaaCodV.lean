/- Contracts of the document's own Take of layer 6. -/
import Derived.Test.YtkmedbdaobficaaCodN
import Derived.Laws.DeepStrings4
import Derived.Deep.RegionHeld3
namespace Go.Proofs.Ytkmedbdaobficaa
open Go.RowKit
set_option linter.unusedVariables false

set_option maxRecDepth 100000 in
theorem bstr_from (l : List UInt8) (a N : Nat) (h : l.length = N) : (⟨l.toArray⟩ : ByteArray).extract a N = ⟨(l.drop a).toArray⟩ := by
  rw [ByteArray.extract_mk, List.take_of_length_le (by rw [List.length_drop]; omega)]
set_option maxRecDepth 100000 in
theorem bstr_upto (l : List UInt8) (b : Nat) : (⟨l.toArray⟩ : ByteArray).extract 0 b = ⟨(l.take b).toArray⟩ := by
  rw [ByteArray.extract_mk, List.drop_zero, Nat.sub_zero]
set_option maxRecDepth 100000 in
theorem below2 (w : World) (o1 o2 : Obj) : Below w.heap.size w ((w.alloc o1).alloc o2) := below_al (below_al (Below.refl _ w) _) _
set_option maxRecDepth 100000 in
theorem tk_ok (l : List UInt8) (n : Nat) (h : n ≤ l.length) : tkV l 0 n = l.take n ∧ tkL l 0 n = l.drop n ∧ tkE l 0 n = 0 := by simp [tkV, tkL, tkE, h]
set_option maxRecDepth 100000 in
theorem tk_short (l : List UInt8) (n : Nat) (h : l.length < n) : tkV l 0 n = [] ∧ tkL l 0 n = l ∧ tkE l 0 n = 2 := by
  have h' : ¬ n ≤ l.length := by omega
  simp [tkV, tkL, tkE, h']
set_option maxRecDepth 100000 in
theorem tk_err (l : List UInt8) (e n : Nat) (h : e ≠ 0) : tkV l e n = [] ∧ tkL l e n = l ∧ tkE l e n = e := by simp [tkV, tkL, tkE, h]
end Go.Proofs.Ytkmedbdaobficaa
