/- Contracts of codec.firstCount and of a reader's Var, Num, Text. -/
import Derived.Test.YtkmedbdaobficaaCodR
namespace Go.Proofs.Ytkmedbdaobficaa
open Go.RowKit
set_option linter.unusedVariables false

set_option maxRecDepth 100000 in
theorem cval_zero {c : UInt8} {r : List UInt8} (h : foll c = 0) : cval c r = c.toNat := by simp [cval, h]
set_option maxRecDepth 100000 in
theorem cval_pos {c : UInt8} {r : List UInt8} (h : foll c ≠ 0) : cval c r = numL (r.take (foll c)) := by simp [cval, h]
set_option maxRecDepth 100000 in
theorem tkV_len (l : List UInt8) (e n : Nat) : (tkV l e n).length ≤ n := by
  unfold tkV
  split
  · rw [List.length_take]; omega
  · simp
set_option maxRecDepth 100000 in
theorem cvV_le (l : List UInt8) (e most : Nat) : cvV l e most ≤ most := by
  unfold cvV
  split
  · exact (first_le l most).2.1
  · exact Nat.zero_le _
end Go.Proofs.Ytkmedbdaobficaa
