/- The contracts of the document's own Count and Words of layer 6. -/
import Derived.Test.YthpigninbeommaaCodC
namespace Go.Proofs.Ythpigninbeommaa
open Go.RowKit
set_option linter.unusedVariables false

set_option maxRecDepth 100000 in
theorem idx_str (c0 : UInt8) (r : List UInt8) (W : World) : (Instr.index 9 (.string ⟨(c0 :: r).toArray⟩) (.int .i64 0)).run Try.prog W = .ok (.int .u8 (c0.toNat : Int)) W := by
  simp [Instr.index, run_underlying Try.underlying9, asIntOf, go_sem]
  try rfl
set_option maxRecDepth 100000 in
theorem ext0 (c0 : UInt8) (r : List UInt8) (m : Nat) : (⟨(c0 :: r).toArray⟩ : ByteArray).extract 0 (1 + m) = ⟨(c0 :: r.take m).toArray⟩ := by
  rw [ByteArray.extract_mk, List.drop_zero, Nat.sub_zero, Nat.add_comm 1, List.take_succ_cons]
set_option maxRecDepth 100000 in
theorem ext1 (c0 : UInt8) (r : List UInt8) (m : Nat) : (⟨(c0 :: r).toArray⟩ : ByteArray).extract 1 (1 + m) = ⟨(r.take m).toArray⟩ := by
  rw [ByteArray.extract_mk, List.drop_succ_cons, List.drop_zero, Nat.add_sub_cancel_left]
set_option maxRecDepth 100000 in
theorem ext2 (c0 : UInt8) (r : List UInt8) (m : Nat) : (⟨(c0 :: r).toArray⟩ : ByteArray).extract (1 + m) (r.length + 1) = ⟨(r.drop m).toArray⟩ := by
  rw [bstr_from _ _ _ (by simp), Nat.add_comm 1, List.drop_succ_cons]
set_option maxRecDepth 100000 in
theorem first_cons (c : UInt8) (r : List UInt8) (most : Nat) : first (c :: r) most = if r.length < foll c then (0, 0, 2) else if foll c ≠ more (cval c r) then (0, 0, 3) else if most < cval c r then (0, 0, 4) else (cval c r, 1 + foll c, 0) := rfl
end Go.Proofs.Ythpigninbeommaa
