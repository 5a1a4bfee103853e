/- Structs, arrays and slices that are built part by part. -/
import Derived.Test.YthkkllcpogagiaaBlk
import Derived.Laws.Tables
namespace Go.Proofs.Ythkkllcpogagiaa
open Go.RowKit
set_option linter.unusedVariables false
set_option linter.unusedSimpArgs false

set_option maxRecDepth 100000 in
theorem fold_over : ∀ (V : List Value) (L : List Value) (o k : Nat), o + k + V.length ≤ L.length → (V.zipIdx k).foldl (fun (cs : Array Value) (x : Value × Nat) => cs.setIfInBounds (o + x.2) x.1) L.toArray = (over L (o + k) V).toArray
  | [], L, o, k, _ => by simp [over]
  | v :: V, L, o, k, h => by
    rw [List.zipIdx_cons, List.foldl_cons]
    simp only [List.length_cons] at h
    rw [List.setIfInBounds_toArray, fold_over V (L.set (o + k) v) o (k + 1) (by rw [List.length_set]; omega), show o + (k + 1) = o + k + 1 from rfl, set_over v V L (o + k) (by simp; omega)]
set_option maxRecDepth 100000 in
theorem fill_step (place : Nat → Option (Nat × Nat)) (L V : List Value) (i o : Nat) (v : Value) (rest : List (Nat × Value)) (hp : place i = some (o, V.length)) (hv : v.cells = V.toArray) (h : o + V.length ≤ L.length) :
    Instr.fill place L.toArray ((i, v) :: rest) = Instr.fill place (over L o V).toArray rest := by
  have hf := fold_over V L o 0 (by omega)
  rw [Instr.fill]
  simp only [hp, hv, List.size_toArray]
  rw [if_neg (by simp; omega)]
  congr 1
  rw [Nat.add_zero] at hf
  rw [← hf]
  simp
set_option maxRecDepth 100000 in
theorem over_one (L : List Value) (o : Nat) (v : Value) (h : o < L.length) : over L o [v] = L.set o v := by
  unfold over
  rw [List.set_eq_take_append_cons_drop, if_pos h]
  simp
set_option maxRecDepth 100000 in
/-- A struct or an array that is built: its parts' values, and what they make. -/
theorem wp_bld {P : Program} {o : Oper} {a : Act} {w : World} {K : Act → World → Prop} {Q : Exit → Act → World → Prop} (t : TypeId) (parts : Array (Nat × Operand)) (ho : o.op = .build t parts) (vals : Array (Nat × Value)) (x : Value)
    (hv : (parts.map fun (i, x) => (i, a.eval x)) = vals) (hr : ∀ W, (Instr.build t vals).run P W = .ok x W) (h : K (a.put o.dst x) w) : o.wp P a w K Q := by
  unfold Oper.wp execOp
  simp only [ho, hv, Sem.run_bind, hr w, Result.andThen_ok]
  exact h
set_option maxRecDepth 100000 in
theorem at_bld {P : Program} {ops : Array Oper} {rest : List Oper} {Q : Exit → Act → World → Prop} {a : Act} {w : World} {dst : Option Tmp} {t : TypeId} {p : String} {af : Array Edge} (ty : TypeId) {parts : Array (Nat × Operand)}
    (h : wpList P ops Q ({ dst := dst, op := .build ty parts, type := t, pos := p, after := af, guard := none } :: rest) a w) : wpList P ops Q ({ dst := dst, op := .build ty parts, type := t, pos := p, after := af, guard := none } :: rest) a w := h
set_option maxRecDepth 100000 in
theorem wpList_bld {P : Program} {ops : Array Oper} {rest : List Oper} {op : Oper} {a : Act} {w : World} {Q : Exit → Act → World → Prop} (hgd : op.guard = none) (t : TypeId) (parts : Array (Nat × Operand)) (ho : op.op = .build t parts) (vals : Array (Nat × Value)) (x : Value)
    (hv : (parts.map fun (i, x) => (i, a.eval x)) = vals) (hr : ∀ W, (Instr.build t vals).run P W = .ok x W) (h : wpList P ops Q rest (a.put op.dst x) w) : wpList P ops Q (op :: rest) a w :=
  wpList_plain hgd fun _ hK => wp_bld t parts ho vals x hv hr (hK _ _ h)
end Go.Proofs.Ythkkllcpogagiaa
