/- Lists of layer 11's parts that came in, as they are read off the row's data. -/
import Derived.Test.YtkmedbdaobficaaOpen
import Derived.Test.YtkmedbdaobficaaBlk
import Derived.Test.YtkmedbdaobficaaBitM
import Derived.Lib.SmallJoins
import Derived.Deep.Slices
import Derived.OpenShut
namespace Go.Proofs.Ytkmedbdaobficaa
open Go.RowKit Go.ChangeShapes Go.WideShapes Go.ChangeAt Go.Deep
set_option linter.unusedVariables false

/-- A part: ones, or a number's bits. -/
structure Op3 where
  o : Bool
  n : Nat
  m : Int
instance : Inhabited Op3 := ⟨⟨false, 0, 0⟩⟩
def Op3.cells (o : Op3) : List Value := [.bool o.o, .int .u64 (o.n : Int), .int .i64 o.m]
structure Op3.ok (o : Op3) : Prop where
  n1 : o.n < 18446744073709551616
  m0 : -9223372036854775808 ≤ o.m
  m1 : o.m ≤ 9223372036854775807
/-- The slice of n parts that begins at A holds the parts L. -/
def RdP (w : World) (A : Option Addr) (n : Nat) (L : List Op3) : Prop :=
  L.length = n ∧ (0 < n → ∃ b off, A = some ⟨b, off, none⟩ ∧ b < w.heap.size ∧ ∀ j (h : j < L.length), w.rangeAt b (off + j * 3) L[j].cells ∧ L[j].ok)
set_option maxRecDepth 100000 in
theorem RdP.len {w : World} {A : Option Addr} {n : Nat} {L : List Op3} (h : RdP w A n L) : L.length = n := h.1
set_option maxRecDepth 100000 in
theorem RdP.at_ {w w' : World} {A : Option Addr} {n : Nat} {L : List Op3} (h : RdP w A n L) (hb : Below w.heap.size w w') {k : Nat} (hk : k < n) :
    ∃ b off, ∃ hl : k < L.length, A = some ⟨b, off, none⟩ ∧ w'.rangeAt b (off + k * 3) L[k].cells ∧ L[k].ok := by
  obtain ⟨b, off, e, hlt, hc⟩ := h.2 (by omega)
  have hl : k < L.length := by have := h.1; omega
  obtain ⟨h1, h2⟩ := hc k hl
  exact ⟨b, off, hl, e, fun j v hv => (hb.cell (p := ⟨b, off + k * 3 + j, none⟩) hlt).trans (h1 j v hv), h2⟩
set_option maxRecDepth 100000 in
theorem RdP.take {w : World} {A : Option Addr} {n : Nat} {L : List Op3} (h : RdP w A n L) {k : Nat} (hk : k ≤ n) : RdP w A k (L.take k) := by
  have hl := h.1
  refine ⟨by rw [List.length_take]; omega, fun hn => ?_⟩
  obtain ⟨b, off, e, hb, hc⟩ := h.2 (by omega)
  refine ⟨b, off, e, hb, fun j hj => ?_⟩
  rw [List.length_take] at hj
  rw [List.getElem_take]
  exact hc j (by omega)
set_option maxRecDepth 100000 in
theorem op3_one (o : Op3) : ∀ v ∈ o.cells, v.oneCell' = true := by
  intro v hv
  simp only [Op3.cells, List.mem_cons, List.not_mem_nil, or_false] at hv
  rcases hv with rfl | rfl | rfl <;> rfl
def zerosP : List Value := [.bool false, .int .u64 0, .int .i64 0]
set_option maxRecDepth 100000 in
theorem list3 {α : Type} {l : List α} (h : l.length = 3) : ∃ a b c, l = [a, b, c] := by
  match l, h with
  | [a, b, c], _ => exact ⟨a, b, c, rfl⟩
section
variable {H : Type} {enc : TypeId × Value → H}
set_option maxRecDepth 100000 in
theorem cellsI3 : Try.prog.cellsOf 3 = 1 := by kernel_rfl
set_option maxRecDepth 100000 in
theorem cellsU3 : Try.prog.cellsOf 22 = 1 := by kernel_rfl
set_option maxRecDepth 100000 in
theorem cellsB3 : Try.prog.cellsOf 4 = 1 := by kernel_rfl
end
end Go.Proofs.Ytkmedbdaobficaa
