/- Slices of whole numbers that came in, as they are read off the row's data. -/
import Derived.Test.YtkmedbdaobficaaOpen
import Derived.Test.YtkmedbdaobficaaBlk
import Derived.OpenShut
import Derived.ProofKit
namespace Go.Proofs.Ytkmedbdaobficaa
open Go.RowKit
set_option linter.unusedVariables false

/-- The slice of n numbers of kind k that begins at A holds the numbers L. -/
def RdK (k : IntKind) (w : World) (A : Option Addr) (n : Nat) (L : List Int) : Prop :=
  L.length = n ∧ (0 < n → ∃ b off, A = some ⟨b, off, none⟩ ∧ b < w.heap.size ∧ ∀ j (h : j < L.length), w.cell? ⟨b, off + j, none⟩ = some (.int k L[j]) ∧ (Lit.int k L[j]).wf = true)
set_option maxRecDepth 100000 in
theorem RdK.len {k : IntKind} {w : World} {A : Option Addr} {n : Nat} {L : List Int} (h : RdK k w A n L) : L.length = n := h.1
set_option maxRecDepth 100000 in
theorem RdK.at_ {k : IntKind} {w w' : World} {A : Option Addr} {n : Nat} {L : List Int} (h : RdK k w A n L) (hb : Below w.heap.size w w') {j : Nat} (hj : j < n) :
    ∃ b off, ∃ hl : j < L.length, A = some ⟨b, off, none⟩ ∧ w'.cell? ⟨b, off + j, none⟩ = some (.int k L[j]) ∧ (Lit.int k L[j]).wf = true := by
  obtain ⟨b, off, e, hlt, hc⟩ := h.2 (by omega)
  have hl : j < L.length := by have := h.1; omega
  obtain ⟨h1, h2⟩ := hc j hl
  exact ⟨b, off, hl, e, (hb.cell (p := ⟨b, off + j, none⟩) hlt).trans h1, h2⟩
/-- The slice of n numbers of 64 bits that begins at A holds the numbers N. -/
def RdN (w : World) (A : Option Addr) (n : Nat) (N : List Nat) : Prop :=
  N.length = n ∧ (0 < n → ∃ b off, A = some ⟨b, off, none⟩ ∧ b < w.heap.size ∧ ∀ j (h : j < N.length), w.cell? ⟨b, off + j, none⟩ = some (.int .u64 (N[j] : Int)) ∧ N[j] < 18446744073709551616)
set_option maxRecDepth 100000 in
theorem RdN.len {w : World} {A : Option Addr} {n : Nat} {N : List Nat} (h : RdN w A n N) : N.length = n := h.1
set_option maxRecDepth 100000 in
theorem RdN.at_ {w w' : World} {A : Option Addr} {n : Nat} {N : List Nat} (h : RdN w A n N) (hb : Below w.heap.size w w') {j : Nat} (hj : j < n) :
    ∃ b off, ∃ hl : j < N.length, A = some ⟨b, off, none⟩ ∧ w'.cell? ⟨b, off + j, none⟩ = some (.int .u64 (N[j] : Int)) ∧ N[j] < 18446744073709551616 := by
  obtain ⟨b, off, e, hlt, hc⟩ := h.2 (by omega)
  have hl : j < N.length := by have := h.1; omega
  obtain ⟨h1, h2⟩ := hc j hl
  exact ⟨b, off, hl, e, (hb.cell (p := ⟨b, off + j, none⟩) hlt).trans h1, h2⟩
set_option maxRecDepth 100000 in
theorem RdN.below {w w' : World} {A : Option Addr} {n : Nat} {N : List Nat} (h : RdN w A n N) (hb : Below w.heap.size w w') : RdN w' A n N :=
  ⟨h.1, fun hn => by
    obtain ⟨b, off, e, hlt, hc⟩ := h.2 hn
    exact ⟨b, off, e, Nat.lt_of_lt_of_le hlt hb.size, fun j hj => ⟨(hb.cell (p := ⟨b, off + j, none⟩) hlt).trans (hc j hj).1, (hc j hj).2⟩⟩⟩
set_option maxRecDepth 100000 in
theorem RdN.take {w : World} {A : Option Addr} {n : Nat} {N : List Nat} (h : RdN w A n N) {q : Nat} (hq : q ≤ n) : RdN w A q (N.take q) := by
  have hl := h.1
  refine ⟨by rw [List.length_take]; omega, fun hn => ?_⟩
  obtain ⟨b, off, e, hb, hc⟩ := h.2 (by omega)
  refine ⟨b, off, e, hb, fun j hj => ?_⟩
  rw [List.length_take] at hj
  rw [List.getElem_take]
  exact hc j (by omega)
set_option maxRecDepth 100000 in
theorem rdK_ints {k : IntKind} {w : World} {x : Addr} {len cap : Nat} {zs : List Int} (hcell : ∀ i, i < zs.length → w.cell? (x.add i) = some (.int k (zs.getD i 0))) (hl : len ≤ cap) (hz : zs.length = cap)
    (hwz : ∀ n ∈ zs, (Lit.int k n).wf = true) : RdK k w (some x) len (zs.take len) := by
  refine ⟨by simp; omega, fun hn => ?_⟩
  obtain ⟨b, off, spot⟩ := x
  have hc := hcell 0 (by omega)
  have hspot : spot = none := by simpa [Addr.add] using World.cell?_spot hc
  subst hspot
  refine ⟨b, off, rfl, lt_of_cell (a := (⟨b, off, none⟩ : Addr).add 0) hc, fun j hj => ?_⟩
  have hj' : j < zs.length := by simp at hj; omega
  have hp : (⟨b, off, none⟩ : Addr).add j = ⟨b, off + j, none⟩ := by unfold Addr.add; split <;> simp_all
  have e : (zs.take len)[j] = zs[j] := List.getElem_take
  rw [← hp, hcell j hj', e]
  refine ⟨?_, hwz _ (List.getElem_mem hj')⟩
  simp only [List.getD, List.getElem?_eq_getElem hj', Option.getD_some]
set_option maxRecDepth 100000 in
theorem wf_u64 {z : Int} (h : (Lit.int .u64 z).wf = true) : 0 ≤ z ∧ z < 18446744073709551616 := by
  have l0 : IntKind.u64.min = 0 := by decide
  have l1 : IntKind.u64.max = 18446744073709551615 := by decide
  simp only [Lit.wf, l0, l1, Bool.and_eq_true, decide_eq_true_eq] at h
  omega
set_option maxRecDepth 100000 in
theorem RdK.toN {w : World} {A : Option Addr} {n : Nat} {L : List Int} (h : RdK .u64 w A n L) : RdN w A n (L.map Int.toNat) :=
  ⟨by rw [List.length_map]; exact h.1, fun hn => by
    obtain ⟨b, off, e, hlt, hc⟩ := h.2 hn
    refine ⟨b, off, e, hlt, fun j hj => ?_⟩
    rw [List.length_map] at hj
    obtain ⟨h1, h2⟩ := hc j hj
    have hw := wf_u64 h2
    rw [List.getElem_map]
    refine ⟨?_, by omega⟩
    rw [h1, show ((L[j].toNat : Nat) : Int) = L[j] from by omega]⟩
end Go.Proofs.Ytkmedbdaobficaa
