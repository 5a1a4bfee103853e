/- Words for lists of byte slices. -/
import Derived.Test.YtfnlclooneanaaaDoorMem
import Derived.Test.YtfnlclooneanaaaDoorOpen
namespace Go.Proofs.YtfnlclooneanaaaDoor
open Go.RowKit

/-- The slice of n byte slices that begins at A holds the byte lists L. -/
def RdL (w : World) (A : Option Addr) (n : Nat) (L : List (List UInt8)) : Prop :=
  L.length = n ∧ (0 < n → ∃ b off, A = some ⟨b, off, none⟩ ∧ b < w.heap.size ∧ ∀ j (h : j < L.length), ∃ A' m c', w.cell? ⟨b, off + j, none⟩ = some (.slice A' m c') ∧ m ≤ maxLen ∧ Rd w A' m L[j])
theorem RdL.len {w : World} {A : Option Addr} {n : Nat} {L : List (List UInt8)} (h : RdL w A n L) : L.length = n := h.1
theorem RdL.at_ {w : World} {A : Option Addr} {n : Nat} {L : List (List UInt8)} (h : RdL w A n L) {k : Nat} (hk : k < n) :
    ∃ b off A' m c', ∃ hl : k < L.length, A = some ⟨b, off, none⟩ ∧ w.cell? ⟨b, off + k, none⟩ = some (.slice A' m c') ∧ m ≤ maxLen ∧ Rd w A' m L[k] := by
  obtain ⟨b, off, e, hb, hc⟩ := h.2 (by omega)
  have hl : k < L.length := by have := h.1; omega
  obtain ⟨A', m, c', h1, h2, h3⟩ := hc k hl
  exact ⟨b, off, A', m, c', hl, e, h1, h2, h3⟩
theorem RdL.below {w w' : World} {A : Option Addr} {n : Nat} {L : List (List UInt8)} (h : RdL w A n L) (hb : Below w.heap.size w w') : RdL w' A n L :=
  ⟨h.1, fun hn => by
    obtain ⟨b, off, e, hlt, hc⟩ := h.2 hn
    have hs := hb.size
    refine ⟨b, off, e, by omega, fun j hj => ?_⟩
    obtain ⟨A', m, c', h1, h2, h3⟩ := hc j hj
    exact ⟨A', m, c', (hb.cell (p := ⟨b, off + j, none⟩) hlt).trans h1, h2, h3.below hb⟩⟩
theorem flat_take (L : List (List UInt8)) (t : Nat) (h : t < L.length) : (L.take (t + 1)).flatten = (L.take t).flatten ++ L[t] := by
  rw [List.take_succ_eq_append_getElem h, List.flatten_append, List.flatten_cons, List.flatten_nil, List.append_nil]
theorem flat_le (L : List (List UInt8)) (t : Nat) : (L.take t).flatten.length ≤ L.flatten.length := by
  conv => rhs; rw [← List.take_append_drop t L, List.flatten_append, List.length_append]
  omega
theorem rdl_rows {w : World} {a : Addr} {len cap : Nat} {A : Nat → Option Addr} {L C : Nat → Nat} {Z : Nat → List Int} (hl : len ≤ cap)
    (hrow : ∀ r, r < cap → w.cell? (a.add r) = some (.slice (A r) (L r) (C r)) ∧ L r ≤ C r ∧ C r ≤ maxLen ∧ (Z r).length = C r ∧ (∀ n ∈ Z r, (Lit.int .u8 n).wf = true) ∧ (A r = none → C r = 0) ∧
        ∀ a', A r = some a' → 0 ≤ a'.block ∧ ∀ c, c < C r → w.cell? (a'.add c) = some (.int .u8 ((Z r).getD c 0))) : ∃ LL, RdL w (some a) len LL := by
  refine ⟨(List.range len).map fun r => bytesOf (Z r) (L r), by simp, fun hn => ?_⟩
  obtain ⟨b, off, spot⟩ := a
  have hc := (hrow 0 (by omega)).1
  have hspot : spot = none := by simpa [Addr.add] using World.cell?_spot hc
  subst hspot
  refine ⟨b, off, rfl, lt_of_cell (a := (⟨b, off, none⟩ : Addr).add 0) hc, fun j hj => ?_⟩
  have hj' : j < len := by simpa using hj
  obtain ⟨h1, h2, h3, h4, h5, h6, h7⟩ := hrow j (by omega)
  have hp : (⟨b, off, none⟩ : Addr).add j = ⟨b, off + j, none⟩ := by unfold Addr.add; split <;> simp_all
  refine ⟨A j, L j, C j, by rw [← hp]; exact h1, by omega, ?_⟩
  rw [List.getElem_map, List.getElem_range]
  cases hA : A j with
  | none =>
    have h0 := h6 hA
    have hL : L j = 0 := by omega
    rw [hL]
    exact Rd.nil _ _
  | some x => exact rd_ints_at (fun i hi => (h7 x hA).2 i (by omega)) h2 h4 h5
end Go.Proofs.YtfnlclooneanaaaDoor
