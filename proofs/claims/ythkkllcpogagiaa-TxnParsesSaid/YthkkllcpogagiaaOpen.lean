/- A byte slice that came in, as it is read off the row's data: it holds some bytes. -/
import Derived.Test.YthkkllcpogagiaaMem
import Derived.OpenShut
namespace Go.Proofs.Ythkkllcpogagiaa
open Go.RowKit

set_option maxRecDepth 100000 in
theorem lt_of_cell {w : World} {a : Addr} {v : Value} (h : w.cell? a = some v) : a.block < w.heap.size := by
  rcases Nat.lt_or_ge a.block w.heap.size with h1 | h1
  · exact h1
  · unfold World.cell? at h
    rw [Array.getElem?_eq_none h1] at h
    simp at h

/-- The bytes of the first len numbers. -/
def bytesOf (zs : List Int) (len : Nat) : List UInt8 := (zs.take len).map fun z => UInt8.ofNat z.toNat
set_option maxRecDepth 100000 in
theorem rd_ints_at {w : World} {x : Addr} {len cap : Nat} {zs : List Int} (hcell : ∀ i, i < zs.length → w.cell? (x.add i) = some (.int .u8 (zs.getD i 0))) (hl : len ≤ cap) (hz : zs.length = cap)
    (hwz : ∀ n ∈ zs, (Lit.int .u8 n).wf = true) : Rd w (some x) len (bytesOf zs len) := by
  unfold bytesOf
  refine ⟨by simp; omega, fun hn => ?_⟩
  obtain ⟨b, off, spot⟩ := x
  have hc := hcell 0 (by omega)
  have hspot : spot = none := by simpa [Addr.add] using World.cell?_spot hc
  subst hspot
  refine ⟨b, off, rfl, lt_of_cell (a := (⟨b, off, none⟩ : Addr).add 0) hc, fun j hj => ?_⟩
  have hj' : j < zs.length := by simp at hj; omega
  have hp : (⟨b, off, none⟩ : Addr).add j = ⟨b, off + j, none⟩ := by unfold Addr.add; split <;> simp_all
  rw [← hp, hcell j hj']
  have hb := bounds_u8 (hwz zs[j] (List.getElem_mem hj'))
  simp only [List.getElem_map, List.getElem_take, List.getD, List.getElem?_eq_getElem hj', Option.getD_some]
  congr 2
  rw [UInt8.toNat_ofNat']
  omega
set_option maxRecDepth 100000 in
theorem rd_ints {w : World} {x : Addr} {len cap : Nat} {zs : List Int} (hcell : ∀ i, i < zs.length → w.cell? (x.add i) = some (.int .u8 (zs.getD i 0))) (hl : len ≤ cap) (hz : zs.length = cap)
    (hwz : ∀ n ∈ zs, (Lit.int .u8 n).wf = true) : ∃ l, Rd w (some x) len l := ⟨_, rd_ints_at hcell hl hz hwz⟩
end Go.Proofs.Ythkkllcpogagiaa
