/- Slices of byte slices: where they begin and what they hold. -/
import Derived.Test.YthkkllcpogagiaaMem
import Derived.Test.YthkkllcpogagiaaBlk
namespace Go.Proofs.Ythkkllcpogagiaa
open Go.RowKit

/-- Where the slice from k on of a slice with capacity c begins. -/
def sub (A : Option Addr) (c k : Nat) : Option Addr := if c = k then A else A.map (·.add k)
set_option maxRecDepth 100000 in
theorem run_subL {P : Program} (t e : TypeId) (hu : P.underlying t = some (.slice e)) (hs : (P.info? e).map (·.size) = some 1) (A : Option Addr) (n c k : Nat) (z : Int) (hz : z = (k : Int)) (hk : k ≤ n) (w : World) :
    (Instr.sliceAt t (.slice A n c) (some (.int .i64 z)) none none).run P w = .ok (.slice (sub A c k) (n - k) (c - k)) w := by
  obtain ⟨i, hi, hsz⟩ := Option.map_eq_some_iff.1 hs
  subst hz
  have e2 : ∀ x, (Instr.sliceBound (.int .i64 (k : Int)) n x).run P w = .ok k w := by intro x; rw [run_sliceBound (h0 := by omega) (h1 := by omega)]; simp
  simp [Instr.sliceAt, Instr.slice, run_underlying hu, Instr.sliceBounds, e2, sizeOf, typeInfo, hi, hsz, sub]
set_option maxRecDepth 100000 in
theorem run_subH {P : Program} (t e : TypeId) (hu : P.underlying t = some (.slice e)) (hs : (P.info? e).map (·.size) = some 1) (A : Option Addr) (n c h : Nat) (z : Int) (hz : z = (h : Int)) (hh : h ≤ c) (w : World) :
    (Instr.sliceAt t (.slice A n c) none (some (.int .i64 z)) none).run P w = .ok (.slice (sub A c 0) h c) w := by
  obtain ⟨i, hi, hsz⟩ := Option.map_eq_some_iff.1 hs
  subst hz
  have e2 : ∀ x, (Instr.sliceBound (.int .i64 (h : Int)) c x).run P w = .ok h w := by intro x; rw [run_sliceBound (h0 := by omega) (h1 := by omega)]; simp
  simp [Instr.sliceAt, Instr.slice, run_underlying hu, Instr.sliceBounds, e2, sizeOf, typeInfo, hi, sub]
set_option maxRecDepth 100000 in
theorem run_subLH {P : Program} (t e : TypeId) (hu : P.underlying t = some (.slice e)) (hs : (P.info? e).map (·.size) = some 1) (A : Option Addr) (n c l h : Nat) (zl zh : Int) (hzl : zl = (l : Int)) (hzh : zh = (h : Int)) (hl : l ≤ h) (hh : h ≤ c) (w : World) :
    (Instr.sliceAt t (.slice A n c) (some (.int .i64 zl)) (some (.int .i64 zh)) none).run P w = .ok (.slice (sub A c l) (h - l) (c - l)) w := by
  obtain ⟨i, hi, hsz⟩ := Option.map_eq_some_iff.1 hs
  subst hzl hzh
  have e1 : ∀ x, (Instr.sliceBound (.int .i64 (h : Int)) c x).run P w = .ok h w := by intro x; rw [run_sliceBound (h0 := by omega) (h1 := by omega)]; simp
  have e2 : ∀ x, (Instr.sliceBound (.int .i64 (l : Int)) h x).run P w = .ok l w := by intro x; rw [run_sliceBound (h0 := by omega) (h1 := by omega)]; simp
  simp [Instr.sliceAt, Instr.slice, run_underlying hu, Instr.sliceBounds, e1, e2, sizeOf, typeInfo, hi, hsz, sub]
set_option maxRecDepth 100000 in
theorem Rd.drop {w : World} {A : Option Addr} {n c : Nat} {l : List UInt8} (h : Rd w A n l) (k : Nat) (hnc : n ≤ c) : Rd w (sub A c k) (n - k) (l.drop k) := by
  refine ⟨by rw [List.length_drop, h.1], fun hn => ?_⟩
  obtain ⟨b, off, rfl, hb, hc⟩ := h.2 (by omega)
  refine ⟨b, off + k, ?_, hb, fun j hj => ?_⟩
  · unfold sub
    rw [if_neg (by omega), Option.map_some, Addr.add_mid]
  · rw [List.length_drop] at hj
    rw [List.getElem_drop, Nat.add_assoc]
    exact hc (k + j) (by omega)
set_option maxRecDepth 100000 in
theorem Rd.mid {w : World} {A : Option Addr} {n c : Nat} {l : List UInt8} (h : Rd w A n l) (k e : Nat) (hnc : n ≤ c) (he : e ≤ n) : Rd w (sub A c k) (e - k) ((l.drop k).take (e - k)) :=
  (h.drop k hnc).take (by omega)
end Go.Proofs.Ythkkllcpogagiaa
