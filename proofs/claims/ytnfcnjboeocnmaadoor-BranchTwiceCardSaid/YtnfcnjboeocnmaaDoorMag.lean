/- Merged texts: ShaT. -/
import Derived.Test.YtnfcnjboeocnmaaDoorMaf
import Derived.Deep.RegionWith
/- Words for the package-level tables; small facts on states in memory. -/
namespace Go.Proofs.YtnfcnjboeocnmaaDoor
open Go.RowKit
set_option linter.unusedVariables false
attribute [local go_sem] size_setCells

/-- The package-level tables hold what the document says. -/
def Tab (w : World) : Prop := w.rangeAt 1 0 (kk.map W32) ∧ w.rangeAt 0 0 h0.vals
set_option maxRecDepth 100000 in
theorem range_lt {w : World} {b o : Nat} {cs : List Value} (h : w.rangeAt b o cs) (hc : 0 < cs.length) : b < w.heap.size :=
  World.block_lt_of_cell? w ⟨b, o + 0, none⟩ (h 0 cs[0] (List.getElem?_eq_getElem hc))
set_option maxRecDepth 100000 in
theorem range_below {B : Nat} {w w' : World} {b o : Nat} {cs : List Value} (h : w.rangeAt b o cs) (hb : Below B w w') (hlt : b < B) : w'.rangeAt b o cs := fun j v hv =>
  (hb.cell (p := ⟨b, o + j, none⟩) hlt).trans (h j v hv)
set_option maxRecDepth 100000 in
theorem Tab.lt {w : World} (h : Tab w) : 1 < w.heap.size ∧ 0 < w.heap.size := ⟨range_lt h.1 (by decide), range_lt h.2 (by decide)⟩
set_option maxRecDepth 100000 in
theorem Tab.below {B : Nat} {w w' : World} (h : Tab w) (hb : Below B w w') (h0 : 1 < B) (h1 : 0 < B) : Tab w' := ⟨range_below h.1 hb h0, range_below h.2 hb h1⟩
set_option maxRecDepth 100000 in
theorem Tab.all {w w' : World} (h : Tab w) (hb : Below w.heap.size w w') : Tab w' := h.below hb h.lt.1 h.lt.2
set_option maxRecDepth 100000 in
theorem i8 : (Tryd.prog.info? 77).map (·.size) = some 8 := by kernel_rfl
set_option maxRecDepth 100000 in
theorem ib64 : (Tryd.prog.info? 80).map (·.size) = some 64 := by kernel_rfl
set_option maxRecDepth 100000 in
theorem vals_one (s : St) : ∀ v ∈ s.vals, v.oneCell' = true := fun v hv => by
  simp only [St.vals, List.mem_map] at hv
  obtain ⟨x, _, rfl⟩ := hv
  rfl
set_option maxRecDepth 100000 in
theorem w32_one (l : List Nat) : ∀ v ∈ l.map W32, v.oneCell' = true := fun v hv => by
  simp only [List.mem_map] at hv
  obtain ⟨x, _, rfl⟩ := hv
  rfl
set_option maxRecDepth 100000 in
theorem map_at (l : List Nat) (t : Nat) (h : t < l.length) : (l.map W32)[t]? = some (.int .u32 (l.getD t 0 : Int)) := by
  simp [W32, List.getElem?_eq_getElem h, List.getD]
/-- The first k words of a sum, then those of the first state. -/
def addp (s r : List Nat) (k : Nat) : List Nat := (List.range 8).map fun j => if j < k then (s.getD j 0 + r.getD j 0) % 4294967296 else s.getD j 0
set_option maxRecDepth 100000 in
theorem addp_at (s r : St) (k : Nat) (hk : k < 8) : ((addp s.list r.list k).map W32)[k]? = some (.int .u32 (s.list.getD k 0 : Int)) := by
  simp [addp, hk, W32]
set_option maxRecDepth 100000 in
theorem addp_set (s r : St) (k : Nat) (hk : k < 8) : ((addp s.list r.list k).map W32).set k (W32 ((s.list.getD k 0 + r.list.getD k 0) % 4294967296)) = (addp s.list r.list (k + 1)).map W32 := by
  rw [← List.map_set]
  congr 1
  apply List.ext_getElem
  · simp [addp]
  · intro j h1 h2
    rw [List.getElem_set]
    simp only [addp, List.getElem_map, List.getElem_range]
    by_cases e : k = j
    · subst e; simp
    · rw [if_neg e]
      by_cases hj : j < k
      · rw [if_pos hj, if_pos (by omega)]
      · rw [if_neg hj, if_neg (by omega)]
set_option maxRecDepth 100000 in
theorem vals_len (s : St) : s.vals.length = 8 := rfl
set_option maxRecDepth 100000 in
theorem list_len (s : St) : s.list.length = 8 := rfl
set_option maxRecDepth 100000 in
theorem addp_zero (s r : St) : (addp s.list r.list 0).map W32 = s.vals := by
  have h : addp s.list r.list 0 = s.list := by
    apply List.ext_getElem
    · simp [addp, list_len]
    · intro j h1 h2
      simp only [addp, List.getElem_map, List.getElem_range, Nat.not_lt_zero, if_false]
      simp [List.getD, List.getElem?_eq_getElem h2]
  rw [h]
  rfl
set_option maxRecDepth 100000 in
theorem addp_all (s r : St) : (addp s.list r.list 8).map W32 = (s.add r).vals := by
  have h : addp s.list r.list 8 = (s.add r).list := by
    obtain ⟨a, b, c, d, e, f, g, h⟩ := s
    obtain ⟨a', b', c', d', e', f', g', h'⟩ := r
    simp [addp, St.add, St.list, List.range, List.range.loop]
  rw [h]
  rfl
set_option maxRecDepth 100000 in
theorem wall_len (B : List UInt8) : (wall B).length = 64 := by simp [wall]

end Go.Proofs.YtnfcnjboeocnmaaDoor
