/- Words for headers: their cells and their bytes. -/
import Derived.Test.YthpigninbeommaaCodI
namespace Go.Proofs.Ythpigninbeommaa
open Go.RowKit
set_option linter.unusedVariables false

/-- A header: its version, the hash ahead, its root, its time, its bits, its nonce. -/
structure Hd where
  v : Nat
  p : List UInt8
  r : List UInt8
  t : Nat
  b : Nat
  n : Nat
structure Hd.ok (h : Hd) : Prop where
  v : h.v < 4294967296
  p : h.p.length = 32
  r : h.r.length = 32
  t : h.t < 4294967296
  b : h.b < 4294967296
  n : h.n < 4294967296
def Hd.cells (h : Hd) : List Value := .int .u32 (h.v : Int) :: (h.p.map B8 ++ (h.r.map B8 ++ [.int .u32 (h.t : Int), .int .u32 (h.b : Int), .int .u32 (h.n : Int)]))
/-- The 80 bytes of a header. -/
def Hd.bytes (h : Hd) : List UInt8 := little h.v 4 ++ (h.p ++ (h.r ++ (little h.t 4 ++ (little h.b 4 ++ little h.n 4))))
set_option maxRecDepth 100000 in
theorem Hd.cells_len {h : Hd} (o : h.ok) : h.cells.length = 68 := by simp [Hd.cells, o.p, o.r]
set_option maxRecDepth 100000 in
theorem Hd.bytes_len {h : Hd} (o : h.ok) : h.bytes.length = 80 := by simp [Hd.bytes, o.p, o.r]
set_option maxRecDepth 100000 in
theorem Hd.one (h : Hd) : ∀ v ∈ h.cells, v.oneCell' = true := by
  intro v hv
  simp only [Hd.cells, List.mem_cons, List.mem_append, List.mem_map, List.not_mem_nil, or_false] at hv
  rcases hv with rfl | ⟨x, _, rfl⟩ | ⟨x, _, rfl⟩ | rfl | rfl | rfl <;> rfl
set_option maxRecDepth 100000 in
theorem Hd.c0 (h : Hd) : h.cells[0]? = some (.int .u32 (h.v : Int)) := rfl
set_option maxRecDepth 100000 in
theorem Hd.cp {h : Hd} (o : h.ok) (j : Nat) (hj : j < h.p.length) : h.cells[1 + j]? = some (.int .u8 (h.p[j].toNat : Int)) := by
  unfold Hd.cells
  rw [Nat.add_comm 1, List.getElem?_cons_succ, List.getElem?_append_left (by simpa using hj), List.getElem?_map, List.getElem?_eq_getElem hj]
  rfl
set_option maxRecDepth 100000 in
theorem Hd.cr {h : Hd} (o : h.ok) (j : Nat) (hj : j < h.r.length) : h.cells[33 + j]? = some (.int .u8 (h.r[j].toNat : Int)) := by
  unfold Hd.cells
  have hp := o.p
  rw [show 33 + j = (32 + j) + 1 from by omega, List.getElem?_cons_succ, List.getElem?_append_right (by simp; omega), List.length_map, hp, show 32 + j - 32 = j from by omega, List.getElem?_append_left (by simpa using hj), List.getElem?_map, List.getElem?_eq_getElem hj]
  rfl
set_option maxRecDepth 100000 in
theorem Hd.ct {h : Hd} (o : h.ok) : h.cells[65]? = some (.int .u32 (h.t : Int)) ∧ h.cells[66]? = some (.int .u32 (h.b : Int)) ∧ h.cells[67]? = some (.int .u32 (h.n : Int)) := by
  have hp := o.p
  have hr := o.r
  have key : ∀ j, h.cells[65 + j]? = [Value.int .u32 (h.t : Int), .int .u32 (h.b : Int), .int .u32 (h.n : Int)][j]? := fun j => by
    unfold Hd.cells
    rw [show 65 + j = (64 + j) + 1 from by omega, List.getElem?_cons_succ, List.getElem?_append_right (by simp; omega), List.length_map, hp, List.getElem?_append_right (by simp; omega), List.length_map, hr]
    congr 1
    omega
  exact ⟨key 0, key 1, key 2⟩
set_option maxRecDepth 100000 in
theorem little4_inj {a b : Nat} (ha : a < 4294967296) (hb : b < 4294967296) (h : little a 4 = little b 4) : a = b := by
  have := congrArg numL h
  rw [numL_little, numL_little] at this
  have e : (256 : Nat) ^ 4 = 4294967296 := by decide
  rw [e, Nat.mod_eq_of_lt ha, Nat.mod_eq_of_lt hb] at this
  exact this
set_option maxRecDepth 100000 in
/-- Two headers of the same bytes are one. -/
theorem Hd.bytes_inj {g h : Hd} (og : g.ok) (oh : h.ok) (e : g.bytes = h.bytes) : g = h := by
  obtain ⟨gv, gp, gr, gt, gb, gn⟩ := g
  obtain ⟨hv, hp, hr, ht, hb, hn⟩ := h
  unfold Hd.bytes at e
  simp only at e
  have e1 := List.append_inj e (by simp)
  have e2 := List.append_inj e1.2 (by rw [og.p, oh.p])
  have e3 := List.append_inj e2.2 (by rw [og.r, oh.r])
  have e4 := List.append_inj e3.2 (by simp)
  have e5 := List.append_inj e4.2 (by simp)
  have := little4_inj og.v oh.v e1.1
  have := little4_inj og.t oh.t e4.1
  have := little4_inj og.b oh.b e5.1
  have := little4_inj og.n oh.n e5.2
  have := e2.1
  have := e3.1
  simp_all
end Go.Proofs.Ythpigninbeommaa
