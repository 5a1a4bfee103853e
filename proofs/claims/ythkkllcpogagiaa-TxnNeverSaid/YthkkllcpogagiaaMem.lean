/- Words for byte slices in memory: what a slice that is read holds (Rd), what a slice that a call made holds (Own), and how both are carried from world to world. -/
import Derived.Test.YthkkllcpogagiaaProg
import Derived.WalkKit
import Derived.Below
import Derived.Laws.OwnMore
import Derived.Laws.IdiomStrings
import Derived.Laws.BytesArg
import Derived.Deep.OwnRows
import Derived.Deep.Draws
import Derived.Deep.AppendLies
namespace Go.Proofs.Ythkkllcpogagiaa
open Go.RowKit

set_option maxRecDepth 100000 in
theorem info8 : (Try.prog.info? 5).map (fun i => (i.zero, i.size, i.bytes)) = some (some (.int .u8 0), 1, 1) := by kernel_rfl

/-- A byte as a cell holds it. -/
def B8 (c : UInt8) : Value := .int .u8 (c.toNat : Int)

/-- The slice of n bytes that begins at A holds the bytes l. -/
def Rd (w : World) (A : Option Addr) (n : Nat) (l : List UInt8) : Prop :=
  l.length = n ∧ (0 < n → ∃ b off, A = some ⟨b, off, none⟩ ∧ b < w.heap.size ∧ ∀ j (h : j < l.length), w.cell? ⟨b, off + j, none⟩ = some (.int .u8 (l[j].toNat : Int)))

set_option maxRecDepth 100000 in
theorem Rd.len {w : World} {A : Option Addr} {n : Nat} {l : List UInt8} (h : Rd w A n l) : l.length = n := h.1
set_option maxRecDepth 100000 in
theorem Rd.nil (w : World) (A : Option Addr) : Rd w A 0 [] := ⟨rfl, fun h => absurd h (by omega)⟩
set_option maxRecDepth 100000 in
theorem Rd.at_ {w : World} {A : Option Addr} {n : Nat} {l : List UInt8} (h : Rd w A n l) {k : Nat} (hk : k < n) :
    ∃ b off, ∃ hl : k < l.length, A = some ⟨b, off, none⟩ ∧ b < w.heap.size ∧ w.cell? ⟨b, off + k, none⟩ = some (.int .u8 (l[k].toNat : Int)) := by
  obtain ⟨b, off, e, hb, hc⟩ := h.2 (by omega)
  have hl : k < l.length := by have := h.1; omega
  exact ⟨b, off, hl, e, hb, hc k hl⟩
set_option maxRecDepth 100000 in
theorem Rd.keep {w w' : World} {A : Option Addr} {n : Nat} {l : List UInt8} (h : Rd w A n l) (hs : w.heap.size ≤ w'.heap.size)
    (hk : ∀ p : Addr, p.block < w.heap.size → w'.cell? p = w.cell? p) : Rd w' A n l :=
  ⟨h.1, fun hn => by
    obtain ⟨b, off, e, hb, hc⟩ := h.2 hn
    exact ⟨b, off, e, by omega, fun j hj => (hk _ hb).trans (hc j hj)⟩⟩
set_option maxRecDepth 100000 in
theorem Rd.below {w w' : World} {A : Option Addr} {n : Nat} {l : List UInt8} (h : Rd w A n l) (hb : Below w.heap.size w w') : Rd w' A n l :=
  h.keep hb.size fun _ hp => hb.cell hp
set_option maxRecDepth 100000 in
theorem Rd.drewN {w : World} {A : Option Addr} {n : Nat} {l : List UInt8} (h : Rd w A n l) (k : Nat) : Rd (w.drewN k) A n l := h
set_option maxRecDepth 100000 in
theorem Rd.take {w : World} {A : Option Addr} {n : Nat} {l : List UInt8} (h : Rd w A n l) {k : Nat} (hk : k ≤ n) : Rd w A k (l.take k) := by
  have hl := h.1
  refine ⟨by rw [List.length_take]; omega, fun hn => ?_⟩
  obtain ⟨b, off, e, hb, hc⟩ := h.2 (by omega)
  refine ⟨b, off, e, hb, fun j hj => ?_⟩
  rw [List.length_take] at hj
  rw [List.getElem_take]
  exact hc j (by omega)

/-- The slice of n bytes that begins at A was made by the call (its block is not below base) and holds the bytes l. -/
def Own (w : World) (base : Nat) (A : Option Addr) (n c : Nat) (l : List UInt8) : Prop := l.length = n ∧ w.ownsRow base 5 1 (.slice A n c) n (l.map B8)

set_option maxRecDepth 100000 in
theorem Own.len {w : World} {base n c : Nat} {A : Option Addr} {l : List UInt8} (h : Own w base A n c l) : l.length = n := h.1
set_option maxRecDepth 100000 in
theorem Own.rd {w : World} {base n c : Nat} {A : Option Addr} {l : List UInt8} (h : Own w base A n c l) : Rd w A n l := by
  obtain ⟨hl, h⟩ := h
  refine ⟨hl, fun hn => ?_⟩
  obtain ⟨g, cap, hv, _, hlt⟩ := World.ownsRow.form h hn
  have hA : A = some ⟨g, 0, none⟩ := by injection hv
  subst hA
  refine ⟨g, 0, rfl, hlt, fun j hj => ?_⟩
  have := World.ownsRow.cellAt h j (by omega)
  rw [Nat.zero_add, this]
  simp [List.getElem?_eq_getElem hj, B8]
set_option maxRecDepth 100000 in
theorem Own.cell {w : World} {base n c g : Nat} {l : List UInt8} (h : Own w base (some ⟨g, 0, none⟩) n c l) {k : Nat} (hk : k < l.length) : w.cell? ⟨g, k, none⟩ = some (.int .u8 (l[k].toNat : Int)) := by
  have := World.ownsRow.cellAt h.2 k (by have := h.1; omega)
  rw [this]
  simp [List.getElem?_eq_getElem hk, B8]
set_option maxRecDepth 100000 in
theorem Own.free {w : World} {base n c g : Nat} {l : List UInt8} (h : Own w base (some ⟨g, 0, none⟩) n c l) (k : Nat) : w.frozen? ⟨g, k, none⟩ = false := World.ownsRow.frozenAt h.2 k

set_option maxRecDepth 100000 in
theorem map_set_B8 (l : List UInt8) (j : Nat) (c : UInt8) : (l.map B8).set j (B8 c) = (l.set j c).map B8 := by rw [List.map_set]

set_option maxRecDepth 100000 in
theorem Own.set {w : World} {base g n cap : Nat} {l : List UInt8} (h : Own w base (some ⟨g, 0, none⟩) n cap l) (j : Nat) (c : UInt8) :
    Own (w.setCell ⟨g, j, none⟩ (.int .u8 (c.toNat : Int))) base (some ⟨g, 0, none⟩) n cap (l.set j c) := by
  refine ⟨by rw [List.length_set]; exact h.1, ?_⟩
  have := (World.ownsRow.stored h.2 j (B8 c)).1
  rw [map_set_B8] at this
  exact this

set_option maxRecDepth 100000 in
theorem Own.made (w : World) (n : Nat) (hn : n ≤ maxLen) : Own (w.alloc (.cells (madeCells #[.int .u8 0] n) 5)) w.heap.size (some ⟨w.heap.size, 0, none⟩) n n (List.replicate n 0) := by
  refine ⟨List.length_replicate, ?_⟩
  have := World.ownsRow_lit (base := w.heap.size) (e := 5) (size := 1) w (madeCells #[.int .u8 0] n) n (Nat.le_refl _) hn (by rw [size_madeCells, Nat.mul_one])
  rw [toList_madeCells_one] at this
  rw [List.map_replicate]
  exact this

set_option maxRecDepth 100000 in
theorem run_mk8 (n : Nat) (hn : n ≤ 281474976710656) (w : World) :
    (Instr.makeSlice 22 (.int .i64 (n : Int)) (.int .i64 (n : Int))).run Try.prog w = .ok (.slice (some ⟨w.heap.size, 0, none⟩) n n) (w.alloc (.cells (madeCells #[.int .u8 0] n) 5)) :=
  run_make_row' 22 5 (.int .u8 0) 1 Try.underlying22 info8 rfl .i64 .i64 n (by omega) (by omega) w

/-- What a call that makes a byte slice ends in: the slice holds l, and nothing that was there has changed. -/
def Mk (w : World) (l : List UInt8) (e : Ending) (w' : World) : Prop :=
  ∃ A n c, e = .returned (.slice A n c) ∧ Own w' w.heap.size A n c l ∧ Below w.heap.size w w'
end Go.Proofs.Ythkkllcpogagiaa
