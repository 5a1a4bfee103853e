/- Merged texts: Blk Blk2 Sub. -/
import Derived.Test.YthkkllcpogagiaaMaa
import Derived.Deep.MidRow
import Derived.Deep.WholeRow
import Derived.Laws.OwnMore
/- Words for blocks that a call made: what a block holds, and how that is carried from world to world. -/
namespace Go.Proofs.Ythkkllcpogagiaa
open Go.RowKit
set_option linter.unusedVariables false

/-- The block g holds the cells cs, none of them frozen. -/
def Blk (w : World) (g : Nat) (cs : List Value) (t : TypeId) : Prop := w.heap[g]? = some (.cells cs.toArray t (0, 0))

set_option maxRecDepth 100000 in
theorem Blk.lt {w : World} {g : Nat} {cs : List Value} {t : TypeId} (h : Blk w g cs t) : g < w.heap.size := (Array.getElem?_eq_some_iff.1 h).1
set_option maxRecDepth 100000 in
theorem Blk.cell {w : World} {g : Nat} {cs : List Value} {t : TypeId} (h : Blk w g cs t) (j : Nat) : w.cell? ⟨g, j, none⟩ = cs[j]? := by
  rw [cell_of_row w g j _ t (0, 0) h]; simp
set_option maxRecDepth 100000 in
theorem Blk.free {w : World} {g : Nat} {cs : List Value} {t : TypeId} (h : Blk w g cs t) (j : Nat) : w.frozen? ⟨g, j, none⟩ = false := frozen_of_row w g j _ t h
set_option maxRecDepth 100000 in
theorem Blk.range {w : World} {g : Nat} {cs : List Value} {t : TypeId} (h : Blk w g cs t) : w.rangeAt g 0 cs := fun j v hv => by rw [Nat.zero_add, h.cell j, hv]
set_option maxRecDepth 100000 in
theorem Blk.mid {w : World} {g : Nat} {cs : List Value} {t : TypeId} (h : Blk w g cs t) (o n : Nat) : w.rangeAt g o ((cs.drop o).take n) := fun j v hv => by
  rw [h.cell]
  rw [List.getElem?_take] at hv
  split at hv
  · rw [List.getElem?_drop] at hv; exact hv
  · cases hv
set_option maxRecDepth 100000 in
theorem Blk.there {w : World} {g : Nat} {cs : List Value} {t : TypeId} (h : Blk w g cs t) (o n : Nat) (hn : o + n ≤ cs.length) : w.there g o n := fun j hj => by
  rw [h.cell]
  exact ⟨by simp; omega, h.free _⟩
set_option maxRecDepth 100000 in
theorem Blk.set {w : World} {g : Nat} {cs : List Value} {t : TypeId} (h : Blk w g cs t) (i : Nat) (v : Value) : Blk (w.setCell ⟨g, i, none⟩ v) g (cs.set i v) t := by
  have := heap_setCell_same w g i _ t v h
  rw [List.setIfInBounds_toArray] at this
  exact this
set_option maxRecDepth 100000 in
theorem Blk.set_other {w : World} {g : Nat} {cs : List Value} {t : TypeId} (h : Blk w g cs t) (a : Addr) (v : Value) (hne : g ≠ a.block) : Blk (w.setCell a v) g cs t :=
  (heap_setCell_other w a g v hne).trans h
set_option maxRecDepth 100000 in
theorem Blk.below {B : Nat} {w w' : World} {g : Nat} {cs : List Value} {t : TypeId} (h : Blk w g cs t) (hb : Below B w w') (hg : g < B) : Blk w' g cs t := (hb.block g hg).trans h
set_option maxRecDepth 100000 in
theorem Blk.alloc {w : World} {g : Nat} {cs : List Value} {t : TypeId} (h : Blk w g cs t) (o : Obj) : Blk (w.alloc o) g cs t := (heap_alloc_old w o h.lt).trans h
set_option maxRecDepth 100000 in
theorem Blk.drew {w : World} {g : Nat} {cs : List Value} {t : TypeId} (h : Blk w g cs t) : Blk w.drew g cs t := h
set_option maxRecDepth 100000 in
theorem Blk.drewN {w : World} {g : Nat} {cs : List Value} {t : TypeId} (h : Blk w g cs t) (n : Nat) : Blk (w.drewN n) g cs t := h
set_option maxRecDepth 100000 in
theorem Blk.new (w : World) (cs : Array Value) (t : TypeId) : Blk (w.alloc (.cells cs t)) w.heap.size cs.toList t := by
  have := heap_alloc_new w (.cells cs t)
  simpa [Blk] using this
set_option maxRecDepth 100000 in
theorem Blk.new' (w : World) (cs : Array Value) (t : TypeId) (g : Nat) (hg : w.heap.size = g) : Blk (w.alloc (.cells cs t)) g cs.toList t := hg ▸ Blk.new w cs t
/-- list with a part written over. -/
def over (L : List Value) (o : Nat) (vs : List Value) : List Value := L.take o ++ vs ++ L.drop (o + vs.length)
set_option maxRecDepth 100000 in
theorem set_over (v : Value) (vs : List Value) : ∀ (L : List Value) (o : Nat), o + (v :: vs).length ≤ L.length → over (L.set o v) (o + 1) vs = over L o (v :: vs) := by
  intro L o h
  simp only [List.length_cons] at h
  unfold over
  rw [List.take_set, List.length_cons, show o + 1 + vs.length = o + (vs.length + 1) from by omega, List.drop_set_of_lt (by omega)]
  rw [List.take_succ_eq_append_getElem (by omega : o < L.length), List.set_append_right _ _ (by simp; omega)]
  simp [Nat.min_eq_left (by omega : o ≤ L.length)]
set_option maxRecDepth 100000 in
theorem Blk.setCells {g : Nat} {t : TypeId} : ∀ (vs : List Value) (w : World) (cs : List Value) (o : Nat), Blk w g cs t → o + vs.length ≤ cs.length → Blk (w.setCells g o vs) g (over cs o vs) t
  | [], w, cs, o, h, _ => by simpa [over, World.setCells] using h
  | v :: vs, w, cs, o, h, hl => by
    rw [World.setCells, ← set_over v vs cs o hl]
    exact Blk.setCells vs _ _ _ (h.set o v) (by simp at hl ⊢; omega)
set_option maxRecDepth 100000 in
theorem Blk.setCells_other {g b : Nat} {t : TypeId} {cs : List Value} (hne : g ≠ b) : ∀ (vs : List Value) (w : World) (o : Nat), Blk w g cs t → Blk (w.setCells b o vs) g cs t
  | [], _, _, h => h
  | v :: vs, w, o, h => Blk.setCells_other hne vs _ _ (h.set_other ⟨b, o, none⟩ v hne)
set_option maxRecDepth 100000 in
theorem below_setCells {B b : Nat} (hb : B ≤ b) : ∀ (vs : List Value) (a w : World) (o : Nat), Below B a w → Below B a (w.setCells b o vs)
  | [], _, _, _, h => h
  | v :: vs, a, w, o, h => below_setCells hb vs a _ _ (h.setCell (p := ⟨b, o, none⟩) hb v)
set_option maxRecDepth 100000 in
@[simp] theorem size_setCells (b : Nat) : ∀ (vs : List Value) (w : World) (o : Nat), (w.setCells b o vs).heap.size = w.heap.size
  | [], _, _ => rfl
  | v :: vs, w, o => by rw [World.setCells, size_setCells b vs]; simp
set_option maxRecDepth 100000 in
theorem over_all (L vs : List Value) (h : L.length = vs.length) : over L 0 vs = vs := by simp [over, ← h]
set_option maxRecDepth 100000 in
/-- The bytes of a block are bytes that a slice of it reads. -/
theorem Blk.rd {w : World} {g : Nat} {cs : List Value} {t : TypeId} (h : Blk w g cs t) (o n : Nat) (l : List UInt8) (hl : l.length = n) (hc : ∀ j (hj : j < l.length), cs[o + j]? = some (.int .u8 (l[j].toNat : Int))) :
    Rd w (some ⟨g, o, none⟩) n l :=
  ⟨hl, fun _ => ⟨g, o, rfl, h.lt, fun j hj => by rw [h.cell, hc j hj]⟩⟩

/-! Slices of an array that lies in a block, of one-cell elements. -/
set_option maxRecDepth 100000 in
theorem run_sl_lh {P : Program} (t e : TypeId) (N : Nat) (hu : P.underlying t = some (.array N e)) (hs : (P.info? e).map (·.size) = some 1) (g o l h : Nat) (zl zh : Int) (hzl : zl = l) (hzh : zh = h) (h1 : l < h) (h2 : h ≤ N) (w : World) :
    (Instr.sliceAt t (.pointer (some ⟨g, o, none⟩)) (some (.int .i64 zl)) (some (.int .i64 zh)) none).run P w = .ok (.slice (some ⟨g, o + l, none⟩) (h - l) (N - l)) w := by
  subst hzl hzh
  obtain ⟨i, hi, hsz⟩ := Option.map_eq_some_iff.1 hs
  have e1 : (Instr.sliceBound (.int .i64 (h : Int)) N .sliceAlen).run P w = .ok h w := by rw [run_sliceBound (h0 := by omega) (h1 := by omega)]; simp
  have e2 : (Instr.sliceBound (.int .i64 (l : Int)) h .sliceB).run P w = .ok l w := by rw [run_sliceBound (h0 := by omega) (h1 := by omega)]; simp
  simp [Instr.sliceAt, Instr.sureAddr, run_underlying hu, Instr.sliceBounds, e1, e2, sizeOf, typeInfo, hi, hsz, Addr.add_mid, show ¬ N = l from by omega]
set_option maxRecDepth 100000 in
theorem run_sl_l {P : Program} (t e : TypeId) (N : Nat) (hu : P.underlying t = some (.array N e)) (hs : (P.info? e).map (·.size) = some 1) (g o l : Nat) (zl : Int) (hzl : zl = l) (h1 : l < N) (w : World) :
    (Instr.sliceAt t (.pointer (some ⟨g, o, none⟩)) (some (.int .i64 zl)) none none).run P w = .ok (.slice (some ⟨g, o + l, none⟩) (N - l) (N - l)) w := by
  subst hzl
  obtain ⟨i, hi, hsz⟩ := Option.map_eq_some_iff.1 hs
  have e2 : ∀ c, (Instr.sliceBound (.int .i64 (l : Int)) N c).run P w = .ok l w := by intro c; rw [run_sliceBound (h0 := by omega) (h1 := by omega)]; simp
  simp [Instr.sliceAt, Instr.sureAddr, run_underlying hu, Instr.sliceBounds, e2, sizeOf, typeInfo, hi, hsz, Addr.add_mid, show ¬ N = l from by omega]
set_option maxRecDepth 100000 in
theorem run_sl_all {P : Program} (t e : TypeId) (N : Nat) (hu : P.underlying t = some (.array N e)) (hs : (P.info? e).map (·.size) = some 1) (g o : Nat) (h1 : 0 < N) (w : World) :
    (Instr.sliceAt t (.pointer (some ⟨g, o, none⟩)) none none none).run P w = .ok (.slice (some ⟨g, o, none⟩) N N) w := by
  obtain ⟨i, hi, hsz⟩ := Option.map_eq_some_iff.1 hs
  simp [Instr.sliceAt, Instr.sureAddr, run_underlying hu, Instr.sliceBounds, sizeOf, typeInfo, hi, Addr.add_mid]
/-- Nothing but block g has changed, and no block is new. -/
structure Only (g : Nat) (w w2 : World) : Prop where
  os : w2.os = w.os
  tape : w2.tape = w.tape
  output : w2.output = w.output
  size : w2.heap.size = w.heap.size
  block : ∀ i, i ≠ g → w2.heap[i]? = w.heap[i]?
set_option maxRecDepth 100000 in
theorem Only.refl (g : Nat) (w : World) : Only g w w := ⟨rfl, rfl, rfl, rfl, fun _ _ => rfl⟩
set_option maxRecDepth 100000 in
theorem Only.set {g : Nat} {w w2 : World} (h : Only g w w2) (o : Nat) (v : Value) : Only g w (w2.setCell ⟨g, o, none⟩ v) :=
  ⟨h.os, h.tape, h.output, by rw [← h.size]; simp, fun i hi => by rw [heap_setCell_other w2 ⟨g, o, none⟩ i v hi]; exact h.block i hi⟩
set_option maxRecDepth 100000 in
theorem Only.setCells {g : Nat} : ∀ (vs : List Value) (w w2 : World) (o : Nat), Only g w w2 → Only g w (w2.setCells g o vs)
  | [], _, _, _, h => h
  | v :: vs, w, _, o, h => Only.setCells vs w _ _ (h.set o v)
set_option maxRecDepth 100000 in
theorem Only.blk {g i : Nat} {w w2 : World} {cs : List Value} {t : TypeId} (h : Only g w w2) (hb : Blk w i cs t) (hi : i ≠ g) : Blk w2 i cs t := (h.block i hi).trans hb
set_option maxRecDepth 100000 in
theorem Only.below {g B : Nat} {w w2 : World} (h : Only g w w2) (hB : B ≤ g) : Below B w w2 := ⟨h.os, h.tape, h.output, by rw [h.size]; exact Nat.le_refl _, fun i hi => h.block i (by omega)⟩
set_option maxRecDepth 100000 in
/-- A whole array or struct is stored into its block. -/
theorem wpList_store_blk {P : Program} {ops : Array Oper} {rest : List Oper} {op : Oper} {a : Act} {w : World} {Q : Exit → Act → World → Prop} (hgd : op.guard = none) (ty : TypeId) (x y : Operand) (ho : op.op = .store ty x y)
    (g : Nat) (cs0 cells : List Value) (t : TypeId) (hx : a.eval x = .pointer (some ⟨g, 0, none⟩)) (hy : a.eval y = .agg cells.toArray) (hb : Blk w g cs0 t) (hl : cs0.length = cells.length)
    (hi : (P.info? ty).map (·.size) = some cells.length) (h1 : ∀ v ∈ cells, v.oneCell' = true)
    (h : ∀ w2, Blk w2 g cells t → Only g w w2 → wpList P ops Q rest (a.put op.dst undef) w2) : wpList P ops Q (op :: rest) a w := by
  refine wpList_store_mid hgd ty x y ho g 0 cells.toArray hx hy (hb.there 0 _ (by rw [List.size_toArray]; omega)) (by rw [List.size_toArray]; exact hi) (all_oneCell_toArray h1) ?_
  have hs := Blk.setCells cells w cs0 0 hb (by omega)
  rw [over_all _ _ hl] at hs
  exact h _ hs (Only.setCells _ _ _ _ (Only.refl g w))
/-! Guards: the next operation of a plain region is this store, this load. -/
set_option maxRecDepth 100000 in
theorem at_store {P : Program} {ops : Array Oper} {rest : List Oper} {Q : Exit → Act → World → Prop} {a : Act} {w : World} {dst : Option Tmp} {t : TypeId} {p : String} {af : Array Edge} (ty : TypeId) (x y : Operand)
    (h : wpList P ops Q ({ dst := dst, op := .store ty x y, type := t, pos := p, after := af, guard := none } :: rest) a w) : wpList P ops Q ({ dst := dst, op := .store ty x y, type := t, pos := p, after := af, guard := none } :: rest) a w := h
set_option maxRecDepth 100000 in
theorem at_load {P : Program} {ops : Array Oper} {rest : List Oper} {Q : Exit → Act → World → Prop} {a : Act} {w : World} {dst : Option Tmp} {t : TypeId} {p : String} {af : Array Edge} (ty : TypeId) (x : Operand)
    (h : wpList P ops Q ({ dst := dst, op := .load ty x, type := t, pos := p, after := af, guard := none } :: rest) a w) : wpList P ops Q ({ dst := dst, op := .load ty x, type := t, pos := p, after := af, guard := none } :: rest) a w := h
set_option maxRecDepth 100000 in
theorem size8 : (Try.prog.info? 5).map (·.size) = some 1 := by kernel_rfl
end Go.Proofs.Ythkkllcpogagiaa

/- Loads and stores of whole arrays by what their blocks hold. -/
namespace Go.Proofs.Ythkkllcpogagiaa
open Go.RowKit
set_option linter.unusedVariables false

set_option maxRecDepth 100000 in
/-- An element of an array value, of one-cell elements. -/
theorem run_idx {P : Program} (t e : TypeId) (N : Nat) (hu : P.underlying t = some (.array N e)) (k : IntKind) (hue : P.underlying e = some (.int k)) (hs : (P.info? e).map (·.size) = some 1) (cs : List Value) (i : Nat) (v : Value) (hi : i < N) (hv : cs[i]? = some v) (w : World) :
    (Instr.index t (.agg cs.toArray) (.int .i64 (i : Int))).run P w = .ok v w := by
  obtain ⟨inf, hinf, hsz⟩ := Option.map_eq_some_iff.1 hs
  simp [Instr.index, asIntOf, run_underlying hu, run_underlying hue, sizeOf, typeInfo, hinf, hsz, hi, part, isAgg, hv]
set_option maxRecDepth 100000 in
theorem run_ld {P : Program} {w : World} {g : Nat} {cs : List Value} {t : TypeId} (h : Blk w g cs t) (ty : TypeId) (d : TypeDesc) (hu : P.underlying ty = some d) (hd : d.isRow = true) (hi : (P.info? ty).map (·.size) = some cs.length) :
    (Instr.loadAt ty (.pointer (some ⟨g, 0, none⟩))).run P w = .ok (.agg cs.toArray) w := run_loadAt_mid w g 0 ty cs d h.range hu hd hi
set_option maxRecDepth 100000 in
theorem run_st {P : Program} {w : World} {g : Nat} {cs : List Value} {t : TypeId} (h : Blk w g cs t) (ty : TypeId) (cells : List Value) (hl : cells.length = cs.length) (hi : (P.info? ty).map (·.size) = some cells.length) (h1 : ∀ v ∈ cells, v.oneCell' = true) :
    (Instr.storeAt ty (.pointer (some ⟨g, 0, none⟩)) (.agg cells.toArray)).run P w = .ok () (w.setCells g 0 cells) :=
  run_storeAt_mid w g 0 ty cells.toArray (h.there 0 _ (by rw [List.size_toArray]; omega)) (by rw [List.size_toArray]; exact hi) (all_oneCell_toArray h1)
set_option maxRecDepth 100000 in
theorem run_stc {P : Program} {w : World} {g : Nat} {cs : List Value} {t : TypeId} (h : Blk w g cs t) (vs : List Value) (hl : vs.length = cs.length) (h1 : ∀ v ∈ vs, v.oneCell' = true) :
    (storeCells ⟨g, 0, none⟩ vs).run P w = .ok () (w.setCells g 0 vs) := by
  have := run_storeCells_cells (P := P) g 0 vs 0 w (fun j hj => by have := (h.there 0 vs.length (by omega) j hj).1; simpa using this) (fun j hj => by have := (h.there 0 vs.length (by omega) j hj).2; simpa using this) h1
  simpa using this
end Go.Proofs.Ythkkllcpogagiaa

/- Slices of byte slices: where they begin and what they hold. -/
namespace Go.Proofs.Ythkkllcpogagiaa
open Go.RowKit

/-- Where the slice from k on of a slice with capacity c begins. -/
def sub (A : Option Addr) (c k : Nat) : Option Addr := if c = k then A else A.map (·.add k)
set_option maxRecDepth 100000 in
theorem run_subL {P : Program} (t e : TypeId) (hu : P.underlying t = some (.slice e)) (hs : (P.info? e).map (·.size) = some 1) (A : Option Addr) (n c k : Nat) (z : Int) (hz : z = (k : Int)) (hk : k ≤ n) (w : World) :
    (Instr.sliceAt t (.slice A n c) (some (.int .i64 z)) none none).run P w = .ok (.slice (sub A c k) (n - k) (c - k)) w := by
  obtain ⟨i, hi, hsz⟩ := Option.map_eq_some_iff.1 hs
  subst hz
  have e2 : ∀ x, (Instr.sliceBound (.int .i64 (k : Int)) n x).run P w = .ok k w := by intro x; rw [run_sliceBound (h0 := by omega) (h1 := by omega)]; simp
  simp [Instr.sliceAt, Instr.slice, run_underlying hu, Instr.sliceBounds, e2, sizeOf, typeInfo, hi, hsz, sub]
set_option maxRecDepth 100000 in
theorem run_subH {P : Program} (t e : TypeId) (hu : P.underlying t = some (.slice e)) (hs : (P.info? e).map (·.size) = some 1) (A : Option Addr) (n c h : Nat) (z : Int) (hz : z = (h : Int)) (hh : h ≤ c) (w : World) :
    (Instr.sliceAt t (.slice A n c) none (some (.int .i64 z)) none).run P w = .ok (.slice (sub A c 0) h c) w := by
  obtain ⟨i, hi, hsz⟩ := Option.map_eq_some_iff.1 hs
  subst hz
  have e2 : ∀ x, (Instr.sliceBound (.int .i64 (h : Int)) c x).run P w = .ok h w := by intro x; rw [run_sliceBound (h0 := by omega) (h1 := by omega)]; simp
  simp [Instr.sliceAt, Instr.slice, run_underlying hu, Instr.sliceBounds, e2, sizeOf, typeInfo, hi, sub]
set_option maxRecDepth 100000 in
theorem run_subLH {P : Program} (t e : TypeId) (hu : P.underlying t = some (.slice e)) (hs : (P.info? e).map (·.size) = some 1) (A : Option Addr) (n c l h : Nat) (zl zh : Int) (hzl : zl = (l : Int)) (hzh : zh = (h : Int)) (hl : l ≤ h) (hh : h ≤ c) (w : World) :
    (Instr.sliceAt t (.slice A n c) (some (.int .i64 zl)) (some (.int .i64 zh)) none).run P w = .ok (.slice (sub A c l) (h - l) (c - l)) w := by
  obtain ⟨i, hi, hsz⟩ := Option.map_eq_some_iff.1 hs
  subst hzl hzh
  have e1 : ∀ x, (Instr.sliceBound (.int .i64 (h : Int)) c x).run P w = .ok h w := by intro x; rw [run_sliceBound (h0 := by omega) (h1 := by omega)]; simp
  have e2 : ∀ x, (Instr.sliceBound (.int .i64 (l : Int)) h x).run P w = .ok l w := by intro x; rw [run_sliceBound (h0 := by omega) (h1 := by omega)]; simp
  simp [Instr.sliceAt, Instr.slice, run_underlying hu, Instr.sliceBounds, e1, e2, sizeOf, typeInfo, hi, hsz, sub]
set_option maxRecDepth 100000 in
theorem Rd.drop {w : World} {A : Option Addr} {n c : Nat} {l : List UInt8} (h : Rd w A n l) (k : Nat) (hnc : n ≤ c) : Rd w (sub A c k) (n - k) (l.drop k) := by
  refine ⟨by rw [List.length_drop, h.1], fun hn => ?_⟩
  obtain ⟨b, off, rfl, hb, hc⟩ := h.2 (by omega)
  refine ⟨b, off + k, ?_, hb, fun j hj => ?_⟩
  · unfold sub
    rw [if_neg (by omega), Option.map_some, Addr.add_mid]
  · rw [List.length_drop] at hj
    rw [List.getElem_drop, Nat.add_assoc]
    exact hc (k + j) (by omega)
set_option maxRecDepth 100000 in
theorem Rd.mid {w : World} {A : Option Addr} {n c : Nat} {l : List UInt8} (h : Rd w A n l) (k e : Nat) (hnc : n ≤ c) (he : e ≤ n) : Rd w (sub A c k) (e - k) ((l.drop k).take (e - k)) :=
  (h.drop k hnc).take (by omega)
end Go.Proofs.Ythkkllcpogagiaa
