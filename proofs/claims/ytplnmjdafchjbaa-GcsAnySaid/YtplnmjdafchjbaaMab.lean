/- Merged texts: Ret Open Blk Blk2 SipM. -/
import Derived.Test.YtplnmjdafchjbaaMaa
import Derived.WalkKit
import Derived.WalkSpells
import Derived.WalkLawsBesides
import Derived.Lib.Hide
import Derived.OpenShut
import Derived.Deep.MidRow
import Derived.Deep.WholeRow
import Derived.Laws.OwnMore
/- Words: what a call ends in that leaves all that was there; a byte slice as a string. -/
namespace Go.Proofs.Ytplnmjdafchjbaa
open Go.RowKit

set_option maxRecDepth 100000 in
theorem conv8 (w : World) (A : Option Addr) (n c : Nat) (l : List UInt8) (h : Rd w A n l) :
    (convert 27 9 (.slice A n c)).run Try.prog w = .ok (.string ⟨l.toArray⟩) w := by
  obtain ⟨hl, hr⟩ := h
  subst hl
  cases l with
  | nil =>
    cases A with
    | none => exact run_convert_bytes_nil w 27 5 Try.underlying27 Try.underlying5 0 c 9 Try.underlying9
    | some a => exact run_convert_bytes_back w 27 9 5 a c [] Try.underlying27 Try.underlying5 Try.underlying9 (fun j hj => absurd hj (by simp))
  | cons x r =>
    obtain ⟨b, off, rfl, _, hc⟩ := hr (by simp)
    refine run_convert_bytes_back w 27 9 5 ⟨b, off, none⟩ c (x :: r) Try.underlying27 Try.underlying5 Try.underlying9 (fun j hj => ?_)
    have hp : (⟨b, off, none⟩ : Addr).add j = ⟨b, off + j, none⟩ := by unfold Addr.add; split <;> simp_all
    rw [hp]
    exact hc j hj
/-- What a call ends in that answers v and leaves all that was there. -/
def Ret (w : World) (v : Value) (e : Ending) (w' : World) : Prop := e = .returned v ∧ Below w.heap.size w w'
set_option maxRecDepth 100000 in
theorem below_drewN {B : Nat} {a w : World} (h : Below B a w) (n : Nat) : Below B a (w.drewN n) := ⟨h.os, h.tape, h.output, h.size, h.block⟩
end Go.Proofs.Ytplnmjdafchjbaa

/- A byte slice that came in, as it is read off the row's data: it holds some bytes. -/
namespace Go.Proofs.Ytplnmjdafchjbaa
open Go.RowKit

set_option maxRecDepth 100000 in
theorem lt_of_cell {w : World} {a : Addr} {v : Value} (h : w.cell? a = some v) : a.block < w.heap.size := by
  rcases Nat.lt_or_ge a.block w.heap.size with h1 | h1
  · exact h1
  · unfold World.cell? at h
    rw [Array.getElem?_eq_none h1] at h
    simp at h

/-- The bytes of the first len numbers. -/
def bytesOf (zs : List Int) (len : Nat) : List UInt8 := (zs.take len).map fun z => UInt8.ofNat z.toNat
set_option maxRecDepth 100000 in
theorem rd_ints_at {w : World} {x : Addr} {len cap : Nat} {zs : List Int} (hcell : ∀ i, i < zs.length → w.cell? (x.add i) = some (.int .u8 (zs.getD i 0))) (hl : len ≤ cap) (hz : zs.length = cap)
    (hwz : ∀ n ∈ zs, (Lit.int .u8 n).wf = true) : Rd w (some x) len (bytesOf zs len) := by
  unfold bytesOf
  refine ⟨by simp; omega, fun hn => ?_⟩
  obtain ⟨b, off, spot⟩ := x
  have hc := hcell 0 (by omega)
  have hspot : spot = none := by simpa [Addr.add] using World.cell?_spot hc
  subst hspot
  refine ⟨b, off, rfl, lt_of_cell (a := (⟨b, off, none⟩ : Addr).add 0) hc, fun j hj => ?_⟩
  have hj' : j < zs.length := by simp at hj; omega
  have hp : (⟨b, off, none⟩ : Addr).add j = ⟨b, off + j, none⟩ := by unfold Addr.add; split <;> simp_all
  rw [← hp, hcell j hj']
  have hb := bounds_u8 (hwz zs[j] (List.getElem_mem hj'))
  simp only [List.getElem_map, List.getElem_take, List.getD, List.getElem?_eq_getElem hj', Option.getD_some]
  congr 2
  rw [UInt8.toNat_ofNat']
  omega
set_option maxRecDepth 100000 in
theorem rd_ints {w : World} {x : Addr} {len cap : Nat} {zs : List Int} (hcell : ∀ i, i < zs.length → w.cell? (x.add i) = some (.int .u8 (zs.getD i 0))) (hl : len ≤ cap) (hz : zs.length = cap)
    (hwz : ∀ n ∈ zs, (Lit.int .u8 n).wf = true) : ∃ l, Rd w (some x) len l := ⟨_, rd_ints_at hcell hl hz hwz⟩
end Go.Proofs.Ytplnmjdafchjbaa

/- Words for blocks that a call made: what a block holds, and how that is carried from world to world. -/
namespace Go.Proofs.Ytplnmjdafchjbaa
open Go.RowKit
set_option linter.unusedVariables false

/-- The block g holds the cells cs, none of them frozen. -/
def Blk (w : World) (g : Nat) (cs : List Value) (t : TypeId) : Prop := w.heap[g]? = some (.cells cs.toArray t (0, 0))

set_option maxRecDepth 100000 in
theorem Blk.lt {w : World} {g : Nat} {cs : List Value} {t : TypeId} (h : Blk w g cs t) : g < w.heap.size := (Array.getElem?_eq_some_iff.1 h).1
set_option maxRecDepth 100000 in
theorem Blk.cell {w : World} {g : Nat} {cs : List Value} {t : TypeId} (h : Blk w g cs t) (j : Nat) : w.cell? ⟨g, j, none⟩ = cs[j]? := by
  rw [cell_of_row w g j _ t (0, 0) h]; simp
set_option maxRecDepth 100000 in
theorem Blk.free {w : World} {g : Nat} {cs : List Value} {t : TypeId} (h : Blk w g cs t) (j : Nat) : w.frozen? ⟨g, j, none⟩ = false := frozen_of_row w g j _ t h
set_option maxRecDepth 100000 in
theorem Blk.range {w : World} {g : Nat} {cs : List Value} {t : TypeId} (h : Blk w g cs t) : w.rangeAt g 0 cs := fun j v hv => by rw [Nat.zero_add, h.cell j, hv]
set_option maxRecDepth 100000 in
theorem Blk.mid {w : World} {g : Nat} {cs : List Value} {t : TypeId} (h : Blk w g cs t) (o n : Nat) : w.rangeAt g o ((cs.drop o).take n) := fun j v hv => by
  rw [h.cell]
  rw [List.getElem?_take] at hv
  split at hv
  · rw [List.getElem?_drop] at hv; exact hv
  · cases hv
set_option maxRecDepth 100000 in
theorem Blk.there {w : World} {g : Nat} {cs : List Value} {t : TypeId} (h : Blk w g cs t) (o n : Nat) (hn : o + n ≤ cs.length) : w.there g o n := fun j hj => by
  rw [h.cell]
  exact ⟨by simp; omega, h.free _⟩
set_option maxRecDepth 100000 in
theorem Blk.set {w : World} {g : Nat} {cs : List Value} {t : TypeId} (h : Blk w g cs t) (i : Nat) (v : Value) : Blk (w.setCell ⟨g, i, none⟩ v) g (cs.set i v) t := by
  have := heap_setCell_same w g i _ t v h
  rw [List.setIfInBounds_toArray] at this
  exact this
set_option maxRecDepth 100000 in
theorem Blk.set_other {w : World} {g : Nat} {cs : List Value} {t : TypeId} (h : Blk w g cs t) (a : Addr) (v : Value) (hne : g ≠ a.block) : Blk (w.setCell a v) g cs t :=
  (heap_setCell_other w a g v hne).trans h
set_option maxRecDepth 100000 in
theorem Blk.below {B : Nat} {w w' : World} {g : Nat} {cs : List Value} {t : TypeId} (h : Blk w g cs t) (hb : Below B w w') (hg : g < B) : Blk w' g cs t := (hb.block g hg).trans h
set_option maxRecDepth 100000 in
theorem Blk.alloc {w : World} {g : Nat} {cs : List Value} {t : TypeId} (h : Blk w g cs t) (o : Obj) : Blk (w.alloc o) g cs t := (heap_alloc_old w o h.lt).trans h
set_option maxRecDepth 100000 in
theorem Blk.drew {w : World} {g : Nat} {cs : List Value} {t : TypeId} (h : Blk w g cs t) : Blk w.drew g cs t := h
set_option maxRecDepth 100000 in
theorem Blk.drewN {w : World} {g : Nat} {cs : List Value} {t : TypeId} (h : Blk w g cs t) (n : Nat) : Blk (w.drewN n) g cs t := h
set_option maxRecDepth 100000 in
theorem Blk.new (w : World) (cs : Array Value) (t : TypeId) : Blk (w.alloc (.cells cs t)) w.heap.size cs.toList t := by
  have := heap_alloc_new w (.cells cs t)
  simpa [Blk] using this
set_option maxRecDepth 100000 in
theorem Blk.new' (w : World) (cs : Array Value) (t : TypeId) (g : Nat) (hg : w.heap.size = g) : Blk (w.alloc (.cells cs t)) g cs.toList t := hg ▸ Blk.new w cs t
/-- list with a part written over. -/
def over (L : List Value) (o : Nat) (vs : List Value) : List Value := L.take o ++ vs ++ L.drop (o + vs.length)
set_option maxRecDepth 100000 in
theorem set_over (v : Value) (vs : List Value) : ∀ (L : List Value) (o : Nat), o + (v :: vs).length ≤ L.length → over (L.set o v) (o + 1) vs = over L o (v :: vs) := by
  intro L o h
  simp only [List.length_cons] at h
  unfold over
  rw [List.take_set, List.length_cons, show o + 1 + vs.length = o + (vs.length + 1) from by omega, List.drop_set_of_lt (by omega)]
  rw [List.take_succ_eq_append_getElem (by omega : o < L.length), List.set_append_right _ _ (by simp; omega)]
  simp [Nat.min_eq_left (by omega : o ≤ L.length)]
set_option maxRecDepth 100000 in
theorem Blk.setCells {g : Nat} {t : TypeId} : ∀ (vs : List Value) (w : World) (cs : List Value) (o : Nat), Blk w g cs t → o + vs.length ≤ cs.length → Blk (w.setCells g o vs) g (over cs o vs) t
  | [], w, cs, o, h, _ => by simpa [over, World.setCells] using h
  | v :: vs, w, cs, o, h, hl => by
    rw [World.setCells, ← set_over v vs cs o hl]
    exact Blk.setCells vs _ _ _ (h.set o v) (by simp at hl ⊢; omega)
set_option maxRecDepth 100000 in
theorem Blk.setCells_other {g b : Nat} {t : TypeId} {cs : List Value} (hne : g ≠ b) : ∀ (vs : List Value) (w : World) (o : Nat), Blk w g cs t → Blk (w.setCells b o vs) g cs t
  | [], _, _, h => h
  | v :: vs, w, o, h => Blk.setCells_other hne vs _ _ (h.set_other ⟨b, o, none⟩ v hne)
set_option maxRecDepth 100000 in
theorem below_setCells {B b : Nat} (hb : B ≤ b) : ∀ (vs : List Value) (a w : World) (o : Nat), Below B a w → Below B a (w.setCells b o vs)
  | [], _, _, _, h => h
  | v :: vs, a, w, o, h => below_setCells hb vs a _ _ (h.setCell (p := ⟨b, o, none⟩) hb v)
set_option maxRecDepth 100000 in
@[simp] theorem size_setCells (b : Nat) : ∀ (vs : List Value) (w : World) (o : Nat), (w.setCells b o vs).heap.size = w.heap.size
  | [], _, _ => rfl
  | v :: vs, w, o => by rw [World.setCells, size_setCells b vs]; simp
set_option maxRecDepth 100000 in
theorem over_all (L vs : List Value) (h : L.length = vs.length) : over L 0 vs = vs := by simp [over, ← h]
set_option maxRecDepth 100000 in
/-- The bytes of a block are bytes that a slice of it reads. -/
theorem Blk.rd {w : World} {g : Nat} {cs : List Value} {t : TypeId} (h : Blk w g cs t) (o n : Nat) (l : List UInt8) (hl : l.length = n) (hc : ∀ j (hj : j < l.length), cs[o + j]? = some (.int .u8 (l[j].toNat : Int))) :
    Rd w (some ⟨g, o, none⟩) n l :=
  ⟨hl, fun _ => ⟨g, o, rfl, h.lt, fun j hj => by rw [h.cell, hc j hj]⟩⟩

/-! Slices of an array that lies in a block, of one-cell elements. -/
set_option maxRecDepth 100000 in
theorem run_sl_lh {P : Program} (t e : TypeId) (N : Nat) (hu : P.underlying t = some (.array N e)) (hs : (P.info? e).map (·.size) = some 1) (g o l h : Nat) (zl zh : Int) (hzl : zl = l) (hzh : zh = h) (h1 : l < h) (h2 : h ≤ N) (w : World) :
    (Instr.sliceAt t (.pointer (some ⟨g, o, none⟩)) (some (.int .i64 zl)) (some (.int .i64 zh)) none).run P w = .ok (.slice (some ⟨g, o + l, none⟩) (h - l) (N - l)) w := by
  subst hzl hzh
  obtain ⟨i, hi, hsz⟩ := Option.map_eq_some_iff.1 hs
  have e1 : (Instr.sliceBound (.int .i64 (h : Int)) N .sliceAlen).run P w = .ok h w := by rw [run_sliceBound (h0 := by omega) (h1 := by omega)]; simp
  have e2 : (Instr.sliceBound (.int .i64 (l : Int)) h .sliceB).run P w = .ok l w := by rw [run_sliceBound (h0 := by omega) (h1 := by omega)]; simp
  simp [Instr.sliceAt, Instr.sureAddr, run_underlying hu, Instr.sliceBounds, e1, e2, sizeOf, typeInfo, hi, hsz, Addr.add_mid, show ¬ N = l from by omega]
set_option maxRecDepth 100000 in
theorem run_sl_l {P : Program} (t e : TypeId) (N : Nat) (hu : P.underlying t = some (.array N e)) (hs : (P.info? e).map (·.size) = some 1) (g o l : Nat) (zl : Int) (hzl : zl = l) (h1 : l < N) (w : World) :
    (Instr.sliceAt t (.pointer (some ⟨g, o, none⟩)) (some (.int .i64 zl)) none none).run P w = .ok (.slice (some ⟨g, o + l, none⟩) (N - l) (N - l)) w := by
  subst hzl
  obtain ⟨i, hi, hsz⟩ := Option.map_eq_some_iff.1 hs
  have e2 : ∀ c, (Instr.sliceBound (.int .i64 (l : Int)) N c).run P w = .ok l w := by intro c; rw [run_sliceBound (h0 := by omega) (h1 := by omega)]; simp
  simp [Instr.sliceAt, Instr.sureAddr, run_underlying hu, Instr.sliceBounds, e2, sizeOf, typeInfo, hi, hsz, Addr.add_mid, show ¬ N = l from by omega]
set_option maxRecDepth 100000 in
theorem run_sl_all {P : Program} (t e : TypeId) (N : Nat) (hu : P.underlying t = some (.array N e)) (hs : (P.info? e).map (·.size) = some 1) (g o : Nat) (h1 : 0 < N) (w : World) :
    (Instr.sliceAt t (.pointer (some ⟨g, o, none⟩)) none none none).run P w = .ok (.slice (some ⟨g, o, none⟩) N N) w := by
  obtain ⟨i, hi, hsz⟩ := Option.map_eq_some_iff.1 hs
  simp [Instr.sliceAt, Instr.sureAddr, run_underlying hu, Instr.sliceBounds, sizeOf, typeInfo, hi, Addr.add_mid]
/-- Nothing but block g has changed, and no block is new. -/
structure Only (g : Nat) (w w2 : World) : Prop where
  os : w2.os = w.os
  tape : w2.tape = w.tape
  output : w2.output = w.output
  size : w2.heap.size = w.heap.size
  block : ∀ i, i ≠ g → w2.heap[i]? = w.heap[i]?
set_option maxRecDepth 100000 in
theorem Only.refl (g : Nat) (w : World) : Only g w w := ⟨rfl, rfl, rfl, rfl, fun _ _ => rfl⟩
set_option maxRecDepth 100000 in
theorem Only.set {g : Nat} {w w2 : World} (h : Only g w w2) (o : Nat) (v : Value) : Only g w (w2.setCell ⟨g, o, none⟩ v) :=
  ⟨h.os, h.tape, h.output, by rw [← h.size]; simp, fun i hi => by rw [heap_setCell_other w2 ⟨g, o, none⟩ i v hi]; exact h.block i hi⟩
set_option maxRecDepth 100000 in
theorem Only.setCells {g : Nat} : ∀ (vs : List Value) (w w2 : World) (o : Nat), Only g w w2 → Only g w (w2.setCells g o vs)
  | [], _, _, _, h => h
  | v :: vs, w, _, o, h => Only.setCells vs w _ _ (h.set o v)
set_option maxRecDepth 100000 in
theorem Only.blk {g i : Nat} {w w2 : World} {cs : List Value} {t : TypeId} (h : Only g w w2) (hb : Blk w i cs t) (hi : i ≠ g) : Blk w2 i cs t := (h.block i hi).trans hb
set_option maxRecDepth 100000 in
theorem Only.below {g B : Nat} {w w2 : World} (h : Only g w w2) (hB : B ≤ g) : Below B w w2 := ⟨h.os, h.tape, h.output, by rw [h.size]; exact Nat.le_refl _, fun i hi => h.block i (by omega)⟩
set_option maxRecDepth 100000 in
/-- A whole array or struct is stored into its block. -/
theorem wpList_store_blk {P : Program} {ops : Array Oper} {rest : List Oper} {op : Oper} {a : Act} {w : World} {Q : Exit → Act → World → Prop} (hgd : op.guard = none) (ty : TypeId) (x y : Operand) (ho : op.op = .store ty x y)
    (g : Nat) (cs0 cells : List Value) (t : TypeId) (hx : a.eval x = .pointer (some ⟨g, 0, none⟩)) (hy : a.eval y = .agg cells.toArray) (hb : Blk w g cs0 t) (hl : cs0.length = cells.length)
    (hi : (P.info? ty).map (·.size) = some cells.length) (h1 : ∀ v ∈ cells, v.oneCell' = true)
    (h : ∀ w2, Blk w2 g cells t → Only g w w2 → wpList P ops Q rest (a.put op.dst undef) w2) : wpList P ops Q (op :: rest) a w := by
  refine wpList_store_mid hgd ty x y ho g 0 cells.toArray hx hy (hb.there 0 _ (by rw [List.size_toArray]; omega)) (by rw [List.size_toArray]; exact hi) (all_oneCell_toArray h1) ?_
  have hs := Blk.setCells cells w cs0 0 hb (by omega)
  rw [over_all _ _ hl] at hs
  exact h _ hs (Only.setCells _ _ _ _ (Only.refl g w))
/-! Guards: the next operation of a plain region is this store, this load. -/
set_option maxRecDepth 100000 in
theorem at_store {P : Program} {ops : Array Oper} {rest : List Oper} {Q : Exit → Act → World → Prop} {a : Act} {w : World} {dst : Option Tmp} {t : TypeId} {p : String} {af : Array Edge} (ty : TypeId) (x y : Operand)
    (h : wpList P ops Q ({ dst := dst, op := .store ty x y, type := t, pos := p, after := af, guard := none } :: rest) a w) : wpList P ops Q ({ dst := dst, op := .store ty x y, type := t, pos := p, after := af, guard := none } :: rest) a w := h
set_option maxRecDepth 100000 in
theorem at_load {P : Program} {ops : Array Oper} {rest : List Oper} {Q : Exit → Act → World → Prop} {a : Act} {w : World} {dst : Option Tmp} {t : TypeId} {p : String} {af : Array Edge} (ty : TypeId) (x : Operand)
    (h : wpList P ops Q ({ dst := dst, op := .load ty x, type := t, pos := p, after := af, guard := none } :: rest) a w) : wpList P ops Q ({ dst := dst, op := .load ty x, type := t, pos := p, after := af, guard := none } :: rest) a w := h
set_option maxRecDepth 100000 in
theorem size8 : (Try.prog.info? 5).map (·.size) = some 1 := by kernel_rfl
end Go.Proofs.Ytplnmjdafchjbaa

/- Loads and stores of whole arrays by what their blocks hold. -/
namespace Go.Proofs.Ytplnmjdafchjbaa
open Go.RowKit
set_option linter.unusedVariables false

set_option maxRecDepth 100000 in
/-- An element of an array value, of one-cell elements. -/
theorem run_idx {P : Program} (t e : TypeId) (N : Nat) (hu : P.underlying t = some (.array N e)) (k : IntKind) (hue : P.underlying e = some (.int k)) (hs : (P.info? e).map (·.size) = some 1) (cs : List Value) (i : Nat) (v : Value) (hi : i < N) (hv : cs[i]? = some v) (w : World) :
    (Instr.index t (.agg cs.toArray) (.int .i64 (i : Int))).run P w = .ok v w := by
  obtain ⟨inf, hinf, hsz⟩ := Option.map_eq_some_iff.1 hs
  simp [Instr.index, asIntOf, run_underlying hu, run_underlying hue, sizeOf, typeInfo, hinf, hsz, hi, part, isAgg, hv]
set_option maxRecDepth 100000 in
theorem run_ld {P : Program} {w : World} {g : Nat} {cs : List Value} {t : TypeId} (h : Blk w g cs t) (ty : TypeId) (d : TypeDesc) (hu : P.underlying ty = some d) (hd : d.isRow = true) (hi : (P.info? ty).map (·.size) = some cs.length) :
    (Instr.loadAt ty (.pointer (some ⟨g, 0, none⟩))).run P w = .ok (.agg cs.toArray) w := run_loadAt_mid w g 0 ty cs d h.range hu hd hi
set_option maxRecDepth 100000 in
theorem run_st {P : Program} {w : World} {g : Nat} {cs : List Value} {t : TypeId} (h : Blk w g cs t) (ty : TypeId) (cells : List Value) (hl : cells.length = cs.length) (hi : (P.info? ty).map (·.size) = some cells.length) (h1 : ∀ v ∈ cells, v.oneCell' = true) :
    (Instr.storeAt ty (.pointer (some ⟨g, 0, none⟩)) (.agg cells.toArray)).run P w = .ok () (w.setCells g 0 cells) :=
  run_storeAt_mid w g 0 ty cells.toArray (h.there 0 _ (by rw [List.size_toArray]; omega)) (by rw [List.size_toArray]; exact hi) (all_oneCell_toArray h1)
set_option maxRecDepth 100000 in
theorem run_stc {P : Program} {w : World} {g : Nat} {cs : List Value} {t : TypeId} (h : Blk w g cs t) (vs : List Value) (hl : vs.length = cs.length) (h1 : ∀ v ∈ vs, v.oneCell' = true) :
    (storeCells ⟨g, 0, none⟩ vs).run P w = .ok () (w.setCells g 0 vs) := by
  have := run_storeCells_cells (P := P) g 0 vs 0 w (fun j hj => by have := (h.there 0 vs.length (by omega) j hj).1; simpa using this) (fun j hj => by have := (h.there 0 vs.length (by omega) j hj).2; simpa using this) h1
  simpa using this
end Go.Proofs.Ytplnmjdafchjbaa

/- Plain mathematics of layer 3: the round, the words of a text, the keyed hash. -/
namespace Go.Proofs.Ytplnmjdafchjbaa

/-- Four numbers. -/
structure Q where
  a : Nat
  b : Nat
  c : Nat
  d : Nat
def Q.ok (q : Q) : Prop := q.a < 2 ^ 64 ∧ q.b < 2 ^ 64 ∧ q.c < 2 ^ 64 ∧ q.d < 2 ^ 64
def add64 (x y : Nat) : Nat := (x + y) % 2 ^ 64
/-- A round. -/
def Q.round (q : Q) : Q :=
  let a1 := add64 q.a q.b
  let b1 := rol 64 q.b 13 ^^^ a1
  let a2 := rol 64 a1 32
  let c1 := add64 q.c q.d
  let d1 := rol 64 q.d 16 ^^^ c1
  let a3 := add64 a2 d1
  let c2 := add64 c1 b1
  ⟨a3, rol 64 b1 17 ^^^ c2, rol 64 c2 32, rol 64 d1 21 ^^^ a3⟩
set_option maxRecDepth 100000 in
theorem add64_lt (x y : Nat) : add64 x y < 2 ^ 64 := Nat.mod_lt _ (by decide)
set_option maxRecDepth 100000 in
theorem xor64_lt {x y : Nat} (hx : x < 2 ^ 64) (hy : y < 2 ^ 64) : x ^^^ y < 2 ^ 64 := Nat.xor_lt_two_pow hx hy
set_option maxRecDepth 100000 in
theorem Q.round_ok (q : Q) (h : q.ok) : q.round.ok := by
  obtain ⟨_, hb, _, hd⟩ := h
  have h1 : rol 64 q.b 13 ^^^ add64 q.a q.b < 2 ^ 64 := xor64_lt (rol_lt 64 _ _ (by omega) hb) (add64_lt _ _)
  have h2 : rol 64 q.d 16 ^^^ add64 q.c q.d < 2 ^ 64 := xor64_lt (rol_lt 64 _ _ (by omega) hd) (add64_lt _ _)
  exact ⟨add64_lt _ _, xor64_lt (rol_lt 64 _ _ (by omega) h1) (add64_lt _ _), rol_lt 64 _ _ (by omega) (add64_lt _ _), xor64_lt (rol_lt 64 _ _ (by omega) h2) (add64_lt _ _)⟩
/-- n rounds. -/
def Q.rounds : Nat → Q → Q
  | 0, q => q
  | n + 1, q => (Q.rounds n q).round
set_option maxRecDepth 100000 in
theorem Q.rounds_ok (n : Nat) (q : Q) (h : q.ok) : (Q.rounds n q).ok := by
  induction n with
  | zero => exact h
  | succ n ih => exact Q.round_ok _ ih
/-- The last number with m, the first with m. -/
def Q.xd (q : Q) (m : Nat) : Q := ⟨q.a, q.b, q.c, q.d ^^^ m⟩
def Q.xa (q : Q) (m : Nat) : Q := ⟨q.a ^^^ m, q.b, q.c, q.d⟩
def Q.xc (q : Q) (m : Nat) : Q := ⟨q.a, q.b, q.c ^^^ m, q.d⟩
def Q.fold (q : Q) : Nat := q.a ^^^ q.b ^^^ q.c ^^^ q.d
set_option maxRecDepth 100000 in
theorem Q.xd_ok {q : Q} {m : Nat} (h : q.ok) (hm : m < 2 ^ 64) : (q.xd m).ok := ⟨h.1, h.2.1, h.2.2.1, xor64_lt h.2.2.2 hm⟩
set_option maxRecDepth 100000 in
theorem Q.xa_ok {q : Q} {m : Nat} (h : q.ok) (hm : m < 2 ^ 64) : (q.xa m).ok := ⟨xor64_lt h.1 hm, h.2.1, h.2.2.1, h.2.2.2⟩
set_option maxRecDepth 100000 in
theorem Q.xc_ok {q : Q} {m : Nat} (h : q.ok) (hm : m < 2 ^ 64) : (q.xc m).ok := ⟨h.1, h.2.1, xor64_lt h.2.2.1 hm, h.2.2.2⟩
set_option maxRecDepth 100000 in
theorem Q.fold_lt {q : Q} (h : q.ok) : q.fold < 2 ^ 64 := xor64_lt (xor64_lt (xor64_lt h.1 h.2.1) h.2.2.1) h.2.2.2
/-- A word m is taken. -/
def Q.take (q : Q) (m : Nat) : Q := (Q.rounds 2 (q.xd m)).xa m
set_option maxRecDepth 100000 in
theorem Q.take_ok (q : Q) (m : Nat) (h : q.ok) (hm : m < 2 ^ 64) : (q.take m).ok := Q.xa_ok (Q.rounds_ok 2 _ (Q.xd_ok h hm)) hm
/-- The end. -/
def Q.fin (q : Q) : Nat := (Q.rounds 4 (q.xc 255)).fold
set_option maxRecDepth 100000 in
theorem Q.fin_lt (q : Q) (h : q.ok) : q.fin < 2 ^ 64 := Q.fold_lt (Q.rounds_ok 4 _ (Q.xc_ok h (by decide)))
def Q.start (k l : Nat) : Q := ⟨k ^^^ 8317987319222330741, l ^^^ 7237128888997146477, k ^^^ 7816392313619706465, l ^^^ 8387220255154660723⟩
set_option maxRecDepth 100000 in
theorem Q.start_ok (k l : Nat) (hk : k < 2 ^ 64) (hl : l < 2 ^ 64) : (Q.start k l).ok :=
  ⟨xor64_lt hk (by decide), xor64_lt hl (by decide), xor64_lt hk (by decide), xor64_lt hl (by decide)⟩
/-- The word i of a text. -/
def wordAt (b : List UInt8) (i : Nat) : Nat := numL ((b.drop (8 * i)).take 8)
set_option maxRecDepth 100000 in
theorem numL_lt8 (l : List UInt8) : numL (l.take 8) < 2 ^ 64 := by
  have h := numL_lt (l.take 8)
  have h2 : (l.take 8).length ≤ 8 := by rw [List.length_take]; omega
  have h3 := Nat.pow_le_pow_right (n := 256) (by omega) h2
  have e : 256 ^ 8 = 2 ^ 64 := by decide
  omega
set_option maxRecDepth 100000 in
theorem wordAt_lt (b : List UInt8) (i : Nat) : wordAt b i < 2 ^ 64 := numL_lt8 _
/-- The state behind the first n words. -/
def Q.words (q : Q) (b : List UInt8) : Nat → Q
  | 0 => q
  | n + 1 => (Q.words q b n).take (wordAt b n)
set_option maxRecDepth 100000 in
theorem Q.words_ok (q : Q) (b : List UInt8) (n : Nat) (h : q.ok) : (Q.words q b n).ok := by
  induction n with
  | zero => exact h
  | succ n ih => exact Q.take_ok _ _ ih (wordAt_lt _ _)
/-- The last word. -/
def lastW (b : List UInt8) : Nat := numL (b.drop (8 * (b.length / 8))) + 2 ^ 56 * (b.length % 256)
set_option maxRecDepth 100000 in
theorem rest_lt (b : List UInt8) : numL (b.drop (8 * (b.length / 8))) < 2 ^ 56 := by
  have h := numL_lt (b.drop (8 * (b.length / 8)))
  have h2 : (b.drop (8 * (b.length / 8))).length ≤ 7 := by rw [List.length_drop]; omega
  have h3 := Nat.pow_le_pow_right (n := 256) (by omega) h2
  have e : 256 ^ 7 = 2 ^ 56 := by decide
  omega
set_option maxRecDepth 100000 in
theorem lastW_lt (b : List UInt8) : lastW b < 2 ^ 64 := by
  have := rest_lt b
  unfold lastW
  omega
/-- The keyed hash. -/
def sipH (k l : Nat) (b : List UInt8) : Nat := ((Q.words (Q.start k l) b (b.length / 8)).take (lastW b)).fin
set_option maxRecDepth 100000 in
theorem sipH_lt (k l : Nat) (b : List UInt8) (hk : k < 2 ^ 64) (hl : l < 2 ^ 64) : sipH k l b < 2 ^ 64 :=
  Q.fin_lt _ (Q.take_ok _ _ (Q.words_ok _ _ _ (Q.start_ok k l hk hl)) (lastW_lt b))
set_option maxRecDepth 100000 in
theorem sip_example : sipH 506097522914230528 1084818905618843912 (little 0 0 ++ [0, 1, 2, 3, 4, 5, 6, 7, 8, 9, 10, 11, 12, 13, 14]) = 11613035633349379557 := by decide +kernel
end Go.Proofs.Ytplnmjdafchjbaa
