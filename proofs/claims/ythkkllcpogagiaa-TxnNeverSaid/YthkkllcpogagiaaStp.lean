/- Steps that name the world behind: a new variable of an array or a struct, in plain and in drawn regions. -/
import Derived.Test.YthkkllcpogagiaaCodF
import Derived.Test.YthkkllcpogagiaaFil
namespace Go.Proofs.Ythkkllcpogagiaa
open Go.RowKit
set_option linter.unusedVariables false

set_option maxRecDepth 100000 in
theorem run_allocT {P : Program} (T : TypeId) (Z : List Value) (hz : (P.info? T).map (·.zero) = some (some (.agg Z.toArray))) (W : World) : (Instr.alloc T true (.tuple #[])).run P W = .ok (.pointer (some ⟨W.heap.size, 0, none⟩)) (W.alloc (.cells Z.toArray T)) := by
  obtain ⟨i, hi, hzz⟩ := Option.map_eq_some_iff.1 hz
  simp [Instr.alloc, zeroValue, typeInfo, hi, hzz, newVar, newRow, Value.cells]
set_option maxRecDepth 100000 in
/-- A new variable. -/
theorem wp_allocT {P : Program} {o : Oper} {a : Act} {W : World} {K : Act → World → Prop} {Q : Exit → Act → World → Prop} (T : TypeId) (Z : List Value) (hz : (P.info? T).map (·.zero) = some (some (.agg Z.toArray))) (ho : o.op = .alloc T) (base : Nat) (w : World) (hb : Below base w W) (hbase : base ≤ w.heap.size)
    (h : ∀ g w', Blk w' g Z T → W.heap.size ≤ g → g < w'.heap.size → Frm (fun _ => False) W w' → Below base w w' → K (a.put o.dst (.pointer (some ⟨g, 0, none⟩))) w') : o.wp P a W K Q := by
  unfold Oper.wp execOp
  simp only [ho, Sem.run_bind, run_allocT T Z hz, Result.andThen_ok]
  exact h W.heap.size _ (Blk.new W _ _) (Nat.le_refl _) (by simp) (Frm.of_below ((Below.refl _ W).alloc (Nat.le_refl _) _)) (hb.alloc (Nat.le_trans hbase hb.size) _)
set_option maxRecDepth 100000 in
theorem wpList_allocT {P : Program} {ops : Array Oper} {rest : List Oper} {o : Oper} {a : Act} {W : World} {Q : Exit → Act → World → Prop} (hgd : o.guard = none) (T : TypeId) (Z : List Value) (hz : (P.info? T).map (·.zero) = some (some (.agg Z.toArray))) (ho : o.op = .alloc T) (base : Nat) (w : World) (hb : Below base w W) (hbase : base ≤ w.heap.size)
    (h : ∀ g w', Blk w' g Z T → W.heap.size ≤ g → g < w'.heap.size → Frm (fun _ => False) W w' → Below base w w' → wpList P ops Q rest (a.put o.dst (.pointer (some ⟨g, 0, none⟩))) w') : wpList P ops Q (o :: rest) a W :=
  wpList_plain hgd fun _ hK => wp_allocT T Z hz ho base w hb hbase (fun g w' h1 h2 h3 h4 h5 => hK _ _ (h g w' h1 h2 h3 h4 h5))
set_option maxRecDepth 100000 in
theorem at_alloc {P : Program} {ops : Array Oper} {rest : List Oper} {Q : Exit → Act → World → Prop} {a : Act} {w : World} {dst : Option Tmp} {t : TypeId} {p : String} {af : Array Edge} (ty : TypeId)
    (h : wpList P ops Q ({ dst := dst, op := .alloc ty, type := t, pos := p, after := af, guard := none } :: rest) a w) : wpList P ops Q ({ dst := dst, op := .alloc ty, type := t, pos := p, after := af, guard := none } :: rest) a w := h
set_option maxRecDepth 100000 in
theorem at_bldZ {P : Program} {ops : Array Oper} {rest : List Oper} {Q : Exit → Act → World → Prop} {a : Act} {w : World} {dst : Option Tmp} {t : TypeId} {p : String} {af : Array Edge} (ty : TypeId) (parts : Array (Nat × Operand))
    (h : wpList P ops Q ({ dst := dst, op := .build ty parts, type := t, pos := p, after := af, guard := none } :: rest) a w) : wpList P ops Q ({ dst := dst, op := .build ty parts, type := t, pos := p, after := af, guard := none } :: rest) a w := h
set_option maxRecDepth 100000 in
/-- A cell of a struct or an array is stored. -/
theorem run_storeAt_cell {P : Program} {w : World} {g off : Nat} {cs : List Value} {t : TypeId} (ty : TypeId) (v : Value) (hb : Blk w g cs t) (hoff : off < cs.length) (hi : (P.info? ty).map (·.size) = some 1) (h1 : v.oneCell' = true) (hc : v.cells = #[v]) :
    (Instr.storeAt ty (.pointer (some ⟨g, off, none⟩)) v).run P w = .ok () (w.setCell ⟨g, off, none⟩ v) := by
  have ht := hb.there off 1 (by omega)
  have := run_storeCells_cells (P := P) g off [v] 0 w (fun j hj => by simpa using (ht j (by simpa using hj)).1) (fun j hj => by simpa using (ht j (by simpa using hj)).2) (fun u hu => by simp at hu; rw [hu]; exact h1)
  obtain ⟨i, hq, hs⟩ := Option.map_eq_some_iff.1 hi
  simp only [Nat.add_zero] at this
  simp [Instr.storeAt, Instr.sureAddr, storeVar, sizeOf, typeInfo, hq, hc, hs, this, World.setCells]
set_option maxRecDepth 100000 in
theorem wp_storeC {P : Program} {o : Oper} {a : Act} {W : World} {K : Act → World → Prop} {Q : Exit → Act → World → Prop} (ty : TypeId) (x y : Operand) (ho : o.op = .store ty x y) (g off : Nat) (v : Value) (cs : List Value) (t : TypeId) (hx : a.eval x = .pointer (some ⟨g, off, none⟩)) (hy : a.eval y = v)
    (hb : Blk W g cs t) (hoff : off < cs.length) (hi : (P.info? ty).map (·.size) = some 1) (h1 : v.oneCell' = true) (hc : v.cells = #[v]) (h : ∀ w2, Blk w2 g (cs.set off v) t → Only g W w2 → K (a.put o.dst undef) w2) : o.wp P a W K Q := by
  unfold Oper.wp execOp
  simp only [ho, hx, hy, Sem.run_bind, Sem.run_pure, run_storeAt_cell ty v hb hoff hi h1 hc, Result.andThen_ok]
  exact h _ (hb.set off v) ((Only.refl g W).set off v)
end Go.Proofs.Ythkkllcpogagiaa
