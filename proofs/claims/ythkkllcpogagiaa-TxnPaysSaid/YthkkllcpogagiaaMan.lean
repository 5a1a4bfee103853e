/- Merged texts: Fil Stp RowX. -/
import Derived.Test.YthkkllcpogagiaaMab
import Derived.Laws.Tables
import Derived.Test.YthkkllcpogagiaaMag
import Derived.Test.YthkkllcpogagiaaMaj
import Derived.Great.BuildSlice
/- Structs, arrays and slices that are built part by part. -/
namespace Go.Proofs.Ythkkllcpogagiaa
open Go.RowKit
set_option linter.unusedVariables false
set_option linter.unusedSimpArgs false

set_option maxRecDepth 100000 in
theorem fold_over : ∀ (V : List Value) (L : List Value) (o k : Nat), o + k + V.length ≤ L.length → (V.zipIdx k).foldl (fun (cs : Array Value) (x : Value × Nat) => cs.setIfInBounds (o + x.2) x.1) L.toArray = (over L (o + k) V).toArray
  | [], L, o, k, _ => by simp [over]
  | v :: V, L, o, k, h => by
    rw [List.zipIdx_cons, List.foldl_cons]
    simp only [List.length_cons] at h
    rw [List.setIfInBounds_toArray, fold_over V (L.set (o + k) v) o (k + 1) (by rw [List.length_set]; omega), show o + (k + 1) = o + k + 1 from rfl, set_over v V L (o + k) (by simp; omega)]
set_option maxRecDepth 100000 in
theorem fill_step (place : Nat → Option (Nat × Nat)) (L V : List Value) (i o : Nat) (v : Value) (rest : List (Nat × Value)) (hp : place i = some (o, V.length)) (hv : v.cells = V.toArray) (h : o + V.length ≤ L.length) :
    Instr.fill place L.toArray ((i, v) :: rest) = Instr.fill place (over L o V).toArray rest := by
  have hf := fold_over V L o 0 (by omega)
  rw [Instr.fill]
  simp only [hp, hv, List.size_toArray]
  rw [if_neg (by simp; omega)]
  congr 1
  rw [Nat.add_zero] at hf
  rw [← hf]
  simp
set_option maxRecDepth 100000 in
theorem over_one (L : List Value) (o : Nat) (v : Value) (h : o < L.length) : over L o [v] = L.set o v := by
  unfold over
  rw [List.set_eq_take_append_cons_drop, if_pos h]
  simp
set_option maxRecDepth 100000 in
/-- A struct or an array that is built: its parts' values, and what they make. -/
theorem wp_bld {P : Program} {o : Oper} {a : Act} {w : World} {K : Act → World → Prop} {Q : Exit → Act → World → Prop} (t : TypeId) (parts : Array (Nat × Operand)) (ho : o.op = .build t parts) (vals : Array (Nat × Value)) (x : Value)
    (hv : (parts.map fun (i, x) => (i, a.eval x)) = vals) (hr : ∀ W, (Instr.build t vals).run P W = .ok x W) (h : K (a.put o.dst x) w) : o.wp P a w K Q := by
  unfold Oper.wp execOp
  simp only [ho, hv, Sem.run_bind, hr w, Result.andThen_ok]
  exact h
set_option maxRecDepth 100000 in
theorem at_bld {P : Program} {ops : Array Oper} {rest : List Oper} {Q : Exit → Act → World → Prop} {a : Act} {w : World} {dst : Option Tmp} {t : TypeId} {p : String} {af : Array Edge} (ty : TypeId) {parts : Array (Nat × Operand)}
    (h : wpList P ops Q ({ dst := dst, op := .build ty parts, type := t, pos := p, after := af, guard := none } :: rest) a w) : wpList P ops Q ({ dst := dst, op := .build ty parts, type := t, pos := p, after := af, guard := none } :: rest) a w := h
set_option maxRecDepth 100000 in
theorem wpList_bld {P : Program} {ops : Array Oper} {rest : List Oper} {op : Oper} {a : Act} {w : World} {Q : Exit → Act → World → Prop} (hgd : op.guard = none) (t : TypeId) (parts : Array (Nat × Operand)) (ho : op.op = .build t parts) (vals : Array (Nat × Value)) (x : Value)
    (hv : (parts.map fun (i, x) => (i, a.eval x)) = vals) (hr : ∀ W, (Instr.build t vals).run P W = .ok x W) (h : wpList P ops Q rest (a.put op.dst x) w) : wpList P ops Q (op :: rest) a w :=
  wpList_plain hgd fun _ hK => wp_bld t parts ho vals x hv hr (hK _ _ h)
end Go.Proofs.Ythkkllcpogagiaa

/- Steps that name the world behind: a new variable of an array or a struct, in plain and in drawn regions. -/
namespace Go.Proofs.Ythkkllcpogagiaa
open Go.RowKit
set_option linter.unusedVariables false

set_option maxRecDepth 100000 in
theorem run_allocT {P : Program} (T : TypeId) (Z : List Value) (hz : (P.info? T).map (·.zero) = some (some (.agg Z.toArray))) (W : World) : (Instr.alloc T true (.tuple #[])).run P W = .ok (.pointer (some ⟨W.heap.size, 0, none⟩)) (W.alloc (.cells Z.toArray T)) := by
  obtain ⟨i, hi, hzz⟩ := Option.map_eq_some_iff.1 hz
  simp [Instr.alloc, zeroValue, typeInfo, hi, hzz, newVar, newRow, Value.cells]
set_option maxRecDepth 100000 in
/-- A new variable. -/
theorem wp_allocT {P : Program} {o : Oper} {a : Act} {W : World} {K : Act → World → Prop} {Q : Exit → Act → World → Prop} (T : TypeId) (Z : List Value) (hz : (P.info? T).map (·.zero) = some (some (.agg Z.toArray))) (ho : o.op = .alloc T) (base : Nat) (w : World) (hb : Below base w W) (hbase : base ≤ w.heap.size)
    (h : ∀ g w', Blk w' g Z T → W.heap.size ≤ g → g < w'.heap.size → Frm (fun _ => False) W w' → Below base w w' → K (a.put o.dst (.pointer (some ⟨g, 0, none⟩))) w') : o.wp P a W K Q := by
  unfold Oper.wp execOp
  simp only [ho, Sem.run_bind, run_allocT T Z hz, Result.andThen_ok]
  exact h W.heap.size _ (Blk.new W _ _) (Nat.le_refl _) (by simp) (Frm.of_below ((Below.refl _ W).alloc (Nat.le_refl _) _)) (hb.alloc (Nat.le_trans hbase hb.size) _)
set_option maxRecDepth 100000 in
theorem wpList_allocT {P : Program} {ops : Array Oper} {rest : List Oper} {o : Oper} {a : Act} {W : World} {Q : Exit → Act → World → Prop} (hgd : o.guard = none) (T : TypeId) (Z : List Value) (hz : (P.info? T).map (·.zero) = some (some (.agg Z.toArray))) (ho : o.op = .alloc T) (base : Nat) (w : World) (hb : Below base w W) (hbase : base ≤ w.heap.size)
    (h : ∀ g w', Blk w' g Z T → W.heap.size ≤ g → g < w'.heap.size → Frm (fun _ => False) W w' → Below base w w' → wpList P ops Q rest (a.put o.dst (.pointer (some ⟨g, 0, none⟩))) w') : wpList P ops Q (o :: rest) a W :=
  wpList_plain hgd fun _ hK => wp_allocT T Z hz ho base w hb hbase (fun g w' h1 h2 h3 h4 h5 => hK _ _ (h g w' h1 h2 h3 h4 h5))
set_option maxRecDepth 100000 in
theorem at_alloc {P : Program} {ops : Array Oper} {rest : List Oper} {Q : Exit → Act → World → Prop} {a : Act} {w : World} {dst : Option Tmp} {t : TypeId} {p : String} {af : Array Edge} (ty : TypeId)
    (h : wpList P ops Q ({ dst := dst, op := .alloc ty, type := t, pos := p, after := af, guard := none } :: rest) a w) : wpList P ops Q ({ dst := dst, op := .alloc ty, type := t, pos := p, after := af, guard := none } :: rest) a w := h
set_option maxRecDepth 100000 in
theorem at_bldZ {P : Program} {ops : Array Oper} {rest : List Oper} {Q : Exit → Act → World → Prop} {a : Act} {w : World} {dst : Option Tmp} {t : TypeId} {p : String} {af : Array Edge} (ty : TypeId) (parts : Array (Nat × Operand))
    (h : wpList P ops Q ({ dst := dst, op := .build ty parts, type := t, pos := p, after := af, guard := none } :: rest) a w) : wpList P ops Q ({ dst := dst, op := .build ty parts, type := t, pos := p, after := af, guard := none } :: rest) a w := h
set_option maxRecDepth 100000 in
/-- A cell of a struct or an array is stored. -/
theorem run_storeAt_cell {P : Program} {w : World} {g off : Nat} {cs : List Value} {t : TypeId} (ty : TypeId) (v : Value) (hb : Blk w g cs t) (hoff : off < cs.length) (hi : (P.info? ty).map (·.size) = some 1) (h1 : v.oneCell' = true) (hc : v.cells = #[v]) :
    (Instr.storeAt ty (.pointer (some ⟨g, off, none⟩)) v).run P w = .ok () (w.setCell ⟨g, off, none⟩ v) := by
  have ht := hb.there off 1 (by omega)
  have := run_storeCells_cells (P := P) g off [v] 0 w (fun j hj => by simpa using (ht j (by simpa using hj)).1) (fun j hj => by simpa using (ht j (by simpa using hj)).2) (fun u hu => by simp at hu; rw [hu]; exact h1)
  obtain ⟨i, hq, hs⟩ := Option.map_eq_some_iff.1 hi
  simp only [Nat.add_zero] at this
  simp [Instr.storeAt, Instr.sureAddr, storeVar, sizeOf, typeInfo, hq, hc, hs, this, World.setCells]
set_option maxRecDepth 100000 in
theorem wp_storeC {P : Program} {o : Oper} {a : Act} {W : World} {K : Act → World → Prop} {Q : Exit → Act → World → Prop} (ty : TypeId) (x y : Operand) (ho : o.op = .store ty x y) (g off : Nat) (v : Value) (cs : List Value) (t : TypeId) (hx : a.eval x = .pointer (some ⟨g, off, none⟩)) (hy : a.eval y = v)
    (hb : Blk W g cs t) (hoff : off < cs.length) (hi : (P.info? ty).map (·.size) = some 1) (h1 : v.oneCell' = true) (hc : v.cells = #[v]) (h : ∀ w2, Blk w2 g (cs.set off v) t → Only g W w2 → K (a.put o.dst undef) w2) : o.wp P a W K Q := by
  unfold Oper.wp execOp
  simp only [ho, hx, hy, Sem.run_bind, Sem.run_pure, run_storeAt_cell ty v hb hoff hi h1 hc, Result.andThen_ok]
  exact h _ (hb.set off v) ((Only.refl g W).set off v)
end Go.Proofs.Ythkkllcpogagiaa

/- Rows of one-cell values (strings, numbers) that a call made: what they read, how they grow. -/
namespace Go.Proofs.Ythkkllcpogagiaa
open Go.RowKit
set_option linter.unusedVariables false
set_option linter.unusedSimpArgs false

/-- The slice of n values that begins at A reads the values V. -/
def RdR (w : World) (A : Option Addr) (n : Nat) (V : List Value) : Prop :=
  V.length = n ∧ (0 < n → ∃ b off, A = some ⟨b, off, none⟩ ∧ b < w.heap.size ∧ ∀ j u, V[j]? = some u → w.cell? ⟨b, off + j, none⟩ = some u)
set_option maxRecDepth 100000 in
theorem RdR.nil (w : World) (A : Option Addr) : RdR w A 0 [] := ⟨rfl, fun h => absurd h (by omega)⟩
set_option maxRecDepth 100000 in
theorem RdR.below {w W : World} {A : Option Addr} {n : Nat} {V : List Value} (h : RdR w A n V) (hb : Below w.heap.size w W) : RdR W A n V :=
  ⟨h.1, fun hn => by
    obtain ⟨b, off, e, hlt, hc⟩ := h.2 hn
    exact ⟨b, off, e, Nat.lt_of_lt_of_le hlt hb.size, fun j u hu => (hb.cell (p := ⟨b, off + j, none⟩) hlt).trans (hc j u hu)⟩⟩
set_option maxRecDepth 100000 in
theorem RdR.at_ {w : World} {A : Option Addr} {n : Nat} {V : List Value} (h : RdR w A n V) {k : Nat} (hk : k < n) : ∃ b off, ∃ hl : k < V.length, A = some ⟨b, off, none⟩ ∧ b < w.heap.size ∧ w.cell? ⟨b, off + k, none⟩ = some V[k] := by
  obtain ⟨b, off, e, hb, hc⟩ := h.2 (by omega)
  have hl : k < V.length := by have := h.1; omega
  exact ⟨b, off, hl, e, hb, hc k _ (List.getElem?_eq_getElem hl)⟩
set_option maxRecDepth 100000 in
theorem RdR.take {w : World} {A : Option Addr} {n : Nat} {V : List Value} (h : RdR w A n V) {k : Nat} (hk : k ≤ n) : RdR w A k (V.take k) := by
  have hl := h.1
  refine ⟨by rw [List.length_take]; omega, fun hn => ?_⟩
  obtain ⟨b, off, e, hb, hc⟩ := h.2 (by omega)
  refine ⟨b, off, e, hb, fun j u hu => hc j u ?_⟩
  rw [List.getElem?_take] at hu
  split at hu
  · exact hu
  · cases hu
/-- A row of values that the call made. -/
def OwnR (w : World) (base : Nat) (e : TypeId) (A : Option Addr) (n c : Nat) (V : List Value) : Prop := V.length = n ∧ w.ownsRow base e 1 (.slice A n c) n V
set_option maxRecDepth 100000 in
theorem OwnR.nil (w : World) (base : Nat) (e : TypeId) : OwnR w base e none 0 0 [] := ⟨rfl, World.ownsRow_nil _ _ _ _⟩
set_option maxRecDepth 100000 in
theorem OwnR.len {w : World} {base n c : Nat} {e : TypeId} {A : Option Addr} {V : List Value} (h : OwnR w base e A n c V) : V.length = n := h.1
set_option maxRecDepth 100000 in
theorem OwnR.rd {w : World} {base n c : Nat} {e : TypeId} {A : Option Addr} {V : List Value} (h : OwnR w base e A n c V) : RdR w A n V := by
  obtain ⟨h1, h3⟩ := h
  refine ⟨h1, fun hn => ?_⟩
  rcases h3.2 with ⟨_, h0⟩ | ⟨g, cap, cur, hv, _, hg, hnc, _, hcs, hct⟩
  · omega
  · injection hv with e1
    refine ⟨g, 0, e1, (Array.getElem?_eq_some_iff.1 hg).1, fun i u hu => ?_⟩
    have hi : i < V.length := (List.getElem?_eq_some_iff.1 hu).1
    rw [Nat.zero_add, cell_of_row w g i cur e (0, 0) hg]
    have e2 : cur[i]? = V[i]? := by
      rw [← hct, List.getElem?_take, if_pos (by omega)]
      simp
    rw [e2, hu]
set_option maxRecDepth 100000 in
theorem OwnR.up {w W : World} {b n c : Nat} {e : TypeId} {A : Option Addr} {V : List Value} (h : OwnR w b e A n c V) (hb : Below w.heap.size w W) : OwnR W b e A n c V := by
  obtain ⟨h1, h3, h4⟩ := h
  refine ⟨h1, h3, ?_⟩
  rcases h4 with h | ⟨g, cap, cur, e1, e2, e3, e4⟩
  · exact .inl h
  · exact .inr ⟨g, cap, cur, e1, e2, (hb.block g (Array.getElem?_eq_some_iff.1 e3).1).trans e3, e4⟩
set_option maxRecDepth 100000 in
theorem OwnR.frm {w W : World} {b n c : Nat} {e : TypeId} {A : Option Addr} {V : List Value} {P : Nat → Prop} (h : OwnR w b e A n c V) (hf : Frm P w W) (hS : ∀ g, blkOf A = some g → ¬ P g) : OwnR W b e A n c V := by
  obtain ⟨h1, h3, h4⟩ := h
  refine ⟨h1, h3, ?_⟩
  rcases h4 with h | ⟨g, cap, cur, e1, e2, e3, e4⟩
  · exact .inl h
  · have hA : blkOf A = some g := by injection e1 with e5; rw [e5]; rfl
    exact .inr ⟨g, cap, cur, e1, e2, (hf.block g (Array.getElem?_eq_some_iff.1 e3).1 (hS g hA)).trans e3, e4⟩
set_option maxRecDepth 100000 in
theorem OwnR.cap {w : World} {b n c : Nat} {e : TypeId} {A : Option Addr} {V : List Value} (h : OwnR w b e A n c V) : n ≤ c ∧ c ≤ maxLen := by
  rcases h.2.2 with ⟨h, h0⟩ | ⟨g, cap, cur, e1, _, _, h2, h3, _⟩
  · injection h with _ _ e
    subst e
    exact ⟨by omega, by unfold maxLen; omega⟩
  · injection e1 with _ _ e
    subst e
    exact ⟨h2, h3⟩
set_option maxRecDepth 100000 in
theorem OwnR.blk {w : World} {b n c : Nat} {e : TypeId} {A : Option Addr} {V : List Value} (h : OwnR w b e A n c V) : ∀ g, blkOf A = some g → b ≤ g ∧ g < w.heap.size ∧ ∃ cs d, w.heap[g]? = some (.cells cs e d) := fun g hg => by
  rcases h.2.2 with ⟨hv, _⟩ | ⟨g', cap, cur, hv, hb, hr, _⟩
  · injection hv with e1; rw [e1] at hg; simp [blkOf] at hg
  · injection hv with e1
    rw [e1] at hg
    have e2 : g' = g := by simpa [blkOf] using hg
    subst e2
    exact ⟨hb, (Array.getElem?_eq_some_iff.1 hr).1, cur, (0, 0), hr⟩
set_option maxRecDepth 100000 in
/-- A later part of a row. -/
theorem RdR.drop {w : World} {A : Option Addr} {n c : Nat} {V : List Value} (h : RdR w A n V) (k : Nat) (hnc : n ≤ c) : RdR w (sub A c k) (n - k) (V.drop k) := by
  refine ⟨by rw [List.length_drop, h.1], fun hn => ?_⟩
  obtain ⟨b, off, rfl, hb, hc⟩ := h.2 (by omega)
  refine ⟨b, off + k, ?_, hb, fun j u hu => ?_⟩
  · unfold sub
    rw [if_neg (by omega), Option.map_some, Addr.add_mid]
  · rw [List.getElem?_drop] at hu
    rw [Nat.add_assoc]
    exact hc (k + j) u hu
set_option maxRecDepth 100000 in
theorem RdR.head {w : World} {A : Option Addr} {n c : Nat} {V : List Value} (h : RdR w A n V) (k : Nat) (hnc : n ≤ c) (hk : k ≤ n) : RdR w (sub A c 0) k (V.take k) :=
  ((h.drop 0 hnc).take (k := k) (by omega))
set_option maxRecDepth 100000 in
/-- A row that began above a mark began above a lower one. -/
theorem OwnR.low {w : World} {b b' n c : Nat} {e : TypeId} {A : Option Addr} {V : List Value} (h : OwnR w b e A n c V) (hb : b' ≤ b) : OwnR w b' e A n c V := by
  obtain ⟨h1, h3, h4⟩ := h
  refine ⟨h1, h3, ?_⟩
  rcases h4 with h | ⟨g, cap, cur, e1, e2, e3, e4⟩
  · exact .inl h
  · exact .inr ⟨g, cap, cur, e1, Nat.le_trans hb e2, e3, e4⟩
set_option maxRecDepth 100000 in
theorem frm_grownR {w w' : World} {A : Option Addr} {n c : Nat} (h : w.grownBy w' (Value.ownBlock (.slice A n c))) : Frm (fun i => blkOf A = some i) w w' :=
  ⟨h.os, h.tape, h.output, h.size, fun i hi hn => h.block i hi (fun e => hn (by
    cases A with
    | none => simp [Value.ownBlock] at e
    | some a => simp [Value.ownBlock] at e; simp [blkOf, e]))⟩
set_option maxRecDepth 100000 in
theorem run_bsR (t e : TypeId) (z v : Value) (ht : Try.prog.underlying t = some (.slice e)) (hinfo : (Try.prog.info? e).map (fun i => (i.zero, i.size)) = some (some z, 1)) (hzc : z.cells = #[z]) (hv : v.cells = #[v]) (W : World) :
    (Instr.buildSlice t 1 #[(0, v)]).run Try.prog W = .ok (.slice (some ⟨W.heap.size, 0, none⟩) 1 1) (W.alloc (.cells #[v] e)) := by
  obtain ⟨i, hi, hzz⟩ := Option.map_eq_some_iff.1 hinfo
  simp only [Prod.mk.injEq] at hzz
  obtain ⟨hz, hsz⟩ := hzz
  refine run_buildSlice W t e 1 _ #[v] i z ht hi hz (by rw [hsz]; decide) (by rw [hsz]; decide) ?_
  rw [hsz]
  have hz0 : (Array.range (1 * 1)).map (z.cells[· % z.cells.size]!) = [z].toArray := by rw [hzc]; apply Array.ext' ; simp [Array.range]
  rw [hz0]
  show Instr.fill (fun i => some (i * 1, 1)) [z].toArray [(0, v)] = some #[v]
  rw [fill_step _ _ [v] 0 0 _ _ (by rfl) hv (by simp), over_one _ _ _ (by simp), List.set_cons_zero]
  rfl
section
variable {ops : Array Oper} {rest : List Oper} {o : Oper} {a : Act} {W : World} {Q : Exit → Act → World → Prop} {K : Act → World → Prop}
set_option maxRecDepth 100000 in
theorem wpList_bsR (hgd : o.guard = none) (t e : TypeId) (z v : Value) (ht : Try.prog.underlying t = some (.slice e)) (hinfo : (Try.prog.info? e).map (fun i => (i.zero, i.size)) = some (some z, 1)) (hzc : z.cells = #[z]) (hv : v.cells = #[v]) (x : Operand) (ho : o.op = .buildSlice t 1 #[(0, x)]) (hx : a.eval x = v)
    (h : ∀ g w', Blk w' g [v] e → W.heap.size ≤ g → g < w'.heap.size → Below W.heap.size W w' → wpList Try.prog ops Q rest (a.put o.dst (.slice (some ⟨g, 0, none⟩) 1 1)) w') : wpList Try.prog ops Q (o :: rest) a W := by
  refine wpList_plain hgd fun _ hK => ?_
  unfold Oper.wp execOp
  simp only [ho, List.map_toArray, List.map_cons, List.map_nil, hx, Sem.run_bind, run_bsR t e z v ht hinfo hzc hv, Result.andThen_ok]
  exact hK _ _ (h W.heap.size _ (Blk.new W _ _) (Nat.le_refl _) (by simp) ((Below.refl _ W).alloc (Nat.le_refl _) _))
set_option maxRecDepth 100000 in
theorem Blk.rdR {g : Nat} {vs : List Value} {t : TypeId} (h : Blk W g vs t) : RdR W (some ⟨g, 0, none⟩) vs.length vs :=
  ⟨rfl, fun _ => ⟨g, 0, rfl, h.lt, fun j u hu => by rw [Nat.zero_add, h.cell, hu]⟩⟩
set_option maxRecDepth 100000 in
/-- append of values that are read. -/
theorem wpList_appR (hgd : o.guard = none) (t e : TypeId) (z : Value) (bytes : Nat) (ht : Try.prog.underlying t = some (.slice e)) (hinfo : (Try.prog.info? e).map (fun i => (i.zero, i.size, i.bytes)) = some (some z, 1, bytes)) (hz1 : z.cells.size = 1) (hby : bytes ≤ 100) (s x : Operand) (ho : o.op = .call { callee := .builtin .append, args := #[s, x], argTypes := #[t, t] })
    (base : Nat) (w : World) (hb : Below base w W) (hbase : base ≤ w.heap.size) (A : Option Addr) (n c : Nat) (V : List Value) (hs : a.eval s = .slice A n c) (hown : OwnR W base e A n c V) (X : Option Addr) (m cX : Nat) (E : List Value) (hx : a.eval x = .slice X m cX) (hsrc : RdR W X m E) (hone : ∀ u ∈ E, u.oneCell' = true)
    (hn : n + m ≤ 1000000) (h : ∀ A' c' w', OwnR w' base e A' (n + m) c' (V ++ E) → Frm (fun i => blkOf A = some i) W w' → Below base w w' → wpList Try.prog ops Q rest (a.put o.dst (.slice A' (n + m) c')) w') : wpList Try.prog ops Q (o :: rest) a W := by
  have hbW : base ≤ W.heap.size := Nat.le_trans hbase hb.size
  refine wpList_plain hgd fun _ hK => ?_
  refine wpo_appG W s x t ho e z bytes ht hinfo hz1 base _ n V hs hown.2 X m cX E hx hsrc.1 (fun hm => ?_) hone (by unfold maxLen; omega) (Nat.le_trans (Nat.mul_le_mul hn hby) (by decide)) hbW (fun A' c' w' g1 g2 g3 g4 => ?_)
  · obtain ⟨b, off, e1, _, hc⟩ := hsrc.2 hm
    exact ⟨_, e1, fun j u hu => by rw [Addr.add_mid]; exact hc j u hu⟩
  · exact hK _ _ (h A' c' w' ⟨by rw [List.length_append, hown.1, hsrc.1], g1⟩ (frm_grownR g4) (hb.trans g2))
set_option maxRecDepth 100000 in
theorem at_bsX {dst : Option Tmp} {t : TypeId} {p : String} {af : Array Edge} (ty : TypeId) (k : Nat) (parts : Array (Nat × Operand))
    (h : wpList Try.prog ops Q ({ dst := dst, op := .buildSlice ty k parts, type := t, pos := p, after := af, guard := none } :: rest) a W) : wpList Try.prog ops Q ({ dst := dst, op := .buildSlice ty k parts, type := t, pos := p, after := af, guard := none } :: rest) a W := h
set_option maxRecDepth 100000 in
theorem at_appX {dst : Option Tmp} {t : TypeId} {p : String} {af : Array Edge} (ty : TypeId) (x y : Operand)
    (h : wpList Try.prog ops Q ({ dst := dst, op := .call { callee := .builtin .append, args := #[x, y], argTypes := #[ty, ty] }, type := t, pos := p, after := af, guard := none } :: rest) a W) : wpList Try.prog ops Q ({ dst := dst, op := .call { callee := .builtin .append, args := #[x, y], argTypes := #[ty, ty] }, type := t, pos := p, after := af, guard := none } :: rest) a W := h
set_option maxRecDepth 100000 in
theorem at_cvX {dst : Option Tmp} {t : TypeId} {p : String} {af : Array Edge} (s d : TypeId) (x : Operand)
    (h : wpList Try.prog ops Q ({ dst := dst, op := .convert s d x, type := t, pos := p, after := af, guard := none } :: rest) a W) : wpList Try.prog ops Q ({ dst := dst, op := .convert s d x, type := t, pos := p, after := af, guard := none } :: rest) a W := h
set_option maxRecDepth 100000 in
/-- A text's bytes. -/
theorem wpList_cvX (hgd : o.guard = none) (x : Operand) (ho : o.op = .convert 9 22 x) (l : List UInt8) (hx : a.eval x = .string ⟨l.toArray⟩) (hl : l.length ≤ 1000000)
    (h : ∀ A c w', Rd w' A l.length l → Below W.heap.size W w' → wpList Try.prog ops Q rest (a.put o.dst (.slice A l.length c)) w') : wpList Try.prog ops Q (o :: rest) a W := by
  obtain ⟨A, c, w', h1, h2, h3⟩ := conv_text W l hl
  refine wpList_plain hgd fun _ hK => ?_
  unfold Oper.wp execOp
  simp only [ho, hx, Sem.run_bind, h1, Result.andThen_ok]
  exact hK _ _ (h A c w' h2 h3)
end
end Go.Proofs.Ythkkllcpogagiaa
