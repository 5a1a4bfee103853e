/- Merged texts: RowX RowG. -/
import Derived.Test.YthkkllcpogagiaaDoorMap
import Derived.Test.YthkkllcpogagiaaDoorMad
import Derived.Test.YthkkllcpogagiaaDoorMaj
import Derived.Great.BuildSlice
/- Rows of one-cell values (strings, numbers) that a call made: what they read, how they grow. -/
namespace Go.Proofs.YthkkllcpogagiaaDoor
open Go.RowKit
set_option linter.unusedVariables false
set_option linter.unusedSimpArgs false

/-- The slice of n values that begins at A reads the values V. -/
def RdR (w : World) (A : Option Addr) (n : Nat) (V : List Value) : Prop :=
  V.length = n ∧ (0 < n → ∃ b off, A = some ⟨b, off, none⟩ ∧ b < w.heap.size ∧ ∀ j u, V[j]? = some u → w.cell? ⟨b, off + j, none⟩ = some u)
set_option maxRecDepth 100000 in
theorem RdR.nil (w : World) (A : Option Addr) : RdR w A 0 [] := ⟨rfl, fun h => absurd h (by omega)⟩
set_option maxRecDepth 100000 in
theorem RdR.below {w W : World} {A : Option Addr} {n : Nat} {V : List Value} (h : RdR w A n V) (hb : Below w.heap.size w W) : RdR W A n V :=
  ⟨h.1, fun hn => by
    obtain ⟨b, off, e, hlt, hc⟩ := h.2 hn
    exact ⟨b, off, e, Nat.lt_of_lt_of_le hlt hb.size, fun j u hu => (hb.cell (p := ⟨b, off + j, none⟩) hlt).trans (hc j u hu)⟩⟩
set_option maxRecDepth 100000 in
theorem RdR.at_ {w : World} {A : Option Addr} {n : Nat} {V : List Value} (h : RdR w A n V) {k : Nat} (hk : k < n) : ∃ b off, ∃ hl : k < V.length, A = some ⟨b, off, none⟩ ∧ b < w.heap.size ∧ w.cell? ⟨b, off + k, none⟩ = some V[k] := by
  obtain ⟨b, off, e, hb, hc⟩ := h.2 (by omega)
  have hl : k < V.length := by have := h.1; omega
  exact ⟨b, off, hl, e, hb, hc k _ (List.getElem?_eq_getElem hl)⟩
set_option maxRecDepth 100000 in
theorem RdR.take {w : World} {A : Option Addr} {n : Nat} {V : List Value} (h : RdR w A n V) {k : Nat} (hk : k ≤ n) : RdR w A k (V.take k) := by
  have hl := h.1
  refine ⟨by rw [List.length_take]; omega, fun hn => ?_⟩
  obtain ⟨b, off, e, hb, hc⟩ := h.2 (by omega)
  refine ⟨b, off, e, hb, fun j u hu => hc j u ?_⟩
  rw [List.getElem?_take] at hu
  split at hu
  · exact hu
  · cases hu
/-- A row of values that the call made. -/
def OwnR (w : World) (base : Nat) (e : TypeId) (A : Option Addr) (n c : Nat) (V : List Value) : Prop := V.length = n ∧ w.ownsRow base e 1 (.slice A n c) n V
set_option maxRecDepth 100000 in
theorem OwnR.nil (w : World) (base : Nat) (e : TypeId) : OwnR w base e none 0 0 [] := ⟨rfl, World.ownsRow_nil _ _ _ _⟩
set_option maxRecDepth 100000 in
theorem OwnR.len {w : World} {base n c : Nat} {e : TypeId} {A : Option Addr} {V : List Value} (h : OwnR w base e A n c V) : V.length = n := h.1
set_option maxRecDepth 100000 in
theorem OwnR.rd {w : World} {base n c : Nat} {e : TypeId} {A : Option Addr} {V : List Value} (h : OwnR w base e A n c V) : RdR w A n V := by
  obtain ⟨h1, h3⟩ := h
  refine ⟨h1, fun hn => ?_⟩
  rcases h3.2 with ⟨_, h0⟩ | ⟨g, cap, cur, hv, _, hg, hnc, _, hcs, hct⟩
  · omega
  · injection hv with e1
    refine ⟨g, 0, e1, (Array.getElem?_eq_some_iff.1 hg).1, fun i u hu => ?_⟩
    have hi : i < V.length := (List.getElem?_eq_some_iff.1 hu).1
    rw [Nat.zero_add, cell_of_row w g i cur e (0, 0) hg]
    have e2 : cur[i]? = V[i]? := by
      rw [← hct, List.getElem?_take, if_pos (by omega)]
      simp
    rw [e2, hu]
set_option maxRecDepth 100000 in
theorem OwnR.up {w W : World} {b n c : Nat} {e : TypeId} {A : Option Addr} {V : List Value} (h : OwnR w b e A n c V) (hb : Below w.heap.size w W) : OwnR W b e A n c V := by
  obtain ⟨h1, h3, h4⟩ := h
  refine ⟨h1, h3, ?_⟩
  rcases h4 with h | ⟨g, cap, cur, e1, e2, e3, e4⟩
  · exact .inl h
  · exact .inr ⟨g, cap, cur, e1, e2, (hb.block g (Array.getElem?_eq_some_iff.1 e3).1).trans e3, e4⟩
set_option maxRecDepth 100000 in
theorem OwnR.frm {w W : World} {b n c : Nat} {e : TypeId} {A : Option Addr} {V : List Value} {P : Nat → Prop} (h : OwnR w b e A n c V) (hf : Frm P w W) (hS : ∀ g, blkOf A = some g → ¬ P g) : OwnR W b e A n c V := by
  obtain ⟨h1, h3, h4⟩ := h
  refine ⟨h1, h3, ?_⟩
  rcases h4 with h | ⟨g, cap, cur, e1, e2, e3, e4⟩
  · exact .inl h
  · have hA : blkOf A = some g := by injection e1 with e5; rw [e5]; rfl
    exact .inr ⟨g, cap, cur, e1, e2, (hf.block g (Array.getElem?_eq_some_iff.1 e3).1 (hS g hA)).trans e3, e4⟩
set_option maxRecDepth 100000 in
theorem OwnR.cap {w : World} {b n c : Nat} {e : TypeId} {A : Option Addr} {V : List Value} (h : OwnR w b e A n c V) : n ≤ c ∧ c ≤ maxLen := by
  rcases h.2.2 with ⟨h, h0⟩ | ⟨g, cap, cur, e1, _, _, h2, h3, _⟩
  · injection h with _ _ e
    subst e
    exact ⟨by omega, by unfold maxLen; omega⟩
  · injection e1 with _ _ e
    subst e
    exact ⟨h2, h3⟩
set_option maxRecDepth 100000 in
theorem OwnR.blk {w : World} {b n c : Nat} {e : TypeId} {A : Option Addr} {V : List Value} (h : OwnR w b e A n c V) : ∀ g, blkOf A = some g → b ≤ g ∧ g < w.heap.size ∧ ∃ cs d, w.heap[g]? = some (.cells cs e d) := fun g hg => by
  rcases h.2.2 with ⟨hv, _⟩ | ⟨g', cap, cur, hv, hb, hr, _⟩
  · injection hv with e1; rw [e1] at hg; simp [blkOf] at hg
  · injection hv with e1
    rw [e1] at hg
    have e2 : g' = g := by simpa [blkOf] using hg
    subst e2
    exact ⟨hb, (Array.getElem?_eq_some_iff.1 hr).1, cur, (0, 0), hr⟩
set_option maxRecDepth 100000 in
/-- A later part of a row. -/
theorem RdR.drop {w : World} {A : Option Addr} {n c : Nat} {V : List Value} (h : RdR w A n V) (k : Nat) (hnc : n ≤ c) : RdR w (sub A c k) (n - k) (V.drop k) := by
  refine ⟨by rw [List.length_drop, h.1], fun hn => ?_⟩
  obtain ⟨b, off, rfl, hb, hc⟩ := h.2 (by omega)
  refine ⟨b, off + k, ?_, hb, fun j u hu => ?_⟩
  · unfold sub
    rw [if_neg (by omega), Option.map_some, Addr.add_mid]
  · rw [List.getElem?_drop] at hu
    rw [Nat.add_assoc]
    exact hc (k + j) u hu
set_option maxRecDepth 100000 in
theorem RdR.head {w : World} {A : Option Addr} {n c : Nat} {V : List Value} (h : RdR w A n V) (k : Nat) (hnc : n ≤ c) (hk : k ≤ n) : RdR w (sub A c 0) k (V.take k) :=
  ((h.drop 0 hnc).take (k := k) (by omega))
set_option maxRecDepth 100000 in
/-- A row that began above a mark began above a lower one. -/
theorem OwnR.low {w : World} {b b' n c : Nat} {e : TypeId} {A : Option Addr} {V : List Value} (h : OwnR w b e A n c V) (hb : b' ≤ b) : OwnR w b' e A n c V := by
  obtain ⟨h1, h3, h4⟩ := h
  refine ⟨h1, h3, ?_⟩
  rcases h4 with h | ⟨g, cap, cur, e1, e2, e3, e4⟩
  · exact .inl h
  · exact .inr ⟨g, cap, cur, e1, Nat.le_trans hb e2, e3, e4⟩
set_option maxRecDepth 100000 in
theorem frm_grownR {w w' : World} {A : Option Addr} {n c : Nat} (h : w.grownBy w' (Value.ownBlock (.slice A n c))) : Frm (fun i => blkOf A = some i) w w' :=
  ⟨h.os, h.tape, h.output, h.size, fun i hi hn => h.block i hi (fun e => hn (by
    cases A with
    | none => simp [Value.ownBlock] at e
    | some a => simp [Value.ownBlock] at e; simp [blkOf, e]))⟩
set_option maxRecDepth 100000 in
theorem run_bsR (t e : TypeId) (z v : Value) (ht : Tryd.prog.underlying t = some (.slice e)) (hinfo : (Tryd.prog.info? e).map (fun i => (i.zero, i.size)) = some (some z, 1)) (hzc : z.cells = #[z]) (hv : v.cells = #[v]) (W : World) :
    (Instr.buildSlice t 1 #[(0, v)]).run Tryd.prog W = .ok (.slice (some ⟨W.heap.size, 0, none⟩) 1 1) (W.alloc (.cells #[v] e)) := by
  obtain ⟨i, hi, hzz⟩ := Option.map_eq_some_iff.1 hinfo
  simp only [Prod.mk.injEq] at hzz
  obtain ⟨hz, hsz⟩ := hzz
  refine run_buildSlice W t e 1 _ #[v] i z ht hi hz (by rw [hsz]; decide) (by rw [hsz]; decide) ?_
  rw [hsz]
  have hz0 : (Array.range (1 * 1)).map (z.cells[· % z.cells.size]!) = [z].toArray := by rw [hzc]; apply Array.ext' ; simp [Array.range]
  rw [hz0]
  show Instr.fill (fun i => some (i * 1, 1)) [z].toArray [(0, v)] = some #[v]
  rw [fill_step _ _ [v] 0 0 _ _ (by rfl) hv (by simp), over_one _ _ _ (by simp), List.set_cons_zero]
  rfl
section
variable {ops : Array Oper} {rest : List Oper} {o : Oper} {a : Act} {W : World} {Q : Exit → Act → World → Prop} {K : Act → World → Prop}
set_option maxRecDepth 100000 in
theorem wpList_bsR (hgd : o.guard = none) (t e : TypeId) (z v : Value) (ht : Tryd.prog.underlying t = some (.slice e)) (hinfo : (Tryd.prog.info? e).map (fun i => (i.zero, i.size)) = some (some z, 1)) (hzc : z.cells = #[z]) (hv : v.cells = #[v]) (x : Operand) (ho : o.op = .buildSlice t 1 #[(0, x)]) (hx : a.eval x = v)
    (h : ∀ g w', Blk w' g [v] e → W.heap.size ≤ g → g < w'.heap.size → Below W.heap.size W w' → wpList Tryd.prog ops Q rest (a.put o.dst (.slice (some ⟨g, 0, none⟩) 1 1)) w') : wpList Tryd.prog ops Q (o :: rest) a W := by
  refine wpList_plain hgd fun _ hK => ?_
  unfold Oper.wp execOp
  simp only [ho, List.map_toArray, List.map_cons, List.map_nil, hx, Sem.run_bind, run_bsR t e z v ht hinfo hzc hv, Result.andThen_ok]
  exact hK _ _ (h W.heap.size _ (Blk.new W _ _) (Nat.le_refl _) (by simp) ((Below.refl _ W).alloc (Nat.le_refl _) _))
set_option maxRecDepth 100000 in
theorem Blk.rdR {g : Nat} {vs : List Value} {t : TypeId} (h : Blk W g vs t) : RdR W (some ⟨g, 0, none⟩) vs.length vs :=
  ⟨rfl, fun _ => ⟨g, 0, rfl, h.lt, fun j u hu => by rw [Nat.zero_add, h.cell, hu]⟩⟩
set_option maxRecDepth 100000 in
/-- append of values that are read. -/
theorem wpList_appR (hgd : o.guard = none) (t e : TypeId) (z : Value) (bytes : Nat) (ht : Tryd.prog.underlying t = some (.slice e)) (hinfo : (Tryd.prog.info? e).map (fun i => (i.zero, i.size, i.bytes)) = some (some z, 1, bytes)) (hz1 : z.cells.size = 1) (hby : bytes ≤ 100) (s x : Operand) (ho : o.op = .call { callee := .builtin .append, args := #[s, x], argTypes := #[t, t] })
    (base : Nat) (w : World) (hb : Below base w W) (hbase : base ≤ w.heap.size) (A : Option Addr) (n c : Nat) (V : List Value) (hs : a.eval s = .slice A n c) (hown : OwnR W base e A n c V) (X : Option Addr) (m cX : Nat) (E : List Value) (hx : a.eval x = .slice X m cX) (hsrc : RdR W X m E) (hone : ∀ u ∈ E, u.oneCell' = true)
    (hn : n + m ≤ 1000000) (h : ∀ A' c' w', OwnR w' base e A' (n + m) c' (V ++ E) → Frm (fun i => blkOf A = some i) W w' → Below base w w' → wpList Tryd.prog ops Q rest (a.put o.dst (.slice A' (n + m) c')) w') : wpList Tryd.prog ops Q (o :: rest) a W := by
  have hbW : base ≤ W.heap.size := Nat.le_trans hbase hb.size
  refine wpList_plain hgd fun _ hK => ?_
  refine wpo_appG W s x t ho e z bytes ht hinfo hz1 base _ n V hs hown.2 X m cX E hx hsrc.1 (fun hm => ?_) hone (by unfold maxLen; omega) (Nat.le_trans (Nat.mul_le_mul hn hby) (by decide)) hbW (fun A' c' w' g1 g2 g3 g4 => ?_)
  · obtain ⟨b, off, e1, _, hc⟩ := hsrc.2 hm
    exact ⟨_, e1, fun j u hu => by rw [Addr.add_mid]; exact hc j u hu⟩
  · exact hK _ _ (h A' c' w' ⟨by rw [List.length_append, hown.1, hsrc.1], g1⟩ (frm_grownR g4) (hb.trans g2))
set_option maxRecDepth 100000 in
theorem at_bsX {dst : Option Tmp} {t : TypeId} {p : String} {af : Array Edge} (ty : TypeId) (k : Nat) (parts : Array (Nat × Operand))
    (h : wpList Tryd.prog ops Q ({ dst := dst, op := .buildSlice ty k parts, type := t, pos := p, after := af, guard := none } :: rest) a W) : wpList Tryd.prog ops Q ({ dst := dst, op := .buildSlice ty k parts, type := t, pos := p, after := af, guard := none } :: rest) a W := h
set_option maxRecDepth 100000 in
theorem at_appX {dst : Option Tmp} {t : TypeId} {p : String} {af : Array Edge} (ty : TypeId) (x y : Operand)
    (h : wpList Tryd.prog ops Q ({ dst := dst, op := .call { callee := .builtin .append, args := #[x, y], argTypes := #[ty, ty] }, type := t, pos := p, after := af, guard := none } :: rest) a W) : wpList Tryd.prog ops Q ({ dst := dst, op := .call { callee := .builtin .append, args := #[x, y], argTypes := #[ty, ty] }, type := t, pos := p, after := af, guard := none } :: rest) a W := h
set_option maxRecDepth 100000 in
theorem at_cvX {dst : Option Tmp} {t : TypeId} {p : String} {af : Array Edge} (s d : TypeId) (x : Operand)
    (h : wpList Tryd.prog ops Q ({ dst := dst, op := .convert s d x, type := t, pos := p, after := af, guard := none } :: rest) a W) : wpList Tryd.prog ops Q ({ dst := dst, op := .convert s d x, type := t, pos := p, after := af, guard := none } :: rest) a W := h
set_option maxRecDepth 100000 in
/-- A text's bytes. -/
theorem wpList_cvX (hgd : o.guard = none) (x : Operand) (ho : o.op = .convert 9 28 x) (l : List UInt8) (hx : a.eval x = .string ⟨l.toArray⟩) (hl : l.length ≤ 1000000)
    (h : ∀ A c w', Rd w' A l.length l → Below W.heap.size W w' → wpList Tryd.prog ops Q rest (a.put o.dst (.slice A l.length c)) w') : wpList Tryd.prog ops Q (o :: rest) a W := by
  obtain ⟨A, c, w', h1, h2, h3⟩ := conv_text W l hl
  refine wpList_plain hgd fun _ hK => ?_
  unfold Oper.wp execOp
  simp only [ho, hx, Sem.run_bind, h1, Result.andThen_ok]
  exact hK _ _ (h A c w' h2 h3)
end
end Go.Proofs.YthkkllcpogagiaaDoor

/- Rows of structs of so many cells each: what they read, how they grow. -/
namespace Go.Proofs.YthkkllcpogagiaaDoor
open Go.RowKit
set_option linter.unusedVariables false
set_option linter.unusedSimpArgs false

set_option maxRecDepth 100000 in
theorem flatG_len {k : Nat} : ∀ (V : List (List Value)), (∀ x ∈ V, x.length = k) → V.flatten.length = V.length * k
  | [], _ => by simp
  | x :: V, h => by
    rw [List.flatten_cons, List.length_append, h x (by simp), flatG_len V (fun y hy => h y (by simp [hy])), List.length_cons, Nat.add_mul, Nat.one_mul, Nat.add_comm]
set_option maxRecDepth 100000 in
theorem flatG_at {k : Nat} : ∀ (V : List (List Value)) (i j : Nat), (∀ x ∈ V, x.length = k) → (h : i < V.length) → j < k → V.flatten[i * k + j]? = V[i][j]?
  | [], i, j, _, h, _ => by simp at h
  | x :: V, 0, j, hl, _, hj => by
    rw [List.flatten_cons, Nat.zero_mul, Nat.zero_add, List.getElem?_append_left (by rw [hl x (by simp)]; exact hj)]
    rfl
  | x :: V, i + 1, j, hl, h, hj => by
    have hk := hl x (by simp)
    rw [List.flatten_cons, List.getElem?_append_right (by rw [hk, Nat.add_mul]; omega), hk, show (i + 1) * k + j - k = i * k + j from by rw [Nat.add_mul]; omega, flatG_at V i j (fun y hy => hl y (by simp [hy])) (by simpa using h) hj]
    rfl
/-- The slice of n structs of k cells that begins at A reads V. -/
def RdG (w : World) (k : Nat) (A : Option Addr) (n : Nat) (V : List (List Value)) : Prop :=
  V.length = n ∧ (∀ x ∈ V, x.length = k) ∧ (0 < n → ∃ b off, A = some ⟨b, off, none⟩ ∧ b < w.heap.size ∧ ∀ i (h : i < V.length), w.rangeAt b (off + i * k) V[i])
set_option maxRecDepth 100000 in
theorem RdG.nil (w : World) (k : Nat) (A : Option Addr) : RdG w k A 0 [] := ⟨rfl, fun _ h => by simp at h, fun h => absurd h (by omega)⟩
set_option maxRecDepth 100000 in
theorem RdG.len {w : World} {k n : Nat} {A : Option Addr} {V : List (List Value)} (h : RdG w k A n V) : V.length = n := h.1
set_option maxRecDepth 100000 in
theorem RdG.below {w W : World} {k n : Nat} {A : Option Addr} {V : List (List Value)} (h : RdG w k A n V) (hb : Below w.heap.size w W) : RdG W k A n V :=
  ⟨h.1, h.2.1, fun hn => by
    obtain ⟨b, off, e, hlt, hc⟩ := h.2.2 hn
    exact ⟨b, off, e, Nat.lt_of_lt_of_le hlt hb.size, fun i hi j v hv => (hb.cell (p := ⟨b, off + i * k + j, none⟩) hlt).trans (hc i hi j v hv)⟩⟩
set_option maxRecDepth 100000 in
theorem RdG.at_ {w : World} {k n : Nat} {A : Option Addr} {V : List (List Value)} (h : RdG w k A n V) {i : Nat} (hi : i < n) : ∃ b off, ∃ hl : i < V.length, A = some ⟨b, off, none⟩ ∧ b < w.heap.size ∧ w.rangeAt b (off + i * k) V[i] := by
  obtain ⟨b, off, e, hlt, hc⟩ := h.2.2 (by omega)
  have hl : i < V.length := by rw [h.1]; exact hi
  exact ⟨b, off, hl, e, hlt, hc i hl⟩
/-- A row of structs that the call made. -/
def OwnG (w : World) (base : Nat) (e : TypeId) (k : Nat) (A : Option Addr) (n c : Nat) (V : List (List Value)) : Prop :=
  V.length = n ∧ (∀ x ∈ V, x.length = k) ∧ w.ownsRow base e k (.slice A n c) n V.flatten
set_option maxRecDepth 100000 in
theorem OwnG.nil (w : World) (base : Nat) (e : TypeId) (k : Nat) : OwnG w base e k none 0 0 [] := ⟨rfl, fun _ h => by simp at h, World.ownsRow_nil _ _ _ _⟩
set_option maxRecDepth 100000 in
theorem OwnG.len {w : World} {base k n c : Nat} {e : TypeId} {A : Option Addr} {V : List (List Value)} (h : OwnG w base e k A n c V) : V.length = n := h.1
set_option maxRecDepth 100000 in
theorem OwnG.rd {w : World} {base k n c : Nat} {e : TypeId} {A : Option Addr} {V : List (List Value)} (h : OwnG w base e k A n c V) : RdG w k A n V := by
  obtain ⟨h1, h2, h3⟩ := h
  refine ⟨h1, h2, fun hn => ?_⟩
  rcases h3.2 with ⟨_, h0⟩ | ⟨g, cap, cur, hv, _, hg, hnc, _, hcs, hct⟩
  · omega
  · injection hv with e1
    refine ⟨g, 0, e1, (Array.getElem?_eq_some_iff.1 hg).1, fun i hi j v hv' => ?_⟩
    have hk := h2 _ (List.getElem_mem hi)
    have hj : j < k := by have := (List.getElem?_eq_some_iff.1 hv').1; rw [hk] at this; exact this
    rw [Nat.zero_add, cell_of_row w g _ cur e (0, 0) hg]
    have hij : i * k + j < n * k := by
      have : (i + 1) * k ≤ n * k := Nat.mul_le_mul_right _ (by omega)
      rw [Nat.add_mul] at this
      omega
    have e2 : cur[i * k + j]? = V.flatten[i * k + j]? := by
      rw [← hct, List.getElem?_take, if_pos hij]
      simp
    rw [e2, flatG_at V i j h2 hi hj]
    exact hv'
set_option maxRecDepth 100000 in
theorem OwnG.up {w W : World} {b k n c : Nat} {e : TypeId} {A : Option Addr} {V : List (List Value)} (h : OwnG w b e k A n c V) (hb : Below w.heap.size w W) : OwnG W b e k A n c V := by
  obtain ⟨h1, h2, h3, h4⟩ := h
  refine ⟨h1, h2, h3, ?_⟩
  rcases h4 with h | ⟨g, cap, cur, e1, e2, e3, e4⟩
  · exact .inl h
  · exact .inr ⟨g, cap, cur, e1, e2, (hb.block g (Array.getElem?_eq_some_iff.1 e3).1).trans e3, e4⟩
set_option maxRecDepth 100000 in
theorem OwnG.blk {w : World} {b k n c : Nat} {e : TypeId} {A : Option Addr} {V : List (List Value)} (h : OwnG w b e k A n c V) : ∀ g, blkOf A = some g → b ≤ g ∧ g < w.heap.size ∧ ∃ cs d, w.heap[g]? = some (.cells cs e d) := fun g hg => by
  rcases h.2.2.2 with ⟨hv, _⟩ | ⟨g', cap, cur, hv, hb, hr, _⟩
  · injection hv with e1; rw [e1] at hg; simp [blkOf] at hg
  · injection hv with e1
    rw [e1] at hg
    have e2 : g' = g := by simpa [blkOf] using hg
    subst e2
    exact ⟨hb, (Array.getElem?_eq_some_iff.1 hr).1, cur, (0, 0), hr⟩
set_option maxRecDepth 100000 in
theorem OwnG.frm {w W : World} {b k n c : Nat} {e : TypeId} {A : Option Addr} {V : List (List Value)} {P : Nat → Prop} (h : OwnG w b e k A n c V) (hf : Frm P w W) (hS : ∀ g, blkOf A = some g → ¬ P g) : OwnG W b e k A n c V := by
  have hb := h.blk
  obtain ⟨h1, h2, h3, h4⟩ := h
  refine ⟨h1, h2, h3, ?_⟩
  rcases h4 with h | ⟨g, cap, cur, e1, e2, e3, e4⟩
  · exact .inl h
  · have hA : blkOf A = some g := by injection e1 with e5; rw [e5]; rfl
    exact .inr ⟨g, cap, cur, e1, e2, (hf.block g (hb g hA).2.1 (hS g hA)).trans e3, e4⟩
set_option maxRecDepth 100000 in
theorem OwnG.cap {w : World} {b k n c : Nat} {e : TypeId} {A : Option Addr} {V : List (List Value)} (h : OwnG w b e k A n c V) : n ≤ c ∧ c ≤ maxLen := by
  rcases h.2.2.2 with ⟨h, h0⟩ | ⟨g, cap, cur, e1, _, _, h2, h3, _⟩
  · injection h with _ e0 e
    subst e
    exact ⟨by omega, by unfold maxLen; omega⟩
  · injection e1 with _ _ e
    subst e
    exact ⟨h2, h3⟩
set_option maxRecDepth 100000 in
theorem OwnG.low {w : World} {b b' k n c : Nat} {e : TypeId} {A : Option Addr} {V : List (List Value)} (h : OwnG w b e k A n c V) (hb : b' ≤ b) : OwnG w b' e k A n c V := by
  obtain ⟨h1, h2, h3, h4⟩ := h
  refine ⟨h1, h2, h3, ?_⟩
  rcases h4 with h | ⟨g, cap, cur, e1, e2, e3⟩
  · exact .inl h
  · exact .inr ⟨g, cap, cur, e1, Nat.le_trans hb e2, e3⟩
section
variable {ops : Array Oper} {rest : List Oper} {o : Oper} {a : Act} {W : World} {Q : Exit → Act → World → Prop} {K : Act → World → Prop}
set_option maxRecDepth 100000 in
theorem run_bsG (t e : TypeId) (k bytes : Nat) (z : Value) (V : List Value) (hV : V.length = k) (ht : Tryd.prog.underlying t = some (.slice e)) (hinfo : (Tryd.prog.info? e).map (fun i => (i.zero, i.size, i.bytes)) = some (some z, k, bytes)) (hk : 0 < k) (hk2 : k ≤ 100) (Z : List Value) (hz0 : (Array.range (1 * k)).map (z.cells[· % z.cells.size]!) = Z.toArray) (hZ : Z.length = k) (W : World) :
    (Instr.buildSlice t 1 #[(0, .agg V.toArray)]).run Tryd.prog W = .ok (.slice (some ⟨W.heap.size, 0, none⟩) 1 1) (W.alloc (.cells V.toArray e)) := by
  obtain ⟨i, hi, hzz⟩ := Option.map_eq_some_iff.1 hinfo
  simp only [Prod.mk.injEq] at hzz
  obtain ⟨hz, hsz, _⟩ := hzz
  refine run_buildSlice W t e 1 _ V.toArray i z ht hi hz (by rw [hsz]; first | omega | (unfold maxLen; omega)) (by rw [hsz]; first | omega | (unfold maxLen; omega)) ?_
  rw [hsz, hz0]
  show Instr.fill (fun i => some (i * k, k)) Z.toArray [(0, .agg V.toArray)] = some V.toArray
  rw [fill_step _ Z V 0 0 _ _ (by rw [hV]; simp) rfl (by rw [hV, hZ]; omega), over_all Z V (by rw [hV, hZ])]
  rfl
set_option maxRecDepth 100000 in
theorem wpList_bsG (hgd : o.guard = none) (t e : TypeId) (k bytes : Nat) (z : Value) (V : List Value) (hV : V.length = k) (ht : Tryd.prog.underlying t = some (.slice e)) (hinfo : (Tryd.prog.info? e).map (fun i => (i.zero, i.size, i.bytes)) = some (some z, k, bytes)) (hk : 0 < k) (hk2 : k ≤ 100) (Z : List Value) (hz0 : (Array.range (1 * k)).map (z.cells[· % z.cells.size]!) = Z.toArray) (hZ : Z.length = k) (x : Operand) (ho : o.op = .buildSlice t 1 #[(0, x)]) (hx : a.eval x = .agg V.toArray)
    (h : ∀ g w', Blk w' g V e → W.heap.size ≤ g → g < w'.heap.size → Below W.heap.size W w' → wpList Tryd.prog ops Q rest (a.put o.dst (.slice (some ⟨g, 0, none⟩) 1 1)) w') : wpList Tryd.prog ops Q (o :: rest) a W := by
  refine wpList_plain hgd fun _ hK => ?_
  unfold Oper.wp execOp
  simp only [ho, List.map_toArray, List.map_cons, List.map_nil, hx, Sem.run_bind, run_bsG t e k bytes z V hV ht hinfo hk hk2 Z hz0 hZ, Result.andThen_ok]
  exact hK _ _ (h W.heap.size _ (Blk.new W _ _) (Nat.le_refl _) (by simp) ((Below.refl _ W).alloc (Nat.le_refl _) _))
set_option maxRecDepth 100000 in
theorem Blk.rdG {g : Nat} {V : List Value} {t : TypeId} {k : Nat} (h : Blk W g V t) (hV : V.length = k) : RdG W k (some ⟨g, 0, none⟩) 1 [V] :=
  ⟨rfl, fun x hx => by rw [List.mem_singleton.1 hx]; exact hV, fun _ => ⟨g, 0, rfl, h.lt, fun i hi j u hu => by
    have e : i = 0 := by simp at hi; exact hi
    subst e
    show W.cell? ⟨g, 0 + 0 * k + j, none⟩ = some u
    rw [Nat.zero_mul, Nat.add_zero, Nat.zero_add, h.cell]
    exact hu⟩⟩
set_option maxRecDepth 100000 in
/-- append of structs that are read. -/
theorem wp_appG (t e : TypeId) (k bytes : Nat) (z : Value) (ht : Tryd.prog.underlying t = some (.slice e)) (hinfo : (Tryd.prog.info? e).map (fun i => (i.zero, i.size, i.bytes)) = some (some z, k, bytes)) (hz1 : z.cells.size = k) (hk : 0 < k) (hk2 : k ≤ 100) (hby : bytes ≤ 10000) (s x : Operand) (ho : o.op = .call { callee := .builtin .append, args := #[s, x], argTypes := #[t, t] })
    (base : Nat) (w : World) (hb : Below base w W) (hbase : base ≤ w.heap.size) (A : Option Addr) (n c : Nat) (V : List (List Value)) (hs : a.eval s = .slice A n c) (hown : OwnG W base e k A n c V) (X : Addr) (hXs : X.spot = none) (m cX : Nat) (hm : 0 < m) (E : List (List Value)) (hx : a.eval x = .slice (some X) m cX) (hsrc : RdG W k (some X) m E) (hone : ∀ y ∈ E, ∀ u ∈ y, u.oneCell' = true)
    (hn : n + m ≤ 1000000) (h : ∀ A' c' w', OwnG w' base e k A' (n + m) c' (V ++ E) → Frm (fun i => blkOf A = some i) W w' → Below base w w' → K (a.put o.dst (.slice A' (n + m) c')) w') : o.wp Tryd.prog a W K Q := by
  have hbW : base ≤ W.heap.size := Nat.le_trans hbase hb.size
  obtain ⟨i, hi, hzz⟩ := Option.map_eq_some_iff.1 hinfo
  simp only [Prod.mk.injEq] at hzz
  obtain ⟨hz, hsz, hbyt⟩ := hzz
  obtain ⟨h1, h2, h3⟩ := hown
  obtain ⟨k1, k2, k3⟩ := hsrc
  obtain ⟨b, off, e1, hblt, hc⟩ := k3 hm
  injection e1 with e1
  have hcells : ∀ j u, E.flatten[j]? = some u → W.cell? (X.add j) = some u := fun j u hu => by
    have hjl : j < E.length * k := by have := (List.getElem?_eq_some_iff.1 hu).1; rwa [flatG_len E k2] at this
    have hdm := Nat.div_add_mod j k
    have hq : j / k < E.length := (Nat.div_lt_iff_lt_mul hk).2 hjl
    have hr : j % k < k := Nat.mod_lt _ hk
    have ej : j = j / k * k + j % k := by rw [Nat.mul_comm]; exact hdm.symm
    rw [ej, flatG_at E (j / k) (j % k) k2 hq hr] at hu
    have := hc (j / k) hq (j % k) u hu
    rw [e1, Addr.add_mid]
    rw [← this]
    congr 2
    omega
  obtain ⟨v', w', hrun, h4, h5, _, _⟩ := run_append_own_at (P := Tryd.prog) W base t o.type e i z k bytes ht hi hz hsz hbyt hz1 hk _ n _ h3 X m cX E.flatten (by rw [flatG_len E k2, k1]) hcells (fun u hu => by
    obtain ⟨y, hy, hu⟩ := List.mem_flatten.1 hu
    exact hone y hy u hu) (by
    have : (n + m) * k ≤ 1000000 * 100 := Nat.mul_le_mul hn hk2
    unfold maxLen; omega) (by
    have : (n + m) * bytes ≤ 1000000 * 10000 := Nat.mul_le_mul hn hby
    omega) hbW
  obtain ⟨A', c', rfl⟩ : ∃ A' c', v' = .slice A' (n + m) c' := by
    rcases h4.2 with ⟨_, h0⟩ | ⟨g', cap, cur, rfl, _⟩
    · omega
    · exact ⟨_, _, rfl⟩
  have hblk : ∀ q, Value.ownBlock (.slice A n c) = some q → base ≤ q := fun q hq => by
    rcases h3.2 with ⟨hv, _⟩ | ⟨g', cap, cur, hv, hb', _⟩
    · injection hv with e1; rw [e1] at hq; simp [Value.ownBlock] at hq
    · injection hv with e1
      rw [e1] at hq
      have : g' = q := by simpa [Value.ownBlock] using hq
      omega
  unfold Oper.wp execOp
  simp only [ho, resolve, invoke, builtin, Sem.run_bind, Sem.run_pure, Result.andThen_ok, List.map_toArray, List.map_cons, List.map_nil, hs, hx, hrun]
  refine h A' c' w' ⟨by rw [List.length_append, h1, k1], fun y hy => ?_, by rw [List.flatten_append]; exact h4⟩ (frm_grownR h5) (hb.trans ((Below.refl _ _).grown h5 hbW hblk))
  rcases List.mem_append.1 hy with hy | hy
  · exact h2 y hy
  · exact k2 y hy
set_option maxRecDepth 100000 in
theorem wpList_appG (hgd : o.guard = none) (t e : TypeId) (k bytes : Nat) (z : Value) (ht : Tryd.prog.underlying t = some (.slice e)) (hinfo : (Tryd.prog.info? e).map (fun i => (i.zero, i.size, i.bytes)) = some (some z, k, bytes)) (hz1 : z.cells.size = k) (hk : 0 < k) (hk2 : k ≤ 100) (hby : bytes ≤ 10000) (s x : Operand) (ho : o.op = .call { callee := .builtin .append, args := #[s, x], argTypes := #[t, t] })
    (base : Nat) (w : World) (hb : Below base w W) (hbase : base ≤ w.heap.size) (A : Option Addr) (n c : Nat) (V : List (List Value)) (hs : a.eval s = .slice A n c) (hown : OwnG W base e k A n c V) (X : Addr) (hXs : X.spot = none) (m cX : Nat) (hm : 0 < m) (E : List (List Value)) (hx : a.eval x = .slice (some X) m cX) (hsrc : RdG W k (some X) m E) (hone : ∀ y ∈ E, ∀ u ∈ y, u.oneCell' = true)
    (hn : n + m ≤ 1000000) (h : ∀ A' c' w', OwnG w' base e k A' (n + m) c' (V ++ E) → Frm (fun i => blkOf A = some i) W w' → Below base w w' → wpList Tryd.prog ops Q rest (a.put o.dst (.slice A' (n + m) c')) w') : wpList Tryd.prog ops Q (o :: rest) a W :=
  wpList_plain hgd fun _ hK => wp_appG t e k bytes z ht hinfo hz1 hk hk2 hby s x ho base w hb hbase A n c V hs hown X hXs m cX hm E hx hsrc hone hn (fun A' c' w' g1 g2 g3 => hK _ _ (h A' c' w' g1 g2 g3))
end
end Go.Proofs.YthkkllcpogagiaaDoor
