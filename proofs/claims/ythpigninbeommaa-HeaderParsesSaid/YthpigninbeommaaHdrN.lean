/- Two headers are equal if they are one; what Parse reads of 80 bytes, of fewer, of more. -/
import Derived.Test.YthpigninbeommaaHdrM
import Derived.Test.YthpigninbeommaaEq
import Derived.Deep.MidRow
namespace Go.Proofs.Ythpigninbeommaa
open Go.RowKit
set_option linter.unusedVariables false
set_option linter.unusedSimpArgs false

set_option maxRecDepth 100000 in
/-- A whole array is read under a guard that holds. -/
theorem load_midG {P : Program} {ops : Array Oper} {rest : List Oper} {op : Oper} {a : Act} {w : World} {Q : Exit → Act → World → Prop} (hw : Region.wanted op (yielded ops a.tmps) = true) (ty : TypeId) (x : Operand) (ho : op.op = .load ty x)
    (b o : Nat) (hx : a.eval x = .pointer (some ⟨b, o, none⟩)) (cs : List Value) (d : TypeDesc) (hc : w.rangeAt b o cs)
    (hu : P.underlying ty = some d) (hd : d.isRow = true) (hi : (P.info? ty).map (·.size) = some cs.length)
    (h : wpList P ops Q rest (a.put op.dst (.agg cs.toArray)) w) : wpList P ops Q (op :: rest) a w := by
  unfold wpList
  rw [if_pos hw]
  exact Or.inl (wp_load_mid ty x ho b o hx cs d hc hu hd hi h)
set_option maxRecDepth 100000 in
theorem at_loadG {P : Program} {ops : Array Oper} {rest : List Oper} {Q : Exit → Act → World → Prop} {a : Act} {w : World} {dst : Option Tmp} {t : TypeId} {p : String} {af : Array Edge} {gd : Nat × Bool} (ty : TypeId) (x : Operand)
    (h : wpList P ops Q ({ dst := dst, op := .load ty x, type := t, pos := p, after := af, guard := some gd } :: rest) a w) : wpList P ops Q ({ dst := dst, op := .load ty x, type := t, pos := p, after := af, guard := some gd } :: rest) a w := h
set_option maxRecDepth 100000 in
theorem mapM_list {α β : Type} (f : α → Option β) (g : α → β) : ∀ (l : List α), (∀ a ∈ l, f a = some (g a)) → l.mapM f = some (l.map g)
  | [], _ => rfl
  | a :: l, h => by
    rw [List.mapM_cons, h a (by simp), mapM_list f g l (fun x hx => h x (by simp [hx]))]
    rfl
set_option maxRecDepth 100000 in
theorem mapM_comp {α β γ : Type} (q : α → β) (f : β → Option γ) : ∀ l : List α, l.mapM (fun a => f (q a)) = (l.map q).mapM f
  | [] => rfl
  | a :: l => by
    rw [List.mapM_cons, List.map_cons, List.mapM_cons, mapM_comp q f l]
set_option maxRecDepth 100000 in
theorem flat1 {α β : Type} (f : α → β) : ∀ l : List α, (l.map fun a => [f a]).flatten = l.map f
  | [] => rfl
  | a :: l => by rw [List.map_cons, List.flatten_cons, flat1 f l]; rfl
def blits (l : List UInt8) : List Lit := l.map fun c => Lit.int .u8 (c.toNat : Int)
set_option maxRecDepth 100000 in
theorem blits_inj {l m : List UInt8} (h : blits l = blits m) : l = m := by
  refine List.map_inj_right ?_ |>.1 h
  intro a b e
  injection e with _ e
  exact UInt8.toNat_inj.1 (by omega)
set_option maxRecDepth 100000 in
theorem lit8 (c : UInt8) : (Lit.int .u8 (c.toNat : Int)).wf = true := by
  have := c.toNat_lt; have h1 : IntKind.u8.min = 0 := rfl; have h2 : IntKind.u8.max = 255 := rfl; simp [Lit.wf, h1, h2]; omega
set_option maxRecDepth 100000 in
theorem lit32 (n : Nat) (h : n < 4294967296) : (Lit.int .u32 (n : Int)).wf = true := by
  have h1 : IntKind.u32.min = 0 := rfl; have h2 : IntKind.u32.max = 4294967295 := rfl; simp [Lit.wf, h1, h2]; omega
set_option maxRecDepth 100000 in
theorem lits_bytes {P : Program} (t e : TypeId) (ht : P.underlying t = some (.array 32 e)) (he : P.underlying e = some (.int .u8)) (hce : P.cellsOf e = 1) (hct : P.cellsOf t = 32) (l : List UInt8) (hl : l.length = 32) :
    P.keyLits 2 t (l.map B8) = some (blits l) := by
  have h1 : (List.range 32).mapM (fun i => P.keyLits 1 e (((l.map B8).drop (i * P.cellsOf e)).take (P.cellsOf e))) = some ((List.range 32).map fun i => [Lit.int .u8 ((l.getD i 0).toNat : Int)]) := by
    refine mapM_list _ _ _ fun i hi => ?_
    have hi' : i < l.length := by rw [hl]; simpa using hi
    have e1 : ((l.map B8).drop (i * P.cellsOf e)).take (P.cellsOf e) = [.int .u8 ((l.getD i 0).toNat : Int)] := by
      rw [hce, Nat.mul_one, List.drop_eq_getElem_cons (by rw [List.length_map]; exact hi'), List.getElem_map]
      simp [B8, hi']
    rw [e1]
    simp only [Program.keyLits, he, lit8, and_self, if_true]
  unfold Program.keyLits
  simp only [ht]
  rw [if_pos (by rw [hct, List.length_map, hl]), h1, Option.map_some, flat1]
  congr 1
  unfold blits
  refine List.ext_getElem (by simp [hl]) fun i h2 h3 => ?_
  have : i < l.length := by simpa using h3
  simp [this]
def hdL (h : Hd) : List Lit := Lit.int .u32 (h.v : Int) :: (blits h.p ++ (blits h.r ++ [Lit.int .u32 (h.t : Int), Lit.int .u32 (h.b : Int), Lit.int .u32 (h.n : Int)]))
set_option maxRecDepth 100000 in
theorem hdL_inj {g h : Hd} (og : g.ok) (oh : h.ok) (e : hdL g = hdL h) : g = h := by
  obtain ⟨gv, gp, gr, gt, gb, gn⟩ := g
  obtain ⟨hv, hp, hr, ht, hb, hn⟩ := h
  unfold hdL at e
  simp only at e
  injection e with e1 e2
  have l1 : (blits gp).length = (blits hp).length := by simp [blits]; rw [og.p, oh.p]
  have l2 : (blits gr).length = (blits hr).length := by simp [blits]; rw [og.r, oh.r]
  have e3 := List.append_inj e2 l1
  have e4 := List.append_inj e3.2 l2
  have e5 := blits_inj e3.1
  have e6 := blits_inj e4.1
  have e7 := e4.2
  simp only [List.cons.injEq, Lit.int.injEq, and_true, true_and] at e1 e7
  simp only [Hd.mk.injEq]
  refine ⟨by omega, e5, e6, by omega, by omega, by omega⟩
set_option maxRecDepth 100000 in
theorem hd_lits {P : Program} (t u k e : TypeId) (fs : Array Field) (ht : P.underlying t = some (.struct fs)) (hn : fs.all (·.name != "_") = true) (hfs : fs.toList.map (fun f => (f.type, f.offset)) = [(u, 0), (k, 1), (k, 33), (u, 65), (u, 66), (u, 67)])
    (hct : P.cellsOf t = 68) (hu : P.underlying u = some (.int .u32)) (hcu : P.cellsOf u = 1) (hk : P.underlying k = some (.array 32 e)) (hck : P.cellsOf k = 32) (he : P.underlying e = some (.int .u8)) (hce : P.cellsOf e = 1) (h : Hd) (o : h.ok) :
    P.keyLits 3 t h.cells = some (hdL h) := by
  have hp := o.p
  have hr := o.r
  have c0 : (h.cells.drop 0).take 1 = [.int .u32 (h.v : Int)] := rfl
  have c1 : (h.cells.drop 1).take 32 = h.p.map B8 := by unfold Hd.cells; rw [List.drop_succ_cons, List.drop_zero, List.take_left' (by rw [List.length_map]; exact hp)]
  have c2 : (h.cells.drop 33).take 32 = h.r.map B8 := by unfold Hd.cells; rw [show 33 = 32 + 1 from rfl, List.drop_succ_cons, List.drop_left' (by rw [List.length_map]; exact hp), List.take_left' (by rw [List.length_map]; exact hr)]
  have c65 : ∀ j, (h.cells.drop (65 + j)) = [Value.int .u32 (h.t : Int), .int .u32 (h.b : Int), .int .u32 (h.n : Int)].drop j := fun j => by
    unfold Hd.cells
    rw [show 65 + j = (64 + j) + 1 from by omega, List.drop_succ_cons, show 64 + j = 32 + (32 + j) from by omega, ← List.drop_drop, List.drop_left' (by rw [List.length_map]; exact hp), ← List.drop_drop, List.drop_left' (by rw [List.length_map]; exact hr)]
  have c3 : (h.cells.drop 65).take 1 = [.int .u32 (h.t : Int)] := by rw [c65 0]; rfl
  have c4 : (h.cells.drop 66).take 1 = [.int .u32 (h.b : Int)] := by rw [c65 1]; rfl
  have c5 : (h.cells.drop 67).take 1 = [.int .u32 (h.n : Int)] := by rw [c65 2]; rfl
  have ku : ∀ n : Nat, n < 4294967296 → P.keyLits 2 u [.int .u32 (n : Int)] = some [Lit.int .u32 (n : Int)] := fun n h => by simp only [Program.keyLits, hu, lit32 n h, and_self, if_true]
  unfold Program.keyLits
  simp only [ht]
  rw [if_pos ⟨by rw [hct, Hd.cells_len o], hn⟩, mapM_comp (fun f : Field => (f.type, f.offset)) (fun p => P.keyLits 2 p.1 ((h.cells.drop p.2).take (P.cellsOf p.1))), hfs]
  simp only [List.mapM_cons, List.mapM_nil, hcu, hck, c0, c1, c2, c3, c4, c5, ku _ o.v, ku _ o.t, ku _ o.b, ku _ o.n, lits_bytes k e hk he hce hck _ hp, lits_bytes k e hk he hce hck _ hr]
  rfl
set_option maxRecDepth 100000 in
theorem equalHd {P : Program} (t : TypeId) (hk : P.keyTypeAt 3 t = true) (hf : ∀ h : Hd, h.ok → (Value.agg h.cells.toArray).formed P t = true) (hl : ∀ h : Hd, h.ok → P.keyLits 3 t h.cells = some (hdL h)) (g h : Hd) (og : g.ok) (oh : h.ok) (w : World) :
    ∃ b : Bool, (Op.equalIn 10000 t (.agg g.cells.toArray) (.agg h.cells.toArray)).run P w = .ok b w ∧ (b = true ↔ g = h) := by
  obtain ⟨b, hb, hiff⟩ := run_equalIn_deep (P := P) 9997 3 t hk w 3 3 (.agg g.cells.toArray) (.agg h.cells.toArray) _ _ (hf g og) (hf h oh) (hl g og) (hl h oh)
  exact ⟨b, hb, hiff.trans ⟨hdL_inj og oh, fun e => by rw [e]⟩⟩
set_option maxRecDepth 100000 in
theorem litsG (h : Hd) (o : h.ok) : Try.prog.keyLits 3 28 h.cells = some (hdL h) :=
  hd_lits 28 24 26 5 _ Try.underlying28 (by kernel_rfl) (by kernel_rfl) (by kernel_rfl) Try.underlying24 (by kernel_rfl) Try.underlying26 (by kernel_rfl) Try.underlying5 (by kernel_rfl) h o
set_option maxRecDepth 100000 in
theorem litsR (h : Hd) (o : h.ok) : Try.prog.keyLits 3 33 h.cells = some (hdL h) :=
  hd_lits 33 24 25 5 _ Try.underlying33 (by kernel_rfl) (by kernel_rfl) (by kernel_rfl) Try.underlying24 (by kernel_rfl) Try.underlying25 (by kernel_rfl) Try.underlying5 (by kernel_rfl) h o
set_option maxRecDepth 100000 in
theorem formedG (h : Hd) (o : h.ok) : (Value.agg h.cells.toArray).formed Try.prog 28 = true := by
  have hc : Try.prog.cellsOf 28 = 68 := by kernel_rfl
  simp [Value.formed, Try.underlying28, hc, Hd.cells_len o]
set_option maxRecDepth 100000 in
theorem formedR (h : Hd) (o : h.ok) : (Value.agg h.cells.toArray).formed Try.prog 33 = true := by
  have hc : Try.prog.cellsOf 33 = 68 := by kernel_rfl
  simp [Value.formed, Try.underlying33, hc, Hd.cells_len o]
set_option maxRecDepth 100000 in
theorem eqG (g h : Hd) (og : g.ok) (oh : h.ok) (w : World) : ∃ b : Bool, (Op.equalIn 10000 28 (.agg g.cells.toArray) (.agg h.cells.toArray)).run Try.prog w = .ok b w ∧ (b = true ↔ g = h) :=
  equalHd 28 (by kernel_rfl) formedG litsG g h og oh w
set_option maxRecDepth 100000 in
theorem eqG_self (h : Hd) (o : h.ok) (w : World) : (Op.equalIn 10000 28 (.agg h.cells.toArray) (.agg h.cells.toArray)).run Try.prog w = .ok true w := by
  obtain ⟨b, hb, hi⟩ := eqG h h o o w
  rw [hi.2 rfl] at hb
  exact hb
set_option maxRecDepth 100000 in
theorem eqG_ne (g h : Hd) (og : g.ok) (oh : h.ok) (ne : g ≠ h) (w : World) : (Op.equalIn 10000 28 (.agg g.cells.toArray) (.agg h.cells.toArray)).run Try.prog w = .ok false w := by
  obtain ⟨b, hb, hi⟩ := eqG g h og oh w
  have : b = false := by cases b; rfl; exact absurd (hi.1 rfl) ne
  rw [this] at hb
  exact hb
set_option maxRecDepth 100000 in
theorem eqR_self (h : Hd) (o : h.ok) (w : World) : (Op.equalIn 10000 33 (.agg h.cells.toArray) (.agg h.cells.toArray)).run Try.prog w = .ok true w := by
  obtain ⟨b, hb, hi⟩ := equalHd 33 (by kernel_rfl) formedR litsR h h o o w
  rw [hi.2 rfl] at hb
  exact hb
end Go.Proofs.Ythpigninbeommaa
