/- Merged texts: HdrN ArrD. -/
import Derived.Test.YtnfcnjboeocnmaaDoorMas
import Derived.Test.YtnfcnjboeocnmaaDoorMam
import Derived.Deep.MidRow
import Derived.Test.YtnfcnjboeocnmaaDoorMaq
import Derived.OpenShut
/- Two headers are equal if they are one; what Parse reads of 80 bytes, of fewer, of more. -/
namespace Go.Proofs.YtnfcnjboeocnmaaDoor
open Go.RowKit
set_option linter.unusedVariables false
set_option linter.unusedSimpArgs false

set_option maxRecDepth 100000 in
/-- A whole array is read under a guard that holds. -/
theorem load_midG {P : Program} {ops : Array Oper} {rest : List Oper} {op : Oper} {a : Act} {w : World} {Q : Exit → Act → World → Prop} (hw : Region.wanted op (yielded ops a.tmps) = true) (ty : TypeId) (x : Operand) (ho : op.op = .load ty x)
    (b o : Nat) (hx : a.eval x = .pointer (some ⟨b, o, none⟩)) (cs : List Value) (d : TypeDesc) (hc : w.rangeAt b o cs)
    (hu : P.underlying ty = some d) (hd : d.isRow = true) (hi : (P.info? ty).map (·.size) = some cs.length)
    (h : wpList P ops Q rest (a.put op.dst (.agg cs.toArray)) w) : wpList P ops Q (op :: rest) a w := by
  unfold wpList
  rw [if_pos hw]
  exact Or.inl (wp_load_mid ty x ho b o hx cs d hc hu hd hi h)
set_option maxRecDepth 100000 in
theorem at_loadG {P : Program} {ops : Array Oper} {rest : List Oper} {Q : Exit → Act → World → Prop} {a : Act} {w : World} {dst : Option Tmp} {t : TypeId} {p : String} {af : Array Edge} {gd : Nat × Bool} (ty : TypeId) (x : Operand)
    (h : wpList P ops Q ({ dst := dst, op := .load ty x, type := t, pos := p, after := af, guard := some gd } :: rest) a w) : wpList P ops Q ({ dst := dst, op := .load ty x, type := t, pos := p, after := af, guard := some gd } :: rest) a w := h
set_option maxRecDepth 100000 in
theorem mapM_list {α β : Type} (f : α → Option β) (g : α → β) : ∀ (l : List α), (∀ a ∈ l, f a = some (g a)) → l.mapM f = some (l.map g)
  | [], _ => rfl
  | a :: l, h => by
    rw [List.mapM_cons, h a (by simp), mapM_list f g l (fun x hx => h x (by simp [hx]))]
    rfl
set_option maxRecDepth 100000 in
theorem mapM_comp {α β γ : Type} (q : α → β) (f : β → Option γ) : ∀ l : List α, l.mapM (fun a => f (q a)) = (l.map q).mapM f
  | [] => rfl
  | a :: l => by
    rw [List.mapM_cons, List.map_cons, List.mapM_cons, mapM_comp q f l]
set_option maxRecDepth 100000 in
theorem flat1 {α β : Type} (f : α → β) : ∀ l : List α, (l.map fun a => [f a]).flatten = l.map f
  | [] => rfl
  | a :: l => by rw [List.map_cons, List.flatten_cons, flat1 f l]; rfl
def blits (l : List UInt8) : List Lit := l.map fun c => Lit.int .u8 (c.toNat : Int)
set_option maxRecDepth 100000 in
theorem blits_inj {l m : List UInt8} (h : blits l = blits m) : l = m := by
  refine List.map_inj_right ?_ |>.1 h
  intro a b e
  injection e with _ e
  exact UInt8.toNat_inj.1 (by omega)
set_option maxRecDepth 100000 in
theorem lit8 (c : UInt8) : (Lit.int .u8 (c.toNat : Int)).wf = true := by
  have := c.toNat_lt; have h1 : IntKind.u8.min = 0 := rfl; have h2 : IntKind.u8.max = 255 := rfl; simp [Lit.wf, h1, h2]; omega
set_option maxRecDepth 100000 in
theorem lit32 (n : Nat) (h : n < 4294967296) : (Lit.int .u32 (n : Int)).wf = true := by
  have h1 : IntKind.u32.min = 0 := rfl; have h2 : IntKind.u32.max = 4294967295 := rfl; simp [Lit.wf, h1, h2]; omega
set_option maxRecDepth 100000 in
theorem lits_bytes {P : Program} (t e : TypeId) (ht : P.underlying t = some (.array 32 e)) (he : P.underlying e = some (.int .u8)) (hce : P.cellsOf e = 1) (hct : P.cellsOf t = 32) (l : List UInt8) (hl : l.length = 32) :
    P.keyLits 2 t (l.map B8) = some (blits l) := by
  have h1 : (List.range 32).mapM (fun i => P.keyLits 1 e (((l.map B8).drop (i * P.cellsOf e)).take (P.cellsOf e))) = some ((List.range 32).map fun i => [Lit.int .u8 ((l.getD i 0).toNat : Int)]) := by
    refine mapM_list _ _ _ fun i hi => ?_
    have hi' : i < l.length := by rw [hl]; simpa using hi
    have e1 : ((l.map B8).drop (i * P.cellsOf e)).take (P.cellsOf e) = [.int .u8 ((l.getD i 0).toNat : Int)] := by
      rw [hce, Nat.mul_one, List.drop_eq_getElem_cons (by rw [List.length_map]; exact hi'), List.getElem_map]
      simp [B8, hi']
    rw [e1]
    simp only [Program.keyLits, he, lit8, and_self, if_true]
  unfold Program.keyLits
  simp only [ht]
  rw [if_pos (by rw [hct, List.length_map, hl]), h1, Option.map_some, flat1]
  congr 1
  unfold blits
  refine List.ext_getElem (by simp [hl]) fun i h2 h3 => ?_
  have : i < l.length := by simpa using h3
  simp [this]
def hdL (h : Hd) : List Lit := Lit.int .u32 (h.v : Int) :: (blits h.p ++ (blits h.r ++ [Lit.int .u32 (h.t : Int), Lit.int .u32 (h.b : Int), Lit.int .u32 (h.n : Int)]))
set_option maxRecDepth 100000 in
theorem hdL_inj {g h : Hd} (og : g.ok) (oh : h.ok) (e : hdL g = hdL h) : g = h := by
  obtain ⟨gv, gp, gr, gt, gb, gn⟩ := g
  obtain ⟨hv, hp, hr, ht, hb, hn⟩ := h
  unfold hdL at e
  simp only at e
  injection e with e1 e2
  have l1 : (blits gp).length = (blits hp).length := by simp [blits]; rw [og.p, oh.p]
  have l2 : (blits gr).length = (blits hr).length := by simp [blits]; rw [og.r, oh.r]
  have e3 := List.append_inj e2 l1
  have e4 := List.append_inj e3.2 l2
  have e5 := blits_inj e3.1
  have e6 := blits_inj e4.1
  have e7 := e4.2
  simp only [List.cons.injEq, Lit.int.injEq, and_true, true_and] at e1 e7
  simp only [Hd.mk.injEq]
  refine ⟨by omega, e5, e6, by omega, by omega, by omega⟩
set_option maxRecDepth 100000 in
theorem hd_lits {P : Program} (t u k e : TypeId) (fs : Array Field) (ht : P.underlying t = some (.struct fs)) (hn : fs.all (·.name != "_") = true) (hfs : fs.toList.map (fun f => (f.type, f.offset)) = [(u, 0), (k, 1), (k, 33), (u, 65), (u, 66), (u, 67)])
    (hct : P.cellsOf t = 68) (hu : P.underlying u = some (.int .u32)) (hcu : P.cellsOf u = 1) (hk : P.underlying k = some (.array 32 e)) (hck : P.cellsOf k = 32) (he : P.underlying e = some (.int .u8)) (hce : P.cellsOf e = 1) (h : Hd) (o : h.ok) :
    P.keyLits 3 t h.cells = some (hdL h) := by
  have hp := o.p
  have hr := o.r
  have c0 : (h.cells.drop 0).take 1 = [.int .u32 (h.v : Int)] := rfl
  have c1 : (h.cells.drop 1).take 32 = h.p.map B8 := by unfold Hd.cells; rw [List.drop_succ_cons, List.drop_zero, List.take_left' (by rw [List.length_map]; exact hp)]
  have c2 : (h.cells.drop 33).take 32 = h.r.map B8 := by unfold Hd.cells; rw [show 33 = 32 + 1 from rfl, List.drop_succ_cons, List.drop_left' (by rw [List.length_map]; exact hp), List.take_left' (by rw [List.length_map]; exact hr)]
  have c65 : ∀ j, (h.cells.drop (65 + j)) = [Value.int .u32 (h.t : Int), .int .u32 (h.b : Int), .int .u32 (h.n : Int)].drop j := fun j => by
    unfold Hd.cells
    rw [show 65 + j = (64 + j) + 1 from by omega, List.drop_succ_cons, show 64 + j = 32 + (32 + j) from by omega, ← List.drop_drop, List.drop_left' (by rw [List.length_map]; exact hp), ← List.drop_drop, List.drop_left' (by rw [List.length_map]; exact hr)]
  have c3 : (h.cells.drop 65).take 1 = [.int .u32 (h.t : Int)] := by rw [c65 0]; rfl
  have c4 : (h.cells.drop 66).take 1 = [.int .u32 (h.b : Int)] := by rw [c65 1]; rfl
  have c5 : (h.cells.drop 67).take 1 = [.int .u32 (h.n : Int)] := by rw [c65 2]; rfl
  have ku : ∀ n : Nat, n < 4294967296 → P.keyLits 2 u [.int .u32 (n : Int)] = some [Lit.int .u32 (n : Int)] := fun n h => by simp only [Program.keyLits, hu, lit32 n h, and_self, if_true]
  unfold Program.keyLits
  simp only [ht]
  rw [if_pos ⟨by rw [hct, Hd.cells_len o], hn⟩, mapM_comp (fun f : Field => (f.type, f.offset)) (fun p => P.keyLits 2 p.1 ((h.cells.drop p.2).take (P.cellsOf p.1))), hfs]
  simp only [List.mapM_cons, List.mapM_nil, hcu, hck, c0, c1, c2, c3, c4, c5, ku _ o.v, ku _ o.t, ku _ o.b, ku _ o.n, lits_bytes k e hk he hce hck _ hp, lits_bytes k e hk he hce hck _ hr]
  rfl
set_option maxRecDepth 100000 in
theorem equalHd {P : Program} (t : TypeId) (hk : P.keyTypeAt 3 t = true) (hf : ∀ h : Hd, h.ok → (Value.agg h.cells.toArray).formed P t = true) (hl : ∀ h : Hd, h.ok → P.keyLits 3 t h.cells = some (hdL h)) (g h : Hd) (og : g.ok) (oh : h.ok) (w : World) :
    ∃ b : Bool, (Op.equalIn 10000 t (.agg g.cells.toArray) (.agg h.cells.toArray)).run P w = .ok b w ∧ (b = true ↔ g = h) := by
  obtain ⟨b, hb, hiff⟩ := run_equalIn_deep (P := P) 9997 3 t hk w 3 3 (.agg g.cells.toArray) (.agg h.cells.toArray) _ _ (hf g og) (hf h oh) (hl g og) (hl h oh)
  exact ⟨b, hb, hiff.trans ⟨hdL_inj og oh, fun e => by rw [e]⟩⟩
end Go.Proofs.YtnfcnjboeocnmaaDoor

/- A header that came in, as it is read off the row's data. -/
namespace Go.Proofs.YtnfcnjboeocnmaaDoor
open Go.RowKit
set_option linter.unusedVariables false

set_option maxRecDepth 100000 in
theorem trod_bytes {H : Type} {enc : TypeId × Value → H} {P : Program} {W : World} {base : Nat} {sp : Nat → Bool} {held : Bool} {k e : TypeId} {m : Nat} {cs : List Value} {x : DataW H × List MemPlace} (hu : P.underlying k = some (.array 32 e)) (he : P.underlying e = some (.int .u8)) (hce : P.cellsOf e = 1) (hck : P.cellsOf k = 32)
    (h : DataW.trod enc P W base sp held m k cs = some x) (hl : cs.length = 32) : ∃ l : List UInt8, l.length = 32 ∧ cs = l.map B8 := by
  cases m with
  | zero => simp [DataW.trod] at h
  | succ m =>
    unfold DataW.trod at h
    simp only [hu] at h
    rw [if_pos (by rw [hck, hl])] at h
    simp only [Option.map_eq_some_iff] at h
    obtain ⟨ys, hy, _⟩ := h
    rw [hce] at hy
    have hh := mapM_ints he _ ys hy
    obtain ⟨zs, hz, hw⟩ := ints_of cs (q := .u8) (fun i hi => hh i (by simp at hi ⊢; omega))
    obtain ⟨l, hl2, e2⟩ := bytes_of_ints zs hw
    refine ⟨l, ?_, by rw [hz, e2]⟩
    have := congrArg List.length hz
    simp at this
    omega
set_option maxRecDepth 100000 in
theorem u32_of {z : Int} (h : (Lit.int .u32 z).wf = true) : ∃ n : Nat, z = (n : Int) ∧ n < 4294967296 := by
  have hb := bounds_u32 h
  exact ⟨z.toNat, by omega, by omega⟩
set_option maxRecDepth 100000 in
theorem take_eq {α : Type} {cs : List α} {o n : Nat} {l : List α} (h : (cs.drop o).take n = l) (hl : l.length = n) : cs.drop o = l ++ cs.drop (o + n) := by
  rw [← h, ← List.drop_drop]
  exact (List.take_append_drop n (cs.drop o)).symm
set_option maxRecDepth 100000 in
theorem open_hd {H : Type} {enc : TypeId × Value → H} {P : Program} {W : World} {base : Nat} {sp : Nat → Bool} {held : Bool} {r : Reach} {b0 : Nat} {v : Value} {d : DataW H} {ps : List MemPlace} (t u k e : TypeId) (fs : Array Field) (ht : P.underlying t = some (.struct fs)) (hfs : fs.toList.map (fun f => (f.type, f.offset)) = [(u, 0), (k, 1), (k, 33), (u, 65), (u, 66), (u, 67)])
    (hct : P.cellsOf t = 68) (hu : P.underlying u = some (.int .u32)) (hcu : P.cellsOf u = 1) (hk : P.underlying k = some (.array 32 e)) (hck : P.cellsOf k = 32) (he : P.underlying e = some (.int .u8)) (hce : P.cellsOf e = 1)
    (hv : Value.okWide P W r b0 t v) (hd : DataW.Trod enc P W base sp held t v d ps) : ∃ h : Hd, v = .agg h.cells.toArray ∧ h.ok := by
  simp only [Value.okWide, ht] at hv
  obtain ⟨cs, rfl, hs, _⟩ := hv
  rw [hct] at hs
  obtain ⟨fuel, hf⟩ := hd
  cases fuel with
  | zero => simp [DataW.trod] at hf
  | succ m =>
    unfold DataW.trod at hf
    simp only [ht, Value.cells] at hf
    rw [if_pos (by rw [hct]; simpa using hs)] at hf
    simp only [Option.map_eq_some_iff] at hf
    obtain ⟨ys, hy, _⟩ := hf
    rw [mapM_comp (fun f : Field => (f.type, f.offset)) (fun p => DataW.trod enc P W base sp held m p.1 ((cs.toList.drop p.2).take (P.cellsOf p.1))), hfs] at hy
    simp only [List.mapM_cons, List.mapM_nil, hcu, hck, bind, Option.bind_eq_some_iff, pure, Option.some.injEq] at hy
    obtain ⟨y0, h0, _, ⟨y1, h1, _, ⟨y2, h2, _, ⟨y3, h3, _, ⟨y4, h4, _, ⟨y5, h5, _⟩, _⟩, _⟩, _⟩, _⟩, _⟩ := hy
    have hl : cs.toList.length = 68 := by simpa using hs
    obtain ⟨zv, ev, _, wv⟩ := DataW.trod_int hu h0
    obtain ⟨zt, et, _, wt⟩ := DataW.trod_int hu h3
    obtain ⟨zb, eb, _, wb⟩ := DataW.trod_int hu h4
    obtain ⟨zn, en, _, wn⟩ := DataW.trod_int hu h5
    obtain ⟨p, hp, ep⟩ := trod_bytes hk he hce hck h1 (by rw [List.length_take, List.length_drop]; omega)
    obtain ⟨q, hq, eq⟩ := trod_bytes hk he hce hck h2 (by rw [List.length_take, List.length_drop]; omega)
    obtain ⟨nv, rfl, bv⟩ := u32_of wv
    obtain ⟨nt, rfl, bt⟩ := u32_of wt
    obtain ⟨nb, rfl, bb⟩ := u32_of wb
    obtain ⟨nn, rfl, bn⟩ := u32_of wn
    refine ⟨⟨nv, p, q, nt, nb, nn⟩, ?_, ⟨bv, hp, hq, bt, bb, bn⟩⟩
    have e0 := take_eq ev rfl
    have e1 := take_eq ep (by rw [List.length_map, hp])
    have e2 := take_eq eq (by rw [List.length_map, hq])
    have e3 := take_eq et rfl
    have e4 := take_eq eb rfl
    have e5 := take_eq en rfl
    rw [List.drop_of_length_le (show cs.toList.length ≤ 67 + 1 by omega), List.append_nil] at e5
    rw [show 66 + 1 = 67 from rfl, e5] at e4
    rw [show 65 + 1 = 66 from rfl, e4] at e3
    rw [show 33 + 32 = 65 from rfl, e3] at e2
    rw [show 1 + 32 = 33 from rfl, e2] at e1
    rw [show 0 + 1 = 1 from rfl, e1, List.drop_zero] at e0
    have : cs = (cs.toList).toArray := by simp
    rw [this, e0]
    rfl
end Go.Proofs.YtnfcnjboeocnmaaDoor
