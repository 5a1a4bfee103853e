/- Merged texts: HdrI HdrN. -/
import Derived.Test.YthpigninbeommaaDoorMav
import Derived.Test.YthpigninbeommaaDoorMal
import Derived.Test.YthpigninbeommaaDoorMaf
import Derived.Test.YthpigninbeommaaDoorMas
import Derived.Test.YthpigninbeommaaDoorMat
import Derived.Test.YthpigninbeommaaDoorMam
import Derived.Deep.MidRow
/- The contract of package header's own Hash. -/
namespace Go.Proofs.YthpigninbeommaaDoor
open Go.RowKit
set_option linter.unusedVariables false
set_option linter.unusedSimpArgs false

def zeros32 : List Value := [.int .u8 0, .int .u8 0, .int .u8 0, .int .u8 0, .int .u8 0, .int .u8 0, .int .u8 0, .int .u8 0, .int .u8 0, .int .u8 0, .int .u8 0, .int .u8 0, .int .u8 0, .int .u8 0, .int .u8 0, .int .u8 0, .int .u8 0, .int .u8 0, .int .u8 0, .int .u8 0, .int .u8 0, .int .u8 0, .int .u8 0, .int .u8 0, .int .u8 0, .int .u8 0, .int .u8 0, .int .u8 0, .int .u8 0, .int .u8 0, .int .u8 0, .int .u8 0]
/-- The hash of a header. -/
def Hd.hash (h : Hd) : List UInt8 := sha (sha h.bytes)
set_option maxRecDepth 100000 in
theorem Hd.hash_len (h : Hd) : h.hash.length = 32 := sha_len _
set_option maxRecDepth 100000 in
theorem hrdm (W : World) (A : Option Addr) (n c : Nat) (l : List UInt8) (t : TypeId) (h : Rd W A n l) (hc : n ≤ c) (hm : c ≤ maxLen) : RdM (W.alloc (.cells #[.slice A n c] t)) (some ⟨W.heap.size, 0, none⟩) 1 [l] := by
  have hb := Blk.new W #[.slice A n c] t
  refine ⟨rfl, fun _ => ⟨W.heap.size, 0, rfl, hb.lt, fun j hj => ?_⟩⟩
  have : j = 0 := by simp at hj; omega
  subst this
  exact ⟨A, n, c, hb.cell 0, hc, hm, h.below (below_al (Below.refl _ W) _)⟩
set_option maxRecDepth 100000 in
set_option maxHeartbeats 4000000 in
theorem ghash_calls (h : Hd) (o : h.ok) (w : World) (hT : Tab w) : Calls Tryd.prog 11 #[.agg h.cells.toArray] w (Ret w (.agg (h.hash.map B8).toArray)) := by
  obtain ⟨X, hX⟩ : ∃ X, X = h.cells := ⟨_, rfl⟩
  obtain ⟨V, hV⟩ : ∃ V, V = h.hash.map B8 := ⟨_, rfl⟩
  have IX : Hid ((Tryd.prog.info? 26).map (·.size) = some X.length) := Lib.hid (by rw [hX]; exact Hd.sizeG o)
  have IV : Hid ((Tryd.prog.info? 24).map (·.size) = some V.length) := Lib.hid (by
    rw [hV, List.length_map, Hd.hash_len]
    kernel_rfl)
  have LV : Hid (zeros32.length = V.length) := Lib.hid (by rw [hV, List.length_map, Hd.hash_len]; rfl)
  have OV : Hid (∀ v ∈ V, v.oneCell' = true) := Lib.hid (by rw [hV]; exact b8_one _)
  have hb0 : Blk ((w.alloc (.cells X.toArray 26)).alloc (.cells zeros32.toArray 24)) w.heap.size X 26 := Blk.alloc (Blk.new w X.toArray _) _
  have hb1 : Blk ((w.alloc (.cells X.toArray 26)).alloc (.cells zeros32.toArray 24)) (w.heap.size + 1) zeros32 24 := Blk.new' _ _ _ _ (by simp)
  have HB := below2 w (.cells X.toArray 26) (.cells zeros32.toArray 24)
  obtain ⟨w0, hw0⟩ : ∃ w0, w0 = (w.alloc (.cells X.toArray 26)).alloc (.cells zeros32.toArray 24) := ⟨_, rfl⟩
  rw [← hw0] at hb0 hb1 HB
  have hw1 : (w.alloc (.cells X.toArray 26)).alloc (.cells #[.int .u8 0, .int .u8 0, .int .u8 0, .int .u8 0, .int .u8 0, .int .u8 0, .int .u8 0, .int .u8 0, .int .u8 0, .int .u8 0, .int .u8 0, .int .u8 0, .int .u8 0, .int .u8 0, .int .u8 0, .int .u8 0, .int .u8 0, .int .u8 0, .int .u8 0, .int .u8 0, .int .u8 0, .int .u8 0, .int .u8 0, .int .u8 0, .int .u8 0, .int .u8 0, .int .u8 0, .int .u8 0, .int .u8 0, .int .u8 0, .int .u8 0, .int .u8 0] 24) = w0 := hw0.symm
  have CB : Hid (∀ W, Below w0.heap.size w0 W → Calls Tryd.prog 7 #[.agg X.toArray] W fun e v => ∃ A n c, e = .returned (.slice A n c) ∧ Below W.heap.size W v ∧ Calls Tryd.prog 27 #[.slice (some ⟨v.heap.size, 0, none⟩) 1 1] (v.alloc (.cells #[.slice A n c] 27)) (Ret (v.alloc (.cells #[.slice A n c] 27)) (.agg V.toArray))) := Lib.hid fun W hW => by
    rw [hX, hV]
    refine (gbytes_calls h o W).mono ?_
    rintro e v ⟨A, n, c, rfl, ho, hb⟩
    have hcp := own_cap ho
    have hln := ho.len
    have hbl := Hd.bytes_len o
    refine ⟨A, n, c, rfl, hb, ?_⟩
    have := twice_calls (v.alloc (.cells #[.slice A n c] 27)) (some ⟨v.heap.size, 0, none⟩) 1 1 [h.bytes] (hrdm v A n c h.bytes _ ho.rd hcp.1 hcp.2) ((hT.all HB).all (below_al (below_more hW hb) _)) (by omega) (by simp; omega)
    simp only [List.flatten_cons, List.flatten_nil, List.append_nil] at this
    exact this
  rw [← hX, ← hV]
  clear hX hV hw0 o hT
  go_enter Tryd.func11, Tryd.ntmps11
  go_upto_region 1 with fail
  try rw [hw1]
  clear hw1
  go_wp2_with (first
    | ((with_reducible refine at_load 26 (.tmp 1) ?_); refine wpList_load_mid rfl 26 (.tmp 1) rfl w.heap.size 0 rfl X _ hb0.range Tryd.underlying26 rfl IX.out ?_)
    | (go_at_call 7; refine (CB.out _ (Below.refl _ _)).mono ?_; rintro e' v1 ⟨A1, n1, c1, rfl, d1, ht1⟩; have HT1 := Lib.hid ht1; clear ht1)
    | (go_at_call 27; refine HT1.out.mono ?_; rintro e' v2 ⟨rfl, d2⟩; have d12 := below_more (below_al d1 _) d2)
    | ((with_reducible refine at_store 24 (.tmp 2) (.tmp 6) ?_); refine wpList_store_blk rfl 24 (.tmp 2) (.tmp 6) rfl (w.heap.size + 1) zeros32 V 24 rfl rfl (hb1.up d12) LV.out IV.out OV.out ?_; intro w6 hb6 ho6))
  refine bodyPost_ret (v := .agg V.toArray) ?_ rfl ⟨rfl, below_only (below_more HB d12) ho6 (by omega)⟩
  exact results_one Tryd.results11 _ _ (w.heap.size + 1) 24 _ (0, 0) _ (by rfl) hb6 Tryd.underlying24 rfl IV.out
end Go.Proofs.YthpigninbeommaaDoor

/- Two headers are equal if they are one; what Parse reads of 80 bytes, of fewer, of more. -/
namespace Go.Proofs.YthpigninbeommaaDoor
open Go.RowKit
set_option linter.unusedVariables false
set_option linter.unusedSimpArgs false

set_option maxRecDepth 100000 in
/-- A whole array is read under a guard that holds. -/
theorem load_midG {P : Program} {ops : Array Oper} {rest : List Oper} {op : Oper} {a : Act} {w : World} {Q : Exit → Act → World → Prop} (hw : Region.wanted op (yielded ops a.tmps) = true) (ty : TypeId) (x : Operand) (ho : op.op = .load ty x)
    (b o : Nat) (hx : a.eval x = .pointer (some ⟨b, o, none⟩)) (cs : List Value) (d : TypeDesc) (hc : w.rangeAt b o cs)
    (hu : P.underlying ty = some d) (hd : d.isRow = true) (hi : (P.info? ty).map (·.size) = some cs.length)
    (h : wpList P ops Q rest (a.put op.dst (.agg cs.toArray)) w) : wpList P ops Q (op :: rest) a w := by
  unfold wpList
  rw [if_pos hw]
  exact Or.inl (wp_load_mid ty x ho b o hx cs d hc hu hd hi h)
set_option maxRecDepth 100000 in
theorem at_loadG {P : Program} {ops : Array Oper} {rest : List Oper} {Q : Exit → Act → World → Prop} {a : Act} {w : World} {dst : Option Tmp} {t : TypeId} {p : String} {af : Array Edge} {gd : Nat × Bool} (ty : TypeId) (x : Operand)
    (h : wpList P ops Q ({ dst := dst, op := .load ty x, type := t, pos := p, after := af, guard := some gd } :: rest) a w) : wpList P ops Q ({ dst := dst, op := .load ty x, type := t, pos := p, after := af, guard := some gd } :: rest) a w := h
set_option maxRecDepth 100000 in
theorem mapM_list {α β : Type} (f : α → Option β) (g : α → β) : ∀ (l : List α), (∀ a ∈ l, f a = some (g a)) → l.mapM f = some (l.map g)
  | [], _ => rfl
  | a :: l, h => by
    rw [List.mapM_cons, h a (by simp), mapM_list f g l (fun x hx => h x (by simp [hx]))]
    rfl
set_option maxRecDepth 100000 in
theorem mapM_comp {α β γ : Type} (q : α → β) (f : β → Option γ) : ∀ l : List α, l.mapM (fun a => f (q a)) = (l.map q).mapM f
  | [] => rfl
  | a :: l => by
    rw [List.mapM_cons, List.map_cons, List.mapM_cons, mapM_comp q f l]
set_option maxRecDepth 100000 in
theorem flat1 {α β : Type} (f : α → β) : ∀ l : List α, (l.map fun a => [f a]).flatten = l.map f
  | [] => rfl
  | a :: l => by rw [List.map_cons, List.flatten_cons, flat1 f l]; rfl
def blits (l : List UInt8) : List Lit := l.map fun c => Lit.int .u8 (c.toNat : Int)
set_option maxRecDepth 100000 in
theorem blits_inj {l m : List UInt8} (h : blits l = blits m) : l = m := by
  refine List.map_inj_right ?_ |>.1 h
  intro a b e
  injection e with _ e
  exact UInt8.toNat_inj.1 (by omega)
set_option maxRecDepth 100000 in
theorem lit8 (c : UInt8) : (Lit.int .u8 (c.toNat : Int)).wf = true := by
  have := c.toNat_lt; have h1 : IntKind.u8.min = 0 := rfl; have h2 : IntKind.u8.max = 255 := rfl; simp [Lit.wf, h1, h2]; omega
set_option maxRecDepth 100000 in
theorem lit32 (n : Nat) (h : n < 4294967296) : (Lit.int .u32 (n : Int)).wf = true := by
  have h1 : IntKind.u32.min = 0 := rfl; have h2 : IntKind.u32.max = 4294967295 := rfl; simp [Lit.wf, h1, h2]; omega
set_option maxRecDepth 100000 in
theorem lits_bytes {P : Program} (t e : TypeId) (ht : P.underlying t = some (.array 32 e)) (he : P.underlying e = some (.int .u8)) (hce : P.cellsOf e = 1) (hct : P.cellsOf t = 32) (l : List UInt8) (hl : l.length = 32) :
    P.keyLits 2 t (l.map B8) = some (blits l) := by
  have h1 : (List.range 32).mapM (fun i => P.keyLits 1 e (((l.map B8).drop (i * P.cellsOf e)).take (P.cellsOf e))) = some ((List.range 32).map fun i => [Lit.int .u8 ((l.getD i 0).toNat : Int)]) := by
    refine mapM_list _ _ _ fun i hi => ?_
    have hi' : i < l.length := by rw [hl]; simpa using hi
    have e1 : ((l.map B8).drop (i * P.cellsOf e)).take (P.cellsOf e) = [.int .u8 ((l.getD i 0).toNat : Int)] := by
      rw [hce, Nat.mul_one, List.drop_eq_getElem_cons (by rw [List.length_map]; exact hi'), List.getElem_map]
      simp [B8, hi']
    rw [e1]
    simp only [Program.keyLits, he, lit8, and_self, if_true]
  unfold Program.keyLits
  simp only [ht]
  rw [if_pos (by rw [hct, List.length_map, hl]), h1, Option.map_some, flat1]
  congr 1
  unfold blits
  refine List.ext_getElem (by simp [hl]) fun i h2 h3 => ?_
  have : i < l.length := by simpa using h3
  simp [this]
def hdL (h : Hd) : List Lit := Lit.int .u32 (h.v : Int) :: (blits h.p ++ (blits h.r ++ [Lit.int .u32 (h.t : Int), Lit.int .u32 (h.b : Int), Lit.int .u32 (h.n : Int)]))
set_option maxRecDepth 100000 in
theorem hdL_inj {g h : Hd} (og : g.ok) (oh : h.ok) (e : hdL g = hdL h) : g = h := by
  obtain ⟨gv, gp, gr, gt, gb, gn⟩ := g
  obtain ⟨hv, hp, hr, ht, hb, hn⟩ := h
  unfold hdL at e
  simp only at e
  injection e with e1 e2
  have l1 : (blits gp).length = (blits hp).length := by simp [blits]; rw [og.p, oh.p]
  have l2 : (blits gr).length = (blits hr).length := by simp [blits]; rw [og.r, oh.r]
  have e3 := List.append_inj e2 l1
  have e4 := List.append_inj e3.2 l2
  have e5 := blits_inj e3.1
  have e6 := blits_inj e4.1
  have e7 := e4.2
  simp only [List.cons.injEq, Lit.int.injEq, and_true, true_and] at e1 e7
  simp only [Hd.mk.injEq]
  refine ⟨by omega, e5, e6, by omega, by omega, by omega⟩
set_option maxRecDepth 100000 in
theorem hd_lits {P : Program} (t u k e : TypeId) (fs : Array Field) (ht : P.underlying t = some (.struct fs)) (hn : fs.all (·.name != "_") = true) (hfs : fs.toList.map (fun f => (f.type, f.offset)) = [(u, 0), (k, 1), (k, 33), (u, 65), (u, 66), (u, 67)])
    (hct : P.cellsOf t = 68) (hu : P.underlying u = some (.int .u32)) (hcu : P.cellsOf u = 1) (hk : P.underlying k = some (.array 32 e)) (hck : P.cellsOf k = 32) (he : P.underlying e = some (.int .u8)) (hce : P.cellsOf e = 1) (h : Hd) (o : h.ok) :
    P.keyLits 3 t h.cells = some (hdL h) := by
  have hp := o.p
  have hr := o.r
  have c0 : (h.cells.drop 0).take 1 = [.int .u32 (h.v : Int)] := rfl
  have c1 : (h.cells.drop 1).take 32 = h.p.map B8 := by unfold Hd.cells; rw [List.drop_succ_cons, List.drop_zero, List.take_left' (by rw [List.length_map]; exact hp)]
  have c2 : (h.cells.drop 33).take 32 = h.r.map B8 := by unfold Hd.cells; rw [show 33 = 32 + 1 from rfl, List.drop_succ_cons, List.drop_left' (by rw [List.length_map]; exact hp), List.take_left' (by rw [List.length_map]; exact hr)]
  have c65 : ∀ j, (h.cells.drop (65 + j)) = [Value.int .u32 (h.t : Int), .int .u32 (h.b : Int), .int .u32 (h.n : Int)].drop j := fun j => by
    unfold Hd.cells
    rw [show 65 + j = (64 + j) + 1 from by omega, List.drop_succ_cons, show 64 + j = 32 + (32 + j) from by omega, ← List.drop_drop, List.drop_left' (by rw [List.length_map]; exact hp), ← List.drop_drop, List.drop_left' (by rw [List.length_map]; exact hr)]
  have c3 : (h.cells.drop 65).take 1 = [.int .u32 (h.t : Int)] := by rw [c65 0]; rfl
  have c4 : (h.cells.drop 66).take 1 = [.int .u32 (h.b : Int)] := by rw [c65 1]; rfl
  have c5 : (h.cells.drop 67).take 1 = [.int .u32 (h.n : Int)] := by rw [c65 2]; rfl
  have ku : ∀ n : Nat, n < 4294967296 → P.keyLits 2 u [.int .u32 (n : Int)] = some [Lit.int .u32 (n : Int)] := fun n h => by simp only [Program.keyLits, hu, lit32 n h, and_self, if_true]
  unfold Program.keyLits
  simp only [ht]
  rw [if_pos ⟨by rw [hct, Hd.cells_len o], hn⟩, mapM_comp (fun f : Field => (f.type, f.offset)) (fun p => P.keyLits 2 p.1 ((h.cells.drop p.2).take (P.cellsOf p.1))), hfs]
  simp only [List.mapM_cons, List.mapM_nil, hcu, hck, c0, c1, c2, c3, c4, c5, ku _ o.v, ku _ o.t, ku _ o.b, ku _ o.n, lits_bytes k e hk he hce hck _ hp, lits_bytes k e hk he hce hck _ hr]
  rfl
set_option maxRecDepth 100000 in
theorem equalHd {P : Program} (t : TypeId) (hk : P.keyTypeAt 3 t = true) (hf : ∀ h : Hd, h.ok → (Value.agg h.cells.toArray).formed P t = true) (hl : ∀ h : Hd, h.ok → P.keyLits 3 t h.cells = some (hdL h)) (g h : Hd) (og : g.ok) (oh : h.ok) (w : World) :
    ∃ b : Bool, (Op.equalIn 10000 t (.agg g.cells.toArray) (.agg h.cells.toArray)).run P w = .ok b w ∧ (b = true ↔ g = h) := by
  obtain ⟨b, hb, hiff⟩ := run_equalIn_deep (P := P) 9997 3 t hk w 3 3 (.agg g.cells.toArray) (.agg h.cells.toArray) _ _ (hf g og) (hf h oh) (hl g og) (hl h oh)
  exact ⟨b, hb, hiff.trans ⟨hdL_inj og oh, fun e => by rw [e]⟩⟩
set_option maxRecDepth 100000 in
theorem litsG (h : Hd) (o : h.ok) : Tryd.prog.keyLits 3 26 h.cells = some (hdL h) :=
  hd_lits 26 22 24 5 _ Tryd.underlying26 (by kernel_rfl) (by kernel_rfl) (by kernel_rfl) Tryd.underlying22 (by kernel_rfl) Tryd.underlying24 (by kernel_rfl) Tryd.underlying5 (by kernel_rfl) h o
set_option maxRecDepth 100000 in
theorem litsR (h : Hd) (o : h.ok) : Tryd.prog.keyLits 3 34 h.cells = some (hdL h) :=
  hd_lits 34 22 23 5 _ Tryd.underlying34 (by kernel_rfl) (by kernel_rfl) (by kernel_rfl) Tryd.underlying22 (by kernel_rfl) Tryd.underlying23 (by kernel_rfl) Tryd.underlying5 (by kernel_rfl) h o
set_option maxRecDepth 100000 in
theorem formedG (h : Hd) (o : h.ok) : (Value.agg h.cells.toArray).formed Tryd.prog 26 = true := by
  have hc : Tryd.prog.cellsOf 26 = 68 := by kernel_rfl
  simp [Value.formed, Tryd.underlying26, hc, Hd.cells_len o]
set_option maxRecDepth 100000 in
theorem formedR (h : Hd) (o : h.ok) : (Value.agg h.cells.toArray).formed Tryd.prog 34 = true := by
  have hc : Tryd.prog.cellsOf 34 = 68 := by kernel_rfl
  simp [Value.formed, Tryd.underlying34, hc, Hd.cells_len o]
set_option maxRecDepth 100000 in
theorem eqG (g h : Hd) (og : g.ok) (oh : h.ok) (w : World) : ∃ b : Bool, (Op.equalIn 10000 26 (.agg g.cells.toArray) (.agg h.cells.toArray)).run Tryd.prog w = .ok b w ∧ (b = true ↔ g = h) :=
  equalHd 26 (by kernel_rfl) formedG litsG g h og oh w
set_option maxRecDepth 100000 in
theorem eqG_self (h : Hd) (o : h.ok) (w : World) : (Op.equalIn 10000 26 (.agg h.cells.toArray) (.agg h.cells.toArray)).run Tryd.prog w = .ok true w := by
  obtain ⟨b, hb, hi⟩ := eqG h h o o w
  rw [hi.2 rfl] at hb
  exact hb
set_option maxRecDepth 100000 in
theorem eqG_ne (g h : Hd) (og : g.ok) (oh : h.ok) (ne : g ≠ h) (w : World) : (Op.equalIn 10000 26 (.agg g.cells.toArray) (.agg h.cells.toArray)).run Tryd.prog w = .ok false w := by
  obtain ⟨b, hb, hi⟩ := eqG g h og oh w
  have : b = false := by cases b; rfl; exact absurd (hi.1 rfl) ne
  rw [this] at hb
  exact hb
set_option maxRecDepth 100000 in
theorem eqR_self (h : Hd) (o : h.ok) (w : World) : (Op.equalIn 10000 34 (.agg h.cells.toArray) (.agg h.cells.toArray)).run Tryd.prog w = .ok true w := by
  obtain ⟨b, hb, hi⟩ := equalHd 34 (by kernel_rfl) formedR litsR h h o o w
  rw [hi.2 rfl] at hb
  exact hb
end Go.Proofs.YthpigninbeommaaDoor
