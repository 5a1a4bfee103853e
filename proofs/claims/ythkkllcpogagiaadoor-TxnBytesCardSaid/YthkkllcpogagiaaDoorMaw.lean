/- Merged texts: TxnV. -/
import Derived.Test.YthkkllcpogagiaaDoorMas
import Derived.Test.YthkkllcpogagiaaDoorMao
import Derived.Test.YthkkllcpogagiaaDoorMav
/- The contract of package txn's own Parse. -/
namespace Go.Proofs.YthkkllcpogagiaaDoor
open Go.RowKit
set_option linter.unusedVariables false
set_option linter.unusedSimpArgs false

/-- A byte slice whose row is of bytes. -/
def ItemT (W : World) (A : Option Addr) (m c : Nat) (y : List UInt8) : Prop := m ≤ c ∧ c ≤ maxLen ∧ Rd W A m y ∧ ∀ g, blkOf A = some g → ∃ cs d, W.heap[g]? = some (.cells cs 5 d)
/-- Blocks that are no rows of bytes. -/
def NoB (W : World) (P : Nat → Prop) : Prop := ∀ g, P g → ∀ cs d, W.heap[g]? ≠ some (.cells cs 5 d)
set_option maxRecDepth 100000 in
theorem ItemT.frm {W W' : World} {A : Option Addr} {m c : Nat} {y : List UInt8} {P : Nat → Prop} (h : ItemT W A m c y) (hf : Frm P W W') (hP : NoB W P) : ItemT W' A m c y := by
  obtain ⟨h1, h2, h3, h4⟩ := h
  have key : ∀ g, blkOf A = some g → g < W.heap.size ∧ ¬ P g := fun g hg => by
    obtain ⟨cs, d, hc⟩ := h4 g hg
    exact ⟨(Array.getElem?_eq_some_iff.1 hc).1, fun hp => hP g hp cs d hc⟩
  refine ⟨h1, h2, ⟨h3.1, fun hm => ?_⟩, fun g hg => ?_⟩
  · obtain ⟨b, off, e, hb, hc⟩ := h3.2 hm
    obtain ⟨k1, k2⟩ := key b (by rw [e]; rfl)
    exact ⟨b, off, e, Nat.lt_of_lt_of_le hb hf.size, fun j hj => (hf.cell (p := ⟨b, off + j, none⟩) hb k2).trans (hc j hj)⟩
  · obtain ⟨k1, k2⟩ := key g hg
    obtain ⟨cs, d, hc⟩ := h4 g hg
    exact ⟨cs, d, (hf.block g k1 k2).trans hc⟩
set_option maxRecDepth 100000 in
theorem NoB.no (W : World) : NoB W (fun _ => False) := fun _ h => h.elim
set_option maxRecDepth 100000 in
theorem ItemT.below {W W' : World} {A : Option Addr} {m c : Nat} {y : List UInt8} (h : ItemT W A m c y) (hb : Below W.heap.size W W') : ItemT W' A m c y := h.frm (P := fun _ => False) (Frm.of_below hb) (NoB.no W)
set_option maxRecDepth 100000 in
theorem ItemT.own {W : World} {base m c : Nat} {A : Option Addr} {y : List UInt8} (h : Own W base A m c y) : ItemT W A m c y := by
  have hc := own_cap h
  refine ⟨hc.1, hc.2, h.rd, fun g hg => ?_⟩
  rcases h.2.2 with ⟨hv, _⟩ | ⟨g', cap, cur, hv, _, hh, _⟩
  · injection hv with e1; rw [e1] at hg; simp [blkOf] at hg
  · injection hv with e1
    rw [e1] at hg
    simp [blkOf] at hg
    subst hg
    exact ⟨_, _, hh⟩
/-- Values that are outputs of this call's own. -/
def OutT (W : World) (V : List (List Value)) (O : List (Nat × List UInt8)) : Prop :=
  V.length = O.length ∧ ∀ i (h : i < V.length) (h2 : i < O.length), ∃ A m c, V[i] = [.int .u64 (O[i].1 : Int), .slice A m c] ∧ ItemT W A m c O[i].2 ∧ O[i].1 < 18446744073709551616
set_option maxRecDepth 100000 in
theorem OutT.nil (W : World) : OutT W [] [] := ⟨rfl, fun i h => absurd h (by simp)⟩
set_option maxRecDepth 100000 in
theorem OutT.frm {W W' : World} {V : List (List Value)} {O : List (Nat × List UInt8)} {P : Nat → Prop} (h : OutT W V O) (hf : Frm P W W') (hP : NoB W P) : OutT W' V O :=
  ⟨h.1, fun i h1 h2 => by
    obtain ⟨A, m, c, e, k1, k2⟩ := h.2 i h1 h2
    exact ⟨A, m, c, e, k1.frm hf hP, k2⟩⟩
set_option maxRecDepth 100000 in
theorem OutT.toV {W : World} {V : List (List Value)} {O : List (Nat × List UInt8)} (h : OutT W V O) : OutV W V O :=
  ⟨h.1, fun i h1 h2 => by
    obtain ⟨A, m, c, e, k1, k2⟩ := h.2 i h1 h2
    exact ⟨A, m, c, e, k1.1, k1.2.1, k1.2.2.1, k2⟩⟩
set_option maxRecDepth 100000 in
theorem OutT.snoc {W : World} {V : List (List Value)} {O : List (Nat × List UInt8)} (h : OutT W V O) (A : Option Addr) (m c v : Nat) (y : List UInt8) (hi : ItemT W A m c y) (hv : v < 18446744073709551616) : OutT W (V ++ [[.int .u64 (v : Int), .slice A m c]]) (O ++ [(v, y)]) :=
  ⟨by rw [List.length_append, List.length_append, h.1]; rfl, fun i h1 h2 => by
    rcases Nat.lt_or_ge i V.length with hlt | hge
    · rw [List.getElem_append_left hlt, List.getElem_append_left (by rw [← h.1]; exact hlt)]
      exact h.2 i hlt (by rw [← h.1]; exact hlt)
    · have e1 : i = V.length := by rw [List.length_append] at h1; simp at h1; omega
      have e2 : i = O.length := by rw [← h.1]; exact e1
      have g1 : (V ++ [[Value.int .u64 (v : Int), .slice A m c]])[i] = [.int .u64 (v : Int), .slice A m c] := by rw [List.getElem_append_right (by omega)]; simp
      have g2 : (O ++ [(v, y)])[i] = (v, y) := by rw [List.getElem_append_right (by omega)]; simp
      rw [g1, g2]
      exact ⟨A, m, c, rfl, hi, hv⟩⟩
set_option maxRecDepth 100000 in
theorem I2txn : (Tryd.prog.info? 25).map (·.size) = some 2 := by kernel_rfl
def zOut : List Value := [.int .u64 0, .slice none 0 0]
set_option maxRecDepth 100000 in
theorem infoOut : (Tryd.prog.info? 46).map (fun i => (i.zero, i.size, i.bytes)) = some (some (.agg zOut.toArray), 2, 32) := by kernel_rfl
set_option maxRecDepth 100000 in
theorem zOut_arr : (Array.range (1 * 2)).map ((Value.agg zOut.toArray).cells[· % (Value.agg zOut.toArray).cells.size]!) = zOut.toArray := by kernel_rfl
section
variable {o : Oper} {a : Act} {W : World} {Q : Exit → Act → World → Prop} {K : Act → World → Prop}
set_option maxRecDepth 100000 in
theorem wp_bsG (t e : TypeId) (k bytes : Nat) (z : Value) (V : List Value) (hV : V.length = k) (ht : Tryd.prog.underlying t = some (.slice e)) (hinfo : (Tryd.prog.info? e).map (fun i => (i.zero, i.size, i.bytes)) = some (some z, k, bytes)) (hk : 0 < k) (hk2 : k ≤ 100) (Z : List Value) (hz0 : (Array.range (1 * k)).map (z.cells[· % z.cells.size]!) = Z.toArray) (hZ : Z.length = k) (x : Operand) (ho : o.op = .buildSlice t 1 #[(0, x)]) (hx : a.eval x = .agg V.toArray)
    (h : ∀ g w', Blk w' g V e → W.heap.size ≤ g → g < w'.heap.size → Below W.heap.size W w' → K (a.put o.dst (.slice (some ⟨g, 0, none⟩) 1 1)) w') : o.wp Tryd.prog a W K Q := by
  unfold Oper.wp execOp
  simp only [ho, List.map_toArray, List.map_cons, List.map_nil, hx, Sem.run_bind, run_bsG t e k bytes z V hV ht hinfo hk hk2 Z hz0 hZ, Result.andThen_ok]
  exact h W.heap.size _ (Blk.new W _ _) (Nat.le_refl _) (by simp) ((Below.refl _ W).alloc (Nat.le_refl _) _)
end
/-- While a transaction is read: the reader at q, the result's block at gr; all that is written from now on lies at B or behind. -/
structure PT (w0 : World) (q B gr : Nat) (l : List UInt8) (e : Nat) (W : World) : Prop where
  rr : Rr W q l e (fun i => i = q ∨ B ≤ i)
  res : Blk W gr [.int .u64 0, .slice none 0 0] 25
  bel : Below w0.heap.size w0 W
  lo1 : w0.heap.size ≤ gr
  lo2 : gr < q
  lo3 : q < B
  big : B ≤ W.heap.size
set_option maxRecDepth 100000 in
theorem PT.frm {w0 W W' : World} {q B gr e e' : Nat} {l l' : List UInt8} (p : PT w0 q B gr l e W) (hr : Rr W' q l' e' (fun i => i = q ∨ B ≤ i)) (hf : Frm (fun i => i = q) W W') : PT w0 q B gr l' e' W' := by
  have h1 := p.lo1
  have h2 := p.lo2
  exact ⟨hr, hf.blk p.res (by omega), below_frm p.bel hf (fun i hi => by omega), p.lo1, p.lo2, p.lo3, Nat.le_trans p.big hf.size⟩
set_option maxRecDepth 100000 in
theorem PT.num {w0 W : World} {q B gr e : Nat} {l : List UInt8} (p : PT w0 q B gr l e W) (k : Int) (m : Nat) (hm : cw k = m) :
    Calls Tryd.prog 23 #[.pointer (some ⟨q, 0, none⟩), .int .i64 k] W fun en w' => en = .returned (.int .u64 (numL (tkV l e m) : Int)) ∧ PT w0 q B gr (tkL l e m) (tkE l e m) w' ∧ Frm (fun i => i = q) W w' :=
  (rnum_calls W q l e p.rr k m hm (.inl rfl)).mono fun _ _ hh => ⟨hh.1, p.frm hh.2.1 hh.2.2, hh.2.2⟩
set_option maxRecDepth 100000 in
theorem PT.err {w0 W : World} {q B gr e : Nat} {l : List UInt8} (p : PT w0 q B gr l e W) :
    Calls Tryd.prog 24 #[.pointer (some ⟨q, 0, none⟩)] W fun en w' => en = .returned (.int .i64 (e : Int)) ∧ W = w' := err_calls W q l e p.rr
set_option maxRecDepth 100000 in
theorem PT.noq {w0 W : World} {q B gr e : Nat} {l : List UInt8} (p : PT w0 q B gr l e W) : NoB W (fun i => i = q) := fun g hg cs d hc => by
  obtain ⟨A, c, hb, _⟩ := p.rr
  have hg : g = q := hg
  subst hg
  exact ty_ne hb hc (by decide)
set_option maxRecDepth 100000 in
theorem PT.below {w0 W W' : World} {q B gr e : Nat} {l : List UInt8} (p : PT w0 q B gr l e W) (hb : Below W.heap.size W W') : PT w0 q B gr l e W' :=
  ⟨p.rr.below hb, p.res.below hb p.res.lt, below_more p.bel hb, p.lo1, p.lo2, p.lo3, Nat.le_trans p.big hb.size⟩
/-- The like, with the transaction at g6 and its outputs so far. -/
structure PQ (w0 : World) (q B gr g6 x : Nat) (A1 : Option Addr) (n1 c1 : Nat) (V : List (List Value)) (O : List (Nat × List UInt8)) (l : List UInt8) (e : Nat) (W : World) : Prop where
  pt : PT w0 q B gr l e W
  lo : B ≤ g6
  blk : Blk W g6 [.int .u64 (x : Int), .slice A1 n1 c1] 25
  own : OwnG W B 46 2 A1 n1 c1 V
  out : OutT W V O
set_option maxRecDepth 100000 in
theorem PQ.below {w0 W : World} {q B gr g6 x n1 c1 e : Nat} {A1 : Option Addr} {V : List (List Value)} {O : List (Nat × List UInt8)} {l : List UInt8} (p : PQ w0 q B gr g6 x A1 n1 c1 V O l e W) {W' : World} (hb : Below W.heap.size W W') : PQ w0 q B gr g6 x A1 n1 c1 V O l e W' :=
  ⟨p.pt.below hb, p.lo, p.blk.below hb p.blk.lt, p.own.up hb, p.out.frm (P := fun _ => False) (Frm.of_below hb) (NoB.no W)⟩
set_option maxRecDepth 100000 in
theorem PQ.frm {w0 W : World} {q B gr g6 x n1 c1 e : Nat} {A1 : Option Addr} {V : List (List Value)} {O : List (Nat × List UInt8)} {l : List UInt8} (p : PQ w0 q B gr g6 x A1 n1 c1 V O l e W) {W' : World} {l' : List UInt8} {e' : Nat} (h : PT w0 q B gr l' e' W') (hf : Frm (fun i => i = q) W W') : PQ w0 q B gr g6 x A1 n1 c1 V O l' e' W' := by
  have h3 := p.pt.lo3
  have h4 := p.lo
  exact ⟨h, h4, hf.blk p.blk (by omega), p.own.frm hf (fun g hg hq => by have := (p.own.blk g hg).1; omega), p.out.frm hf p.pt.noq⟩
set_option maxRecDepth 100000 in
theorem PQ.num {w0 W : World} {q B gr g6 x n1 c1 e : Nat} {A1 : Option Addr} {V : List (List Value)} {O : List (Nat × List UInt8)} {l : List UInt8} (p : PQ w0 q B gr g6 x A1 n1 c1 V O l e W) (k : Int) (m : Nat) (hm : cw k = m) :
    Calls Tryd.prog 23 #[.pointer (some ⟨q, 0, none⟩), .int .i64 k] W fun en w' => en = .returned (.int .u64 (numL (tkV l e m) : Int)) ∧ PQ w0 q B gr g6 x A1 n1 c1 V O (tkL l e m) (tkE l e m) w' :=
  (p.pt.num k m hm).mono fun _ _ hh => ⟨hh.1, p.frm hh.2.1 hh.2.2⟩
set_option maxRecDepth 100000 in
theorem PQ.var {w0 W : World} {q B gr g6 x n1 c1 e : Nat} {A1 : Option Addr} {V : List (List Value)} {O : List (Nat × List UInt8)} {l : List UInt8} (p : PQ w0 q B gr g6 x A1 n1 c1 V O l e W) (most : Nat) :
    Calls Tryd.prog 25 #[.pointer (some ⟨q, 0, none⟩), .int .u64 (most : Int)] W fun en w' => en = .returned (.int .u64 (cvV l e most : Int)) ∧ PQ w0 q B gr g6 x A1 n1 c1 V O (cvL l e most) (cvE l e most) w' :=
  (rvar_calls W q l e p.pt.rr most (.inl rfl)).mono fun _ _ hh => ⟨hh.1, p.frm (p.pt.frm hh.2.1 hh.2.2) hh.2.2⟩
set_option maxRecDepth 100000 in
theorem PQ.text {w0 W : World} {q B gr g6 x n1 c1 e : Nat} {A1 : Option Addr} {V : List (List Value)} {O : List (Nat × List UInt8)} {l : List UInt8} (p : PQ w0 q B gr g6 x A1 n1 c1 V O l e W) :
    Calls Tryd.prog 26 #[.pointer (some ⟨q, 0, none⟩), .int .i64 64] W fun en w' => ∃ A m c, en = .returned (.slice A m c) ∧ ItemT w' A m c (txV l e 64) ∧ PQ w0 q B gr g6 x A1 n1 c1 V O (txL l e 64) (txE l e 64) w' :=
  (rtext_calls W q l e p.pt.rr 64 64 rfl (by omega) (.inl rfl)).mono fun _ _ ⟨A, m, c, h1, h2, h3, h4⟩ => ⟨A, m, c, h1, ItemT.own h2, p.frm (p.pt.frm h3 h4) h4⟩
set_option maxRecDepth 100000 in
theorem PQ.end_ {w0 W : World} {q B gr g6 x n1 c1 e : Nat} {A1 : Option Addr} {V : List (List Value)} {O : List (Nat × List UInt8)} {l : List UInt8} (p : PQ w0 q B gr g6 x A1 n1 c1 V O l e W) :
    Calls Tryd.prog 27 #[.pointer (some ⟨q, 0, none⟩)] W fun en w' => en = .returned (.int .i64 (ndE l e : Int)) ∧ PQ w0 q B gr g6 x A1 n1 c1 V O l (ndE l e) w' :=
  (end_calls W q l e p.pt.rr (.inl rfl)).mono fun _ _ hh => ⟨hh.1, p.frm (p.pt.frm hh.2.1 hh.2.2) hh.2.2⟩
set_option maxRecDepth 100000 in
theorem PQ.push {w0 W : World} {q B gr g6 x n1 c1 e : Nat} {A1 : Option Addr} {V : List (List Value)} {O : List (Nat × List UInt8)} {l : List UInt8} (p : PQ w0 q B gr g6 x A1 n1 c1 V O l e W) (A : Option Addr) (m c v : Nat) (y : List UInt8) (hi : ItemT W A m c y) (hv : v < 18446744073709551616) {W' : World} {A3 : Option Addr} {c3 : Nat} (ho : OwnG W' B 46 2 A3 (n1 + 1) c3 (V ++ [[.int .u64 (v : Int), .slice A m c]])) (hf : Frm (fun i => blkOf A1 = some i) W W') :
    Blk W' g6 [.int .u64 (x : Int), .slice A1 n1 c1] 25 ∧ ∀ W2, Blk W2 g6 [.int .u64 (x : Int), .slice A3 (n1 + 1) c3] 25 → Only g6 W' W2 → PQ w0 q B gr g6 x A3 (n1 + 1) c3 (V ++ [[.int .u64 (v : Int), .slice A m c]]) (O ++ [(v, y)]) l e W2 := by
  have hk : Blk W' g6 [.int .u64 (x : Int), .slice A1 n1 c1] 25 := p.blk.appG p.own (by decide) hf
  refine ⟨hk, fun W2 hb2 ho2 => ?_⟩
  have l1 := p.pt.lo1
  have l2 := p.pt.lo2
  have l3 := p.pt.lo3
  have l4 := p.lo
  have hA1 : ∀ g, blkOf A1 = some g → B ≤ g := fun g hg => (p.own.blk g hg).1
  have hF : Frm (fun i => blkOf A1 = some i ∨ i = g6) W W2 := (hf.mono fun i hi => .inl hi).trans (Frm.only ho2 (.inr rfl))
  have hN : NoB W (fun i => blkOf A1 = some i ∨ i = g6) := fun g hg cs d hc => by
    rcases hg with hg | hg
    · obtain ⟨_, _, cs', d', hr⟩ := p.own.blk g hg
      rw [hr] at hc
      injection hc with hc
      injection hc with _ hc
      exact absurd hc (by decide)
    · subst hg
      exact ty_ne p.blk hc (by decide)
  have hlow : ∀ i, (blkOf A1 = some i ∨ i = g6) → B ≤ i := fun i hi => by
    rcases hi with hi | hi
    · exact hA1 i hi
    · omega
  refine ⟨⟨p.pt.rr.narrow (fun i hi => hi) (hF.block q (by have := p.pt.big; omega) (fun hq => by have := hlow q hq; omega)) (hF.mono fun i hi => .inr (hlow i hi)), hF.blk p.pt.res (fun hq => by have := hlow gr hq; omega), below_frm p.pt.bel hF (fun i hi => by have := hlow i hi; omega), l1, l2, l3, Nat.le_trans p.pt.big hF.size⟩, l4, hb2, ?_, (p.out.frm hF hN).snoc A m c v y (hi.frm hF hN) hv⟩
  refine ho.frm (P := fun i => i = g6) (Frm.only ho2 rfl) fun g hg e1 => ?_
  have e1 : g = g6 := e1
  subst e1
  obtain ⟨_, _, cs', d', hr⟩ := ho.blk g hg
  exact ty_ne hk hr (by decide)
set_option maxRecDepth 100000 in
theorem PQ.done {w0 W : World} {q B gr g6 x n1 c1 e : Nat} {A1 : Option Addr} {V : List (List Value)} {O : List (Nat × List UInt8)} {l : List UInt8} (p : PQ w0 q B gr g6 x A1 n1 c1 V O l e W) (v0 v1 : Value) : RdT ((W.setCell ⟨gr, 0, none⟩ v0).setCell ⟨gr, 1, none⟩ v1) A1 n1 O := by
  have hF : Frm (fun i => i = gr) W ((W.setCell ⟨gr, 0, none⟩ v0).setCell ⟨gr, 1, none⟩ v1) := Frm.setCell (S := fun i => i = gr) (Frm.setCell (S := fun i => i = gr) (Frm.refl _ W) gr 0 v0 rfl) gr 1 v1 rfl
  have l2 := p.pt.lo2
  have l3 := p.pt.lo3
  refine ⟨V, (p.own.frm hF fun g hg e1 => ?_).rd, (p.out.frm hF fun g hg cs d hc => ?_).toV⟩
  · have := (p.own.blk g hg).1
    omega
  · have hg : g = gr := hg
    subst hg
    exact ty_ne p.pt.res hc (by decide)
set_option maxRecDepth 100000 in
theorem tpE_nd (l : List UInt8) (ei : Nat) (li : List UInt8) (h64 : l.length ≠ 64) (hv : ¬ (tkE l 0 1 = 0 ∧ numL (tkV l 0 1) ≠ 1)) (h : (tgo l).2 = (li, ei)) : tpE l = ndE li ei := by
  unfold tpE ndE
  rw [if_neg h64, if_neg hv, h]
  by_cases he : ei = 0
  · subst he
    by_cases hl : 0 < li.length
    · rw [if_neg (by simp), if_pos hl, if_pos ⟨rfl, hl⟩]
    · rw [if_neg (by simp), if_neg hl, if_neg (fun k => hl k.2)]
  · rw [if_pos (show (li, ei).2 ≠ 0 from he), if_neg (fun k => he k.1)]
set_option maxRecDepth 100000 in
theorem ogo_step2 (O : List (Nat × List UInt8)) (li : List UInt8) (ei k : Nat) (r : List (Nat × List UInt8) × List UInt8 × Nat) (h : r = (O ++ (ogo (k + 1) li ei).1, (ogo (k + 1) li ei).2)) :
    r = ((O ++ [(numL (tkV li ei 8), txV (tkL li ei 8) (tkE li ei 8) 64)]) ++ (ogo k (txL (tkL li ei 8) (tkE li ei 8) 64) (txE (tkL li ei 8) (tkE li ei 8) 64)).1, (ogo k (txL (tkL li ei 8) (tkE li ei 8) 64) (txE (tkL li ei 8) (tkE li ei 8) 64)).2) := by
  rw [h]
  simp [ogo]
set_option maxRecDepth 100000 in
set_option maxHeartbeats 4000000 in
theorem gtparse_calls (A : Option Addr) (n c : Nat) (b : List UInt8) (w : World) (hr : Rd w A n b) (hn : n ≤ 1000000) :
    Calls Tryd.prog 9 #[.slice A n c] w fun e w' => ∃ A' n' c', e = .returned (.tuple #[.agg #[.int .u64 (tpS b : Int), .slice A' n' c'], .int .i64 (tpE b : Int)]) ∧ RdT w' A' n' (tpO b) ∧ n' ≤ c' ∧ c' ≤ maxLen ∧ Below w.heap.size w w' := by
  have hbl := hr.len
  have k2 : Blk (w.alloc (.cells #[.int .u64 0, .slice none 0 0] 25)) w.heap.size [.int .u64 0, .slice none 0 0] 25 := Blk.new w _ _
  have hB0 : Below w.heap.size w (w.alloc (.cells #[.int .u64 0, .slice none 0 0] 25)) := below_al (Below.refl _ w) _
  by_cases h64 : n = 64
  · have h64' : (n : Int) = 64 := by omega
    have e3 : tpE b = 3 := by unfold tpE; rw [if_pos (by omega)]
    have hS : tpS b = 0 := by unfold tpS; rw [if_neg (by omega)]
    have hO : tpO b = [] := by unfold tpO; rw [if_neg (by omega)]
    rw [e3, hS, hO]
    clear hr hbl h64 e3 hS hO
    go_enter Tryd.func9, Tryd.ntmps9
    go_wp2
    refine bodyPost_ret (v := .tuple #[.agg #[.int .u64 0, .slice none 0 0], .int .i64 3]) ?_ rfl ?_
    · exact results_in Tryd.results9 _ _ w.heap.size 25 _ (0, 0) _ _ (by rfl) (by rfl) k2 Tryd.underlying25 rfl I2txn
    · exact ⟨none, 0, 0, rfl, RdT.nil _ _, Nat.le_refl _, by unfold maxLen; omega, hB0⟩
  have h64' : ¬ (n : Int) = 64 := by omega
  obtain ⟨l1, hl1⟩ : ∃ z, z = tkL b 0 1 := ⟨_, rfl⟩
  obtain ⟨e1, he1⟩ : ∃ z, z = tkE b 0 1 := ⟨_, rfl⟩
  obtain ⟨v1, hv1⟩ : ∃ z, z = numL (tkV b 0 1) := ⟨_, rfl⟩
  obtain ⟨l2, hl2⟩ : ∃ z, z = tkL l1 e1 8 := ⟨_, rfl⟩
  obtain ⟨e2, he2⟩ : ∃ z, z = tkE l1 e1 8 := ⟨_, rfl⟩
  obtain ⟨s2, hs2⟩ : ∃ z, z = numL (tkV l1 e1 8) := ⟨_, rfl⟩
  obtain ⟨l3, hl3⟩ : ∃ z, z = cvL l2 e2 8 := ⟨_, rfl⟩
  obtain ⟨e3, he3⟩ : ∃ z, z = cvE l2 e2 8 := ⟨_, rfl⟩
  obtain ⟨n3, hn3⟩ : ∃ z, z = cvV l2 e2 8 := ⟨_, rfl⟩
  have hn8 : n3 ≤ 8 := by rw [hn3]; exact cvV_le _ _ _
  have wn3 : IntKind.i64.wrap (n3 : Int) = (n3 : Int) := by rw [IntKind.wrap_i64]; omega
  have C1 : Hid (∀ (q B g : Nat) (W : World), PT w q B g b 0 W → Calls Tryd.prog 23 #[.pointer (some ⟨q, 0, none⟩), .int .i64 1] W fun en w' => en = .returned (.int .u64 (v1 : Int)) ∧ PT w q B g l1 e1 w') := Lib.hid fun q B g W h => by rw [hl1, he1, hv1]; exact (h.num 1 1 (by decide)).mono fun _ _ hh => ⟨hh.1, hh.2.1⟩
  have C2 : Hid (∀ (q B g : Nat) (W : World), PT w q B g l1 e1 W → Calls Tryd.prog 23 #[.pointer (some ⟨q, 0, none⟩), .int .i64 8] W fun en w' => en = .returned (.int .u64 (s2 : Int)) ∧ PT w q B g l2 e2 w') := Lib.hid fun q B g W h => by rw [hl2, he2, hs2]; exact (h.num 8 8 (by decide)).mono fun _ _ hh => ⟨hh.1, hh.2.1⟩
  have C3 : Hid (∀ (q B g g6 : Nat) (W : World), PQ w q B g g6 s2 none 0 0 [] [] l2 e2 W → Calls Tryd.prog 25 #[.pointer (some ⟨q, 0, none⟩), .int .u64 8] W fun en w' => en = .returned (.int .u64 (n3 : Int)) ∧ PQ w q B g g6 s2 none 0 0 [] [] l3 e3 w') := Lib.hid fun q B g g6 W h => by rw [hl3, he3, hn3]; exact h.var 8
  have CO : Hid (∀ W, Below w.heap.size w W → Calls Tryd.prog 22 #[.slice A n c] W fun e w' => ∃ q, e = .returned (.pointer (some ⟨q, 0, none⟩)) ∧ W.heap.size ≤ q ∧ Rr w' q b 0 ∧ Below W.heap.size W w') := Lib.hid fun W h => rof_calls A n c b W (by omega) (hr.below h)
  have HT : Hid (tgo b = ogo n3 l3 e3 ∧ tgoS b = s2) := Lib.hid (by unfold tgo tgoS; rw [hn3, hl3, he3, hs2, hl2, he2, hl1, he1]; exact ⟨rfl, rfl⟩)
  have HE : Hid (¬ (e1 = 0 ∧ v1 ≠ 1) → ∀ li ei, (tgo b).2 = (li, ei) → tpE b = ndE li ei) := Lib.hid fun h li ei h2 => tpE_nd b ei li (by omega) (by rw [← he1, ← hv1]; exact h) h2
  have HE3 : Hid (e1 = 0 ∧ v1 ≠ 1 → tpE b = 3) := Lib.hid fun h => by unfold tpE; rw [if_neg (by omega), if_pos (by rw [← he1, ← hv1]; exact h)]
  have HS : Hid (tpE b ≠ 0 → tpS b = 0 ∧ tpO b = []) := Lib.hid fun h => ⟨by unfold tpS; rw [if_neg h], by unfold tpO; rw [if_neg h]⟩
  have HS0 : Hid (tpE b = 0 → tpS b = s2 ∧ tpO b = (tgo b).1) := Lib.hid fun h => ⟨by unfold tpS; rw [if_pos h, HT.out.2], by unfold tpO; rw [if_pos h]⟩
  obtain ⟨W0, hW0⟩ : ∃ z, z = w.alloc (.cells #[.int .u64 0, .slice none 0 0] 25) := ⟨_, rfl⟩
  obtain ⟨g2, hg2⟩ : ∃ z, z = w.heap.size := ⟨_, rfl⟩
  rw [← hW0] at k2 hB0
  rw [← hg2] at k2
  have HWG := Lib.hid (And.intro hW0 hg2)
  have HK := Lib.hid (And.intro k2 hB0)
  clear hr hbl h64 hl1 he1 hv1 hl2 he2 hs2 hl3 he3 hn3 hW0 hg2 k2 hB0
  go_enter Tryd.func9, Tryd.ntmps9
  go_upto_region 1 with fail
  rw [← HWG.out.1, ← HWG.out.2]
  go_upto_region 4 with (go_at_call 22; refine (CO.out _ HK.out.2).mono ?_; rintro e' w2 ⟨q, rfl, hq, hR2, hB2⟩)
  obtain ⟨B, hBB⟩ : ∃ z, z = w2.heap.size := ⟨_, rfl⟩
  have HP2 : Hid (PT w q B g2 b 0 w2) := Lib.hid (by
    have h1 := HK.out.1.lt
    have h2 := hR2.lt
    have h3 := HWG.out.2
    rw [hBB]
    exact ⟨hR2.wide (Below.refl _ _), HK.out.1.below hB2 h1, below_more HK.out.2 hB2, by omega, by omega, h2, Nat.le_refl _⟩)
  clear hq hR2 hB2 hBB
  go_upto_region 5 with (go_at_call 23; refine (C1.out _ _ _ _ HP2.out).mono ?_; rintro e' w3 ⟨rfl, hP3⟩; have HP3 := Lib.hid hP3; clear hP3)
  have hlw : w.heap.size ≤ g2 := HP3.out.lo1
  have CE : Hid (Calls Tryd.prog 24 #[.pointer (some ⟨q, 0, none⟩)] w3 fun en w' => en = .returned (.int .i64 (e1 : Int)) ∧ w3 = w') := Lib.hid HP3.out.err
  by_cases hbad : e1 = 0 ∧ v1 ≠ 1
  · have he3 := HE3.out hbad
    obtain ⟨hS, hO⟩ := HS.out (by omega)
    have HX := Lib.hid (And.intro he3 (And.intro hS hO))
    obtain ⟨rfl, hb2⟩ := hbad
    have hb3 : ¬ (v1 : Int) = 1 := by omega
    have c20 : w3.cell? ⟨g2, 0, none⟩ = some (.int .u64 0) := HP3.out.res.cell 0
    have c21 : w3.cell? ⟨g2, 1, none⟩ = some (.slice none 0 0) := HP3.out.res.cell 1
    have z20 : w3.frozen? ⟨g2, 0, none⟩ = false := HP3.out.res.free 0
    have z21 : w3.frozen? ⟨g2, 1, none⟩ = false := HP3.out.res.free 1
    clear he3 hS hO
    go_wp2_with (go_at_call 24; refine CE.out.mono ?_; rintro e' w4 ⟨rfl, rfl⟩)
    obtain ⟨he3, hS, hO⟩ := HX.out
    rw [he3, hS, hO]
    refine bodyPost_ret (v := .tuple #[.agg #[.int .u64 0, .slice none 0 0], .int .i64 3]) ?_ rfl ?_
    · exact results_in Tryd.results9 _ _ g2 25 _ (0, 0) _ _ (by rfl) (by rfl) ((HP3.out.res.set 0 (.int .u64 0)).set 1 (.slice none 0 0)) Tryd.underlying25 rfl I2txn
    · exact ⟨none, 0, 0, rfl, RdT.nil _ _, Nat.le_refl _, by unfold maxLen; omega, ((HP3.out.bel.setCell (p := ⟨g2, 0, none⟩) hlw _).setCell (p := ⟨g2, 1, none⟩) hlw _)⟩
  have hb1 : (e1 : Int) = 0 → (v1 : Int) = 1 := fun h => by
    by_cases k : v1 = 1
    · omega
    · exact absurd ⟨by omega, k⟩ hbad
  have HEE := Lib.hid (HE.out hbad)
  clear HE HE3 hbad
  go_cut [5, 24] from 16 to 23 (fun v5 bv wx => v5 = .int .u64 (v1 : Int) ∧ bv = .bool false ∧ wx = w3)
  case first =>
    by_cases h1 : e1 = 0
    · have hv1' : (v1 : Int) = 1 := hb1 (by omega)
      subst h1
      clear hb1
      go_wp2_with (go_at_call 24; refine CE.out.mono ?_; rintro e' w4 ⟨rfl, rfl⟩)
      go_meet
      exact ⟨by first | rfl | simp [hv1'], by first | rfl | simp [hv1'], by first | rfl | trivial⟩
    · have h1' : ¬ (e1 : Int) = 0 := by omega
      clear hb1
      go_wp2_with (go_at_call 24; refine CE.out.mono ?_; rintro e' w4 ⟨rfl, rfl⟩)
      go_meet
      exact ⟨rfl, by first | rfl | simp [h1'], by first | rfl | trivial⟩
  obtain ⟨rfl, rfl, rfl⟩ := hcut
  clear hb1 CE
  go_upto_region 8 with (go_at_call 23; refine (C2.out _ _ _ _ HP3.out).mono ?_; rintro e' w4 ⟨rfl, hP4⟩; have HP4 := Lib.hid hP4; clear hP4)
  have HQ7 : Hid (PQ w q B g2 w4.heap.size s2 none 0 0 [] [] l2 e2 (w4.alloc (.cells #[.int .u64 (s2 : Int), .slice none 0 0] 25))) := Lib.hid ⟨HP4.out.below (below_al (Below.refl _ _) _), HP4.out.big, Blk.new _ _ _, OwnG.nil _ _ _ _, OutT.nil _⟩
  obtain ⟨W7, hW7⟩ : ∃ z, z = w4.alloc (.cells #[.int .u64 (s2 : Int), .slice none 0 0] 25) := ⟨_, rfl⟩
  rw [← hW7] at HQ7
  rw [← hW7]
  obtain ⟨g6, hg6⟩ : ∃ z, z = w4.heap.size := ⟨_, rfl⟩
  rw [← hg6] at HQ7
  rw [← hg6]
  clear hW7 hg6 HP4 HP3 HP2
  go_upto_region 9 with (go_at_call 25; refine (C3.out _ _ _ _ _ HQ7.out).mono ?_; rintro e' w8 ⟨rfl, hQ8⟩; have HQ8 := Lib.hid hQ8; clear hQ8)
  go_wp2
  go_loopw [33] (fun cv wr => ∃ (i : Nat) (li : List UInt8) (ei : Nat) (O : List (Nat × List UInt8)) (V : List (List Value)) (A1 : Option Addr) (c1 : Nat), i ≤ n3 ∧ cv = .int .i64 (i : Int) ∧ PQ w q B g2 g6 s2 A1 i c1 V O li ei wr ∧ ogo n3 l3 e3 = (O ++ (ogo (n3 - i) li ei).1, (ogo (n3 - i) li ei).2)) (fun cv _ => n3 - (intOf cv).toNat)
  case atStart => exact ⟨0, l3, e3, [], [], none, 0, Nat.zero_le _, rfl, HQ8.out, rfl⟩
  case round =>
    obtain ⟨i, li, ei, O, V, A1, c1, hin, rfl, hQ, hgo⟩ := hrel
    have HQ := Lib.hid hQ
    clear hQ
    by_cases hlt : i < n3
    · have hlt' : (i : Int) < (n3 : Int) := by omega
      obtain ⟨v, hv⟩ : ∃ z, z = numL (tkV li ei 8) := ⟨_, rfl⟩
      obtain ⟨lj, hlj⟩ : ∃ z, z = tkL li ei 8 := ⟨_, rfl⟩
      obtain ⟨ej, hej⟩ : ∃ z, z = tkE li ei 8 := ⟨_, rfl⟩
      obtain ⟨y, hy⟩ : ∃ z, z = txV lj ej 64 := ⟨_, rfl⟩
      obtain ⟨lk, hlk⟩ : ∃ z, z = txL lj ej 64 := ⟨_, rfl⟩
      obtain ⟨ek, hek⟩ : ∃ z, z = txE lj ej 64 := ⟨_, rfl⟩
      have hv64 : v < 18446744073709551616 := by rw [hv]; exact numL_64 (by have := tkV_len li ei 8; omega)
      have CN : Hid (Calls Tryd.prog 23 #[.pointer (some ⟨q, 0, none⟩), .int .i64 8] wr fun en w' => en = .returned (.int .u64 (v : Int)) ∧ PQ w q B g2 g6 s2 A1 i c1 V O lj ej w') := Lib.hid (by rw [hv, hlj, hej]; exact HQ.out.num 8 8 (by decide))
      have CX : Hid (∀ W, PQ w q B g2 g6 s2 A1 i c1 V O lj ej W → Calls Tryd.prog 26 #[.pointer (some ⟨q, 0, none⟩), .int .i64 64] W fun en w' => ∃ A m c, en = .returned (.slice A m c) ∧ ItemT w' A m c y ∧ PQ w q B g2 g6 s2 A1 i c1 V O lk ek w') := Lib.hid fun W h => by rw [hy, hlk, hek]; exact h.text
      have HG : Hid (ogo n3 l3 e3 = ((O ++ [(v, y)]) ++ (ogo (n3 - (i + 1)) lk ek).1, (ogo (n3 - (i + 1)) lk ek).2)) := Lib.hid (by
        have e : n3 - i = (n3 - (i + 1)) + 1 := by omega
        rw [e] at hgo
        have := ogo_step2 O li ei (n3 - (i + 1)) _ hgo
        rw [hv, hy, hlk, hek, hlj, hej]
        exact this)
      clear hv hlj hej hy hlk hek hgo
      go_upto_region 12 with (go_at_call 23; refine CN.out.mono ?_; rintro e' w9 ⟨rfl, hQ8'⟩; have HQD := Lib.hid (hQ8'.below (W' := w9.drew) (Below.refl _ w9).drew); clear hQ8')
      refine wp_region_held_drew (S := fun _ => True) (by kernel_rfl) ?_ (fun hHeld => ?_)
      · trivial
      refine wpAnyH_take (i := 0) (v := ?_) rfl (by kernel_rfl) (by kernel_rfl) (by kernel_rfl) (fun _ _ _ h => h) (Or.inl ⟨by rfl, ?_⟩) (by assumption) ?_
      rotate_left 1
      · intro w hSw; (try dsimp only at hSw); simp only [List.getElem_toArray, List.getElem_cons_succ, List.getElem_cons_zero]; go_simp; try (with_reducible rfl)
      (try simp only [List.getElem_toArray, List.getElem_cons_succ, List.getElem_cons_zero, Act.put, List.setIfInBounds_toArray, List.set_cons_succ, List.set_cons_zero])
      refine wpAnyH_take (i := 2) (v := ?_) rfl (by kernel_rfl) (by kernel_rfl) (by kernel_rfl) (fun _ _ _ h => h) (Or.inl ⟨by rfl, ?_⟩) (by assumption) ?_
      rotate_left 1
      · intro w hSw; (try dsimp only at hSw); simp only [List.getElem_toArray, List.getElem_cons_succ, List.getElem_cons_zero]; go_simp; try (with_reducible rfl)
      (try simp only [List.getElem_toArray, List.getElem_cons_succ, List.getElem_cons_zero, Act.put, List.setIfInBounds_toArray, List.set_cons_succ, List.set_cons_zero])
      refine wpAnyH_take (i := 3) (v := ?_) rfl (by kernel_rfl) (by kernel_rfl) (by kernel_rfl) (fun _ _ _ h => h) (Or.inl ⟨by rfl, ?_⟩) (by assumption) ?_
      rotate_left 1
      · intro w hSw; (try dsimp only at hSw); simp only [List.getElem_toArray, List.getElem_cons_succ, List.getElem_cons_zero]; go_simp; try (with_reducible rfl)
      (try simp only [List.getElem_toArray, List.getElem_cons_succ, List.getElem_cons_zero, Act.put, List.setIfInBounds_toArray, List.set_cons_succ, List.set_cons_zero])
      refine wpAnyH_ready (rs := [1, 4]) (by kernel_rfl) (by simp) ?_
      refine AllReadyH.cons rfl (fun K hK => ?_) ?_
      · (try simp only [List.getElem_toArray, List.getElem_cons_succ, List.getElem_cons_zero])
        have cl2 := HQD.out.blk.cell 1
        simp only [List.getElem?_cons_succ, List.getElem?_cons_zero] at cl2
        go_simp
        refine hK.out _ _ ?_ (fun hHeld => ?_)
        · trivial
        clear hK K
        (try simp only [Act.put, List.setIfInBounds_toArray, List.set_cons_succ, List.set_cons_zero])
        refine wpAnyH_ready (rs := [4]) (by kernel_rfl) (by simp) ?_
        refine AllReadyH.cons rfl (fun K hK => ?_) AllReadyH.nil
        (try simp only [List.getElem_toArray, List.getElem_cons_succ, List.getElem_cons_zero])
        go_simp
        go_at_call 26; refine (CX.out _ HQD.out).mono ?_; rintro e' x9 ⟨A9, m9, c9, rfl, hI9, hQ9⟩
        (try (go_wp2_with fail))
        refine hK.out _ _ ?_ (fun hHeld => ?_)
        · trivial
        clear hK K
        (try simp only [Act.put, List.setIfInBounds_toArray, List.set_cons_succ, List.set_cons_zero])
        refine wpAnyH_take (i := 5) (v := ?_) rfl (by kernel_rfl) (by kernel_rfl) (by kernel_rfl) (fun _ _ _ h => h) (Or.inl ⟨by rfl, ?_⟩) (by assumption) ?_
        rotate_left 1
        · intro w hSw; (try dsimp only at hSw); simp only [List.getElem_toArray, List.getElem_cons_succ, List.getElem_cons_zero]; go_simp; try (with_reducible rfl)
        (try simp only [List.getElem_toArray, List.getElem_cons_succ, List.getElem_cons_zero, Act.put, List.setIfInBounds_toArray, List.set_cons_succ, List.set_cons_zero])
        refine wpAnyH_ready (rs := [6]) (by kernel_rfl) (by simp) ?_
        refine AllReadyH.cons rfl (fun K hK => ?_) AllReadyH.nil
        (try simp only [List.getElem_toArray, List.getElem_cons_succ, List.getElem_cons_zero])
        refine Eq.mpr (if_pos (by first | rfl | simp [Region.wanted, yielded, Act.put])) ?_
        refine wp_bsG 23 46 2 32 (.agg zOut.toArray) [.int .u64 (v : Int), .slice A9 m9 c9] rfl Tryd.underlying23 infoOut (by decide) (by decide) zOut zOut_arr rfl (.tmp 42) rfl (by first | rfl | simp [Act.eval]) ?_
        intro g10 x10 hb10 hg10 hl10 hB10
        have hQ10 := hQ9.below hB10
        have hI10 := hI9.below hB10
        refine hK.out _ _ ?_ (fun hHeld => ?_)
        · trivial
        clear hK K
        (try simp only [Act.put, List.setIfInBounds_toArray, List.set_cons_succ, List.set_cons_zero])
        refine wpAnyH_ready (rs := [7]) (by kernel_rfl) (by simp) ?_
        refine AllReadyH.cons rfl (fun K hK => ?_) AllReadyH.nil
        (try simp only [List.getElem_toArray, List.getElem_cons_succ, List.getElem_cons_zero])
        refine Eq.mpr (if_pos (by first | rfl | simp [Region.wanted, yielded, Act.put])) ?_
        refine wp_appG 23 46 2 32 (.agg zOut.toArray) Tryd.underlying23 infoOut rfl (by decide) (by decide) (by decide) (.tmp 38) (.tmp 43) rfl B x10 (Below.refl _ _) hQ10.pt.big A1 i c1 V (by first | rfl | simp [Act.eval]) hQ10.own ⟨g10, 0, none⟩ rfl 1 1 (by decide) [[.int .u64 (v : Int), .slice A9 m9 c9]] (by first | rfl | simp [Act.eval]) (hb10.rdG rfl) (fun y hy u hu => by rw [List.mem_singleton.1 hy] at hu; simp at hu; rcases hu with rfl | rfl <;> rfl) (by omega) ?_
        intro A11 c11 x11 ho11 hf11 hB11
        obtain ⟨hk11, hpush⟩ := hQ10.push A9 m9 c9 v y hI10 hv64 ho11 hf11
        refine hK.out _ _ ?_ (fun hHeld => ?_)
        · trivial
        clear hK K
        (try simp only [Act.put, List.setIfInBounds_toArray, List.set_cons_succ, List.set_cons_zero])
        refine wpAnyH_take (i := 8) (v := ?_) rfl (by kernel_rfl) (by kernel_rfl) (by kernel_rfl) (fun _ _ _ h => h) (Or.inl ⟨by rfl, ?_⟩) (by assumption) ?_
        rotate_left 1
        · intro w hSw; (try dsimp only at hSw); simp only [List.getElem_toArray, List.getElem_cons_succ, List.getElem_cons_zero]; go_simp; try (with_reducible rfl)
        (try simp only [List.getElem_toArray, List.getElem_cons_succ, List.getElem_cons_zero, Act.put, List.setIfInBounds_toArray, List.set_cons_succ, List.set_cons_zero])
        refine wpAnyH_ready (rs := [9]) (by kernel_rfl) (by simp) ?_
        refine AllReadyH.cons rfl (fun K hK => ?_) AllReadyH.nil
        (try simp only [List.getElem_toArray, List.getElem_cons_succ, List.getElem_cons_zero])
        refine Eq.mpr (if_pos (by first | rfl | simp [Region.wanted, yielded, Act.put])) ?_
        refine wp_storeC 23 (.tmp 45) (.tmp 44) rfl g6 1 (.slice A11 (i + 1) c11) _ _ (by first | rfl | simp [Act.eval]) (by first | rfl | simp [Act.eval]) hk11 (by simp) (by kernel_rfl) rfl rfl ?_
        intro x12 hs12 ho12
        refine hK.out _ _ ?_ (fun hHeld => ?_)
        · trivial
        clear hK K
        (try simp only [Act.put, List.setIfInBounds_toArray, List.set_cons_succ, List.set_cons_zero])
        refine wpAnyH_done (by kernel_rfl) ?_ _
        have HQ12 := Lib.hid (hpush x12 hs12 ho12)
        clear hs12 ho12 hpush hk11 ho11 hf11 hB11 hQ10 hI10 hb10 hg10 hl10 hB10 hI9 hQ9
        go_wp2
        go_roundw
        case rel => exact ⟨i + 1, lk, ek, O ++ [(v, y)], V ++ [[.int .u64 (v : Int), .slice A9 m9 c9]], A11, c11, by omega, by go_num, HQ12.out, HG.out⟩
        case measure => simp [intOf]; omega
      refine AllReadyH.cons rfl (fun K hK => ?_) AllReadyH.nil
      (try simp only [List.getElem_toArray, List.getElem_cons_succ, List.getElem_cons_zero])
      go_simp
      go_at_call 26; refine (CX.out _ HQD.out).mono ?_; rintro e' x9 ⟨A9, m9, c9, rfl, hI9, hQ9⟩
      (try (go_wp2_with fail))
      refine hK.out _ _ ?_ (fun hHeld => ?_)
      · trivial
      clear hK K
      (try simp only [Act.put, List.setIfInBounds_toArray, List.set_cons_succ, List.set_cons_zero])
      refine wpAnyH_take (i := 5) (v := ?_) rfl (by kernel_rfl) (by kernel_rfl) (by kernel_rfl) (fun _ _ _ h => h) (Or.inl ⟨by rfl, ?_⟩) (by assumption) ?_
      rotate_left 1
      · intro w hSw; (try dsimp only at hSw); simp only [List.getElem_toArray, List.getElem_cons_succ, List.getElem_cons_zero]; go_simp; try (with_reducible rfl)
      (try simp only [List.getElem_toArray, List.getElem_cons_succ, List.getElem_cons_zero, Act.put, List.setIfInBounds_toArray, List.set_cons_succ, List.set_cons_zero])
      refine wpAnyH_ready (rs := [1, 6]) (by kernel_rfl) (by simp) ?_
      refine AllReadyH.cons rfl (fun K hK => ?_) ?_
      · (try simp only [List.getElem_toArray, List.getElem_cons_succ, List.getElem_cons_zero])
        have cl2 := hQ9.blk.cell 1
        simp only [List.getElem?_cons_succ, List.getElem?_cons_zero] at cl2
        go_simp
        refine hK.out _ _ ?_ (fun hHeld => ?_)
        · trivial
        clear hK K
        (try simp only [Act.put, List.setIfInBounds_toArray, List.set_cons_succ, List.set_cons_zero])
        refine wpAnyH_ready (rs := [6]) (by kernel_rfl) (by simp) ?_
        refine AllReadyH.cons rfl (fun K hK => ?_) AllReadyH.nil
        (try simp only [List.getElem_toArray, List.getElem_cons_succ, List.getElem_cons_zero])
        refine Eq.mpr (if_pos (by first | rfl | simp [Region.wanted, yielded, Act.put])) ?_
        refine wp_bsG 23 46 2 32 (.agg zOut.toArray) [.int .u64 (v : Int), .slice A9 m9 c9] rfl Tryd.underlying23 infoOut (by decide) (by decide) zOut zOut_arr rfl (.tmp 42) rfl (by first | rfl | simp [Act.eval]) ?_
        intro g10 x10 hb10 hg10 hl10 hB10
        have hQ10 := hQ9.below hB10
        have hI10 := hI9.below hB10
        refine hK.out _ _ ?_ (fun hHeld => ?_)
        · trivial
        clear hK K
        (try simp only [Act.put, List.setIfInBounds_toArray, List.set_cons_succ, List.set_cons_zero])
        refine wpAnyH_ready (rs := [7]) (by kernel_rfl) (by simp) ?_
        refine AllReadyH.cons rfl (fun K hK => ?_) AllReadyH.nil
        (try simp only [List.getElem_toArray, List.getElem_cons_succ, List.getElem_cons_zero])
        refine Eq.mpr (if_pos (by first | rfl | simp [Region.wanted, yielded, Act.put])) ?_
        refine wp_appG 23 46 2 32 (.agg zOut.toArray) Tryd.underlying23 infoOut rfl (by decide) (by decide) (by decide) (.tmp 38) (.tmp 43) rfl B x10 (Below.refl _ _) hQ10.pt.big A1 i c1 V (by first | rfl | simp [Act.eval]) hQ10.own ⟨g10, 0, none⟩ rfl 1 1 (by decide) [[.int .u64 (v : Int), .slice A9 m9 c9]] (by first | rfl | simp [Act.eval]) (hb10.rdG rfl) (fun y hy u hu => by rw [List.mem_singleton.1 hy] at hu; simp at hu; rcases hu with rfl | rfl <;> rfl) (by omega) ?_
        intro A11 c11 x11 ho11 hf11 hB11
        obtain ⟨hk11, hpush⟩ := hQ10.push A9 m9 c9 v y hI10 hv64 ho11 hf11
        refine hK.out _ _ ?_ (fun hHeld => ?_)
        · trivial
        clear hK K
        (try simp only [Act.put, List.setIfInBounds_toArray, List.set_cons_succ, List.set_cons_zero])
        refine wpAnyH_take (i := 8) (v := ?_) rfl (by kernel_rfl) (by kernel_rfl) (by kernel_rfl) (fun _ _ _ h => h) (Or.inl ⟨by rfl, ?_⟩) (by assumption) ?_
        rotate_left 1
        · intro w hSw; (try dsimp only at hSw); simp only [List.getElem_toArray, List.getElem_cons_succ, List.getElem_cons_zero]; go_simp; try (with_reducible rfl)
        (try simp only [List.getElem_toArray, List.getElem_cons_succ, List.getElem_cons_zero, Act.put, List.setIfInBounds_toArray, List.set_cons_succ, List.set_cons_zero])
        refine wpAnyH_ready (rs := [9]) (by kernel_rfl) (by simp) ?_
        refine AllReadyH.cons rfl (fun K hK => ?_) AllReadyH.nil
        (try simp only [List.getElem_toArray, List.getElem_cons_succ, List.getElem_cons_zero])
        refine Eq.mpr (if_pos (by first | rfl | simp [Region.wanted, yielded, Act.put])) ?_
        refine wp_storeC 23 (.tmp 45) (.tmp 44) rfl g6 1 (.slice A11 (i + 1) c11) _ _ (by first | rfl | simp [Act.eval]) (by first | rfl | simp [Act.eval]) hk11 (by simp) (by kernel_rfl) rfl rfl ?_
        intro x12 hs12 ho12
        refine hK.out _ _ ?_ (fun hHeld => ?_)
        · trivial
        clear hK K
        (try simp only [Act.put, List.setIfInBounds_toArray, List.set_cons_succ, List.set_cons_zero])
        refine wpAnyH_done (by kernel_rfl) ?_ _
        have HQ12 := Lib.hid (hpush x12 hs12 ho12)
        clear hs12 ho12 hpush hk11 ho11 hf11 hB11 hQ10 hI10 hb10 hg10 hl10 hB10 hI9 hQ9
        go_wp2
        go_roundw
        case rel => exact ⟨i + 1, lk, ek, O ++ [(v, y)], V ++ [[.int .u64 (v : Int), .slice A9 m9 c9]], A11, c11, by omega, by go_num, HQ12.out, HG.out⟩
        case measure => simp [intOf]; omega
      refine AllReadyH.cons rfl (fun K hK => ?_) AllReadyH.nil
      (try simp only [List.getElem_toArray, List.getElem_cons_succ, List.getElem_cons_zero])
      refine Eq.mpr (if_pos (by first | rfl | simp [Region.wanted, yielded, Act.put])) ?_
      refine wp_bsG 23 46 2 32 (.agg zOut.toArray) [.int .u64 (v : Int), .slice A9 m9 c9] rfl Tryd.underlying23 infoOut (by decide) (by decide) zOut zOut_arr rfl (.tmp 42) rfl (by first | rfl | simp [Act.eval]) ?_
      intro g10 x10 hb10 hg10 hl10 hB10
      have hQ10 := hQ9.below hB10
      have hI10 := hI9.below hB10
      refine hK.out _ _ ?_ (fun hHeld => ?_)
      · trivial
      clear hK K
      (try simp only [Act.put, List.setIfInBounds_toArray, List.set_cons_succ, List.set_cons_zero])
      refine wpAnyH_ready (rs := [1]) (by kernel_rfl) (by simp) ?_
      refine AllReadyH.cons rfl (fun K hK => ?_) AllReadyH.nil
      (try simp only [List.getElem_toArray, List.getElem_cons_succ, List.getElem_cons_zero])
      have cl2 := hQ10.blk.cell 1
      simp only [List.getElem?_cons_succ, List.getElem?_cons_zero] at cl2
      go_simp
      refine hK.out _ _ ?_ (fun hHeld => ?_)
      · trivial
      clear hK K
      (try simp only [Act.put, List.setIfInBounds_toArray, List.set_cons_succ, List.set_cons_zero])
      refine wpAnyH_ready (rs := [7]) (by kernel_rfl) (by simp) ?_
      refine AllReadyH.cons rfl (fun K hK => ?_) AllReadyH.nil
      (try simp only [List.getElem_toArray, List.getElem_cons_succ, List.getElem_cons_zero])
      refine Eq.mpr (if_pos (by first | rfl | simp [Region.wanted, yielded, Act.put])) ?_
      refine wp_appG 23 46 2 32 (.agg zOut.toArray) Tryd.underlying23 infoOut rfl (by decide) (by decide) (by decide) (.tmp 38) (.tmp 43) rfl B x10 (Below.refl _ _) hQ10.pt.big A1 i c1 V (by first | rfl | simp [Act.eval]) hQ10.own ⟨g10, 0, none⟩ rfl 1 1 (by decide) [[.int .u64 (v : Int), .slice A9 m9 c9]] (by first | rfl | simp [Act.eval]) (hb10.rdG rfl) (fun y hy u hu => by rw [List.mem_singleton.1 hy] at hu; simp at hu; rcases hu with rfl | rfl <;> rfl) (by omega) ?_
      intro A11 c11 x11 ho11 hf11 hB11
      obtain ⟨hk11, hpush⟩ := hQ10.push A9 m9 c9 v y hI10 hv64 ho11 hf11
      refine hK.out _ _ ?_ (fun hHeld => ?_)
      · trivial
      clear hK K
      (try simp only [Act.put, List.setIfInBounds_toArray, List.set_cons_succ, List.set_cons_zero])
      refine wpAnyH_take (i := 8) (v := ?_) rfl (by kernel_rfl) (by kernel_rfl) (by kernel_rfl) (fun _ _ _ h => h) (Or.inl ⟨by rfl, ?_⟩) (by assumption) ?_
      rotate_left 1
      · intro w hSw; (try dsimp only at hSw); simp only [List.getElem_toArray, List.getElem_cons_succ, List.getElem_cons_zero]; go_simp; try (with_reducible rfl)
      (try simp only [List.getElem_toArray, List.getElem_cons_succ, List.getElem_cons_zero, Act.put, List.setIfInBounds_toArray, List.set_cons_succ, List.set_cons_zero])
      refine wpAnyH_ready (rs := [9]) (by kernel_rfl) (by simp) ?_
      refine AllReadyH.cons rfl (fun K hK => ?_) AllReadyH.nil
      (try simp only [List.getElem_toArray, List.getElem_cons_succ, List.getElem_cons_zero])
      refine Eq.mpr (if_pos (by first | rfl | simp [Region.wanted, yielded, Act.put])) ?_
      refine wp_storeC 23 (.tmp 45) (.tmp 44) rfl g6 1 (.slice A11 (i + 1) c11) _ _ (by first | rfl | simp [Act.eval]) (by first | rfl | simp [Act.eval]) hk11 (by simp) (by kernel_rfl) rfl rfl ?_
      intro x12 hs12 ho12
      refine hK.out _ _ ?_ (fun hHeld => ?_)
      · trivial
      clear hK K
      (try simp only [Act.put, List.setIfInBounds_toArray, List.set_cons_succ, List.set_cons_zero])
      refine wpAnyH_done (by kernel_rfl) ?_ _
      have HQ12 := Lib.hid (hpush x12 hs12 ho12)
      clear hs12 ho12 hpush hk11 ho11 hf11 hB11 hQ10 hI10 hb10 hg10 hl10 hB10 hI9 hQ9
      go_wp2
      go_roundw
      case rel => exact ⟨i + 1, lk, ek, O ++ [(v, y)], V ++ [[.int .u64 (v : Int), .slice A9 m9 c9]], A11, c11, by omega, by go_num, HQ12.out, HG.out⟩
      case measure => simp [intOf]; omega
    · have hlt' : ¬ (i : Int) < (n3 : Int) := by omega
      have e : i = n3 := by omega
      subst e
      rw [Nat.sub_self] at hgo
      have hgo2 : tgo b = (O, li, ei) := by rw [HT.out.1, hgo]; simp [ogo]
      have hpe := HEE.out li ei (by rw [hgo2])
      obtain ⟨f, hf⟩ : ∃ z, z = ndE li ei := ⟨_, rfl⟩
      rw [← hf] at hpe
      have CE : Hid (Calls Tryd.prog 27 #[.pointer (some ⟨q, 0, none⟩)] wr fun en w' => en = .returned (.int .i64 (f : Int)) ∧ PQ w q B g2 g6 s2 A1 i c1 V O li f w') := Lib.hid (by rw [hf]; exact HQ.out.end_)
      by_cases hf0 : f = 0
      · have hf0' : (f : Int) = 0 := by omega
        obtain ⟨hS, hO⟩ := HS0.out (by omega)
        rw [hgo2] at hO
        have HX := Lib.hid (And.intro (show tpE b = 0 by omega) (And.intro hS hO))
        clear hgo hgo2 hpe hf hS hO hf0
        go_upto_region 15 with (go_at_call 27; refine CE.out.mono ?_; rintro e' w5 ⟨rfl, hQ5⟩; have HQ5 := Lib.hid hQ5; clear hQ5)
        have c20 : w5.cell? ⟨g2, 0, none⟩ = some (.int .u64 0) := HQ5.out.pt.res.cell 0
        have c21 : w5.cell? ⟨g2, 1, none⟩ = some (.slice none 0 0) := HQ5.out.pt.res.cell 1
        have z20 : w5.frozen? ⟨g2, 0, none⟩ = false := HQ5.out.pt.res.free 0
        have z21 : w5.frozen? ⟨g2, 1, none⟩ = false := HQ5.out.pt.res.free 1
        have c60 : w5.cell? ⟨g6, 0, none⟩ = some (.int .u64 (s2 : Int)) := HQ5.out.blk.cell 0
        have c61 : w5.cell? ⟨g6, 1, none⟩ = some (.slice A1 i c1) := HQ5.out.blk.cell 1
        go_wp2
        obtain ⟨he3, hS, hO⟩ := HX.out
        rw [he3, hS, hO]
        refine bodyPost_ret (v := .tuple #[.agg #[.int .u64 (s2 : Int), .slice A1 i c1], .int .i64 0]) ?_ rfl ?_
        · exact results_in Tryd.results9 _ _ g2 25 _ (0, 0) _ _ (by rfl) (by rfl) ((HQ5.out.pt.res.set 0 (.int .u64 (s2 : Int))).set 1 (.slice A1 i c1)) Tryd.underlying25 rfl I2txn
        · exact ⟨A1, i, c1, rfl, HQ5.out.done _ _, HQ5.out.own.cap.1, HQ5.out.own.cap.2, ((HQ5.out.pt.bel.setCell (p := ⟨g2, 0, none⟩) hlw _).setCell (p := ⟨g2, 1, none⟩) hlw _)⟩
      · have hf0' : ¬ (f : Int) = 0 := by omega
        obtain ⟨hS, hO⟩ := HS.out (by omega)
        have HX := Lib.hid (And.intro hpe (And.intro hS hO))
        clear hgo hgo2 hpe hf hS hO hf0
        go_upto_region 15 with (go_at_call 27; refine CE.out.mono ?_; rintro e' w5 ⟨rfl, hQ5⟩; have HQ5 := Lib.hid hQ5; clear hQ5)
        have c20 : w5.cell? ⟨g2, 0, none⟩ = some (.int .u64 0) := HQ5.out.pt.res.cell 0
        have c21 : w5.cell? ⟨g2, 1, none⟩ = some (.slice none 0 0) := HQ5.out.pt.res.cell 1
        have z20 : w5.frozen? ⟨g2, 0, none⟩ = false := HQ5.out.pt.res.free 0
        have z21 : w5.frozen? ⟨g2, 1, none⟩ = false := HQ5.out.pt.res.free 1
        go_wp2
        obtain ⟨he3, hS, hO⟩ := HX.out
        rw [he3, hS, hO]
        refine bodyPost_ret (v := .tuple #[.agg #[.int .u64 0, .slice none 0 0], .int .i64 (f : Int)]) ?_ rfl ?_
        · exact results_in Tryd.results9 _ _ g2 25 _ (0, 0) _ _ (by rfl) (by rfl) ((HQ5.out.pt.res.set 0 (.int .u64 0)).set 1 (.slice none 0 0)) Tryd.underlying25 rfl I2txn
        · exact ⟨none, 0, 0, rfl, RdT.nil _ _, Nat.le_refl _, by unfold maxLen; omega, ((HQ5.out.pt.bel.setCell (p := ⟨g2, 0, none⟩) hlw _).setCell (p := ⟨g2, 1, none⟩) hlw _)⟩
end Go.Proofs.YthkkllcpogagiaaDoor
