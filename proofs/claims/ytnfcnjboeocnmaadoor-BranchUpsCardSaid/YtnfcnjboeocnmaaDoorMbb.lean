/- Merged texts: Rng. -/
import Derived.Test.YtnfcnjboeocnmaaDoorMar
import Derived.RangeFuncIn
import Derived.RangeFuncRecord
import Derived.RangeFuncOwn
import Derived.RangeFuncCalls
import Derived.OwnWalkIn
import Derived.Deep.MidRow
/- A range over a function, by rounds that are counted: what an iterator hands to a round may be said of the round's own world (Px). -/
namespace Go.Proofs.YtnfcnjboeocnmaaDoor
open Go.RowKit
set_option linter.unusedVariables false

/-- What an iterator is: handed a yield whose round k, at what Px says of its arguments, ends in I (k + 1) or, told to stop, in Ix, it ends behind N rounds, or told to stop. S: what a round may change of what was there. -/
def Iter (F : Fence) (n : Nat) (P : Program) (gf : Nat) (lb : Array Value) (w : World) (N : Nat) (S : Nat → Prop) (Px : (Nat → Prop) → Nat → Array Value → World → Prop) : Prop :=
  ∀ (l : Nat) (W1 : World) (I : Nat → World → Prop) (Ix : World → Prop), Below w.heap.size w W1 → w.heap.size ≤ l → l < W1.heap.size →
    (∀ k W W', I k W → Frm (fun _ => False) W W' → I k W') →
    (∀ k args W, k < N → I k W → Px (fun i => i = l ∨ S i) k args W → YieldAt F (n - 1) P l args W fun e W' =>
      (e = .returned (.bool true) ∧ I (k + 1) W' ∧ Frm (fun i => i = l ∨ S i) W W') ∨ (e = .returned (.bool false) ∧ Ix W')) →
    I 0 W1 → CallsIn F n P gf (#[.func (.yield l) #[] #[]] ++ lb) W1 fun e W' => (∃ v, e = .returned v) ∧ (I N W' ∨ Ix W')
set_option maxRecDepth 100000 in
theorem frm_put (W : World) (l : Nat) (o : Obj) : Frm (fun i => i = l) W (W.putObj l o) :=
  ⟨rfl, rfl, rfl, by rw [World.putObj_size]; exact Nat.le_refl _, fun i _ hi => World.putObj_heap_other hi⟩
/-- How a round's body is left. -/
def endsC (S : Nat → Prop) (J : Nat → World → Prop) (Jx : Code → World → Prop) (k : Nat) (W : World) : Exit → Act → World → Prop
  | .normal, _, W' => J (k + 1) W' ∧ Frm S W W'
  | .ret, _, W' => Jx .ret W' ∧ Frm S W W'
  | .exit id, _, W' => Jx (.exit id) W' ∧ Frm S W W'
  | .goto t, _, W' => Jx (.goto t) W' ∧ Frm S W W'
  | .panic _, _, _ => False
  | .outgrown, _, _ => False
set_option maxRecDepth 100000 in
set_option maxHeartbeats 1000000 in
theorem wpIn_rangeC {F : Fence} {n : Nat} {P : Program} {g : Operand} {ps : Array Tmp} {assign body : Code} {Q : Exit → Act → World → Prop} {a : Act} {w : World}
    (hro : F.round = none) (h1 : 1 ≤ n) {gf : Nat} {lb : Array Value} (hg : a.eval g = .func (.func gf) #[] lb) (hFg : F.fn gf) (eg : ∀ args w, (callFunc gf args).run P w = .ok (.enter gf args) w)
    (N : Nat) (S : Nat → Prop) (hS : ∀ i, S i → i < w.heap.size) (Px : (Nat → Prop) → Nat → Array Value → World → Prop) (hit : Iter F (n - 1) P gf lb w N S Px)
    (hps : ∀ T k args W, Px T k args W → args.size = ps.size) (hPx : ∀ T k args W W', Px T k args W → Frm T W W' → Px T k args W')
    (J : Nat → World → Prop) (Jx : Code → World → Prop) (hJ : ∀ k T W W', (∀ i, T i → w.heap.size ≤ i) → J k W → Frm T W W' → J k W') (hJx : ∀ c T W W', (∀ i, T i → w.heap.size ≤ i) → Jx c W → Frm T W W' → Jx c W')
    (h0 : J 0 w) (a₁ : Array Value → Act)
    (hassign : ∀ l k args W (K : Act → World → Prop), k < N → Px (fun i => i = l ∨ S i) k args W → K (a₁ args) W →
      assign.wpIn (F.inRound l) (n - 1 - 1) P (Exit.then K (fun _ _ _ => False)) { tmps := (ps.zip args).foldl (fun t (p, v) => t.setIfInBounds p v) a.tmps, defers := [] } W)
    (hbody : ∀ l k args W, w.heap.size ≤ l → k < N → J k W → Px (fun i => i = l ∨ S i) k args W → body.wpIn (F.inRound l) (n - 1 - 1) P (endsC S J Jx k W) (a₁ args) W)
    (hdone : ∀ D W, w.heap.size ≤ D → J N W → W.heap[D]? = some (.deferred (some [])) → Q .normal { a with defers := { target := .collected D, args := #[] } :: a.defers } W)
    (hstop : ∀ D c W, w.heap.size ≤ D → Jx c W → W.heap[D]? = some (.deferred (some [])) → c.wpIn F n P Q { a with defers := { target := .collected D, args := #[] } :: a.defers } W) :
    (Code.rangeFunc g ps assign body).wpIn F n P Q a w := by
  refine wpIn_rangeFunc fun fn hfn => ?_
  rw [hro]
  obtain ⟨D, hD⟩ : ∃ D, D = w.heap.size := ⟨_, rfl⟩
  obtain ⟨R, hR⟩ : ∃ R : LoopState → Option Code → Obj, R = fun st pe => .loop { state := st, pending := pe, fn, tmps := a.tmps, params := ps, assign, body, defers := D } := ⟨_, rfl⟩
  obtain ⟨W1, hW1⟩ : ∃ W1, W1 = (w.alloc (.deferred (some []))).alloc (R .ready none) := ⟨_, rfl⟩
  have hlt1 : D + 1 < W1.heap.size := by rw [hW1, hD]; simp
  have hl1 : W1.heap[D + 1]? = some (R .ready none) := by
    have := World.alloc_heap_new (w.alloc (.deferred (some []))) (R .ready none)
    rwa [World.size_alloc, ← hW1, ← hD] at this
  have hd1 : W1.heap[D]? = some (.deferred (some [])) := by
    rw [hW1, hD]
    exact (Below.heap_alloc _ _ _ (by simp)).trans (World.alloc_heap_new w _)
  have hb1 : Below w.heap.size w W1 := by
    rw [hW1]
    exact ((Below.refl _ w).alloc (Nat.le_refl _) _).alloc (by simp) _
  -- what a turn of the loop's own record leaves
  have turn : ∀ (W : World) (o : Obj), D + 1 < W.heap.size → W.heap[D]? = some (.deferred (some [])) → (W.putObj (D + 1) o).heap[D + 1]? = some o ∧ (W.putObj (D + 1) o).heap[D]? = some (.deferred (some [])) := fun W o hlt hd =>
    ⟨World.putObj_heap_same hlt, (World.putObj_heap_other (by omega)).trans hd⟩
  have hJt : ∀ k W o, J k W → J k (W.putObj (D + 1) o) := fun k W o h => hJ k _ W _ (fun i hi => by rw [hi, hD]; omega) h (frm_put W (D + 1) o)
  have hJxt : ∀ c W o, Jx c W → Jx c (W.putObj (D + 1) o) := fun c W o h => hJx c _ W _ (fun i hi => by rw [hi, hD]; omega) h (frm_put W (D + 1) o)
  have nS : ∀ i, D ≤ i → ¬ S i := fun i hi h => by have := hS i h; omega
  have lt_of : ∀ {W : World} {i : Nat} {o : Obj}, W.heap[i]? = some o → i < W.heap.size := fun h => (Array.getElem?_eq_some_iff.1 h).1
  refine ⟨D + 1, [{ target := .collected D, args := #[] }], W1, { target := .fn (.func gf) lb, args := #[.func (.yield (D + 1)) #[] #[]] }, W1, gf, #[.func (.yield (D + 1)) #[] #[]] ++ lb, W1, ?_, ?_, ?_, ?_, fun _ => h1, ?_⟩
  · rw [hW1, hR, hD]
    exact run_enterLoop_outer _ _ _ _ _
  · simp only [resolve, hg]
    simp [go_sem]
  · intro f' hf'
    simp [Target.leads] at hf'
    subst hf'
    exact hFg
  · simp [invoke, go_sem, eg]
  refine (hit (D + 1) W1 (fun k W => J k W ∧ W.heap[D + 1]? = some (R .ready none) ∧ W.heap[D]? = some (.deferred (some [])))
    (fun W => ∃ c, Jx c W ∧ W.heap[D + 1]? = some (R .done (some c)) ∧ W.heap[D]? = some (.deferred (some []))) hb1 (by omega) hlt1
    (fun k W W' h hf => ⟨hJ k _ W W' (fun i hi => hi.elim) h.1 hf, (hf.block _ (lt_of h.2.1) (fun h => h)).trans h.2.1, (hf.block _ (lt_of h.2.2) (fun h => h)).trans h.2.2⟩)
    ?_ ⟨hJ 0 (fun _ => False) w W1 (fun i hi => hi.elim) h0 (Frm.of_below hb1), hl1, hd1⟩).mono ?_
  · rintro k args W hk ⟨hj, hl, hd⟩ hx
    have hlt := lt_of hl
    have hl' := hl
    rw [hR] at hl'
    have hy := run_yield (P := P) (args := args) hl' (hps _ _ _ _ hx)
    have f1 := frm_put W (D + 1) (R .busy none)
    have hx2 : Px (fun i => i = D + 1 ∨ S i) k args (W.putObj (D + 1) (R .busy none)) := hPx _ k args W _ hx (f1.mono fun i hi => .inl hi)
    obtain ⟨hl2, hd2⟩ := turn W (R .busy none) hlt hd
    refine ⟨fn, _, assign, body, hy, roundIn_of_wpIn hfn (hassign _ k args W _ hk hx ⟨_, run_beginRound hl' rfl, ?_⟩)⟩
    have hbg : (World.putObj W (D + 1) (.loop { state := .busy, pending := none, fn, tmps := a.tmps, params := ps, assign, body, defers := D })) = W.putObj (D + 1) (R .busy none) := by rw [hR]
    rw [hbg]
    refine wpIn_mono (hbody (D + 1) k args _ (by omega) hk (hJt k W _ hj) hx2) ?_
    -- the round's end
    have fin : ∀ (jump : Option Code) (W3 : World), Frm S (W.putObj (D + 1) (R .busy none)) W3 →
        (Instr.endRound (D + 1) jump).run P W3 = .ok (.bool jump.isNone) (W3.putObj (D + 1) (R (if jump.isNone then .ready else .done) jump)) ∧ Frm (fun i => i = D + 1 ∨ S i) W (W3.putObj (D + 1) (R (if jump.isNone then .ready else .done) jump)) ∧
        (W3.putObj (D + 1) (R (if jump.isNone then .ready else .done) jump)).heap[D + 1]? = some (R (if jump.isNone then .ready else .done) jump) ∧ (W3.putObj (D + 1) (R (if jump.isNone then .ready else .done) jump)).heap[D]? = some (.deferred (some [])) := fun jump W3 f3 => by
      have hl3 : W3.heap[D + 1]? = some (R .busy none) := (f3.block _ (lt_of hl2) (nS _ (by omega))).trans hl2
      have hd3 : W3.heap[D]? = some (.deferred (some [])) := (f3.block _ (lt_of hd2) (nS _ (Nat.le_refl _))).trans hd2
      have hl3' := hl3
      rw [hR] at hl3'
      have he := run_endRound (P := P) jump hl3'
      refine ⟨by rw [hR]; exact he, ((f1.mono fun i hi => .inl hi).trans (f3.mono fun i hi => .inr hi)).trans ((frm_put W3 (D + 1) _).mono fun i hi => .inl hi), ?_⟩
      exact turn W3 _ (lt_of hl3) hd3
    rintro e a3 W3 hp
    cases e with
    | normal =>
      obtain ⟨e1, e2, e3, e4⟩ := fin none W3 hp.2
      exact ⟨_, _, e1, .inl ⟨rfl, ⟨hJt _ W3 _ hp.1, e3, e4⟩, e2⟩⟩
    | ret =>
      obtain ⟨e1, e2, e3, e4⟩ := fin (some .ret) W3 hp.2
      exact ⟨_, _, e1, .inr ⟨rfl, .ret, hJxt _ W3 _ hp.1, e3, e4⟩⟩
    | exit id =>
      obtain ⟨e1, e2, e3, e4⟩ := fin (some (.exit id)) W3 hp.2
      exact ⟨_, _, e1, .inr ⟨rfl, .exit id, hJxt _ W3 _ hp.1, e3, e4⟩⟩
    | goto t =>
      obtain ⟨e1, e2, e3, e4⟩ := fin (some (.goto t)) W3 hp.2
      exact ⟨_, _, e1, .inr ⟨rfl, .goto t, hJxt _ W3 _ hp.1, e3, e4⟩⟩
    | panic ch => exact hp.elim
    | outgrown => exact hp.elim
  · rintro e W2 ⟨⟨v, rfl⟩, ⟨hj, hl, hd⟩ | ⟨c, hj, hl, hd⟩⟩
    · rw [hR] at hl
      have he := run_endLoop (P := P) hl (by simp)
      exact ⟨none, _, he, hdone D _ (by omega) (hJ N (fun i => i = D + 1) W2 _ (fun i hi => by rw [hi]; omega) hj (frm_put W2 (D + 1) _)) ((World.putObj_heap_other (by omega)).trans hd)⟩
    · rw [hR] at hl
      have he := run_endLoop (P := P) hl (by simp)
      exact ⟨some c, _, he, hstop D c _ (by omega) (hJx c (fun i => i = D + 1) W2 _ (fun i hi => by rw [hi]; omega) hj (frm_put W2 (D + 1) _)) ((World.putObj_heap_other (by omega)).trans hd)⟩
/-! A load and a store of a whole array, within a fence. -/
set_option maxRecDepth 100000 in
theorem wpListIn_load_mid {F : Fence} {n : Nat} {P : Program} {ops : Array Oper} {rest : List Oper} {op : Oper} {a : Act} {w : World} {Q : Exit → Act → World → Prop} (hgd : op.guard = none) (ty : TypeId) (x : Operand) (ho : op.op = .load ty x)
    (b o : Nat) (hx : a.eval x = .pointer (some ⟨b, o, none⟩)) (cs : List Value) (d : TypeDesc) (hc : w.rangeAt b o cs) (hu : P.underlying ty = some d) (hd : d.isRow = true) (hi : (P.info? ty).map (·.size) = some cs.length)
    (h : wpListIn F n P ops Q rest (a.put op.dst (.agg cs.toArray)) w) : wpListIn F n P ops Q (op :: rest) a w :=
  wpListIn_plain hgd fun K hK => by
    refine ⟨fun f hf => by simp [Oper.about, ho] at hf, ?_⟩
    rw [Oper.semAt_plain F _ _ (by rw [ho]; intro c hc'; cases hc')]
    unfold execOp
    simp only [ho, hx, Sem.run_bind, Sem.run_pure, Result.andThen_ok, run_loadAt_mid w b o ty cs d hc hu hd hi]
    exact hK _ _ h
set_option maxRecDepth 100000 in
theorem wpListIn_store_blk {F : Fence} {n : Nat} {P : Program} {ops : Array Oper} {rest : List Oper} {op : Oper} {a : Act} {w : World} {Q : Exit → Act → World → Prop} (hgd : op.guard = none) (ty : TypeId) (x y : Operand) (ho : op.op = .store ty x y)
    (g : Nat) (cs0 cells : List Value) (t : TypeId) (hx : a.eval x = .pointer (some ⟨g, 0, none⟩)) (hy : a.eval y = .agg cells.toArray) (hb : Blk w g cs0 t) (hl : cs0.length = cells.length)
    (hi : (P.info? ty).map (·.size) = some cells.length) (h1 : ∀ v ∈ cells, v.oneCell' = true)
    (h : ∀ w2, Blk w2 g cells t → Only g w w2 → wpListIn F n P ops Q rest (a.put op.dst undef) w2) : wpListIn F n P ops Q (op :: rest) a w :=
  wpListIn_plain hgd fun K hK => by
    refine ⟨fun f hf => by simp [Oper.about, ho] at hf, ?_⟩
    rw [Oper.semAt_plain F _ _ (by rw [ho]; intro c hc'; cases hc')]
    have hs := Blk.setCells cells w cs0 0 hb (by omega)
    rw [over_all _ _ hl] at hs
    unfold execOp
    simp only [ho, hx, hy, Sem.run_bind, Sem.run_pure, Result.andThen_ok, run_storeAt_mid w g 0 ty cells.toArray (hb.there 0 _ (by rw [List.size_toArray]; omega)) (by rw [List.size_toArray]; exact hi) (all_oneCell_toArray h1)]
    exact hK _ _ (h _ hs (Only.setCells _ _ _ _ (Only.refl g w)))
set_option maxRecDepth 100000 in
theorem ati_store {F : Fence} {n : Nat} {P : Program} {ops : Array Oper} {rest : List Oper} {Q : Exit → Act → World → Prop} {a : Act} {w : World} {dst : Option Tmp} {t : TypeId} {p : String} {af : Array Edge} (ty : TypeId) (x y : Operand)
    (h : wpListIn F n P ops Q ({ dst := dst, op := .store ty x y, type := t, pos := p, after := af, guard := none } :: rest) a w) : wpListIn F n P ops Q ({ dst := dst, op := .store ty x y, type := t, pos := p, after := af, guard := none } :: rest) a w := h
set_option maxRecDepth 100000 in
theorem ati_load {F : Fence} {n : Nat} {P : Program} {ops : Array Oper} {rest : List Oper} {Q : Exit → Act → World → Prop} {a : Act} {w : World} {dst : Option Tmp} {t : TypeId} {p : String} {af : Array Edge} (ty : TypeId) (x : Operand)
    (h : wpListIn F n P ops Q ({ dst := dst, op := .load ty x, type := t, pos := p, after := af, guard := none } :: rest) a w) : wpListIn F n P ops Q ({ dst := dst, op := .load ty x, type := t, pos := p, after := af, guard := none } :: rest) a w := h
end Go.Proofs.YtnfcnjboeocnmaaDoor
