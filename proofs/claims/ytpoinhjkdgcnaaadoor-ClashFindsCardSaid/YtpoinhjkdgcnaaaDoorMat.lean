/- Merged texts: Rng MrkR. -/
import Derived.Test.YtpoinhjkdgcnaaaDoorMal
import Derived.RangeFuncIn
import Derived.RangeFuncRecord
import Derived.RangeFuncOwn
import Derived.RangeFuncCalls
import Derived.OwnWalkIn
import Derived.Deep.MidRow
import Derived.Test.YtpoinhjkdgcnaaaDoorMas
import Derived.RangeFuncLeaves
import Derived.Shelf.Abstract
import Derived.Shelf.RegionOpen
import Derived.TacticsInMore
import Derived.LoopNIn
import Derived.LoopIn
/- A range over a function, by rounds that are counted: what an iterator hands to a round may be said of the round's own world (Px). -/
namespace Go.Proofs.YtpoinhjkdgcnaaaDoor
open Go.RowKit
set_option linter.unusedVariables false

/-- What an iterator is: handed a yield whose round k, at what Px says of its arguments, ends in I (k + 1) or, told to stop, in Ix, it ends behind N rounds, or told to stop. S: what a round may change of what was there. -/
def Iter (F : Fence) (n : Nat) (P : Program) (gf : Nat) (lb : Array Value) (w : World) (N : Nat) (S : Nat → Prop) (Px : (Nat → Prop) → Nat → Array Value → World → Prop) : Prop :=
  ∀ (l : Nat) (W1 : World) (I : Nat → World → Prop) (Ix : World → Prop), Below w.heap.size w W1 → w.heap.size ≤ l → l < W1.heap.size →
    (∀ k W W', I k W → Frm (fun _ => False) W W' → I k W') →
    (∀ k args W, k < N → I k W → Px (fun i => i = l ∨ S i) k args W → YieldAt F (n - 1) P l args W fun e W' =>
      (e = .returned (.bool true) ∧ I (k + 1) W' ∧ Frm (fun i => i = l ∨ S i) W W') ∨ (e = .returned (.bool false) ∧ Ix W')) →
    I 0 W1 → CallsIn F n P gf (#[.func (.yield l) #[] #[]] ++ lb) W1 fun e W' => (∃ v, e = .returned v) ∧ (I N W' ∨ Ix W')
set_option maxRecDepth 100000 in
theorem frm_put (W : World) (l : Nat) (o : Obj) : Frm (fun i => i = l) W (W.putObj l o) :=
  ⟨rfl, rfl, rfl, by rw [World.putObj_size]; exact Nat.le_refl _, fun i _ hi => World.putObj_heap_other hi⟩
/-- How a round's body is left. -/
def endsC (S : Nat → Prop) (J : Nat → World → Prop) (Jx : Code → World → Prop) (k : Nat) (W : World) : Exit → Act → World → Prop
  | .normal, _, W' => J (k + 1) W' ∧ Frm S W W'
  | .ret, _, W' => Jx .ret W' ∧ Frm S W W'
  | .exit id, _, W' => Jx (.exit id) W' ∧ Frm S W W'
  | .goto t, _, W' => Jx (.goto t) W' ∧ Frm S W W'
  | .panic _, _, _ => False
  | .outgrown, _, _ => False
set_option maxRecDepth 100000 in
set_option maxHeartbeats 1000000 in
theorem wpIn_rangeC {F : Fence} {n : Nat} {P : Program} {g : Operand} {ps : Array Tmp} {assign body : Code} {Q : Exit → Act → World → Prop} {a : Act} {w : World}
    (hro : F.round = none) (h1 : 1 ≤ n) {gf : Nat} {lb : Array Value} (hg : a.eval g = .func (.func gf) #[] lb) (hFg : F.fn gf) (eg : ∀ args w, (callFunc gf args).run P w = .ok (.enter gf args) w)
    (N : Nat) (S : Nat → Prop) (hS : ∀ i, S i → i < w.heap.size) (Px : (Nat → Prop) → Nat → Array Value → World → Prop) (hit : Iter F (n - 1) P gf lb w N S Px)
    (hps : ∀ T k args W, Px T k args W → args.size = ps.size) (hPx : ∀ T k args W W', Px T k args W → Frm T W W' → Px T k args W')
    (J : Nat → World → Prop) (Jx : Code → World → Prop) (hJ : ∀ k T W W', (∀ i, T i → w.heap.size ≤ i) → J k W → Frm T W W' → J k W') (hJx : ∀ c T W W', (∀ i, T i → w.heap.size ≤ i) → Jx c W → Frm T W W' → Jx c W')
    (h0 : J 0 w) (a₁ : Array Value → Act)
    (hassign : ∀ l k args W (K : Act → World → Prop), k < N → Px (fun i => i = l ∨ S i) k args W → K (a₁ args) W →
      assign.wpIn (F.inRound l) (n - 1 - 1) P (Exit.then K (fun _ _ _ => False)) { tmps := (ps.zip args).foldl (fun t (p, v) => t.setIfInBounds p v) a.tmps, defers := [] } W)
    (hbody : ∀ l k args W, w.heap.size ≤ l → k < N → J k W → Px (fun i => i = l ∨ S i) k args W → body.wpIn (F.inRound l) (n - 1 - 1) P (endsC S J Jx k W) (a₁ args) W)
    (hdone : ∀ D W, w.heap.size ≤ D → J N W → W.heap[D]? = some (.deferred (some [])) → Q .normal { a with defers := { target := .collected D, args := #[] } :: a.defers } W)
    (hstop : ∀ D c W, w.heap.size ≤ D → Jx c W → W.heap[D]? = some (.deferred (some [])) → c.wpIn F n P Q { a with defers := { target := .collected D, args := #[] } :: a.defers } W) :
    (Code.rangeFunc g ps assign body).wpIn F n P Q a w := by
  refine wpIn_rangeFunc fun fn hfn => ?_
  rw [hro]
  obtain ⟨D, hD⟩ : ∃ D, D = w.heap.size := ⟨_, rfl⟩
  obtain ⟨R, hR⟩ : ∃ R : LoopState → Option Code → Obj, R = fun st pe => .loop { state := st, pending := pe, fn, tmps := a.tmps, params := ps, assign, body, defers := D } := ⟨_, rfl⟩
  obtain ⟨W1, hW1⟩ : ∃ W1, W1 = (w.alloc (.deferred (some []))).alloc (R .ready none) := ⟨_, rfl⟩
  have hlt1 : D + 1 < W1.heap.size := by rw [hW1, hD]; simp
  have hl1 : W1.heap[D + 1]? = some (R .ready none) := by
    have := World.alloc_heap_new (w.alloc (.deferred (some []))) (R .ready none)
    rwa [World.size_alloc, ← hW1, ← hD] at this
  have hd1 : W1.heap[D]? = some (.deferred (some [])) := by
    rw [hW1, hD]
    exact (Below.heap_alloc _ _ _ (by simp)).trans (World.alloc_heap_new w _)
  have hb1 : Below w.heap.size w W1 := by
    rw [hW1]
    exact ((Below.refl _ w).alloc (Nat.le_refl _) _).alloc (by simp) _
  -- what a turn of the loop's own record leaves
  have turn : ∀ (W : World) (o : Obj), D + 1 < W.heap.size → W.heap[D]? = some (.deferred (some [])) → (W.putObj (D + 1) o).heap[D + 1]? = some o ∧ (W.putObj (D + 1) o).heap[D]? = some (.deferred (some [])) := fun W o hlt hd =>
    ⟨World.putObj_heap_same hlt, (World.putObj_heap_other (by omega)).trans hd⟩
  have hJt : ∀ k W o, J k W → J k (W.putObj (D + 1) o) := fun k W o h => hJ k _ W _ (fun i hi => by rw [hi, hD]; omega) h (frm_put W (D + 1) o)
  have hJxt : ∀ c W o, Jx c W → Jx c (W.putObj (D + 1) o) := fun c W o h => hJx c _ W _ (fun i hi => by rw [hi, hD]; omega) h (frm_put W (D + 1) o)
  have nS : ∀ i, D ≤ i → ¬ S i := fun i hi h => by have := hS i h; omega
  have lt_of : ∀ {W : World} {i : Nat} {o : Obj}, W.heap[i]? = some o → i < W.heap.size := fun h => (Array.getElem?_eq_some_iff.1 h).1
  refine ⟨D + 1, [{ target := .collected D, args := #[] }], W1, { target := .fn (.func gf) lb, args := #[.func (.yield (D + 1)) #[] #[]] }, W1, gf, #[.func (.yield (D + 1)) #[] #[]] ++ lb, W1, ?_, ?_, ?_, ?_, fun _ => h1, ?_⟩
  · rw [hW1, hR, hD]
    exact run_enterLoop_outer _ _ _ _ _
  · simp only [resolve, hg]
    simp [go_sem]
  · intro f' hf'
    simp [Target.leads] at hf'
    subst hf'
    exact hFg
  · simp [invoke, go_sem, eg]
  refine (hit (D + 1) W1 (fun k W => J k W ∧ W.heap[D + 1]? = some (R .ready none) ∧ W.heap[D]? = some (.deferred (some [])))
    (fun W => ∃ c, Jx c W ∧ W.heap[D + 1]? = some (R .done (some c)) ∧ W.heap[D]? = some (.deferred (some []))) hb1 (by omega) hlt1
    (fun k W W' h hf => ⟨hJ k _ W W' (fun i hi => hi.elim) h.1 hf, (hf.block _ (lt_of h.2.1) (fun h => h)).trans h.2.1, (hf.block _ (lt_of h.2.2) (fun h => h)).trans h.2.2⟩)
    ?_ ⟨hJ 0 (fun _ => False) w W1 (fun i hi => hi.elim) h0 (Frm.of_below hb1), hl1, hd1⟩).mono ?_
  · rintro k args W hk ⟨hj, hl, hd⟩ hx
    have hlt := lt_of hl
    have hl' := hl
    rw [hR] at hl'
    have hy := run_yield (P := P) (args := args) hl' (hps _ _ _ _ hx)
    have f1 := frm_put W (D + 1) (R .busy none)
    have hx2 : Px (fun i => i = D + 1 ∨ S i) k args (W.putObj (D + 1) (R .busy none)) := hPx _ k args W _ hx (f1.mono fun i hi => .inl hi)
    obtain ⟨hl2, hd2⟩ := turn W (R .busy none) hlt hd
    refine ⟨fn, _, assign, body, hy, roundIn_of_wpIn hfn (hassign _ k args W _ hk hx ⟨_, run_beginRound hl' rfl, ?_⟩)⟩
    have hbg : (World.putObj W (D + 1) (.loop { state := .busy, pending := none, fn, tmps := a.tmps, params := ps, assign, body, defers := D })) = W.putObj (D + 1) (R .busy none) := by rw [hR]
    rw [hbg]
    refine wpIn_mono (hbody (D + 1) k args _ (by omega) hk (hJt k W _ hj) hx2) ?_
    -- the round's end
    have fin : ∀ (jump : Option Code) (W3 : World), Frm S (W.putObj (D + 1) (R .busy none)) W3 →
        (Instr.endRound (D + 1) jump).run P W3 = .ok (.bool jump.isNone) (W3.putObj (D + 1) (R (if jump.isNone then .ready else .done) jump)) ∧ Frm (fun i => i = D + 1 ∨ S i) W (W3.putObj (D + 1) (R (if jump.isNone then .ready else .done) jump)) ∧
        (W3.putObj (D + 1) (R (if jump.isNone then .ready else .done) jump)).heap[D + 1]? = some (R (if jump.isNone then .ready else .done) jump) ∧ (W3.putObj (D + 1) (R (if jump.isNone then .ready else .done) jump)).heap[D]? = some (.deferred (some [])) := fun jump W3 f3 => by
      have hl3 : W3.heap[D + 1]? = some (R .busy none) := (f3.block _ (lt_of hl2) (nS _ (by omega))).trans hl2
      have hd3 : W3.heap[D]? = some (.deferred (some [])) := (f3.block _ (lt_of hd2) (nS _ (Nat.le_refl _))).trans hd2
      have hl3' := hl3
      rw [hR] at hl3'
      have he := run_endRound (P := P) jump hl3'
      refine ⟨by rw [hR]; exact he, ((f1.mono fun i hi => .inl hi).trans (f3.mono fun i hi => .inr hi)).trans ((frm_put W3 (D + 1) _).mono fun i hi => .inl hi), ?_⟩
      exact turn W3 _ (lt_of hl3) hd3
    rintro e a3 W3 hp
    cases e with
    | normal =>
      obtain ⟨e1, e2, e3, e4⟩ := fin none W3 hp.2
      exact ⟨_, _, e1, .inl ⟨rfl, ⟨hJt _ W3 _ hp.1, e3, e4⟩, e2⟩⟩
    | ret =>
      obtain ⟨e1, e2, e3, e4⟩ := fin (some .ret) W3 hp.2
      exact ⟨_, _, e1, .inr ⟨rfl, .ret, hJxt _ W3 _ hp.1, e3, e4⟩⟩
    | exit id =>
      obtain ⟨e1, e2, e3, e4⟩ := fin (some (.exit id)) W3 hp.2
      exact ⟨_, _, e1, .inr ⟨rfl, .exit id, hJxt _ W3 _ hp.1, e3, e4⟩⟩
    | goto t =>
      obtain ⟨e1, e2, e3, e4⟩ := fin (some (.goto t)) W3 hp.2
      exact ⟨_, _, e1, .inr ⟨rfl, .goto t, hJxt _ W3 _ hp.1, e3, e4⟩⟩
    | panic ch => exact hp.elim
    | outgrown => exact hp.elim
  · rintro e W2 ⟨⟨v, rfl⟩, ⟨hj, hl, hd⟩ | ⟨c, hj, hl, hd⟩⟩
    · rw [hR] at hl
      have he := run_endLoop (P := P) hl (by simp)
      exact ⟨none, _, he, hdone D _ (by omega) (hJ N (fun i => i = D + 1) W2 _ (fun i hi => by rw [hi]; omega) hj (frm_put W2 (D + 1) _)) ((World.putObj_heap_other (by omega)).trans hd)⟩
    · rw [hR] at hl
      have he := run_endLoop (P := P) hl (by simp)
      exact ⟨some c, _, he, hstop D c _ (by omega) (hJx c (fun i => i = D + 1) W2 _ (fun i hi => by rw [hi]; omega) hj (frm_put W2 (D + 1) _)) ((World.putObj_heap_other (by omega)).trans hd)⟩
/-! A load and a store of a whole array, within a fence. -/
set_option maxRecDepth 100000 in
theorem wpListIn_load_mid {F : Fence} {n : Nat} {P : Program} {ops : Array Oper} {rest : List Oper} {op : Oper} {a : Act} {w : World} {Q : Exit → Act → World → Prop} (hgd : op.guard = none) (ty : TypeId) (x : Operand) (ho : op.op = .load ty x)
    (b o : Nat) (hx : a.eval x = .pointer (some ⟨b, o, none⟩)) (cs : List Value) (d : TypeDesc) (hc : w.rangeAt b o cs) (hu : P.underlying ty = some d) (hd : d.isRow = true) (hi : (P.info? ty).map (·.size) = some cs.length)
    (h : wpListIn F n P ops Q rest (a.put op.dst (.agg cs.toArray)) w) : wpListIn F n P ops Q (op :: rest) a w :=
  wpListIn_plain hgd fun K hK => by
    refine ⟨fun f hf => by simp [Oper.about, ho] at hf, ?_⟩
    rw [Oper.semAt_plain F _ _ (by rw [ho]; intro c hc'; cases hc')]
    unfold execOp
    simp only [ho, hx, Sem.run_bind, Sem.run_pure, Result.andThen_ok, run_loadAt_mid w b o ty cs d hc hu hd hi]
    exact hK _ _ h
set_option maxRecDepth 100000 in
theorem wpListIn_store_blk {F : Fence} {n : Nat} {P : Program} {ops : Array Oper} {rest : List Oper} {op : Oper} {a : Act} {w : World} {Q : Exit → Act → World → Prop} (hgd : op.guard = none) (ty : TypeId) (x y : Operand) (ho : op.op = .store ty x y)
    (g : Nat) (cs0 cells : List Value) (t : TypeId) (hx : a.eval x = .pointer (some ⟨g, 0, none⟩)) (hy : a.eval y = .agg cells.toArray) (hb : Blk w g cs0 t) (hl : cs0.length = cells.length)
    (hi : (P.info? ty).map (·.size) = some cells.length) (h1 : ∀ v ∈ cells, v.oneCell' = true)
    (h : ∀ w2, Blk w2 g cells t → Only g w w2 → wpListIn F n P ops Q rest (a.put op.dst undef) w2) : wpListIn F n P ops Q (op :: rest) a w :=
  wpListIn_plain hgd fun K hK => by
    refine ⟨fun f hf => by simp [Oper.about, ho] at hf, ?_⟩
    rw [Oper.semAt_plain F _ _ (by rw [ho]; intro c hc'; cases hc')]
    have hs := Blk.setCells cells w cs0 0 hb (by omega)
    rw [over_all _ _ hl] at hs
    unfold execOp
    simp only [ho, hx, hy, Sem.run_bind, Sem.run_pure, Result.andThen_ok, run_storeAt_mid w g 0 ty cells.toArray (hb.there 0 _ (by rw [List.size_toArray]; omega)) (by rw [List.size_toArray]; exact hi) (all_oneCell_toArray h1)]
    exact hK _ _ (h _ hs (Only.setCells _ _ _ _ (Only.refl g w)))
set_option maxRecDepth 100000 in
theorem ati_store {F : Fence} {n : Nat} {P : Program} {ops : Array Oper} {rest : List Oper} {Q : Exit → Act → World → Prop} {a : Act} {w : World} {dst : Option Tmp} {t : TypeId} {p : String} {af : Array Edge} (ty : TypeId) (x y : Operand)
    (h : wpListIn F n P ops Q ({ dst := dst, op := .store ty x y, type := t, pos := p, after := af, guard := none } :: rest) a w) : wpListIn F n P ops Q ({ dst := dst, op := .store ty x y, type := t, pos := p, after := af, guard := none } :: rest) a w := h
set_option maxRecDepth 100000 in
theorem ati_load {F : Fence} {n : Nat} {P : Program} {ops : Array Oper} {rest : List Oper} {Q : Exit → Act → World → Prop} {a : Act} {w : World} {dst : Option Tmp} {t : TypeId} {p : String} {af : Array Edge} (ty : TypeId) (x : Operand)
    (h : wpListIn F n P ops Q ({ dst := dst, op := .load ty x, type := t, pos := p, after := af, guard := none } :: rest) a w) : wpListIn F n P ops Q ({ dst := dst, op := .load ty x, type := t, pos := p, after := af, guard := none } :: rest) a w := h
end Go.Proofs.YtpoinhjkdgcnaaaDoor

/- The contract of package merkle's levels: the levels of a list, from the list up, one a round. -/
namespace Go.Proofs.YtpoinhjkdgcnaaaDoor
open Go.RowKit Go.Shelf
set_option linter.unusedVariables false
set_option linter.unusedSimpArgs false

/-- A slice of hashes that lies in no block of S. -/
def RdHF (w : World) (S : Nat → Prop) (A : Option Addr) (n : Nat) (L : List (List UInt8)) : Prop :=
  L.length = n ∧ (∀ h ∈ L, h.length = 32) ∧ (0 < n → ∃ b off, A = some ⟨b, off, none⟩ ∧ ¬ S b ∧ b < w.heap.size ∧ ∀ i, i < n → w.rangeAt b (off + i * 32) ((hat L i).map B8))
set_option maxRecDepth 100000 in
theorem RdHF.rd {w : World} {S : Nat → Prop} {A : Option Addr} {n : Nat} {L : List (List UInt8)} (h : RdHF w S A n L) : RdH w A n L :=
  ⟨h.1, h.2.1, fun hn => by obtain ⟨b, off, e, _, hlt, hc⟩ := h.2.2 hn; exact ⟨b, off, e, hlt, hc⟩⟩
set_option maxRecDepth 100000 in
theorem RdHF.frm {w W : World} {S : Nat → Prop} {A : Option Addr} {n : Nat} {L : List (List UInt8)} (h : RdHF w S A n L) (hf : Frm S w W) : RdHF W S A n L :=
  ⟨h.1, h.2.1, fun hn => by
    obtain ⟨b, off, e, hS, hlt, hc⟩ := h.2.2 hn
    exact ⟨b, off, e, hS, Nat.lt_of_lt_of_le hlt hf.size, fun i hi j v hv => (hf.cell (p := ⟨b, off + i * 32 + j, none⟩) hlt hS).trans (hc i hi j v hv)⟩⟩
set_option maxRecDepth 100000 in
theorem RdHF.old {w W : World} {S : Nat → Prop} {A : Option Addr} {n : Nat} {L : List (List UInt8)} (h : RdH w A n L) (hb : Below w.heap.size w W) (hS : ∀ i, S i → w.heap.size ≤ i) : RdHF W S A n L :=
  ⟨h.1, h.2.1, fun hn => by
    obtain ⟨b, off, e, hlt, hc⟩ := h.2.2 hn
    exact ⟨b, off, e, fun hs => by have := hS b hs; omega, Nat.lt_of_lt_of_le hlt hb.size, fun i hi j v hv => (hb.cell (p := ⟨b, off + i * 32 + j, none⟩) hlt).trans (hc i hi j v hv)⟩⟩
set_option maxRecDepth 100000 in
theorem RdHF.own {w : World} {S : Nat → Prop} {base n c : Nat} {e : TypeId} {A : Option Addr} {L : List (List UInt8)} (h : OwnH w base e A n c L) (hS : ∀ i, S i → i < base) : RdHF w S A n L :=
  ⟨h.rd.1, h.rd.2.1, fun hn => by
    obtain ⟨b, off, e1, hlt, hc⟩ := h.rd.2.2 hn
    refine ⟨b, off, e1, fun hs => ?_, hlt, hc⟩
    rcases h.2.2.2 with ⟨_, h0⟩ | ⟨g, cap, cur, hv, hb, _⟩
    · omega
    · injection hv with e2
      rw [e1] at e2
      injection e2 with e3
      injection e3 with e4
      have := hS b hs
      omega⟩
/-- What the levels hand to a round. -/
def LevX (L : List (List UInt8)) (T : Nat → Prop) (k : Nat) (args : Array Value) (W : World) : Prop :=
  ∃ A n c, args = #[.slice A n c] ∧ RdHF W T A n (lev k L) ∧ n ≤ c ∧ c ≤ maxLen
set_option maxRecDepth 100000 in
theorem LevX.size {L : List (List UInt8)} {T : Nat → Prop} {k : Nat} {args : Array Value} {W : World} (h : LevX L T k args W) : args.size = 1 := by
  obtain ⟨A, n, c, rfl, _⟩ := h
  rfl
set_option maxRecDepth 100000 in
theorem LevX.frm {L : List (List UInt8)} {T : Nat → Prop} {k : Nat} {args : Array Value} {W W' : World} (h : LevX L T k args W) (hf : Frm T W W') : LevX L T k args W' := by
  obtain ⟨A, n, c, e, h1, h2⟩ := h
  exact ⟨A, n, c, e, h1.frm hf, h2⟩
def lenOf : Value → Nat
  | .slice _ n _ => n
  | _ => 0
set_option maxRecDepth 100000 in
theorem lev_abv' (l : List (List UInt8)) (k : Nat) : lev (k + 1) l = abv (lev k l) := rfl
set_option maxRecDepth 100000 in
theorem wide_64 (n : Nat) (h : n ≤ 64) : ∀ k, wide n k ≤ 64
  | 0 => h
  | k + 1 => by
    have := wide_64 n h k
    show (wide n k + 1) / 2 ≤ 64
    omega
set_option maxRecDepth 100000 in
theorem wide_end (n : Nat) : wide n (depth n) ≤ 1 := by
  by_cases h : 0 < n
  · rw [wide_one n h]; omega
  · obtain rfl : n = 0 := by omega
    rw [depth_small 0 (by omega)]
    show 0 ≤ 1
    omega
set_option maxRecDepth 100000 in
set_option maxHeartbeats 4000000 in
theorem levels_calls (A : Option Addr) (n c : Nat) (w : World) : Calls Tryd.prog 38 #[.slice A n c] w fun e w' => e = .returned (.func (.func 49) #[] #[.pointer (some ⟨w.heap.size, 0, none⟩)]) ∧ w' = w.alloc (.cells #[.slice A n c] 24) := by
  go_enter Tryd.func38, Tryd.ntmps38
  go_wp2
  go_ret
  exact ⟨rfl, rfl⟩
attribute [local go_sem] Oper.semAt_some
set_option maxRecDepth 100000 in
set_option maxHeartbeats 4000000 in
theorem levels_iter (f : Nat) (hf : 1 ≤ f) (A : Option Addr) (n c : Nat) (L : List (List UInt8)) (w0 w : World) (hr : RdH w0 A n L) (hT : Tab w0) (hn : n ≤ 64) (hc : n ≤ c) (hm : c ≤ maxLen) (hb : Below w0.heap.size w0 w) (Bl : Nat) (hBl : Bl < w.heap.size) (hcell : w.cell? ⟨Bl, 0, none⟩ = some (.slice A n c)) (S : Nat → Prop) (hS : ∀ i, S i → w0.heap.size ≤ i ∧ i < w.heap.size) :
    Iter Fence.wide f Tryd.prog 49 #[.pointer (some ⟨Bl, 0, none⟩)] w (depth n + 1) S (LevX L) := by
  intro l W1 I Ix hb1 hl0 hl hst hY h0
  have hln := hr.len
  have hcell1 : W1.cell? ⟨Bl, 0, none⟩ = some (.slice A n c) := (hb1.cell (p := ⟨Bl, 0, none⟩) hBl).trans hcell
  have hbs := hb.size
  have hb01 : Below w0.heap.size w0 W1 := hb.trans (hb1.mono hbs)
  obtain ⟨T, hTT⟩ : ∃ T : Nat → Prop, T = fun i => i = l ∨ S i := ⟨_, rfl⟩
  have hT0 : ∀ i, T i → w0.heap.size ≤ i := fun i hi => by rw [hTT] at hi; rcases hi with rfl | hi; omega; exact (hS i hi).1
  have hT1 : ∀ i, T i → i < W1.heap.size := fun i hi => by rw [hTT] at hi; have := hb1.size; rcases hi with rfl | hi; exact hl; have := (hS i hi).2; omega
  have hr1 : RdHF W1 T A n (lev 0 L) := RdHF.old hr hb01 hT0
  rw [← hTT] at hY
  obtain ⟨D, hD⟩ : ∃ D, D = depth n := ⟨_, rfl⟩
  have hw1 : ∀ k, k < D → 1 < wide n k := fun k hk => wide_more n k (by omega)
  have hw2 : wide n D ≤ 1 := by rw [hD]; exact wide_end n
  have hwl : ∀ k, (lev k L).length = wide n k := fun k => by rw [lev_len, hln]
  have hw64 : ∀ k, wide n k ≤ 64 := wide_64 n hn
  have CA : Hid (∀ (W : World) (A' : Option Addr) (n' c' : Nat) (l' : List (List UInt8)), Below w0.heap.size w0 W → RdH W A' n' l' → n' ≤ 64 → n' ≤ c' → c' ≤ maxLen → Calls Tryd.prog 24 #[.slice A' n' c'] W fun e w' => ∃ A2 c2, e = .returned (.slice A2 ((n' + 1) / 2) c2) ∧ OwnH w' W.heap.size 47 A2 ((n' + 1) / 2) c2 (abv l') ∧ Below W.heap.size W w') := Lib.hid fun W A' n' c' l' h1 h2 h3 h4 h5 => gaboveO_calls A' n' c' l' W h2 (hT.all h1) h3 h4 h5
  rw [← hD] at hY ⊢
  have HY := Lib.hid hY
  have HST := Lib.hid hst
  have HW := Lib.hid (And.intro hw1 (And.intro hw2 (And.intro hwl hw64)))
  have HT0 := Lib.hid hT0
  have HT1 := Lib.hid hT1
  clear hY hst hw1 hw2 hwl hw64 hT0 hT1 hTT hS hD hcell hr hT hb hBl hl0 hl hbs
  refine callsIn_of_wp Tryd.func49 rfl trivial ?_ rfl
  simp only [Tryd.ntmps49, List.size_toArray, List.length_cons, List.length_nil, Nat.reduceAdd, Nat.reduceSub, Array.replicate_succ, Array.replicate_zero, List.push_toArray, List.append_toArray, List.nil_append, List.cons_append]
  gi_wp2
  gi_loopw [3] (fun v wr => ∃ (k : Nat) (A' : Option Addr) (n' c' : Nat), v = .slice A' n' c' ∧ k ≤ D ∧ RdHF wr T A' n' (lev k L) ∧ n' ≤ c' ∧ c' ≤ maxLen ∧ I k wr ∧ Below w0.heap.size w0 wr ∧ W1.heap.size ≤ wr.heap.size) (fun v _ => lenOf v)
  case atStart =>
    exact ⟨0, A, n, c, rfl, Nat.zero_le _, hr1, hc, hm, h0, hb01, Nat.le_refl _⟩
  case round =>
    obtain ⟨k, A', n', c', rfl, hk, hrk, hc', hm', hI, hbw, hsz⟩ := hrel
    have hn' : n' = wide n k := by rw [← HW.out.2.2.1 k, hrk.1]
    obtain ⟨fn, tmps, assign, body, hy, hR⟩ := HY.out k #[.slice A' n' c'] wr (by omega) hI ⟨A', n', c', rfl, hrk, hc', hm'⟩
    have HR := Lib.hid hrk
    have HN := Lib.hid hn'
    clear hrk hn'
    by_cases hkD : k < D
    · have hgt : (1 : Int) < (n' : Int) := by have := HW.out.1 k hkD; have := HN.out; omega
      have hgn : 1 < n' := by omega
      have h64 : n' ≤ 64 := by rw [HN.out]; exact HW.out.2.2.2 k
      gi_wp2
      refine hR.mono ?_
      rintro e W3 (⟨rfl, hJ3, hk3⟩ | ⟨rfl, hJx3⟩)
      · have hr3 := HR.out.frm hk3
        have hb3 : Below w0.heap.size w0 W3 := hbw.trans (hk3.below hbw.size HT0.out)
        have hs3 := hk3.size
        have C1 := Lib.hid (CA.out W3 A' n' c' (lev k L) hb3 hr3.rd h64 hc' hm')
        gi_wp2_with (refine ⟨trivial, ?_⟩; gi_at_call 24; refine (callsIn_wide.2 C1.out).mono ?_; rintro e' w4 ⟨A2, c2, rfl, ho4, hb4⟩)
        go_roundw
        case rel =>
          refine ⟨k + 1, A2, _, c2, rfl, by omega, RdHF.own ho4 (fun i hi => by have := HT1.out i hi; omega), ho4.cap.1, ho4.cap.2, HST.out _ _ _ hJ3 (Frm.of_below hb4), hb3.trans (hb4.mono hb3.size), ?_⟩
          have := hb4.size
          omega
        case measure => show (n' + 1) / 2 < n'; omega
      · gi_wp2
        go_end0
        exact ⟨⟨_, rfl⟩, .inr hJx3⟩
    · have hkD' : k = D := by omega
      have hgt : ¬ (1 : Int) < (n' : Int) := by have := HW.out.2.1; have := HN.out; rw [hkD'] at this; omega
      subst hkD'
      gi_wp2
      refine hR.mono ?_
      rintro e W3 (⟨rfl, hJ3, hk3⟩ | ⟨rfl, hJx3⟩)
      · gi_wp2
        go_end0
        exact ⟨⟨_, rfl⟩, .inl hJ3⟩
      · gi_wp2
        go_end0
        exact ⟨⟨_, rfl⟩, .inr hJx3⟩
end Go.Proofs.YtpoinhjkdgcnaaaDoor
