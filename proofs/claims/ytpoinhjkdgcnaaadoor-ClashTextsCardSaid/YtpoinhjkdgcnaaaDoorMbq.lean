/- Merged texts: ClbE ClbF. -/
import Derived.Test.YtpoinhjkdgcnaaaDoorMbm
import Derived.Test.YtpoinhjkdgcnaaaDoorMbl
import Derived.WideMake
import Derived.Test.YtpoinhjkdgcnaaaDoorMau
import Derived.Test.YtpoinhjkdgcnaaaDoorMba
/- A map from hashes to slices of byte slices that grow. -/
namespace Go.Proofs.YtpoinhjkdgcnaaaDoor
open Go.RowKit Go.WideMaps Go.WideShapes Go.MapKept Go.ChangeMaps
set_option linter.unusedVariables false
set_option linter.unusedSimpArgs false

def ZS : Value := .slice none 0 0
set_option maxRecDepth 100000 in
theorem infoM : (Tryd.prog.info? 22).map (fun i => i.zero) = some (some (.slice none 0 0)) := by kernel_rfl
set_option maxRecDepth 100000 in
theorem zeroM (w : World) : (zeroValue 22).run Tryd.prog w = .ok ZS w := by
  obtain ⟨i, hi, hz⟩ := Option.map_eq_some_iff.1 infoM
  simp [zeroValue, typeInfo, hi, hz, ZS]
/-- What a row's values hold, in the world of the beginning. -/
def ElV (w : World) (V : List Value) (L : List (List UInt8)) : Prop := V.length = L.length ∧ ∀ i v, V[i]? = some v → ∃ A n c, v = .slice A n c ∧ n ≤ c ∧ c ≤ maxLen ∧ Rd w A n (hat L i)
set_option maxRecDepth 100000 in
theorem ElV.nil (w : World) : ElV w [] [] := ⟨rfl, fun i v h => by simp at h⟩
set_option maxRecDepth 100000 in
theorem ElV.snoc {w : World} {V : List Value} {L : List (List UInt8)} (h : ElV w V L) {A : Option Addr} {n c : Nat} {x : List UInt8} (h1 : n ≤ c) (h2 : c ≤ maxLen) (hr : Rd w A n x) : ElV w (V ++ [.slice A n c]) (L ++ [x]) := by
  refine ⟨by rw [List.length_append, List.length_append, h.1]; rfl, fun i v hv => ?_⟩
  rcases Nat.lt_or_ge i V.length with hi | hi
  · rw [List.getElem?_append_left hi] at hv
    rw [hat_left L [x] i (by rw [← h.1]; exact hi)]
    exact h.2 i v hv
  · rw [List.getElem?_append_right hi] at hv
    rw [hat_right L [x] i (by rw [← h.1]; exact hi), ← h.1]
    obtain ⟨j, hj⟩ : ∃ j, j = i - V.length := ⟨_, rfl⟩
    rw [← hj] at hv ⊢
    have e : j = 0 := by have := (List.getElem?_eq_some_iff.1 hv).1; simp at this; exact this
    subst e
    simp at hv
    exact ⟨A, n, c, hv.symm, h1, h2, hr⟩
set_option maxRecDepth 100000 in
theorem frm_set (w : World) (b : Nat) (o : Obj) : Frm (fun i => i = b) w (setBlock w b o) :=
  ⟨rfl, rfl, rfl, by simp [setBlock], fun i hi hn => by
    show (w.heap.setIfInBounds b o)[i]? = w.heap[i]?
    rw [Array.getElem?_setIfInBounds_ne (fun e => hn e.symm)]⟩
set_option maxRecDepth 100000 in
theorem bel_set {B b : Nat} {o : Obj} {w0 w : World} (h : Below B w0 w) (hs : B ≤ w.heap.size) (hb : B ≤ b) : Below B w0 (setBlock w b o) := h.trans ((frm_set w b o).below hs fun i hi => by rw [hi]; exact hb)
/-- The rows that a map holds: none in the map's block, no two in one. -/
def Rows (w : World) (b : Nat) (D : List (List UInt8 × Value)) (W : World) (L : List (List UInt8)) : Prop :=
  (∀ h, h.length = 32 → ∃ A k c V, mget D h ZS = .slice A k c ∧ blkOf A ≠ some b ∧ W.ownsRow w.heap.size 23 1 (.slice A k c) k V ∧ ElV w V (L.filter fun t => decide (ds t = h))) ∧
  (∀ h1 h2, h1.length = 32 → h2.length = 32 → h1 ≠ h2 → ∀ A1 k1 c1 A2 k2 c2, mget D h1 ZS = .slice A1 k1 c1 → mget D h2 ZS = .slice A2 k2 c2 → ∀ g, blkOf A1 = some g → blkOf A2 ≠ some g)
set_option maxRecDepth 100000 in
theorem Rows.frm {w W W' : World} {b : Nat} {D : List (List UInt8 × Value)} {L : List (List UInt8)} {P : Nat → Prop} (h : Rows w b D W L) (hf : Frm P W W') (hP : ∀ g, P g → g = b ∨ ∀ cs d, W.heap[g]? ≠ some (.cells cs 23 d)) : Rows w b D W' L :=
  ⟨fun x hx => by
    obtain ⟨A, k, c, V, h1, h2, h3, h4⟩ := h.1 x hx
    refine ⟨A, k, c, V, h1, h2, row_frm h3 hf fun g hg hPg => ?_, h4⟩
    obtain ⟨_, _, cs, d, hr⟩ := row_blk h3 g hg
    rcases hP g hPg with e | e
    · rw [e] at hg; exact h2 hg
    · exact e _ _ hr, h.2⟩
/-- The map at b holds the texts L by their double hashes. -/
def KM (w : World) (b : Nat) (D : List (List UInt8 × Value)) (W : World) (L : List (List UInt8)) : Prop := MapH W b D ∧ w.heap.size ≤ b ∧ Rows w b D W L ∧ Below w.heap.size w W
set_option maxRecDepth 100000 in
theorem MapH.lt {W : World} {b : Nat} {D : List (List UInt8 × Value)} (h : MapH W b D) : b < W.heap.size := by
  obtain ⟨es, clock, hb, _⟩ := h
  exact (Array.getElem?_eq_some_iff.1 hb).1
set_option maxRecDepth 100000 in
theorem MapH.frm {W W' : World} {b : Nat} {D : List (List UInt8 × Value)} {P : Nat → Prop} (h : MapH W b D) (hf : Frm P W W') (hP : ¬ P b) : MapH W' b D := by
  have hl := h.lt
  obtain ⟨es, clock, hb, hr⟩ := h
  exact ⟨es, clock, (hf.block b hl hP).trans hb, hr⟩
set_option maxRecDepth 100000 in
theorem MapH.ne_cells {W : World} {b g : Nat} {D : List (List UInt8 × Value)} {cs : Array Value} {t : TypeId} {d : Nat × Nat} (h : MapH W b D) (hg : W.heap[g]? = some (.cells cs t d)) : g ≠ b := fun e => by
  obtain ⟨es, clock, hb, _⟩ := h
  rw [e, hb] at hg
  cases hg
set_option maxRecDepth 100000 in
theorem KM.up {w W W' : World} {b : Nat} {D : List (List UInt8 × Value)} {L : List (List UInt8)} (h : KM w b D W L) (hb : Below W.heap.size W W') : KM w b D W' L :=
  ⟨h.1.frm (P := fun _ => False) (Frm.of_below hb) (fun h => h), h.2.1, h.2.2.1.frm (P := fun _ => False) (Frm.of_below hb) (fun _ h => h.elim), below_more h.2.2.2 hb⟩
set_option maxRecDepth 100000 in
theorem KM.only {w W W' : World} {b g : Nat} {D : List (List UInt8 × Value)} {L : List (List UInt8)} {cs : List Value} {t : TypeId} (h : KM w b D W L) (hk : Blk W g cs t) (ht : t ≠ 23) (hg : w.heap.size ≤ g) (ho : Only g W W') : KM w b D W' L :=
  ⟨h.1.frm (Frm.only ho (S := fun i => i = g) rfl) (fun e => h.1.ne_cells hk e.symm), h.2.1, h.2.2.1.frm (Frm.only ho (S := fun i => i = g) rfl) (fun i hi => .inr fun cs d => by rw [hi]; exact cell_ty hk ht), h.2.2.2.trans (ho.below hg)⟩
set_option maxRecDepth 100000 in
theorem KM.frm0 {w W W' : World} {b : Nat} {D : List (List UInt8 × Value)} {L : List (List UInt8)} (h : KM w b D W L) (hf : Frm (fun _ => False) W W') (hb : Below w.heap.size w W') : KM w b D W' L :=
  ⟨h.1.frm hf (fun h => h), h.2.1, h.2.2.1.frm hf (fun _ h => h.elim), hb⟩
set_option maxRecDepth 100000 in
theorem KM.new (w W : World) (hb : Below w.heap.size w W) : KM w W.heap.size [] (W.alloc (.map #[] 0)) [] := by
  have hB := (Below.refl W.heap.size W).alloc (Nat.le_refl _) (.map #[] 0)
  refine ⟨⟨#[], 0, heap_alloc_new W _, ⟨by simp, by simp, by simp⟩, by simp, rfl⟩, hb.size, ⟨fun h _ => ⟨none, 0, 0, [], rfl, by simp [blkOf], World.ownsRow_nil _ _ _ _, ElV.nil w⟩, fun h1 h2 _ _ _ A1 k1 c1 A2 k2 c2 e1 e2 g hg => ?_⟩, below_more hb hB⟩
  have e : mget [] h1 ZS = .slice none 0 0 := rfl
  rw [e] at e1
  injection e1 with e1
  rw [← e1] at hg
  simp [blkOf] at hg
/-- An entry has been asked for. -/
def MidA (w : World) (b : Nat) (D : List (List UInt8 × Value)) (W : World) (L : List (List UInt8)) (h0 : List UInt8) (st : Int) (A : Option Addr) (k c : Nat) : Prop :=
  ∃ o1, W.heap[b]? = some o1 ∧ (∀ (w2 : World) (v : Value), w2.heap[b]? = some o1 → ∃ o2, (Instr.entryStore 65 (.map (some b)) (goInt st) v).run Tryd.prog w2 = .ok () (setBlock w2 b o2) ∧ MapH (setBlock w2 b o2) b (mput D h0 v)) ∧ w.heap.size ≤ b ∧ b < W.heap.size ∧ Rows w b D W L ∧ mget D h0 ZS = .slice A k c ∧ Below w.heap.size w W
/-- And its new value is there. -/
def MidB (w : World) (b : Nat) (D : List (List UInt8 × Value)) (W : World) (L : List (List UInt8)) (h0 : List UInt8) (st : Int) (v : Value) : Prop :=
  ∃ o1, W.heap[b]? = some o1 ∧ (∀ (w2 : World) (v : Value), w2.heap[b]? = some o1 → ∃ o2, (Instr.entryStore 65 (.map (some b)) (goInt st) v).run Tryd.prog w2 = .ok () (setBlock w2 b o2) ∧ MapH (setBlock w2 b o2) b (mput D h0 v)) ∧ w.heap.size ≤ b ∧ b < W.heap.size ∧ Rows w b (mput D h0 v) W L ∧ Below w.heap.size w W
set_option maxRecDepth 100000 in
theorem own_blkT (A : Option Addr) (n c : Nat) : Value.ownBlock (.slice A n c) = blkOf A := by cases A <;> rfl
section
variable {ops : Array Oper} {rest : List Oper} {o : Oper} {a : Act} {W : World} {Q : Exit → Act → World → Prop}
set_option maxRecDepth 100000 in
theorem wpList_kmE (hgd : o.guard = none) (m k : Operand) (ho : o.op = .mapEntry 65 m k) {w : World} {b : Nat} {D : List (List UInt8 × Value)} {L : List (List UInt8)} (h : KM w b D W L) (h0 : List UInt8) (h32 : h0.length = 32) (hm : a.eval m = .map (some b)) (hk : a.eval k = HK h0)
    (cont : ∀ (st : Int) A n c W1, MidA w b D W1 L h0 st A n c → Frm (fun i => i = b) W W1 → wpList Tryd.prog ops Q rest (a.put o.dst (.tuple #[.slice A n c, goInt st])) W1) : wpList Tryd.prog ops Q (o :: rest) a W := by
  refine wpList_plain hgd fun K hK => ?_
  obtain ⟨st, o1, h1, h2, h3⟩ := entry_H Tryd.underlying65 (zeroM W) h.1 h0 h32
  obtain ⟨A, n, c, V, hv, hne, hrow, hel⟩ := h.2.2.1.1 h0 h32
  unfold Oper.wp execOp
  simp only [ho, hm, hk, Sem.run_bind, h1, Result.andThen_ok]
  rw [hv]
  have hf := frm_set W b o1
  have hs := h.2.2.2.size
  exact hK _ _ (cont st A n c _ ⟨o1, h2, h3, h.2.1, by rw [show (setBlock W b o1).heap.size = W.heap.size from by simp [setBlock]]; exact h.1.lt, h.2.2.1.frm hf (fun g hg => .inl hg), hv, bel_set h.2.2.2 hs h.2.1⟩ hf)
set_option maxRecDepth 100000 in
theorem wpList_kmA (hgd : o.guard = none) (s x : Operand) (ho : o.op = .call { callee := .builtin .append, args := #[s, x], argTypes := #[22, 22] }) {w : World} {b : Nat} {st : Int} {D : List (List UInt8 × Value)} {L : List (List UInt8)} {A : Option Addr} {n c : Nat} (z : List UInt8) (h : MidA w b D W L (ds z) st A n c) (hs : a.eval s = .slice A n c) (g1 : Nat) (A2 : Option Addr) (m2 c2 : Nat) (hx : a.eval x = .slice (some ⟨g1, 0, none⟩) 1 1) (hg : Blk W g1 [.slice A2 m2 c2] 23) (hr : Rd w A2 m2 z) (h1 : m2 ≤ c2) (h2 : c2 ≤ maxLen) (hL : L.length ≤ 100000)
    (cont : ∀ A' c' W2, MidB w b D W2 (L ++ [z]) (ds z) st (.slice A' (n + 1) c') → wpList Tryd.prog ops Q rest (a.put o.dst (.slice A' (n + 1) c')) W2) : wpList Tryd.prog ops Q (o :: rest) a W := by
  obtain ⟨o1, k1, k2, k3, k4, k5, k6, k7⟩ := h
  obtain ⟨A0, n0, c0, V, hv, hne, hrow, hel⟩ := k5.1 (ds z) (ds_len z)
  rw [k6] at hv
  injection hv with e1 e2 e3
  subst e1 e2 e3
  have hVn : V.length = n := by have := hrow.1; omega
  have hn : n ≤ 100000 := by
    have := hel.1
    have h3 := List.length_filter_le (fun t => decide (ds t = ds z)) L
    omega
  have hsz := k7.size
  refine wpList_plain hgd fun K hK => ?_
  refine wpo_appG W s x 22 ho 23 (.slice none 0 0) 24 Tryd.underlying22 infoB rfl w.heap.size _ n V hs hrow (some ⟨g1, 0, none⟩) 1 1 [.slice A2 m2 c2] hx rfl (fun _ => ⟨_, rfl, fun j u hu => by rw [Addr.add_mid, Nat.zero_add, hg.cell, hu]⟩) (by intro u hu; simp at hu; rw [hu]; rfl) (by unfold maxLen; omega) (by omega) hsz (fun A' c' W2 g1' g2 g3 g4 => ?_)
  have hf := frm_grownH g4
  have hb2 : W2.heap[b]? = some o1 := (hf.block b k4 hne).trans k1
  rw [own_blkT, own_blkT] at g3
  have hbl := row_blk hrow
  refine hK _ _ (cont A' c' W2 ⟨o1, hb2, k2, k3, (Array.getElem?_eq_some_iff.1 hb2).1, ⟨fun h hh => ?_, fun h1 h2 hh1 hh2 hne12 A1 q1 d1 A2 q2 d2 e1 e2 g hg1 hg2 => ?_⟩, k7.trans g2⟩)
  · rw [mget_mput]
    by_cases e : h = ds z
    · subst e
      rw [if_pos rfl, List.filter_append]
      refine ⟨A', n + 1, c', V ++ [.slice A2 m2 c2], rfl, ?_, g1', ?_⟩
      · rcases g3 with g3 | g3
        · rw [g3]; exact hne
        · rw [g3]; intro e; injection e with e; omega
      · rw [show [z].filter (fun t => decide (ds t = ds z)) = [z] from by simp]
        exact hel.snoc h1 h2 hr
    · rw [if_neg e, List.filter_append, show [z].filter (fun t => decide (ds t = h)) = [] from by simp; exact fun e2 => e e2.symm, List.append_nil]
      obtain ⟨A1, q1, d1, V1, j1, j2, j3, j4⟩ := k5.1 h hh
      exact ⟨A1, q1, d1, V1, j1, j2, row_frm j3 hf fun g hg1 hg2 => k5.2 (ds z) h (ds_len z) hh (fun e2 => e e2.symm) _ _ _ _ _ _ k6 j1 g hg2 hg1, j4⟩
  · rw [mget_mput] at e1 e2
    by_cases x1 : h1 = ds z
    · rw [if_pos x1] at e1
      rw [if_neg (fun x2 => hne12 (x1.trans x2.symm))] at e2
      injection e1 with e1
      rw [← e1] at hg1
      rcases g3 with g3 | g3
      · rw [g3] at hg1
        exact k5.2 (ds z) h2 (ds_len z) hh2 (fun x => hne12 (x1.trans x)) _ _ _ _ _ _ k6 e2 g hg1 hg2
      · rw [g3] at hg1
        injection hg1 with hg1
        obtain ⟨A1', q1', d1', V1, j1, j2, j3, j4⟩ := k5.1 h2 hh2
        rw [e2] at j1
        injection j1 with j1
        rw [← j1] at j3
        have := (row_blk j3 g hg2).2.1
        omega
    · rw [if_neg x1] at e1
      by_cases x2 : h2 = ds z
      · rw [if_pos x2] at e2
        injection e2 with e2
        rw [← e2] at hg2
        rcases g3 with g3 | g3
        · rw [g3] at hg2
          exact k5.2 (ds z) h1 (ds_len z) hh1 (fun x => x1 x.symm) _ _ _ _ _ _ k6 e1 g hg2 hg1
        · rw [g3] at hg2
          injection hg2 with hg2
          obtain ⟨A1', q1', d1', V1, j1, j2, j3, j4⟩ := k5.1 h1 hh1
          rw [e1] at j1
          injection j1 with j1
          rw [← j1] at j3
          have := (row_blk j3 g hg1).2.1
          omega
      · rw [if_neg x2] at e2
        exact k5.2 h1 h2 hh1 hh2 hne12 _ _ _ _ _ _ e1 e2 g hg1 hg2
set_option maxRecDepth 100000 in
theorem wpList_kmS (hgd : o.guard = none) (m e x : Operand) (ho : o.op = .entryStore 65 m e x) {w : World} {b : Nat} {st : Int} {D : List (List UInt8 × Value)} {L : List (List UInt8)} {h0 : List UInt8} {v : Value} (h : MidB w b D W L h0 st v) (hm : a.eval m = .map (some b)) (he : a.eval e = goInt st) (hx : a.eval x = v)
    (cont : ∀ D' W2, KM w b D' W2 L → wpList Tryd.prog ops Q rest (a.put o.dst undef) W2) : wpList Tryd.prog ops Q (o :: rest) a W := by
  refine wpList_plain hgd fun K hK => ?_
  obtain ⟨o1, k1, k2, k3, k4, k5, k7⟩ := h
  obtain ⟨o2, j1, j2⟩ := k2 W v k1
  unfold Oper.wp execOp
  simp only [ho, hm, he, hx, Sem.run_bind, j1, Result.andThen_ok]
  exact hK _ _ (cont _ _ ⟨j2, k3, k5.frm (frm_set W b o2) (fun g hg => .inl hg), bel_set k7 k7.size k3⟩)
set_option maxRecDepth 100000 in
theorem at_mapE {dst : Option Tmp} {t : TypeId} {p : String} {af : Array Edge} (ty : TypeId) (m k : Operand)
    (h : wpList Tryd.prog ops Q ({ dst := dst, op := .mapEntry ty m k, type := t, pos := p, after := af, guard := none } :: rest) a W) : wpList Tryd.prog ops Q ({ dst := dst, op := .mapEntry ty m k, type := t, pos := p, after := af, guard := none } :: rest) a W := h
set_option maxRecDepth 100000 in
theorem at_mapS {dst : Option Tmp} {t : TypeId} {p : String} {af : Array Edge} (ty : TypeId) (m e x : Operand)
    (h : wpList Tryd.prog ops Q ({ dst := dst, op := .entryStore ty m e x, type := t, pos := p, after := af, guard := none } :: rest) a W) : wpList Tryd.prog ops Q ({ dst := dst, op := .entryStore ty m e x, type := t, pos := p, after := af, guard := none } :: rest) a W := h
set_option maxRecDepth 100000 in
theorem at_mapL {dst : Option Tmp} {t : TypeId} {p : String} {af : Array Edge} (ty : TypeId) (m k : Operand) (f : Bool)
    (h : wpList Tryd.prog ops Q ({ dst := dst, op := .lookup ty m k f, type := t, pos := p, after := af, guard := none } :: rest) a W) : wpList Tryd.prog ops Q ({ dst := dst, op := .lookup ty m k f, type := t, pos := p, after := af, guard := none } :: rest) a W := h
set_option maxRecDepth 100000 in
theorem at_mapM {dst : Option Tmp} {t : TypeId} {p : String} {af : Array Edge} (ty : TypeId)
    (h : wpList Tryd.prog ops Q ({ dst := dst, op := .makeMap ty none, type := t, pos := p, after := af, guard := none } :: rest) a W) : wpList Tryd.prog ops Q ({ dst := dst, op := .makeMap ty none, type := t, pos := p, after := af, guard := none } :: rest) a W := h
set_option maxRecDepth 100000 in
theorem wpList_kmM (hgd : o.guard = none) (ty : TypeId) (ho : o.op = .makeMap ty none) {w : World} (hb : Below w.heap.size w W)
    (cont : ∀ b W2, KM w b [] W2 [] → wpList Tryd.prog ops Q rest (a.put o.dst (.map (some b))) W2) : wpList Tryd.prog ops Q (o :: rest) a W := by
  refine wpList_plain hgd fun K hK => ?_
  unfold Oper.wp execOp
  simp only [ho, Option.map_none, Sem.run_bind, run_makeMap_plain, Result.andThen_ok]
  exact hK _ _ (cont _ _ (KM.new w W hb))
set_option maxRecDepth 100000 in
/-- What is looked up: the texts of that hash. -/
theorem wpList_kmL (hgd : o.guard = none) (m k : Operand) (ho : o.op = .lookup 65 m k false) {w0 w : World} {b : Nat} {D : List (List UInt8 × Value)} {L : List (List UInt8)} (h : KM w0 b D w L) (hw : Below w.heap.size w W) (h0 : List UInt8) (h32 : h0.length = 32) (hm : a.eval m = .map (some b)) (hk : a.eval k = HK h0)
    (cont : ∀ A n c, RdM W A n (L.filter fun t => decide (ds t = h0)) → n ≤ c → c ≤ maxLen → wpList Tryd.prog ops Q rest (a.put o.dst (.slice A n c)) W) : wpList Tryd.prog ops Q (o :: rest) a W := by
  refine wpList_plain hgd fun K hK => ?_
  have h := h.up hw
  have h1 := lookup_H Tryd.underlying65 (zeroM W) h.1 h0 h32
  obtain ⟨A, n, c, V, hv, hne, hrow, hel⟩ := h.2.2.1.1 h0 h32
  rw [hv] at h1
  unfold Oper.wp execOp
  simp only [ho, hm, hk, Sem.run_bind, h1, Result.andThen_ok]
  have hVn : V.length = n := by have := hrow.1; omega
  have hcap : n ≤ c ∧ c ≤ maxLen := by
    rcases hrow.2 with ⟨e, h0⟩ | ⟨g, cap, cur, e1, _, _, h2, h3, _⟩
    · injection e with _ e0 e
      subst e
      exact ⟨by omega, by unfold maxLen; omega⟩
    · injection e1 with _ _ e
      subst e
      exact ⟨h2, h3⟩
  refine hK _ _ (cont A n c (rdM_of hrow hel.1 (by rw [← hel.1, hVn]) fun i v hv => ?_) hcap.1 hcap.2)
  obtain ⟨A', m', c', e, g1, g2, g3⟩ := hel.2 i v hv
  exact ⟨A', m', c', e, g1, g2, g3.below h.2.2.2⟩
end
end Go.Proofs.YtpoinhjkdgcnaaaDoor

/- The contract of package clash's byHash, and that of bytes.Equal. -/
namespace Go.Proofs.YtpoinhjkdgcnaaaDoor
open Go.RowKit
set_option linter.unusedVariables false
set_option linter.unusedSimpArgs false

set_option maxRecDepth 100000 in
set_option maxHeartbeats 4000000 in
theorem gequal_calls (A : Option Addr) (m c : Nat) (x : List UInt8) (B : Option Addr) (n d : Nat) (y : List UInt8) (E : Bool) (w : World) (hx : Rd w A m x) (hy : Rd w B n y) (hE : decide (x = y) = E) :
    Calls Tryd.prog 35 #[.slice A m c, .slice B n d] w (Ret w (.bool E)) := by
  obtain ⟨X, hX⟩ : ∃ V, V = STR x := ⟨_, rfl⟩
  obtain ⟨Y, hY⟩ : ∃ V, V = STR y := ⟨_, rfl⟩
  have h1 : (convert 23 9 (.slice A m c)).run Tryd.prog w = .ok (.string ⟨x.toArray⟩) w := conv8 w A m c x hx
  have h2 : (convert 23 9 (.slice B n d)).run Tryd.prog w = .ok (.string ⟨y.toArray⟩) w := conv8 w B n d y hy
  have hb : (x == y) = E := by rw [← hE]; by_cases h : x = y <;> simp [h]
  clear hx hy hE hX hY X Y
  go_enter Tryd.func35, Tryd.ntmps35
  go_wp2
  go_ret
  exact ⟨rfl, Below.refl _ _⟩
set_option maxRecDepth 100000 in
set_option maxHeartbeats 4000000 in
theorem gbyHash_calls (A : Option Addr) (n c : Nat) (T : List (List UInt8)) (w : World) (hr : RdM w A n T) (hT : Tab w) (hn : n ≤ 1000) (hT2 : ∀ t ∈ T, t.length ≤ 100000) :
    Calls Tryd.prog 34 #[.slice A n c] w fun e w' => ∃ b D, e = .returned (.map (some b)) ∧ KM w b D w' T := by
  have hln := hr.len
  have HR := Lib.hid hr
  have HT := Lib.hid hT
  have HT2 := Lib.hid hT2
  clear hr hT hT2
  go_enter Tryd.func34, Tryd.ntmps34
  go_upto_region 2 with (first
    | ((with_reducible refine at_mapM 65 ?_); refine wpList_kmM rfl 65 rfl (Below.refl _ _) ?_; intro b wm hKm))
  go_wp2
  go_loopw [10] (fun kv wr => ∃ (t : Nat) (D : List (List UInt8 × Value)), kv = .int .i64 (t : Int) ∧ t ≤ n ∧ KM w b D wr (T.take t)) (fun kv _ => n - (intOf kv).toNat)
  case atStart => exact ⟨0, [], by first | rfl | go_num, by omega, by rw [List.take_zero]; exact hKm⟩
  case round =>
    obtain ⟨t, D, rfl, htn, hK⟩ := hrel
    obtain ⟨wo, hwo⟩ : ∃ x, x = wr := ⟨_, rfl⟩
    rw [← hwo] at hK ⊢
    clear hwo hKm
    have hbel := hK.2.2.2
    by_cases hlt : t < n
    · have hlt' : (t : Int) < (n : Int) := by omega
      obtain ⟨bb, off, A2, m, c2, hl, rfl, sc0, h1, h2, hrd⟩ := (HR.out).at_ hlt
      have sc := (hbel.cell (p := ⟨bb, off + t, none⟩) (World.block_lt_of_cell? w ⟨bb, off + t, none⟩ sc0)).trans sc0
      have hnx := take_hat T t (by omega)
      have hle : (T[t]).length ≤ 100000 := HT2.out _ (List.getElem_mem hl)
      obtain ⟨x, hx⟩ : ∃ x, x = T[t] := ⟨_, rfl⟩
      have hxx : hat T t = x := by rw [hx]; unfold hat; rw [List.getD_eq_getElem?_getD, List.getElem?_eq_getElem hl]; rfl
      rw [← hx] at hrd hle
      rw [hxx] at hnx
      have HNX := Lib.hid hnx
      obtain ⟨Y, hY⟩ : ∃ V, V = (ds x).map B8 := ⟨_, rfl⟩
      have HKY : Hid (HK (ds x) = .agg Y.toArray) := Lib.hid (by rw [hY]; rfl)
      have IY : Hid ((Tryd.prog.info? 47).map (·.size) = some Y.length) := Lib.hid (by rw [hY, List.length_map, ds_len]; kernel_rfl)
      have LY : Hid (z32.length = Y.length) := Lib.hid (by rw [hY, List.length_map, ds_len]; rfl)
      have OY : Hid (∀ v ∈ Y, v.oneCell' = true) := Lib.hid (by rw [hY]; exact b8_one _)
      have CT : Hid (∀ (W : World) (g : Nat), Blk W g [.slice A2 m c2] 23 → Below w.heap.size w W → Calls Tryd.prog 19 #[.slice (some ⟨g, 0, none⟩) 1 1] W (Ret W (.agg Y.toArray))) := Lib.hid fun W g k1 k2 => by
        rw [hY]
        exact twice_blk W g A2 m c2 x k1 (hrd.below k2) h1 h2 hle (HT.out.all k2)
      obtain ⟨J, hJ⟩ : ∃ J, J = T.take t := ⟨_, rfl⟩
      have hJl : J.length ≤ 100000 := by rw [hJ, List.length_take]; omega
      rw [← hJ] at hK hnx
      have HNX := Lib.hid hnx
      have hsz := hbel.size
      clear hnx hxx hx hY hJ hle sc0 hbel
      go_wp2_with (first
        | ((with_reducible refine at_bsP 22 1 #[(0, .tmp 14)] ?_); refine wpList_bsV rfl (.tmp 14) rfl A2 m c2 (by first | rfl | (simp [Act.eval]; done)) ?_; intro g1 w1 hb1 hg1 hl1 hB1; have hK := hK.up hB1)
        | (go_at_call 19; refine (CT.out _ g1 hb1 hK.2.2.2).mono ?_; rintro e' w2 ⟨rfl, hB2⟩; have hK := hK.up hB2; have hs2 := hB2.size)
        | ((with_reducible refine at_alloc 47 ?_); refine wpList_allocT rfl 47 z32 (by kernel_rfl) rfl w.heap.size w hK.2.2.2 (Nat.le_refl _) ?_; intro g3 w3 hb3 hg3 hl3 hf3 hB3; have hK := hK.frm0 hf3 hB3)
        | ((with_reducible refine at_store 47 (.tmp 6) (.tmp 16) ?_); refine wpList_store_blk rfl 47 (.tmp 6) (.tmp 16) rfl g3 z32 Y 47 rfl rfl hb3 LY.out IY.out OY.out ?_; intro w4 hb4 ho4; have hK := hK.only hb3 (by decide) (by omega) ho4; have hs4 := ho4.size)
        | ((with_reducible refine at_load 47 (.tmp 6) ?_); refine wpList_load_mid rfl 47 (.tmp 6) rfl g3 0 (by first | rfl | (simp [Act.eval]; done)) Y _ (Blk.range hb4) Tryd.underlying47 rfl IY.out ?_)
        | ((with_reducible refine at_bsP 22 1 #[(0, .tmp 20)] ?_); refine wpList_bsV rfl (.tmp 20) rfl A2 m c2 (by first | rfl | (simp [Act.eval]; done)) ?_; intro g5 w5 hb5 hg5 hl5 hB5; have hK := hK.up hB5)
        | ((with_reducible refine at_mapE 65 (.tmp 17) (.tmp 18) ?_); refine wpList_kmE rfl (.tmp 17) (.tmp 18) rfl hK (ds x) (ds_len x) (by first | rfl | (simp [Act.eval]; done)) (by rw [HKY.out]; first | rfl | (simp [Act.eval]; done)) ?_; intro st A6 n6 c6 w6 hM hf6; have hb5 := hf6.blk hb5 (hK.1.ne_cells hb5))
        | ((with_reducible refine at_app 22 (.tmp 19) (.tmp 21) ?_); refine wpList_kmA rfl (.tmp 19) (.tmp 21) rfl x hM (by first | rfl | (simp [Act.eval]; done)) g5 A2 m c2 (by first | rfl | (simp [Act.eval]; done)) hb5 hrd h1 h2 hJl ?_; intro A7 c7 w7 hM7)
        | ((with_reducible refine at_mapS 65 (.tmp 17) (.tmp 24) (.tmp 23) ?_); refine wpList_kmS rfl (.tmp 17) (.tmp 24) (.tmp 23) rfl hM7 (by first | rfl | (simp [Act.eval]; done)) (by first | rfl | (simp [Act.eval]; done)) (by first | rfl | (simp [Act.eval]; done)) ?_; intro D9 w9 hK9))
      go_roundw
      case rel => exact ⟨t + 1, D9, by go_num, by omega, by rw [HNX.out]; exact hK9⟩
      case measure => simp [intOf]; omega
    · have hlt' : ¬ (t : Int) < (n : Int) := by omega
      rw [List.take_of_length_le (by omega)] at hK
      have HO := Lib.hid hK
      clear hK hbel
      go_wp2
      go_ret
      exact ⟨b, rfl, D, HO.out⟩
end Go.Proofs.YtpoinhjkdgcnaaaDoor
