/- Merged texts: ClbA. -/
import Derived.Test.YtpoinhjkdgcnaaaDoorMbb
/- Slices of byte slices that a call made: what they read, how they grow. -/
namespace Go.Proofs.YtpoinhjkdgcnaaaDoor
open Go.RowKit
set_option linter.unusedVariables false
set_option linter.unusedSimpArgs false

/-- A text that a call made, as a value. -/
def Txt (w : World) (v : Value) (l : List UInt8) : Prop := ∃ A n c, v = .slice A n c ∧ Own w 0 A n c l
set_option maxRecDepth 100000 in
theorem Txt.one {w : World} {v : Value} {l : List UInt8} (h : Txt w v l) : v.oneCell' = true := by
  obtain ⟨A, n, c, rfl, _⟩ := h
  rfl
set_option maxRecDepth 100000 in
theorem own_txt {w : World} {b n c : Nat} {A : Option Addr} {l : List UInt8} (h : Own w b A n c l) : Own w 0 A n c l := h.base fun _ _ => Nat.zero_le _
set_option maxRecDepth 100000 in
theorem Own.frmN {w W : World} {b n c : Nat} {A : Option Addr} {l : List UInt8} {P : Nat → Prop} (h : Own w b A n c l) (hf : Frm P w W) (hP : ∀ g, P g → ∀ cs d, w.heap[g]? ≠ some (.cells cs 5 d)) : Own W b A n c l := by
  refine h.frm hf fun g hg hPg => ?_
  rcases h.2.2 with ⟨hv, _⟩ | ⟨g', cap, cur, hv, _, hr, _⟩
  · injection hv with e1; rw [e1] at hg; simp [blkOf] at hg
  · injection hv with e1
    rw [e1] at hg
    have e2 : g' = g := by simpa [blkOf] using hg
    rw [e2] at hr
    exact hP g hPg _ _ hr
set_option maxRecDepth 100000 in
theorem Txt.frm {w W : World} {v : Value} {l : List UInt8} {P : Nat → Prop} (h : Txt w v l) (hf : Frm P w W) (hP : ∀ g, P g → ∀ cs d, w.heap[g]? ≠ some (.cells cs 5 d)) : Txt W v l := by
  obtain ⟨A, n, c, rfl, h⟩ := h
  exact ⟨A, n, c, rfl, h.frmN hf hP⟩
def Txts (w : World) (V : List Value) (L : List (List UInt8)) : Prop := V.length = L.length ∧ ∀ i v, V[i]? = some v → Txt w v (hat L i)
set_option maxRecDepth 100000 in
theorem Txts.frm {w W : World} {V : List Value} {L : List (List UInt8)} {P : Nat → Prop} (h : Txts w V L) (hf : Frm P w W) (hP : ∀ g, P g → ∀ cs d, w.heap[g]? ≠ some (.cells cs 5 d)) : Txts W V L :=
  ⟨h.1, fun i v hv => (h.2 i v hv).frm hf hP⟩
set_option maxRecDepth 100000 in
theorem Txts.one {w : World} {V : List Value} {L : List (List UInt8)} (h : Txts w V L) : ∀ u ∈ V, u.oneCell' = true := fun u hu => by
  obtain ⟨i, hi, rfl⟩ := List.getElem_of_mem hu
  exact (h.2 i _ (List.getElem?_eq_getElem hi)).one
set_option maxRecDepth 100000 in
theorem hat_left (L M : List (List UInt8)) (i : Nat) (h : i < L.length) : hat (L ++ M) i = hat L i := by
  unfold hat
  rw [List.getD_eq_getElem?_getD, List.getD_eq_getElem?_getD, List.getElem?_append_left h]
set_option maxRecDepth 100000 in
theorem hat_right (L M : List (List UInt8)) (i : Nat) (h : L.length ≤ i) : hat (L ++ M) i = hat M (i - L.length) := by
  unfold hat
  rw [List.getD_eq_getElem?_getD, List.getD_eq_getElem?_getD, List.getElem?_append_right h]
set_option maxRecDepth 100000 in
theorem Txts.app {w : World} {V E : List Value} {L M : List (List UInt8)} (h : Txts w V L) (k : Txts w E M) : Txts w (V ++ E) (L ++ M) := by
  refine ⟨by rw [List.length_append, List.length_append, h.1, k.1], fun i v hv => ?_⟩
  rcases Nat.lt_or_ge i V.length with hi | hi
  · rw [List.getElem?_append_left hi] at hv
    rw [hat_left L M i (by rw [← h.1]; exact hi)]
    exact h.2 i v hv
  · rw [List.getElem?_append_right hi] at hv
    rw [hat_right L M i (by rw [← h.1]; exact hi), ← h.1]
    exact k.2 _ v hv
/-- A slice of byte slices that the call made, each made by a call. -/
def OwnT (w : World) (base : Nat) (A : Option Addr) (n c : Nat) (L : List (List UInt8)) : Prop := L.length = n ∧ ∃ V, w.ownsRow base 23 1 (.slice A n c) n V ∧ Txts w V L
set_option maxRecDepth 100000 in
theorem OwnT.nil (w : World) (base : Nat) : OwnT w base none 0 0 [] := ⟨rfl, [], World.ownsRow_nil _ _ _ _, rfl, fun i v h => by simp at h⟩
set_option maxRecDepth 100000 in
theorem OwnT.len {w : World} {base n c : Nat} {A : Option Addr} {L : List (List UInt8)} (h : OwnT w base A n c L) : L.length = n := h.1
set_option maxRecDepth 100000 in
theorem OwnT.cap {w : World} {b n c : Nat} {A : Option Addr} {L : List (List UInt8)} (h : OwnT w b A n c L) : n ≤ c ∧ c ≤ maxLen := by
  obtain ⟨_, V, h, _⟩ := h
  rcases h.2 with ⟨h, h0⟩ | ⟨g, cap, cur, e1, _, _, h2, h3, _⟩
  · injection h with _ e0 e
    subst e
    exact ⟨by omega, by unfold maxLen; omega⟩
  · injection e1 with _ _ e
    subst e
    exact ⟨h2, h3⟩
set_option maxRecDepth 100000 in
/-- Its block is a row of byte slices. -/
theorem row_blk {w : World} {base n c : Nat} {t : TypeId} {k : Nat} {A : Option Addr} {V : List Value} (h : w.ownsRow base t k (.slice A n c) n V) : ∀ g, blkOf A = some g → base ≤ g ∧ g < w.heap.size ∧ ∃ cs d, w.heap[g]? = some (.cells cs t d) := fun g hg => by
  rcases h.2 with ⟨hv, _⟩ | ⟨g', cap, cur, hv, hb, hr, _⟩
  · injection hv with e1; rw [e1] at hg; simp [blkOf] at hg
  · injection hv with e1
    rw [e1] at hg
    have e2 : g' = g := by simpa [blkOf] using hg
    subst e2
    exact ⟨hb, (Array.getElem?_eq_some_iff.1 hr).1, cur, (0, 0), hr⟩
set_option maxRecDepth 100000 in
theorem row_frm {w W : World} {base n c : Nat} {t : TypeId} {k : Nat} {A : Option Addr} {V : List Value} {P : Nat → Prop} (h : w.ownsRow base t k (.slice A n c) n V) (hf : Frm P w W) (hS : ∀ g, blkOf A = some g → ¬ P g) : W.ownsRow base t k (.slice A n c) n V := by
  have hb := row_blk h
  obtain ⟨h1, h2⟩ := h
  refine ⟨h1, ?_⟩
  rcases h2 with h2 | ⟨g, cap, cur, e1, e2, e3, e4⟩
  · exact .inl h2
  · have hA : blkOf A = some g := by injection e1 with e5; rw [e5]; rfl
    exact .inr ⟨g, cap, cur, e1, e2, (hf.block g (hb g hA).2.1 (hS g hA)).trans e3, e4⟩
set_option maxRecDepth 100000 in
theorem cell_ty {w : World} {g : Nat} {cs cs' : Array Value} {t t' : TypeId} {d d' : Nat × Nat} (h : w.heap[g]? = some (.cells cs t d)) (hne : t ≠ t') : w.heap[g]? ≠ some (.cells cs' t' d') := fun e => by
  rw [h] at e
  injection e with e
  injection e with _ e
  exact hne e
set_option maxRecDepth 100000 in
theorem OwnT.frm {w W : World} {b n c : Nat} {A : Option Addr} {L : List (List UInt8)} {P : Nat → Prop} (h : OwnT w b A n c L) (hf : Frm P w W) (hP : ∀ g, P g → ∀ cs d, w.heap[g]? ≠ some (.cells cs 5 d)) (hS : ∀ g, P g → ∀ cs d, w.heap[g]? ≠ some (.cells cs 23 d)) : OwnT W b A n c L := by
  obtain ⟨h1, V, h2, h3⟩ := h
  refine ⟨h1, V, row_frm h2 hf fun g hg hPg => ?_, h3.frm hf hP⟩
  obtain ⟨_, _, cs, d, hr⟩ := row_blk h2 g hg
  exact hS g hPg _ _ hr
set_option maxRecDepth 100000 in
theorem OwnT.up {w W : World} {b n c : Nat} {A : Option Addr} {L : List (List UInt8)} (h : OwnT w b A n c L) (hb : Below w.heap.size w W) : OwnT W b A n c L := h.frm (P := fun _ => False) (Frm.of_below hb) (fun _ h => h.elim) (fun _ h => h.elim)
set_option maxRecDepth 100000 in
theorem Own.up {w W : World} {b n c : Nat} {A : Option Addr} {l : List UInt8} (h : Own w b A n c l) (hb : Below w.heap.size w W) : Own W b A n c l := h.frmN (P := fun _ => False) (Frm.of_below hb) (fun _ h => h.elim)
set_option maxRecDepth 100000 in
theorem OwnT.only {w W : World} {b n c g : Nat} {A : Option Addr} {L : List (List UInt8)} {cs : List Value} {t : TypeId} (h : OwnT w b A n c L) (hk : Blk w g cs t) (h1 : t ≠ 5) (h2 : t ≠ 23) (ho : Only g w W) : OwnT W b A n c L :=
  h.frm (Frm.only ho (S := fun i => i = g) rfl) (fun i hi cs d => by rw [hi]; exact cell_ty hk h1) (fun i hi cs d => by rw [hi]; exact cell_ty hk h2)
set_option maxRecDepth 100000 in
theorem Own.only {w W : World} {b n c g : Nat} {A : Option Addr} {l : List UInt8} {cs : List Value} {t : TypeId} (h : Own w b A n c l) (hk : Blk w g cs t) (h1 : t ≠ 5) (ho : Only g w W) : Own W b A n c l :=
  h.frmN (Frm.only ho (S := fun i => i = g) rfl) (fun i hi cs d => by rw [hi]; exact cell_ty hk h1)
set_option maxRecDepth 100000 in
theorem OwnT.appH {w W : World} {b b' n n' c c' : Nat} {e : TypeId} {A A' : Option Addr} {L L' : List (List UInt8)} (h : OwnT w b A n c L) (k : OwnH w b' e A' n' c' L') (h1 : e ≠ 5) (h2 : e ≠ 23) (hf : Frm (fun i => blkOf A' = some i) w W) : OwnT W b A n c L :=
  h.frm hf (fun i hi cs d => by obtain ⟨_, _, cs, d, hr⟩ := row_blk k.2.2 i hi; exact cell_ty hr h1) (fun i hi cs d => by obtain ⟨_, _, cs, d, hr⟩ := row_blk k.2.2 i hi; exact cell_ty hr h2)
set_option maxRecDepth 100000 in
/-- A row of byte slices grows: what else was made stands. -/
theorem OwnT.row {w : World} {b n c : Nat} {A : Option Addr} {L : List (List UInt8)} (h : OwnT w b A n c L) {i : Nat} (hi : blkOf A = some i) : b ≤ i ∧ ∃ cs d, w.heap[i]? = some (.cells cs 23 d) := by
  obtain ⟨_, V, h2, _⟩ := h
  obtain ⟨h1, _, h3⟩ := row_blk h2 i hi
  exact ⟨h1, h3⟩
set_option maxRecDepth 100000 in
theorem OwnH.appT {w W : World} {b b' n n' c c' : Nat} {e : TypeId} {A A' : Option Addr} {L L' : List (List UInt8)} (k : OwnH w b' e A' n' c' L') (h : OwnT w b A n c L) (h2 : 23 ≠ e) (hf : Frm (fun i => blkOf A = some i) w W) : OwnH W b' e A' n' c' L' :=
  k.frm hf fun g hg hP => by
    obtain ⟨_, cs, d, hr⟩ := h.row hP
    obtain ⟨_, _, cs', d', hr'⟩ := row_blk k.2.2 g hg
    exact cell_ty hr h2 hr'
set_option maxRecDepth 100000 in
theorem Own.appT {w W : World} {b b' n n' c c' : Nat} {A A' : Option Addr} {l : List UInt8} {L' : List (List UInt8)} (k : Own w b A n c l) (h : OwnT w b' A' n' c' L') (hf : Frm (fun i => blkOf A' = some i) w W) : Own W b A n c l :=
  k.frmN hf fun g hP cs d => by
    obtain ⟨_, cs, d, hr⟩ := h.row hP
    exact cell_ty hr (by decide)
set_option maxRecDepth 100000 in
theorem Blk.appT {w W : World} {b g n c : Nat} {t : TypeId} {cs : List Value} {A : Option Addr} {L : List (List UInt8)} (k : Blk w g cs t) (h : OwnT w b A n c L) (h2 : 23 ≠ t) (hf : Frm (fun i => blkOf A = some i) w W) : Blk W g cs t :=
  hf.blk k fun hP => by
    obtain ⟨_, cs, d, hr⟩ := h.row hP
    exact cell_ty hr h2 k
set_option maxRecDepth 100000 in
theorem rdM_of {w : World} {A : Option Addr} {n c base : Nat} {V : List Value} {L : List (List UInt8)} (h : w.ownsRow base 23 1 (.slice A n c) n V) (hl : V.length = L.length) (hln : L.length = n) (hv : ∀ i v, V[i]? = some v → ∃ A' m c', v = .slice A' m c' ∧ m ≤ c' ∧ c' ≤ maxLen ∧ Rd w A' m (hat L i)) : RdM w A n L := by
  refine ⟨hln, fun hn => ?_⟩
  rcases h.2 with ⟨_, h0⟩ | ⟨g, cap, cur, e1, _, hg, hnc, _, hcs, hct⟩
  · omega
  · injection e1 with e1
    refine ⟨g, 0, e1, (Array.getElem?_eq_some_iff.1 hg).1, fun i hi => ?_⟩
    have hiV : i < V.length := by omega
    obtain ⟨A', m, c', e2, h1, h2, h3⟩ := hv i V[i] (List.getElem?_eq_getElem hiV)
    refine ⟨A', m, c', ?_, h1, h2, ?_⟩
    · rw [Nat.zero_add, cell_of_row w g i cur 23 (0, 0) hg]
      have e3 : cur[i]? = V[i]? := by
        rw [← hct, List.getElem?_take, if_pos (by omega)]
        simp
      rw [e3, List.getElem?_eq_getElem hiV, e2]
    · have e4 : hat L i = L[i] := by unfold hat; rw [List.getD_eq_getElem?_getD, List.getElem?_eq_getElem hi]; rfl
      rw [← e4]
      exact h3
set_option maxRecDepth 100000 in
theorem OwnT.rd {w : World} {base n c : Nat} {A : Option Addr} {L : List (List UInt8)} (h : OwnT w base A n c L) : RdM w A n L := by
  obtain ⟨h1, V, h2, h3⟩ := h
  refine rdM_of h2 h3.1 h1 fun i v hv => ?_
  obtain ⟨A', m, c', e, ho⟩ := h3.2 i v hv
  exact ⟨A', m, c', e, (own_cap ho).1, (own_cap ho).2, ho.rd⟩
set_option maxRecDepth 100000 in
theorem RdM.toL {w : World} {A : Option Addr} {n : Nat} {L : List (List UInt8)} (h : RdM w A n L) : RdL w A n L :=
  ⟨h.1, fun hn => by
    obtain ⟨b, off, e, hb, hc⟩ := h.2 hn
    refine ⟨b, off, e, hb, fun j hj => ?_⟩
    obtain ⟨A', m, c', h1, h2, h3, h4⟩ := hc j hj
    exact ⟨A', m, c', h1, Nat.le_trans h2 h3, h4⟩⟩
set_option maxRecDepth 100000 in
theorem rdM_blk1 {w : World} {g : Nat} {A : Option Addr} {m c : Nat} {l : List UInt8} {t : TypeId} (h : Blk w g [.slice A m c] t) (hr : Rd w A m l) (h1 : m ≤ c) (h2 : c ≤ maxLen) : RdM w (some ⟨g, 0, none⟩) 1 [l] :=
  ⟨rfl, fun _ => ⟨g, 0, rfl, h.lt, fun j hj => by
    have e : j = 0 := by simp at hj; exact hj
    subst e
    exact ⟨A, m, c, h.cell 0, h1, h2, hr⟩⟩⟩
set_option maxRecDepth 100000 in
theorem rdM_blk2 {w : World} {g : Nat} {A B : Option Addr} {m c n d : Nat} {l k : List UInt8} {t : TypeId} (h : Blk w g [.slice A m c, .slice B n d] t) (hr : Rd w A m l) (h1 : m ≤ c) (h2 : c ≤ maxLen) (hs : Rd w B n k) (h3 : n ≤ d) (h4 : d ≤ maxLen) : RdM w (some ⟨g, 0, none⟩) 2 [l, k] :=
  ⟨rfl, fun _ => ⟨g, 0, rfl, h.lt, fun j hj => by
    rcases j with _ | _ | j
    · exact ⟨A, m, c, h.cell 0, h1, h2, hr⟩
    · exact ⟨B, n, d, h.cell 1, h3, h4, hs⟩
    · exact absurd hj (by simp)⟩⟩
/-- What append is given: so many byte slices, each made by a call. -/
def SrcT (w : World) (X : Option Addr) (m : Nat) (M : List (List UInt8)) : Prop := M.length = m ∧ ∃ E : List Value, E.length = m ∧ (0 < m → ∃ ad, X = some ad ∧ ∀ j u, E[j]? = some u → w.cell? (ad.add j) = some u) ∧ Txts w E M
set_option maxRecDepth 100000 in
theorem srcT_one {w : World} {g b : Nat} {A : Option Addr} {n c : Nat} {l : List UInt8} {t : TypeId} (h : Blk w g [.slice A n c] t) (k : Own w b A n c l) : SrcT w (some ⟨g, 0, none⟩) 1 [l] :=
  ⟨rfl, [.slice A n c], rfl, fun _ => ⟨_, rfl, fun j u hu => by rw [Addr.add_mid, Nat.zero_add, h.cell, hu]⟩, rfl, fun i v hv => by
    have e : i = 0 := by have := (List.getElem?_eq_some_iff.1 hv).1; simp at this; exact this
    subst e
    simp at hv
    exact ⟨A, n, c, hv.symm, own_txt k⟩⟩
set_option maxRecDepth 100000 in
theorem OwnT.src {w : World} {base n c : Nat} {A : Option Addr} {L : List (List UInt8)} (h : OwnT w base A n c L) : SrcT w A n L := by
  obtain ⟨h1, V, h2, h3⟩ := h
  refine ⟨h1, V, by rw [h3.1, h1], fun hn => ?_, h3⟩
  rcases h2.2 with ⟨_, h0⟩ | ⟨g, cap, cur, e1, _, hg, hnc, _, hcs, hct⟩
  · omega
  · injection e1 with e1
    refine ⟨⟨g, 0, none⟩, e1, fun j u hu => ?_⟩
    have hj : j < n := by have := (List.getElem?_eq_some_iff.1 hu).1; rw [h3.1, h1] at this; exact this
    rw [Addr.add_mid, Nat.zero_add, cell_of_row w g j cur 23 (0, 0) hg, ← hu, ← hct, List.getElem?_take, if_pos (by omega)]
    simp
set_option maxRecDepth 100000 in
theorem run_bsW (A B : Option Addr) (m c n d : Nat) (W : World) : (Instr.buildSlice 22 2 #[(0, .slice A m c), (1, .slice B n d)]).run Tryd.prog W = .ok (.slice (some ⟨W.heap.size, 0, none⟩) 2 2) (W.alloc (.cells #[.slice A m c, .slice B n d] 23)) := by
  obtain ⟨i, hi, hzz⟩ := Option.map_eq_some_iff.1 infoB
  simp only [Prod.mk.injEq] at hzz
  obtain ⟨hz, hsz, _⟩ := hzz
  refine run_buildSlice W 22 23 2 _ #[.slice A m c, .slice B n d] i (.slice none 0 0) Tryd.underlying22 hi hz (by rw [hsz]; decide) (by rw [hsz]; decide) ?_
  rw [hsz]
  have hz0 : (Array.range (2 * 1)).map ((Value.slice none 0 0).cells[· % (Value.slice none 0 0).cells.size]!) = [Value.slice none 0 0, Value.slice none 0 0].toArray := by kernel_rfl
  rw [hz0]
  show Instr.fill (fun i => some (i * 1, 1)) [Value.slice none 0 0, Value.slice none 0 0].toArray [(0, .slice A m c), (1, .slice B n d)] = some #[.slice A m c, .slice B n d]
  rw [fill_step _ _ [.slice A m c] 0 0 _ _ (by rfl) rfl (by simp), over_one _ _ _ (by simp), List.set_cons_zero, fill_step _ _ [.slice B n d] 1 1 _ _ (by rfl) rfl (by simp), over_one _ _ _ (by simp), List.set_cons_succ, List.set_cons_zero]
  rfl
section
variable {ops : Array Oper} {rest : List Oper} {o : Oper} {a : Act} {W : World} {Q : Exit → Act → World → Prop} {K : Act → World → Prop}
set_option maxRecDepth 100000 in
theorem wp_bsV (x : Operand) (ho : o.op = .buildSlice 22 1 #[(0, x)]) (A : Option Addr) (m c : Nat) (hx : a.eval x = .slice A m c)
    (h : ∀ g w', Blk w' g [.slice A m c] 23 → W.heap.size ≤ g → g < w'.heap.size → Below W.heap.size W w' → K (a.put o.dst (.slice (some ⟨g, 0, none⟩) 1 1)) w') : o.wp Tryd.prog a W K Q := by
  unfold Oper.wp execOp
  simp only [ho, List.map_toArray, List.map_cons, List.map_nil, hx, Sem.run_bind, run_bsM, Result.andThen_ok]
  exact h W.heap.size _ (Blk.new W _ _) (Nat.le_refl _) (by simp) ((Below.refl _ W).alloc (Nat.le_refl _) _)
set_option maxRecDepth 100000 in
theorem wpList_bsV (hgd : o.guard = none) (x : Operand) (ho : o.op = .buildSlice 22 1 #[(0, x)]) (A : Option Addr) (m c : Nat) (hx : a.eval x = .slice A m c)
    (h : ∀ g w', Blk w' g [.slice A m c] 23 → W.heap.size ≤ g → g < w'.heap.size → Below W.heap.size W w' → wpList Tryd.prog ops Q rest (a.put o.dst (.slice (some ⟨g, 0, none⟩) 1 1)) w') : wpList Tryd.prog ops Q (o :: rest) a W :=
  wpList_plain hgd fun _ hK => wp_bsV x ho A m c hx (fun g w' k1 k2 k3 k4 => hK _ _ (h g w' k1 k2 k3 k4))
set_option maxRecDepth 100000 in
theorem wp_bsV2 (x y : Operand) (ho : o.op = .buildSlice 22 2 #[(0, x), (1, y)]) (A B : Option Addr) (m c n d : Nat) (hx : a.eval x = .slice A m c) (hy : a.eval y = .slice B n d)
    (h : ∀ g w', Blk w' g [.slice A m c, .slice B n d] 23 → W.heap.size ≤ g → g < w'.heap.size → Below W.heap.size W w' → K (a.put o.dst (.slice (some ⟨g, 0, none⟩) 2 2)) w') : o.wp Tryd.prog a W K Q := by
  unfold Oper.wp execOp
  simp only [ho, List.map_toArray, List.map_cons, List.map_nil, hx, hy, Sem.run_bind, run_bsW, Result.andThen_ok]
  exact h W.heap.size _ (Blk.new W _ _) (Nat.le_refl _) (by simp) ((Below.refl _ W).alloc (Nat.le_refl _) _)
set_option maxRecDepth 100000 in
/-- append of byte slices that calls made. -/
theorem wp_appT (s x : Operand) (ho : o.op = .call { callee := .builtin .append, args := #[s, x], argTypes := #[22, 22] })
    (base : Nat) (w : World) (hb : Below base w W) (hbase : base ≤ w.heap.size) (A : Option Addr) (n c : Nat) (L : List (List UInt8)) (hs : a.eval s = .slice A n c) (hown : OwnT W base A n c L) (X : Option Addr) (m cX : Nat) (M : List (List UInt8)) (hx : a.eval x = .slice X m cX) (hsrc : SrcT W X m M)
    (hn : n + m ≤ 1000000) (h : ∀ A' c' w', OwnT w' base A' (n + m) c' (L ++ M) → Frm (fun i => blkOf A = some i) W w' → Below base w w' → K (a.put o.dst (.slice A' (n + m) c')) w') : o.wp Tryd.prog a W K Q := by
  have hbW : base ≤ W.heap.size := Nat.le_trans hbase hb.size
  have hrow := fun i hi => (hown.row (i := i) hi).2
  obtain ⟨h1, V, h2, h3⟩ := hown
  obtain ⟨k1, E, k2, k3, k4⟩ := hsrc
  refine wpo_appG W s x 22 ho 23 (.slice none 0 0) 24 Tryd.underlying22 infoB rfl base _ n _ hs h2 X m cX E hx k2 k3 k4.one (by unfold maxLen; omega) (by omega) hbW (fun A' c' w' g1 g2 g3 g4 => ?_)
  have hf := frm_grownH g4
  refine h A' c' w' ⟨by rw [List.length_append, h1, k1], V ++ E, g1, (h3.app k4).frm hf fun i hi cs d => ?_⟩ hf (hb.trans g2)
  obtain ⟨cs', d', hr⟩ := hrow i hi
  exact cell_ty hr (by decide)
set_option maxRecDepth 100000 in
theorem wpList_appT (hgd : o.guard = none) (s x : Operand) (ho : o.op = .call { callee := .builtin .append, args := #[s, x], argTypes := #[22, 22] })
    (base : Nat) (w : World) (hb : Below base w W) (hbase : base ≤ w.heap.size) (A : Option Addr) (n c : Nat) (L : List (List UInt8)) (hs : a.eval s = .slice A n c) (hown : OwnT W base A n c L) (X : Option Addr) (m cX : Nat) (M : List (List UInt8)) (hx : a.eval x = .slice X m cX) (hsrc : SrcT W X m M)
    (hn : n + m ≤ 1000000) (h : ∀ A' c' w', OwnT w' base A' (n + m) c' (L ++ M) → Frm (fun i => blkOf A = some i) W w' → Below base w w' → wpList Tryd.prog ops Q rest (a.put o.dst (.slice A' (n + m) c')) w') : wpList Tryd.prog ops Q (o :: rest) a W :=
  wpList_plain hgd fun _ hK => wp_appT s x ho base w hb hbase A n c L hs hown X m cX M hx hsrc hn (fun A' c' w' g1 g2 g3 => hK _ _ (h A' c' w' g1 g2 g3))
end
set_option maxRecDepth 100000 in
theorem join_one (W : World) (g : Nat) (A : Option Addr) (m c : Nat) (l : List UInt8) (hb : Blk W g [.slice A m c] 23) (hr : Rd W A m l) (h1 : m ≤ c) (h2 : c ≤ maxLen) (h3 : l.length ≤ 100000) :
    Calls Tryd.prog 25 #[.slice (some ⟨g, 0, none⟩) 1 1] W (Mk W l) := by
  have := join_calls (some ⟨g, 0, none⟩) 1 1 [l] W (by omega) (by rw [one_flat]; omega) (rdM_blk1 hb hr h1 h2).toL
  rw [one_flat] at this
  exact this
set_option maxRecDepth 100000 in
theorem join_two (W : World) (g : Nat) (A B : Option Addr) (m c n d : Nat) (l k : List UInt8) (hb : Blk W g [.slice A m c, .slice B n d] 23) (hr : Rd W A m l) (h1 : m ≤ c) (h2 : c ≤ maxLen) (hs : Rd W B n k) (h3 : n ≤ d) (h4 : d ≤ maxLen) (h5 : l.length + k.length ≤ 100000) :
    Calls Tryd.prog 25 #[.slice (some ⟨g, 0, none⟩) 2 2] W (Mk W (l ++ k)) := by
  have e : ([l, k] : List (List UInt8)).flatten = l ++ k := by simp
  have := join_calls (some ⟨g, 0, none⟩) 2 2 [l, k] W (by omega) (by rw [e, List.length_append]; omega) (rdM_blk2 hb hr h1 h2 hs h3 h4).toL
  rw [e] at this
  exact this
set_option maxRecDepth 100000 in
theorem twice_blk (W : World) (g : Nat) (A : Option Addr) (m c : Nat) (l : List UInt8) (hb : Blk W g [.slice A m c] 23) (hr : Rd W A m l) (h1 : m ≤ c) (h2 : c ≤ maxLen) (h3 : l.length ≤ 100000) (hT : Tab W) :
    Calls Tryd.prog 19 #[.slice (some ⟨g, 0, none⟩) 1 1] W (Ret W (.agg ((ds l).map B8).toArray)) := by
  have := twice_calls W (some ⟨g, 0, none⟩) 1 1 [l] (rdM_blk1 hb hr h1 h2) hT (by omega) (by rw [one_flat]; omega)
  rw [one_flat] at this
  exact this
end Go.Proofs.YtpoinhjkdgcnaaaDoor
