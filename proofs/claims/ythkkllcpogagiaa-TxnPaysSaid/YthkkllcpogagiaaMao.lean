/- Merged texts: RowG TxnM. -/
import Derived.Test.YthkkllcpogagiaaMan
import Derived.Test.YthkkllcpogagiaaMai
/- Rows of structs of so many cells each: what they read, how they grow. -/
namespace Go.Proofs.Ythkkllcpogagiaa
open Go.RowKit
set_option linter.unusedVariables false
set_option linter.unusedSimpArgs false

set_option maxRecDepth 100000 in
theorem flatG_len {k : Nat} : ∀ (V : List (List Value)), (∀ x ∈ V, x.length = k) → V.flatten.length = V.length * k
  | [], _ => by simp
  | x :: V, h => by
    rw [List.flatten_cons, List.length_append, h x (by simp), flatG_len V (fun y hy => h y (by simp [hy])), List.length_cons, Nat.add_mul, Nat.one_mul, Nat.add_comm]
set_option maxRecDepth 100000 in
theorem flatG_at {k : Nat} : ∀ (V : List (List Value)) (i j : Nat), (∀ x ∈ V, x.length = k) → (h : i < V.length) → j < k → V.flatten[i * k + j]? = V[i][j]?
  | [], i, j, _, h, _ => by simp at h
  | x :: V, 0, j, hl, _, hj => by
    rw [List.flatten_cons, Nat.zero_mul, Nat.zero_add, List.getElem?_append_left (by rw [hl x (by simp)]; exact hj)]
    rfl
  | x :: V, i + 1, j, hl, h, hj => by
    have hk := hl x (by simp)
    rw [List.flatten_cons, List.getElem?_append_right (by rw [hk, Nat.add_mul]; omega), hk, show (i + 1) * k + j - k = i * k + j from by rw [Nat.add_mul]; omega, flatG_at V i j (fun y hy => hl y (by simp [hy])) (by simpa using h) hj]
    rfl
/-- The slice of n structs of k cells that begins at A reads V. -/
def RdG (w : World) (k : Nat) (A : Option Addr) (n : Nat) (V : List (List Value)) : Prop :=
  V.length = n ∧ (∀ x ∈ V, x.length = k) ∧ (0 < n → ∃ b off, A = some ⟨b, off, none⟩ ∧ b < w.heap.size ∧ ∀ i (h : i < V.length), w.rangeAt b (off + i * k) V[i])
set_option maxRecDepth 100000 in
theorem RdG.nil (w : World) (k : Nat) (A : Option Addr) : RdG w k A 0 [] := ⟨rfl, fun _ h => by simp at h, fun h => absurd h (by omega)⟩
set_option maxRecDepth 100000 in
theorem RdG.len {w : World} {k n : Nat} {A : Option Addr} {V : List (List Value)} (h : RdG w k A n V) : V.length = n := h.1
set_option maxRecDepth 100000 in
theorem RdG.below {w W : World} {k n : Nat} {A : Option Addr} {V : List (List Value)} (h : RdG w k A n V) (hb : Below w.heap.size w W) : RdG W k A n V :=
  ⟨h.1, h.2.1, fun hn => by
    obtain ⟨b, off, e, hlt, hc⟩ := h.2.2 hn
    exact ⟨b, off, e, Nat.lt_of_lt_of_le hlt hb.size, fun i hi j v hv => (hb.cell (p := ⟨b, off + i * k + j, none⟩) hlt).trans (hc i hi j v hv)⟩⟩
set_option maxRecDepth 100000 in
theorem RdG.at_ {w : World} {k n : Nat} {A : Option Addr} {V : List (List Value)} (h : RdG w k A n V) {i : Nat} (hi : i < n) : ∃ b off, ∃ hl : i < V.length, A = some ⟨b, off, none⟩ ∧ b < w.heap.size ∧ w.rangeAt b (off + i * k) V[i] := by
  obtain ⟨b, off, e, hlt, hc⟩ := h.2.2 (by omega)
  have hl : i < V.length := by rw [h.1]; exact hi
  exact ⟨b, off, hl, e, hlt, hc i hl⟩
/-- A row of structs that the call made. -/
def OwnG (w : World) (base : Nat) (e : TypeId) (k : Nat) (A : Option Addr) (n c : Nat) (V : List (List Value)) : Prop :=
  V.length = n ∧ (∀ x ∈ V, x.length = k) ∧ w.ownsRow base e k (.slice A n c) n V.flatten
set_option maxRecDepth 100000 in
theorem OwnG.nil (w : World) (base : Nat) (e : TypeId) (k : Nat) : OwnG w base e k none 0 0 [] := ⟨rfl, fun _ h => by simp at h, World.ownsRow_nil _ _ _ _⟩
set_option maxRecDepth 100000 in
theorem OwnG.len {w : World} {base k n c : Nat} {e : TypeId} {A : Option Addr} {V : List (List Value)} (h : OwnG w base e k A n c V) : V.length = n := h.1
set_option maxRecDepth 100000 in
theorem OwnG.rd {w : World} {base k n c : Nat} {e : TypeId} {A : Option Addr} {V : List (List Value)} (h : OwnG w base e k A n c V) : RdG w k A n V := by
  obtain ⟨h1, h2, h3⟩ := h
  refine ⟨h1, h2, fun hn => ?_⟩
  rcases h3.2 with ⟨_, h0⟩ | ⟨g, cap, cur, hv, _, hg, hnc, _, hcs, hct⟩
  · omega
  · injection hv with e1
    refine ⟨g, 0, e1, (Array.getElem?_eq_some_iff.1 hg).1, fun i hi j v hv' => ?_⟩
    have hk := h2 _ (List.getElem_mem hi)
    have hj : j < k := by have := (List.getElem?_eq_some_iff.1 hv').1; rw [hk] at this; exact this
    rw [Nat.zero_add, cell_of_row w g _ cur e (0, 0) hg]
    have hij : i * k + j < n * k := by
      have : (i + 1) * k ≤ n * k := Nat.mul_le_mul_right _ (by omega)
      rw [Nat.add_mul] at this
      omega
    have e2 : cur[i * k + j]? = V.flatten[i * k + j]? := by
      rw [← hct, List.getElem?_take, if_pos hij]
      simp
    rw [e2, flatG_at V i j h2 hi hj]
    exact hv'
set_option maxRecDepth 100000 in
theorem OwnG.up {w W : World} {b k n c : Nat} {e : TypeId} {A : Option Addr} {V : List (List Value)} (h : OwnG w b e k A n c V) (hb : Below w.heap.size w W) : OwnG W b e k A n c V := by
  obtain ⟨h1, h2, h3, h4⟩ := h
  refine ⟨h1, h2, h3, ?_⟩
  rcases h4 with h | ⟨g, cap, cur, e1, e2, e3, e4⟩
  · exact .inl h
  · exact .inr ⟨g, cap, cur, e1, e2, (hb.block g (Array.getElem?_eq_some_iff.1 e3).1).trans e3, e4⟩
set_option maxRecDepth 100000 in
theorem OwnG.blk {w : World} {b k n c : Nat} {e : TypeId} {A : Option Addr} {V : List (List Value)} (h : OwnG w b e k A n c V) : ∀ g, blkOf A = some g → b ≤ g ∧ g < w.heap.size ∧ ∃ cs d, w.heap[g]? = some (.cells cs e d) := fun g hg => by
  rcases h.2.2.2 with ⟨hv, _⟩ | ⟨g', cap, cur, hv, hb, hr, _⟩
  · injection hv with e1; rw [e1] at hg; simp [blkOf] at hg
  · injection hv with e1
    rw [e1] at hg
    have e2 : g' = g := by simpa [blkOf] using hg
    subst e2
    exact ⟨hb, (Array.getElem?_eq_some_iff.1 hr).1, cur, (0, 0), hr⟩
set_option maxRecDepth 100000 in
theorem OwnG.frm {w W : World} {b k n c : Nat} {e : TypeId} {A : Option Addr} {V : List (List Value)} {P : Nat → Prop} (h : OwnG w b e k A n c V) (hf : Frm P w W) (hS : ∀ g, blkOf A = some g → ¬ P g) : OwnG W b e k A n c V := by
  have hb := h.blk
  obtain ⟨h1, h2, h3, h4⟩ := h
  refine ⟨h1, h2, h3, ?_⟩
  rcases h4 with h | ⟨g, cap, cur, e1, e2, e3, e4⟩
  · exact .inl h
  · have hA : blkOf A = some g := by injection e1 with e5; rw [e5]; rfl
    exact .inr ⟨g, cap, cur, e1, e2, (hf.block g (hb g hA).2.1 (hS g hA)).trans e3, e4⟩
set_option maxRecDepth 100000 in
theorem OwnG.cap {w : World} {b k n c : Nat} {e : TypeId} {A : Option Addr} {V : List (List Value)} (h : OwnG w b e k A n c V) : n ≤ c ∧ c ≤ maxLen := by
  rcases h.2.2.2 with ⟨h, h0⟩ | ⟨g, cap, cur, e1, _, _, h2, h3, _⟩
  · injection h with _ e0 e
    subst e
    exact ⟨by omega, by unfold maxLen; omega⟩
  · injection e1 with _ _ e
    subst e
    exact ⟨h2, h3⟩
set_option maxRecDepth 100000 in
theorem OwnG.low {w : World} {b b' k n c : Nat} {e : TypeId} {A : Option Addr} {V : List (List Value)} (h : OwnG w b e k A n c V) (hb : b' ≤ b) : OwnG w b' e k A n c V := by
  obtain ⟨h1, h2, h3, h4⟩ := h
  refine ⟨h1, h2, h3, ?_⟩
  rcases h4 with h | ⟨g, cap, cur, e1, e2, e3⟩
  · exact .inl h
  · exact .inr ⟨g, cap, cur, e1, Nat.le_trans hb e2, e3⟩
section
variable {ops : Array Oper} {rest : List Oper} {o : Oper} {a : Act} {W : World} {Q : Exit → Act → World → Prop} {K : Act → World → Prop}
set_option maxRecDepth 100000 in
theorem run_bsG (t e : TypeId) (k bytes : Nat) (z : Value) (V : List Value) (hV : V.length = k) (ht : Try.prog.underlying t = some (.slice e)) (hinfo : (Try.prog.info? e).map (fun i => (i.zero, i.size, i.bytes)) = some (some z, k, bytes)) (hk : 0 < k) (hk2 : k ≤ 100) (Z : List Value) (hz0 : (Array.range (1 * k)).map (z.cells[· % z.cells.size]!) = Z.toArray) (hZ : Z.length = k) (W : World) :
    (Instr.buildSlice t 1 #[(0, .agg V.toArray)]).run Try.prog W = .ok (.slice (some ⟨W.heap.size, 0, none⟩) 1 1) (W.alloc (.cells V.toArray e)) := by
  obtain ⟨i, hi, hzz⟩ := Option.map_eq_some_iff.1 hinfo
  simp only [Prod.mk.injEq] at hzz
  obtain ⟨hz, hsz, _⟩ := hzz
  refine run_buildSlice W t e 1 _ V.toArray i z ht hi hz (by rw [hsz]; first | omega | (unfold maxLen; omega)) (by rw [hsz]; first | omega | (unfold maxLen; omega)) ?_
  rw [hsz, hz0]
  show Instr.fill (fun i => some (i * k, k)) Z.toArray [(0, .agg V.toArray)] = some V.toArray
  rw [fill_step _ Z V 0 0 _ _ (by rw [hV]; simp) rfl (by rw [hV, hZ]; omega), over_all Z V (by rw [hV, hZ])]
  rfl
set_option maxRecDepth 100000 in
theorem wpList_bsG (hgd : o.guard = none) (t e : TypeId) (k bytes : Nat) (z : Value) (V : List Value) (hV : V.length = k) (ht : Try.prog.underlying t = some (.slice e)) (hinfo : (Try.prog.info? e).map (fun i => (i.zero, i.size, i.bytes)) = some (some z, k, bytes)) (hk : 0 < k) (hk2 : k ≤ 100) (Z : List Value) (hz0 : (Array.range (1 * k)).map (z.cells[· % z.cells.size]!) = Z.toArray) (hZ : Z.length = k) (x : Operand) (ho : o.op = .buildSlice t 1 #[(0, x)]) (hx : a.eval x = .agg V.toArray)
    (h : ∀ g w', Blk w' g V e → W.heap.size ≤ g → g < w'.heap.size → Below W.heap.size W w' → wpList Try.prog ops Q rest (a.put o.dst (.slice (some ⟨g, 0, none⟩) 1 1)) w') : wpList Try.prog ops Q (o :: rest) a W := by
  refine wpList_plain hgd fun _ hK => ?_
  unfold Oper.wp execOp
  simp only [ho, List.map_toArray, List.map_cons, List.map_nil, hx, Sem.run_bind, run_bsG t e k bytes z V hV ht hinfo hk hk2 Z hz0 hZ, Result.andThen_ok]
  exact hK _ _ (h W.heap.size _ (Blk.new W _ _) (Nat.le_refl _) (by simp) ((Below.refl _ W).alloc (Nat.le_refl _) _))
set_option maxRecDepth 100000 in
theorem Blk.rdG {g : Nat} {V : List Value} {t : TypeId} {k : Nat} (h : Blk W g V t) (hV : V.length = k) : RdG W k (some ⟨g, 0, none⟩) 1 [V] :=
  ⟨rfl, fun x hx => by rw [List.mem_singleton.1 hx]; exact hV, fun _ => ⟨g, 0, rfl, h.lt, fun i hi j u hu => by
    have e : i = 0 := by simp at hi; exact hi
    subst e
    show W.cell? ⟨g, 0 + 0 * k + j, none⟩ = some u
    rw [Nat.zero_mul, Nat.add_zero, Nat.zero_add, h.cell]
    exact hu⟩⟩
set_option maxRecDepth 100000 in
/-- append of structs that are read. -/
theorem wp_appG (t e : TypeId) (k bytes : Nat) (z : Value) (ht : Try.prog.underlying t = some (.slice e)) (hinfo : (Try.prog.info? e).map (fun i => (i.zero, i.size, i.bytes)) = some (some z, k, bytes)) (hz1 : z.cells.size = k) (hk : 0 < k) (hk2 : k ≤ 100) (hby : bytes ≤ 10000) (s x : Operand) (ho : o.op = .call { callee := .builtin .append, args := #[s, x], argTypes := #[t, t] })
    (base : Nat) (w : World) (hb : Below base w W) (hbase : base ≤ w.heap.size) (A : Option Addr) (n c : Nat) (V : List (List Value)) (hs : a.eval s = .slice A n c) (hown : OwnG W base e k A n c V) (X : Addr) (hXs : X.spot = none) (m cX : Nat) (hm : 0 < m) (E : List (List Value)) (hx : a.eval x = .slice (some X) m cX) (hsrc : RdG W k (some X) m E) (hone : ∀ y ∈ E, ∀ u ∈ y, u.oneCell' = true)
    (hn : n + m ≤ 1000000) (h : ∀ A' c' w', OwnG w' base e k A' (n + m) c' (V ++ E) → Frm (fun i => blkOf A = some i) W w' → Below base w w' → K (a.put o.dst (.slice A' (n + m) c')) w') : o.wp Try.prog a W K Q := by
  have hbW : base ≤ W.heap.size := Nat.le_trans hbase hb.size
  obtain ⟨i, hi, hzz⟩ := Option.map_eq_some_iff.1 hinfo
  simp only [Prod.mk.injEq] at hzz
  obtain ⟨hz, hsz, hbyt⟩ := hzz
  obtain ⟨h1, h2, h3⟩ := hown
  obtain ⟨k1, k2, k3⟩ := hsrc
  obtain ⟨b, off, e1, hblt, hc⟩ := k3 hm
  injection e1 with e1
  have hcells : ∀ j u, E.flatten[j]? = some u → W.cell? (X.add j) = some u := fun j u hu => by
    have hjl : j < E.length * k := by have := (List.getElem?_eq_some_iff.1 hu).1; rwa [flatG_len E k2] at this
    have hdm := Nat.div_add_mod j k
    have hq : j / k < E.length := (Nat.div_lt_iff_lt_mul hk).2 hjl
    have hr : j % k < k := Nat.mod_lt _ hk
    have ej : j = j / k * k + j % k := by rw [Nat.mul_comm]; exact hdm.symm
    rw [ej, flatG_at E (j / k) (j % k) k2 hq hr] at hu
    have := hc (j / k) hq (j % k) u hu
    rw [e1, Addr.add_mid]
    rw [← this]
    congr 2
    omega
  obtain ⟨v', w', hrun, h4, h5, _, _⟩ := run_append_own_at (P := Try.prog) W base t o.type e i z k bytes ht hi hz hsz hbyt hz1 hk _ n _ h3 X m cX E.flatten (by rw [flatG_len E k2, k1]) hcells (fun u hu => by
    obtain ⟨y, hy, hu⟩ := List.mem_flatten.1 hu
    exact hone y hy u hu) (by
    have : (n + m) * k ≤ 1000000 * 100 := Nat.mul_le_mul hn hk2
    unfold maxLen; omega) (by
    have : (n + m) * bytes ≤ 1000000 * 10000 := Nat.mul_le_mul hn hby
    omega) hbW
  obtain ⟨A', c', rfl⟩ : ∃ A' c', v' = .slice A' (n + m) c' := by
    rcases h4.2 with ⟨_, h0⟩ | ⟨g', cap, cur, rfl, _⟩
    · omega
    · exact ⟨_, _, rfl⟩
  have hblk : ∀ q, Value.ownBlock (.slice A n c) = some q → base ≤ q := fun q hq => by
    rcases h3.2 with ⟨hv, _⟩ | ⟨g', cap, cur, hv, hb', _⟩
    · injection hv with e1; rw [e1] at hq; simp [Value.ownBlock] at hq
    · injection hv with e1
      rw [e1] at hq
      have : g' = q := by simpa [Value.ownBlock] using hq
      omega
  unfold Oper.wp execOp
  simp only [ho, resolve, invoke, builtin, Sem.run_bind, Sem.run_pure, Result.andThen_ok, List.map_toArray, List.map_cons, List.map_nil, hs, hx, hrun]
  refine h A' c' w' ⟨by rw [List.length_append, h1, k1], fun y hy => ?_, by rw [List.flatten_append]; exact h4⟩ (frm_grownR h5) (hb.trans ((Below.refl _ _).grown h5 hbW hblk))
  rcases List.mem_append.1 hy with hy | hy
  · exact h2 y hy
  · exact k2 y hy
set_option maxRecDepth 100000 in
theorem wpList_appG (hgd : o.guard = none) (t e : TypeId) (k bytes : Nat) (z : Value) (ht : Try.prog.underlying t = some (.slice e)) (hinfo : (Try.prog.info? e).map (fun i => (i.zero, i.size, i.bytes)) = some (some z, k, bytes)) (hz1 : z.cells.size = k) (hk : 0 < k) (hk2 : k ≤ 100) (hby : bytes ≤ 10000) (s x : Operand) (ho : o.op = .call { callee := .builtin .append, args := #[s, x], argTypes := #[t, t] })
    (base : Nat) (w : World) (hb : Below base w W) (hbase : base ≤ w.heap.size) (A : Option Addr) (n c : Nat) (V : List (List Value)) (hs : a.eval s = .slice A n c) (hown : OwnG W base e k A n c V) (X : Addr) (hXs : X.spot = none) (m cX : Nat) (hm : 0 < m) (E : List (List Value)) (hx : a.eval x = .slice (some X) m cX) (hsrc : RdG W k (some X) m E) (hone : ∀ y ∈ E, ∀ u ∈ y, u.oneCell' = true)
    (hn : n + m ≤ 1000000) (h : ∀ A' c' w', OwnG w' base e k A' (n + m) c' (V ++ E) → Frm (fun i => blkOf A = some i) W w' → Below base w w' → wpList Try.prog ops Q rest (a.put o.dst (.slice A' (n + m) c')) w') : wpList Try.prog ops Q (o :: rest) a W :=
  wpList_plain hgd fun _ hK => wp_appG t e k bytes z ht hinfo hz1 hk hk2 hby s x ho base w hb hbase A n c V hs hown X hXs m cX hm E hx hsrc hone hn (fun A' c' w' g1 g2 g3 => hK _ _ (h A' c' w' g1 g2 g3))
end
end Go.Proofs.Ythkkllcpogagiaa

/- Plain mathematics of layer 14: a transaction's bytes, and back; what it pays. -/
namespace Go.Proofs.Ythkkllcpogagiaa
set_option linter.unusedVariables false
set_option linter.unusedSimpArgs false

/-- An output's bytes. -/
def oenc (o : Nat × List UInt8) : List UInt8 := little o.1 8 ++ (cnt o.2.length ++ o.2)
/-- The bytes of outputs. -/
def osenc (O : List (Nat × List UInt8)) : List UInt8 := (O.map oenc).flatten
set_option maxRecDepth 100000 in
theorem osenc_nil : osenc [] = [] := rfl
set_option maxRecDepth 100000 in
theorem osenc_cons (o : Nat × List UInt8) (O : List (Nat × List UInt8)) : osenc (o :: O) = oenc o ++ osenc O := rfl
set_option maxRecDepth 100000 in
theorem osenc_snoc (O : List (Nat × List UInt8)) (o : Nat × List UInt8) : osenc (O ++ [o]) = osenc O ++ oenc o := by simp [osenc]
/-- A transaction's bytes. -/
def tenc (s : Nat) (O : List (Nat × List UInt8)) : List UInt8 := ([1] ++ (little s 8 ++ cnt O.length)) ++ osenc O
/-- Is an item too long? -/
def long (O : List (Nat × List UInt8)) : Bool := O.any fun o => decide (64 < o.2.length)
def tbE (s : Nat) (O : List (Nat × List UInt8)) : Nat := if 8 < O.length then 4 else if long O = true then 4 else if (tenc s O).length = 64 then 3 else 0
def tbB (s : Nat) (O : List (Nat × List UInt8)) : List UInt8 := if tbE s O = 0 then tenc s O else []
set_option maxRecDepth 100000 in
theorem long_no {O : List (Nat × List UInt8)} (h : long O = false) : ∀ o ∈ O, o.2.length ≤ 64 := fun o ho => by
  unfold long at h
  rw [List.any_eq_false] at h
  have := h o ho
  simp at this
  exact this
set_option maxRecDepth 100000 in
theorem long_of {O : List (Nat × List UInt8)} (h : ∀ o ∈ O, o.2.length ≤ 64) : long O = false := by
  unfold long
  rw [List.any_eq_false]
  intro o ho
  have := h o ho
  simp
  exact this
set_option maxRecDepth 100000 in
theorem tbE_ok {s : Nat} {O : List (Nat × List UInt8)} (h : tbE s O = 0) : O.length ≤ 8 ∧ (∀ o ∈ O, o.2.length ≤ 64) ∧ (tenc s O).length ≠ 64 := by
  unfold tbE at h
  split at h
  · omega
  · split at h
    · omega
    · rename_i h1 h2
      split at h
      · omega
      · rename_i h3
        exact ⟨by omega, long_no (by simpa using h2), h3⟩
set_option maxRecDepth 100000 in
theorem tbE_of {s : Nat} {O : List (Nat × List UInt8)} (h1 : O.length ≤ 8) (h2 : ∀ o ∈ O, o.2.length ≤ 64) (h3 : (tenc s O).length ≠ 64) : tbE s O = 0 := by
  unfold tbE
  rw [if_neg (by omega), if_neg (by rw [long_of h2]; simp), if_neg h3]
/-- So many outputs, read off bytes; what is left; the error. -/
def ogo : Nat → List UInt8 → Nat → List (Nat × List UInt8) × List UInt8 × Nat
  | 0, l, e => ([], l, e)
  | k + 1, l, e => ((numL (tkV l e 8), txV (tkL l e 8) (tkE l e 8) 64) :: (ogo k (txL (tkL l e 8) (tkE l e 8) 64) (txE (tkL l e 8) (tkE l e 8) 64)).1, (ogo k (txL (tkL l e 8) (tkE l e 8) 64) (txE (tkL l e 8) (tkE l e 8) 64)).2)
/-- What Parse reads behind the first byte: the salt, the outputs, what is left, the error. -/
def tgoS (l : List UInt8) : Nat := numL (tkV (tkL l 0 1) (tkE l 0 1) 8)
def tgo (l : List UInt8) : List (Nat × List UInt8) × List UInt8 × Nat :=
  ogo (cvV (tkL (tkL l 0 1) (tkE l 0 1) 8) (tkE (tkL l 0 1) (tkE l 0 1) 8) 8) (cvL (tkL (tkL l 0 1) (tkE l 0 1) 8) (tkE (tkL l 0 1) (tkE l 0 1) 8) 8) (cvE (tkL (tkL l 0 1) (tkE l 0 1) 8) (tkE (tkL l 0 1) (tkE l 0 1) 8) 8)
/-- The error of Parse. -/
def tpE (l : List UInt8) : Nat :=
  if l.length = 64 then 3 else if tkE l 0 1 = 0 ∧ numL (tkV l 0 1) ≠ 1 then 3 else if (tgo l).2.2 ≠ 0 then (tgo l).2.2 else if 0 < (tgo l).2.1.length then 3 else 0
def tpS (l : List UInt8) : Nat := if tpE l = 0 then tgoS l else 0
def tpO (l : List UInt8) : List (Nat × List UInt8) := if tpE l = 0 then (tgo l).1 else []

set_option maxRecDepth 100000 in
theorem tk_back {l : List UInt8} {e n : Nat} (h : tkE l e n = 0) : e = 0 ∧ l = tkV l e n ++ tkL l e n ∧ (tkV l e n).length = n := by
  unfold tkE at h
  by_cases he : e = 0
  · subst he
    rw [if_pos rfl] at h
    by_cases hn : n ≤ l.length
    · unfold tkV tkL
      rw [if_pos ⟨rfl, hn⟩, if_pos ⟨rfl, hn⟩]
      exact ⟨rfl, (List.take_append_drop n l).symm, by rw [List.length_take]; omega⟩
    · rw [if_neg hn] at h; omega
  · rw [if_neg he] at h; exact absurd h he
set_option maxRecDepth 100000 in
theorem cv_back {l : List UInt8} {e m : Nat} (h : cvE l e m = 0) : e = 0 ∧ l = cnt (cvV l e m) ++ cvL l e m ∧ cvV l e m ≤ m := by
  unfold cvE at h
  by_cases he : e = 0
  · subst he
    rw [if_pos rfl] at h
    obtain ⟨h1, h2, _⟩ := first_ok h
    unfold cvV cvL
    rw [if_pos rfl, if_pos rfl]
    exact ⟨rfl, h1, h2⟩
  · rw [if_neg he] at h; exact absurd h he
set_option maxRecDepth 100000 in
theorem tx_back {l : List UInt8} {e m : Nat} (h : txE l e m = 0) : e = 0 ∧ l = cnt (txV l e m).length ++ txV l e m ++ txL l e m ∧ (txV l e m).length ≤ m := by
  have h' := h
  unfold txE at h'
  obtain ⟨h1, h2, h3⟩ := tk_back h'
  obtain ⟨h4, h5, h6⟩ := cv_back h1
  have e1 : txV l e m = tkV (cvL l e m) (cvE l e m) (cvV l e m) := rfl
  have e2 : txL l e m = tkL (cvL l e m) (cvE l e m) (cvV l e m) := by unfold txL; rw [if_pos h]
  rw [← e1] at h2 h3
  rw [← e2] at h2
  refine ⟨h4, ?_, by rw [h3]; exact h6⟩
  rw [h3, List.append_assoc, ← h2]
  exact h5
set_option maxRecDepth 100000 in
theorem numL_64 {l : List UInt8} (h : l.length ≤ 8) : numL l < 18446744073709551616 := by
  have h1 := numL_lt l
  have h2 : 256 ^ l.length ≤ 256 ^ 8 := Nat.pow_le_pow_right (by omega) h
  have h3 : (256 : Nat) ^ 8 = 18446744073709551616 := by decide
  omega
set_option maxRecDepth 100000 in
theorem little_back {l : List UInt8} (h : l.length = 8) : little (numL l) 8 = l := by rw [← h]; exact little_numL l
set_option maxRecDepth 100000 in
theorem ogo_back : ∀ (k : Nat) (l : List UInt8) (e : Nat), (ogo k l e).2.2 = 0 → e = 0 ∧ l = osenc (ogo k l e).1 ++ (ogo k l e).2.1 ∧ (ogo k l e).1.length = k ∧ ∀ o ∈ (ogo k l e).1, o.1 < 18446744073709551616 ∧ o.2.length ≤ 64
  | 0, l, e, h => ⟨h, rfl, rfl, fun o ho => by simp [ogo] at ho⟩
  | k + 1, l, e, h => by
    obtain ⟨h1, h2, h3, h4⟩ := ogo_back k _ _ h
    obtain ⟨g1, g2, g3⟩ := tx_back h1
    obtain ⟨f1, f2, f3⟩ := tk_back g1
    refine ⟨f1, ?_, by show _ + 1 = _; rw [h3], fun o ho => ?_⟩
    · show l = osenc ((numL (tkV l e 8), txV (tkL l e 8) (tkE l e 8) 64) :: _) ++ _
      rw [osenc_cons, List.append_assoc]
      show l = oenc _ ++ (osenc (ogo k (txL (tkL l e 8) (tkE l e 8) 64) (txE (tkL l e 8) (tkE l e 8) 64)).1 ++ (ogo k (txL (tkL l e 8) (tkE l e 8) 64) (txE (tkL l e 8) (tkE l e 8) 64)).2.1)
      rw [← h2]
      unfold oenc
      rw [little_back f3, List.append_assoc, ← g2]
      exact f2
    · rcases List.mem_cons.1 ho with rfl | ho
      · exact ⟨numL_64 (by rw [f3]; omega), g3⟩
      · exact h4 o ho
set_option maxRecDepth 100000 in
theorem cv_cntM (n most : Nat) (hn : n < 18446744073709551616) (hm : n ≤ most) (r : List UInt8) : cvV (cnt n ++ r) 0 most = n ∧ cvL (cnt n ++ r) 0 most = r ∧ cvE (cnt n ++ r) 0 most = 0 := by
  simp only [cvV, cvL, cvE, if_true, first_cnt n most hn hm r, drop_cnt, and_self]
set_option maxRecDepth 100000 in
theorem tk_appM (l r : List UInt8) (n : Nat) (h : l.length = n) : tkV (l ++ r) 0 n = l ∧ tkL (l ++ r) 0 n = r ∧ tkE (l ++ r) 0 n = 0 := by
  have h' : n ≤ (l ++ r).length := by rw [List.length_append]; omega
  subst h
  simp [tkV, tkL, tkE]
set_option maxRecDepth 100000 in
theorem tx_textM (l r : List UInt8) (most : Nat) (h : l.length ≤ most) (hm : l.length < 18446744073709551616) : txV (cnt l.length ++ (l ++ r)) 0 most = l ∧ txL (cnt l.length ++ (l ++ r)) 0 most = r ∧ txE (cnt l.length ++ (l ++ r)) 0 most = 0 := by
  have hc := cv_cntM l.length most hm h (l ++ r)
  have ht := tk_appM l r l.length rfl
  unfold txL txV txE
  rw [hc.1, hc.2.1, hc.2.2]
  exact ⟨ht.1, by rw [if_pos ht.2.2]; exact ht.2.1, ht.2.2⟩
set_option maxRecDepth 100000 in
theorem ogo_enc : ∀ (O : List (Nat × List UInt8)) (r : List UInt8), (∀ o ∈ O, o.1 < 18446744073709551616 ∧ o.2.length ≤ 64) → ogo O.length (osenc O ++ r) 0 = (O, r, 0)
  | [], r, _ => rfl
  | o :: O, r, h => by
    obtain ⟨h1, h2⟩ := h o (by simp)
    have ih := ogo_enc O r (fun x hx => h x (by simp [hx]))
    have e : osenc (o :: O) ++ r = little o.1 8 ++ (cnt o.2.length ++ (o.2 ++ (osenc O ++ r))) := by
      rw [osenc_cons]
      unfold oenc
      simp only [List.append_assoc]
    obtain ⟨a1, a2, a3⟩ := tk_appM (little o.1 8) (cnt o.2.length ++ (o.2 ++ (osenc O ++ r))) 8 (little_len _ _)
    obtain ⟨b1, b2, b3⟩ := tx_textM o.2 (osenc O ++ r) 64 h2 (by omega)
    rw [List.length_cons, e]
    unfold ogo
    have hp : (256 : Nat) ^ 8 = 18446744073709551616 := by decide
    rw [a1, a2, a3, b1, b2, b3, ih, numL_little, Nat.mod_eq_of_lt (by omega)]
set_option maxRecDepth 100000 in
theorem tenc_read (s : Nat) (O : List (Nat × List UInt8)) : tkV (tenc s O) 0 1 = [1] ∧ tkL (tenc s O) 0 1 = little s 8 ++ (cnt O.length ++ osenc O) ∧ tkE (tenc s O) 0 1 = 0 := by
  have e : tenc s O = [1] ++ (little s 8 ++ (cnt O.length ++ osenc O)) := by unfold tenc; simp only [List.append_assoc]
  rw [e]
  exact tk_appM [1] _ 1 rfl
set_option maxRecDepth 100000 in
theorem tgo_enc (s : Nat) (O : List (Nat × List UInt8)) (hs : s < 18446744073709551616) (h8 : O.length ≤ 8) (h : ∀ o ∈ O, o.1 < 18446744073709551616 ∧ o.2.length ≤ 64) : tgoS (tenc s O) = s ∧ tgo (tenc s O) = (O, [], 0) := by
  obtain ⟨a1, a2, a3⟩ := tenc_read s O
  obtain ⟨b1, b2, b3⟩ := tk_appM (little s 8) (cnt O.length ++ osenc O) 8 (little_len _ _)
  obtain ⟨c1, c2, c3⟩ := cv_cntM O.length 8 (by omega) h8 (osenc O)
  have hp : (256 : Nat) ^ 8 = 18446744073709551616 := by decide
  have ho := ogo_enc O [] h
  rw [List.append_nil] at ho
  unfold tgoS tgo
  rw [a2, a3, b1, b2, b3, c1, c2, c3, numL_little, Nat.mod_eq_of_lt (by omega)]
  exact ⟨rfl, ho⟩
set_option maxRecDepth 100000 in
/-- A right transaction's bytes are read back. -/
theorem tp_enc (s : Nat) (O : List (Nat × List UInt8)) (hs : s < 18446744073709551616) (hv : ∀ o ∈ O, o.1 < 18446744073709551616) (h : tbE s O = 0) : tpE (tenc s O) = 0 ∧ tpS (tenc s O) = s ∧ tpO (tenc s O) = O := by
  obtain ⟨h1, h2, h3⟩ := tbE_ok h
  obtain ⟨a1, a2, a3⟩ := tenc_read s O
  obtain ⟨g1, g2⟩ := tgo_enc s O hs h1 fun o ho => ⟨hv o ho, h2 o ho⟩
  have e : tpE (tenc s O) = 0 := by
    unfold tpE
    rw [if_neg h3, a1, if_neg (by rintro ⟨_, k⟩; exact k rfl), g2]
    rfl
  unfold tpS tpO
  rw [if_pos e, if_pos e, g1, g2]
  exact ⟨e, rfl, rfl⟩
set_option maxRecDepth 100000 in
/-- Bytes that are read are just that transaction's. -/
theorem tp_back {l : List UInt8} (h : tpE l = 0) : tenc (tpS l) (tpO l) = l ∧ tbE (tpS l) (tpO l) = 0 ∧ tpS l < 18446744073709551616 ∧ ∀ o ∈ tpO l, o.1 < 18446744073709551616 ∧ o.2.length ≤ 64 := by
  have hS : tpS l = tgoS l := by unfold tpS; rw [if_pos h]
  have hO : tpO l = (tgo l).1 := by unfold tpO; rw [if_pos h]
  unfold tpE at h
  split at h
  · omega
  · rename_i h64
    split at h
    · omega
    · rename_i hv
      split at h
      · rename_i h1
        exact absurd h h1
      · rename_i h1
        have h1 : (tgo l).2.2 = 0 := by omega
        split at h
        · omega
        · rename_i h2
          have hnil : (tgo l).2.1 = [] := List.eq_nil_of_length_eq_zero (by omega)
          obtain ⟨a1, a2, a3, a4⟩ := ogo_back _ _ _ h1
          obtain ⟨b1, b2, b3⟩ := cv_back a1
          obtain ⟨c1, c2, c3⟩ := tk_back b1
          obtain ⟨d1, d2, d3⟩ := tk_back c1
          have hone : numL (tkV l 0 1) = 1 := by
            by_cases k : numL (tkV l 0 1) = 1
            · exact k
            · exact absurd ⟨c1, k⟩ hv
          have h1b : tkV l 0 1 = [1] := by
            have := little_numL (tkV l 0 1)
            rw [hone, d3] at this
            rw [← this]
            rfl
          have hlen : (tgo l).1.length = cvV (tkL (tkL l 0 1) (tkE l 0 1) 8) (tkE (tkL l 0 1) (tkE l 0 1) 8) 8 := a3
          have a2' : cvL (tkL (tkL l 0 1) (tkE l 0 1) 8) (tkE (tkL l 0 1) (tkE l 0 1) 8) 8 = osenc (tgo l).1 := by
            have : cvL (tkL (tkL l 0 1) (tkE l 0 1) 8) (tkE (tkL l 0 1) (tkE l 0 1) 8) 8 = osenc (tgo l).1 ++ (tgo l).2.1 := a2
            rw [hnil, List.append_nil] at this
            exact this
          have henc : tenc (tgoS l) (tgo l).1 = l := by
            unfold tenc tgoS
            rw [little_back c3, hlen, ← a2', ← h1b]
            simp only [List.append_assoc]
            rw [← b2, ← c2, ← d2]
          rw [hS, hO]
          have h8 : (tgo l).1.length ≤ 8 := by rw [hlen]; exact b3
          have h5 : ∀ o ∈ (tgo l).1, o.1 < 18446744073709551616 ∧ o.2.length ≤ 64 := a4
          exact ⟨henc, tbE_of h8 (fun o ho => (h5 o ho).2) (by rw [henc]; exact h64), numL_64 (by rw [c3]; omega), h5⟩
/-- What is paid to an item. -/
def paid (t : List UInt8) (O : List (Nat × List UInt8)) : Nat := (O.filter fun o => decide (o.2 = t)).foldl (fun a o => a + o.1) 0
def pays (t : List UInt8) (O : List (Nat × List UInt8)) : Bool := O.any fun o => decide (o.2 = t)
set_option maxRecDepth 100000 in
theorem paid_snoc (t : List UInt8) (O : List (Nat × List UInt8)) (o : Nat × List UInt8) : paid t (O ++ [o]) = paid t O + (if o.2 = t then o.1 else 0) := by
  unfold paid
  rw [List.filter_append, List.foldl_append]
  by_cases h : o.2 = t
  · simp [h]
  · simp [h]
set_option maxRecDepth 100000 in
theorem pays_snoc (t : List UInt8) (O : List (Nat × List UInt8)) (o : Nat × List UInt8) : pays t (O ++ [o]) = (pays t O || decide (o.2 = t)) := by
  unfold pays
  simp
end Go.Proofs.Ythkkllcpogagiaa
