/- Merged texts: MrkN MrkY. -/
import Derived.Test.YtkhjadecichlkaaDoorMau
import Derived.Test.YtkhjadecichlkaaDoorMbc
/- Plain mathematics of layer 8: a list with its last hash once more; two lists with one root. -/
namespace Go.Proofs.YtkhjadecichlkaaDoor
set_option linter.unusedVariables false

set_option maxRecDepth 100000 in
/-- An odd list with its last hash once more has the same level above it. -/
theorem abv_twice : ∀ (l : List (List UInt8)), l.length % 2 = 1 → abv (l ++ [hat l (l.length - 1)]) = abv l
  | [], h => by simp at h
  | [a], _ => by simp [abv, hat]
  | [a, b], h => by simp at h
  | a :: b :: c :: r, h => by
    have h1 := abv_twice (c :: r) (by simp at h ⊢; omega)
    have e : hat (a :: b :: c :: r) ((a :: b :: c :: r).length - 1) = hat (c :: r) ((c :: r).length - 1) := by
      simp [hat]
    rw [e]
    show pr a b :: abv (c :: r ++ [hat (c :: r) ((c :: r).length - 1)]) = _
    rw [h1]
    rfl
set_option maxRecDepth 100000 in
theorem root_twice (l : List (List UInt8)) (h : l.length % 2 = 1) (h2 : 1 < l.length) : rootH (l ++ [hat l (l.length - 1)]) = rootH l := by
  rw [← rootH_abv _ (by rw [List.length_append]; simp; omega), abv_twice l h, rootH_abv l h2]
set_option maxRecDepth 100000 in
theorem hat_app_left (l r : List (List UInt8)) (i : Nat) (h : i < l.length) : hat (l ++ r) i = hat l i := by
  unfold hat
  rw [List.getD_eq_getElem?_getD, List.getD_eq_getElem?_getD, List.getElem?_append_left h]
set_option maxRecDepth 100000 in
theorem hat_app_last (l : List (List UInt8)) (x : List UInt8) : hat (l ++ [x]) l.length = x := by
  unfold hat
  rw [List.getD_eq_getElem?_getD, List.getElem?_append_right (Nat.le_refl _)]
  simp
set_option maxRecDepth 100000 in
theorem pairs_at (l : List (List UInt8)) (i : Nat) (h1 : 2 * i + 1 < l.length) (h2 : hat l (2 * i) = hat l (2 * i + 1)) : pairs l = true := by
  unfold pairs
  rw [List.any_eq_true]
  exact ⟨i, by rw [List.mem_range]; omega, by simpa using h2⟩
set_option maxRecDepth 100000 in
theorem dbl_twice (l : List (List UInt8)) (h : l.length % 2 = 1) (h2 : 1 < l.length) : dbl (l ++ [hat l (l.length - 1)]) = true := by
  rw [dbl_abv _ (by rw [List.length_append]; simp; omega)]
  have : pairs (l ++ [hat l (l.length - 1)]) = true := by
    refine pairs_at _ (l.length / 2) (by rw [List.length_append]; simp; omega) ?_
    rw [show 2 * (l.length / 2) + 1 = l.length from by omega, hat_app_last, hat_app_left _ _ _ (by omega)]
    congr 1
    omega
  rw [this]
  rfl
set_option maxRecDepth 100000 in
theorem beside_min (n i : Nat) (h : i < (n + 1) / 2) : beside n i = min (2 * i + 1) (n - 1) := by
  unfold beside
  split <;> omega
set_option maxRecDepth 100000 in
theorem hat_ext {a b : List (List UInt8)} (hl : a.length = b.length) (h : ∀ i, i < a.length → hat a i = hat b i) : a = b := by
  refine List.ext_getElem hl fun i h1 h2 => ?_
  have := h i h1
  unfold hat at this
  rw [List.getD_eq_getElem?_getD, List.getD_eq_getElem?_getD, List.getElem?_eq_getElem h1, List.getElem?_eq_getElem h2] at this
  simpa using this
set_option maxRecDepth 100000 in
/-- Where the levels above are one and no pair clashes, the lists are one. -/
theorem abv_apart {a b : List (List UInt8)} (hl : a.length = b.length) (hab : abv a = abv b) (hno : ∀ i, i < (a.length + 1) / 2 → hat (abv a) i = hat (abv b) i → hat a (2 * i) = hat b (2 * i) ∧ hat a (beside a.length i) = hat b (beside a.length i)) : a = b := by
  refine hat_ext hl fun i hi => ?_
  have h1 := hno (i / 2) (by omega) (by rw [hab])
  rcases Nat.mod_two_eq_zero_or_one i with h | h
  · have e : 2 * (i / 2) = i := by omega
    rw [e] at h1
    exact h1.1
  · have e : beside a.length (i / 2) = i := by
      unfold beside
      rw [if_pos (by omega)]
      omega
    rw [e] at h1
    exact h1.2
set_option maxRecDepth 100000 in
/-- A list of one hash is its root. -/
theorem root_single {a : List (List UInt8)} (h : a.length = 1) : a = [rootH a] := by
  match a, h with
  | [x], _ => rw [rootH_one]
end Go.Proofs.YtkhjadecichlkaaDoor

/- Lists of hashes that are copied: an empty list, a list appended to another; steps that name the world behind. -/
namespace Go.Proofs.YtkhjadecichlkaaDoor
open Go.RowKit
set_option linter.unusedVariables false
set_option linter.unusedSimpArgs false

set_option maxRecDepth 100000 in
theorem run_bs0 (W : World) : (Instr.buildSlice 22 0 #[]).run Tryd.prog W = .ok (.slice (some ⟨W.heap.size, 0, none⟩) 0 0) (W.alloc (.cells #[] 25)) := by
  obtain ⟨i, hi, hzz⟩ := Option.map_eq_some_iff.1 infoG
  simp [Instr.buildSlice, run_underlying Tryd.underlying22, sizeOf, typeInfo, hi, Instr.fill, newRow]
  congr 2
  exact Array.eq_empty_of_size_eq_zero (by rw [Array.size_map, Array.size_range])
set_option maxRecDepth 100000 in
theorem frm_grownH {w w' : World} {A : Option Addr} {n c : Nat} (h : w.grownBy w' (Value.ownBlock (.slice A n c))) : Frm (fun i => blkOf A = some i) w w' :=
  ⟨h.os, h.tape, h.output, h.size, fun i hi hn => h.block i hi (fun e => hn (by
    cases A with
    | none => simp [Value.ownBlock] at e
    | some a => simp [Value.ownBlock] at e; simp [blkOf, e]))⟩
set_option maxRecDepth 100000 in
/-- An empty list is laid. -/
theorem wp_bs0 {o : Oper} {a : Act} {W : World} {K : Act → World → Prop} {Q : Exit → Act → World → Prop} (ho : o.op = .buildSlice 22 0 #[]) (base : Nat) (w : World) (hb : Below base w W) (hbase : base ≤ w.heap.size)
    (h : ∀ g w', OwnH w' base 25 (some ⟨g, 0, none⟩) 0 0 [] → W.heap.size ≤ g → g < w'.heap.size → Frm (fun _ => False) W w' → Below base w w' → K (a.put o.dst (.slice (some ⟨g, 0, none⟩) 0 0)) w') : o.wp Tryd.prog a W K Q := by
  unfold Oper.wp execOp
  simp only [ho, List.map_toArray, List.map_nil, Sem.run_bind, run_bs0, Result.andThen_ok]
  refine h W.heap.size _ ⟨rfl, fun _ h => by simp at h, rfl, .inr ⟨W.heap.size, 0, _, rfl, Nat.le_trans hbase hb.size, heap_alloc_new W _, Nat.zero_le _, by unfold maxLen; omega, rfl, rfl⟩⟩ (Nat.le_refl _) (by simp) (Frm.of_below ((Below.refl _ W).alloc (Nat.le_refl _) _)) (hb.alloc (Nat.le_trans hbase hb.size) _)
set_option maxRecDepth 100000 in
/-- A list of one hash is laid. -/
theorem wp_bs1 {o : Oper} {a : Act} {W : World} {K : Act → World → Prop} {Q : Exit → Act → World → Prop} (x : Operand) (ho : o.op = .buildSlice 22 1 #[(0, x)]) (V : List Value) (hx : a.eval x = .agg V.toArray) (hV : V.length = 32) (base : Nat) (w : World) (hb : Below base w W) (hbase : base ≤ w.heap.size)
    (h : ∀ g w', Blk w' g V 25 → W.heap.size ≤ g → g < w'.heap.size → Frm (fun _ => False) W w' → Below base w w' → K (a.put o.dst (.slice (some ⟨g, 0, none⟩) 1 1)) w') : o.wp Tryd.prog a W K Q := by
  unfold Oper.wp execOp
  simp only [ho, List.map_toArray, List.map_cons, List.map_nil, hx, Sem.run_bind, run_bs 22 25 Tryd.underlying22 infoG V hV W, Result.andThen_ok]
  exact h W.heap.size _ (Blk.new W _ _) (Nat.le_refl _) (by simp) (Frm.of_below ((Below.refl _ W).alloc (Nat.le_refl _) _)) (hb.alloc (Nat.le_trans hbase hb.size) _)
set_option maxRecDepth 100000 in
theorem flat_cells {w : World} {X : Option Addr} {m : Nat} {L : List (List UInt8)} (hr : RdH w X m L) (hm : 0 < m) : ∃ ad, X = some ad ∧ ad.spot = none ∧ ∀ j u, (L.flatten.map B8)[j]? = some u → w.cell? (ad.add j) = some u := by
  obtain ⟨b, off, rfl, hb, hc⟩ := hr.2.2 hm
  refine ⟨_, rfl, rfl, fun j u hu => ?_⟩
  have hj : j < m * 32 := by have := (List.getElem?_eq_some_iff.1 hu).1; rw [List.length_map, flat_len L hr.all, hr.len] at this; exact this
  have e : j = j / 32 * 32 + j % 32 := by omega
  rw [Addr.add_mid]
  have h2 := hc (j / 32) (by omega) (j % 32) u (by
    rw [List.getElem?_map, ← flat_at L (j / 32) (j % 32) hr.all (by rw [hr.len]; omega) (Nat.mod_lt _ (by omega)), ← e, ← List.getElem?_map]
    exact hu)
  rw [Nat.add_assoc, ← e] at h2
  exact h2
set_option maxRecDepth 100000 in
/-- append of a list of hashes. -/
theorem wp_appHs {o : Oper} {a : Act} {W : World} {K : Act → World → Prop} {Q : Exit → Act → World → Prop} (s x : Operand) (ho : o.op = .call { callee := .builtin .append, args := #[s, x], argTypes := #[22, 22] })
    (base : Nat) (w : World) (hb : Below base w W) (hbase : base ≤ w.heap.size) (A : Option Addr) (n c : Nat) (L : List (List UInt8)) (hs : a.eval s = .slice A n c) (hown : OwnH W base 25 A n c L) (X : Option Addr) (m c2 : Nat) (L2 : List (List UInt8)) (hx : a.eval x = .slice X m c2) (hr : RdH W X m L2) (hm : 0 < m)
    (hn : n + m ≤ 1000000) (h : ∀ A' c' w', OwnH w' base 25 A' (n + m) c' (L ++ L2) → Frm (fun i => blkOf A = some i) W w' → Below base w w' → K (a.put o.dst (.slice A' (n + m) c')) w') : o.wp Tryd.prog a W K Q := by
  obtain ⟨i, hi, hzz⟩ := Option.map_eq_some_iff.1 infoG
  simp only [Prod.mk.injEq] at hzz
  obtain ⟨hz, hsz, hby⟩ := hzz
  obtain ⟨h1, h2, h3⟩ := hown
  have hbW : base ≤ W.heap.size := Nat.le_trans hbase hb.size
  obtain ⟨ad, rfl, _, hcells⟩ := flat_cells hr hm
  obtain ⟨v', w', hrun, h4, h5, _, _⟩ := run_append_own_at (P := Tryd.prog) W base 22 o.type 25 i (.agg z32.toArray) 32 32 Tryd.underlying22 hi hz hsz hby rfl (by omega) _ n _ h3 ad m c2 (L2.flatten.map B8) (by rw [List.length_map, flat_len L2 hr.all, hr.len]) hcells (b8_one _) (by unfold maxLen; omega) (by omega) hbW
  obtain ⟨A', c', rfl⟩ : ∃ A' c', v' = .slice A' (n + m) c' := by
    rcases h4.2 with ⟨_, h0⟩ | ⟨g', cap, cur, rfl, _⟩
    · omega
    · exact ⟨_, _, rfl⟩
  have hblk : ∀ k, Value.ownBlock (.slice A n c) = some k → base ≤ k := fun k hk => by
    rcases h3.2 with ⟨hv, _⟩ | ⟨g', cap, cur, hv, hb', _⟩
    · injection hv with e1; rw [e1] at hk; simp [Value.ownBlock] at hk
    · injection hv with e1
      rw [e1] at hk
      have : g' = k := by simpa [Value.ownBlock] using hk
      omega
  unfold Oper.wp execOp
  simp only [ho, resolve, invoke, builtin, Sem.run_bind, Sem.run_pure, Result.andThen_ok, List.map_toArray, List.map_cons, List.map_nil, hs, hx, hrun]
  refine h A' c' w' ⟨by simp [h1, hr.len], fun y hy => ?_, ?_⟩ (frm_grownH h5) (hb.trans ((Below.refl _ _).grown h5 hbW hblk))
  · rcases List.mem_append.1 hy with hy | hy
    · exact h2 y hy
    · exact hr.all y hy
  · rw [List.flatten_append, List.map_append]
    exact h4
set_option maxRecDepth 100000 in
theorem OwnH.frm {w W : World} {b n c : Nat} {e : TypeId} {A : Option Addr} {L : List (List UInt8)} {S : Nat → Prop} (h : OwnH w b e A n c L) (hf : Frm S w W) (hS : ∀ g, blkOf A = some g → ¬ S g) : OwnH W b e A n c L := by
  obtain ⟨h1, h2, h3, h4⟩ := h
  refine ⟨h1, h2, h3, ?_⟩
  rcases h4 with h | ⟨g, cap, cur, e1, e2, e3, e4⟩
  · exact .inl h
  · have hA : blkOf A = some g := by injection e1 with e5; rw [e5]; rfl
    exact .inr ⟨g, cap, cur, e1, e2, (hf.block g (Array.getElem?_eq_some_iff.1 e3).1 (hS g hA)).trans e3, e4⟩
set_option maxRecDepth 100000 in
theorem RdH.belowB {w W : World} {B : Nat} {A : Option Addr} {n : Nat} {L : List (List UInt8)} (h : RdH w A n L) (hB : w.heap.size = B) (hb : Below B w W) : RdH W A n L := h.below (hB ▸ hb)
set_option maxRecDepth 100000 in
theorem RdH.oneV {W : World} {g : Nat} {a : List UInt8} {V : List Value} {e : TypeId} (ha : a.length = 32) (hV : V = a.map B8) (hb : Blk W g V e) : RdH W (some ⟨g, 0, none⟩) 1 [a] :=
  ⟨rfl, fun h hh => by simp at hh; rw [hh]; exact ha, fun _ => ⟨g, 0, rfl, hb.lt, fun i hi j v hv => by
    have : i = 0 := by omega
    subst this
    rw [hb.cell, hV]
    simpa [hat] using hv⟩⟩
end Go.Proofs.YtkhjadecichlkaaDoor
