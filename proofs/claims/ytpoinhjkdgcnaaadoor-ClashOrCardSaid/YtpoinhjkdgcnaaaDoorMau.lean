/- Merged texts: MrkY MrkZ. -/
import Derived.Test.YtpoinhjkdgcnaaaDoorMat
/- Lists of hashes that are copied: an empty list, a list appended to another; steps that name the world behind. -/
namespace Go.Proofs.YtpoinhjkdgcnaaaDoor
open Go.RowKit
set_option linter.unusedVariables false
set_option linter.unusedSimpArgs false

set_option maxRecDepth 100000 in
theorem run_bs0 (W : World) : (Instr.buildSlice 24 0 #[]).run Tryd.prog W = .ok (.slice (some ⟨W.heap.size, 0, none⟩) 0 0) (W.alloc (.cells #[] 47)) := by
  obtain ⟨i, hi, hzz⟩ := Option.map_eq_some_iff.1 infoG
  simp [Instr.buildSlice, run_underlying Tryd.underlying24, sizeOf, typeInfo, hi, Instr.fill, newRow]
  congr 2
  exact Array.eq_empty_of_size_eq_zero (by rw [Array.size_map, Array.size_range])
set_option maxRecDepth 100000 in
theorem frm_grownH {w w' : World} {A : Option Addr} {n c : Nat} (h : w.grownBy w' (Value.ownBlock (.slice A n c))) : Frm (fun i => blkOf A = some i) w w' :=
  ⟨h.os, h.tape, h.output, h.size, fun i hi hn => h.block i hi (fun e => hn (by
    cases A with
    | none => simp [Value.ownBlock] at e
    | some a => simp [Value.ownBlock] at e; simp [blkOf, e]))⟩
set_option maxRecDepth 100000 in
/-- An empty list is laid. -/
theorem wp_bs0 {o : Oper} {a : Act} {W : World} {K : Act → World → Prop} {Q : Exit → Act → World → Prop} (ho : o.op = .buildSlice 24 0 #[]) (base : Nat) (w : World) (hb : Below base w W) (hbase : base ≤ w.heap.size)
    (h : ∀ g w', OwnH w' base 47 (some ⟨g, 0, none⟩) 0 0 [] → W.heap.size ≤ g → g < w'.heap.size → Frm (fun _ => False) W w' → Below base w w' → K (a.put o.dst (.slice (some ⟨g, 0, none⟩) 0 0)) w') : o.wp Tryd.prog a W K Q := by
  unfold Oper.wp execOp
  simp only [ho, List.map_toArray, List.map_nil, Sem.run_bind, run_bs0, Result.andThen_ok]
  refine h W.heap.size _ ⟨rfl, fun _ h => by simp at h, rfl, .inr ⟨W.heap.size, 0, _, rfl, Nat.le_trans hbase hb.size, heap_alloc_new W _, Nat.zero_le _, by unfold maxLen; omega, rfl, rfl⟩⟩ (Nat.le_refl _) (by simp) (Frm.of_below ((Below.refl _ W).alloc (Nat.le_refl _) _)) (hb.alloc (Nat.le_trans hbase hb.size) _)
set_option maxRecDepth 100000 in
/-- A list of one hash is laid. -/
theorem wp_bs1 {o : Oper} {a : Act} {W : World} {K : Act → World → Prop} {Q : Exit → Act → World → Prop} (x : Operand) (ho : o.op = .buildSlice 24 1 #[(0, x)]) (V : List Value) (hx : a.eval x = .agg V.toArray) (hV : V.length = 32) (base : Nat) (w : World) (hb : Below base w W) (hbase : base ≤ w.heap.size)
    (h : ∀ g w', Blk w' g V 47 → W.heap.size ≤ g → g < w'.heap.size → Frm (fun _ => False) W w' → Below base w w' → K (a.put o.dst (.slice (some ⟨g, 0, none⟩) 1 1)) w') : o.wp Tryd.prog a W K Q := by
  unfold Oper.wp execOp
  simp only [ho, List.map_toArray, List.map_cons, List.map_nil, hx, Sem.run_bind, run_bs 24 47 Tryd.underlying24 infoG V hV W, Result.andThen_ok]
  exact h W.heap.size _ (Blk.new W _ _) (Nat.le_refl _) (by simp) (Frm.of_below ((Below.refl _ W).alloc (Nat.le_refl _) _)) (hb.alloc (Nat.le_trans hbase hb.size) _)
set_option maxRecDepth 100000 in
theorem flat_cells {w : World} {X : Option Addr} {m : Nat} {L : List (List UInt8)} (hr : RdH w X m L) (hm : 0 < m) : ∃ ad, X = some ad ∧ ad.spot = none ∧ ∀ j u, (L.flatten.map B8)[j]? = some u → w.cell? (ad.add j) = some u := by
  obtain ⟨b, off, rfl, hb, hc⟩ := hr.2.2 hm
  refine ⟨_, rfl, rfl, fun j u hu => ?_⟩
  have hj : j < m * 32 := by have := (List.getElem?_eq_some_iff.1 hu).1; rw [List.length_map, flat_len L hr.all, hr.len] at this; exact this
  have e : j = j / 32 * 32 + j % 32 := by omega
  rw [Addr.add_mid]
  have h2 := hc (j / 32) (by omega) (j % 32) u (by
    rw [List.getElem?_map, ← flat_at L (j / 32) (j % 32) hr.all (by rw [hr.len]; omega) (Nat.mod_lt _ (by omega)), ← e, ← List.getElem?_map]
    exact hu)
  rw [Nat.add_assoc, ← e] at h2
  exact h2
set_option maxRecDepth 100000 in
/-- append of a list of hashes. -/
theorem wp_appHs {o : Oper} {a : Act} {W : World} {K : Act → World → Prop} {Q : Exit → Act → World → Prop} (s x : Operand) (ho : o.op = .call { callee := .builtin .append, args := #[s, x], argTypes := #[24, 24] })
    (base : Nat) (w : World) (hb : Below base w W) (hbase : base ≤ w.heap.size) (A : Option Addr) (n c : Nat) (L : List (List UInt8)) (hs : a.eval s = .slice A n c) (hown : OwnH W base 47 A n c L) (X : Option Addr) (m c2 : Nat) (L2 : List (List UInt8)) (hx : a.eval x = .slice X m c2) (hr : RdH W X m L2) (hm : 0 < m)
    (hn : n + m ≤ 1000000) (h : ∀ A' c' w', OwnH w' base 47 A' (n + m) c' (L ++ L2) → Frm (fun i => blkOf A = some i) W w' → Below base w w' → K (a.put o.dst (.slice A' (n + m) c')) w') : o.wp Tryd.prog a W K Q := by
  obtain ⟨i, hi, hzz⟩ := Option.map_eq_some_iff.1 infoG
  simp only [Prod.mk.injEq] at hzz
  obtain ⟨hz, hsz, hby⟩ := hzz
  obtain ⟨h1, h2, h3⟩ := hown
  have hbW : base ≤ W.heap.size := Nat.le_trans hbase hb.size
  obtain ⟨ad, rfl, _, hcells⟩ := flat_cells hr hm
  obtain ⟨v', w', hrun, h4, h5, _, _⟩ := run_append_own_at (P := Tryd.prog) W base 24 o.type 47 i (.agg z32.toArray) 32 32 Tryd.underlying24 hi hz hsz hby rfl (by omega) _ n _ h3 ad m c2 (L2.flatten.map B8) (by rw [List.length_map, flat_len L2 hr.all, hr.len]) hcells (b8_one _) (by unfold maxLen; omega) (by omega) hbW
  obtain ⟨A', c', rfl⟩ : ∃ A' c', v' = .slice A' (n + m) c' := by
    rcases h4.2 with ⟨_, h0⟩ | ⟨g', cap, cur, rfl, _⟩
    · omega
    · exact ⟨_, _, rfl⟩
  have hblk : ∀ k, Value.ownBlock (.slice A n c) = some k → base ≤ k := fun k hk => by
    rcases h3.2 with ⟨hv, _⟩ | ⟨g', cap, cur, hv, hb', _⟩
    · injection hv with e1; rw [e1] at hk; simp [Value.ownBlock] at hk
    · injection hv with e1
      rw [e1] at hk
      have : g' = k := by simpa [Value.ownBlock] using hk
      omega
  unfold Oper.wp execOp
  simp only [ho, resolve, invoke, builtin, Sem.run_bind, Sem.run_pure, Result.andThen_ok, List.map_toArray, List.map_cons, List.map_nil, hs, hx, hrun]
  refine h A' c' w' ⟨by simp [h1, hr.len], fun y hy => ?_, ?_⟩ (frm_grownH h5) (hb.trans ((Below.refl _ _).grown h5 hbW hblk))
  · rcases List.mem_append.1 hy with hy | hy
    · exact h2 y hy
    · exact hr.all y hy
  · rw [List.flatten_append, List.map_append]
    exact h4
set_option maxRecDepth 100000 in
theorem OwnH.frm {w W : World} {b n c : Nat} {e : TypeId} {A : Option Addr} {L : List (List UInt8)} {S : Nat → Prop} (h : OwnH w b e A n c L) (hf : Frm S w W) (hS : ∀ g, blkOf A = some g → ¬ S g) : OwnH W b e A n c L := by
  obtain ⟨h1, h2, h3, h4⟩ := h
  refine ⟨h1, h2, h3, ?_⟩
  rcases h4 with h | ⟨g, cap, cur, e1, e2, e3, e4⟩
  · exact .inl h
  · have hA : blkOf A = some g := by injection e1 with e5; rw [e5]; rfl
    exact .inr ⟨g, cap, cur, e1, e2, (hf.block g (Array.getElem?_eq_some_iff.1 e3).1 (hS g hA)).trans e3, e4⟩
set_option maxRecDepth 100000 in
theorem RdH.belowB {w W : World} {B : Nat} {A : Option Addr} {n : Nat} {L : List (List UInt8)} (h : RdH w A n L) (hB : w.heap.size = B) (hb : Below B w W) : RdH W A n L := h.below (hB ▸ hb)
set_option maxRecDepth 100000 in
theorem RdH.oneV {W : World} {g : Nat} {a : List UInt8} {V : List Value} {e : TypeId} (ha : a.length = 32) (hV : V = a.map B8) (hb : Blk W g V e) : RdH W (some ⟨g, 0, none⟩) 1 [a] :=
  ⟨rfl, fun h hh => by simp at hh; rw [hh]; exact ha, fun _ => ⟨g, 0, rfl, hb.lt, fun i hi j v hv => by
    have : i = 0 := by omega
    subst this
    rw [hb.cell, hV]
    simpa [hat] using hv⟩⟩
end Go.Proofs.YtpoinhjkdgcnaaaDoor

/- Lists of hashes within plain regions: an empty list, a list appended to another, a hash stored into a list. -/
namespace Go.Proofs.YtpoinhjkdgcnaaaDoor
open Go.RowKit
set_option linter.unusedVariables false
set_option linter.unusedSimpArgs false

set_option maxRecDepth 100000 in
theorem over_take (C : List Value) (o : Nat) (V : List Value) (N : Nat) (h : o + V.length ≤ N) (hN : N ≤ C.length) : (over C o V).take N = over (C.take N) o V := by
  unfold over
  rw [List.append_assoc, List.take_append, List.take_take, List.length_take, List.take_append, List.drop_take, Nat.min_eq_left (show o ≤ C.length by omega), List.take_of_length_le (show V.length ≤ N - o by omega), List.append_assoc, List.take_take, Nat.min_eq_right (show o ≤ N by omega), Nat.min_eq_left (show o ≤ N by omega), Nat.sub_sub]
set_option maxRecDepth 100000 in
theorem over_len (C : List Value) (o : Nat) (V : List Value) (h : o + V.length ≤ C.length) : (over C o V).length = C.length := by
  unfold over
  rw [List.length_append, List.length_append, List.length_take, List.length_drop, Nat.min_eq_left (by omega)]
  omega
set_option maxRecDepth 100000 in
theorem flat_set : ∀ (L : List (List UInt8)) (k : Nat) (x : List UInt8), (∀ h ∈ L, h.length = 32) → x.length = 32 → k < L.length → ((L.set k x).flatten).map B8 = over (L.flatten.map B8) (k * 32) (x.map B8)
  | [], k, x, _, _, h => by simp at h
  | a :: r, 0, x, hl, hx, _ => by
    have ha := hl a (by simp)
    unfold over
    simp only [List.set_cons_zero, List.flatten_cons, List.map_append, Nat.zero_mul, List.take_zero, List.nil_append, Nat.zero_add, List.length_map, hx]
    rw [List.drop_left' (by rw [List.length_map]; exact ha)]
  | a :: r, k + 1, x, hl, hx, h => by
    have ha := hl a (by simp)
    have ih := flat_set r k x (fun y hy => hl y (by simp [hy])) hx (by simpa using h)
    unfold over at ih ⊢
    simp only [List.set_cons_succ, List.flatten_cons, List.map_append] at ih ⊢
    rw [ih]
    have e1 : (k + 1) * 32 = (a.map B8).length + k * 32 := by rw [List.length_map, ha]; omega
    rw [e1, List.take_length_add_append, Nat.add_assoc, List.drop_length_add_append]
    simp only [List.append_assoc]
section
variable {ops : Array Oper} {rest : List Oper} {o : Oper} {a : Act} {W : World} {Q : Exit → Act → World → Prop}
set_option maxRecDepth 100000 in
theorem wpList_bs0 (hgd : o.guard = none) (ho : o.op = .buildSlice 24 0 #[]) (base : Nat) (w : World) (hb : Below base w W) (hbase : base ≤ w.heap.size)
    (h : ∀ g w', OwnH w' base 47 (some ⟨g, 0, none⟩) 0 0 [] → W.heap.size ≤ g → g < w'.heap.size → Frm (fun _ => False) W w' → Below base w w' → wpList Tryd.prog ops Q rest (a.put o.dst (.slice (some ⟨g, 0, none⟩) 0 0)) w') : wpList Tryd.prog ops Q (o :: rest) a W :=
  wpList_plain hgd fun _ hK => wp_bs0 ho base w hb hbase (fun g w' h1 h2 h3 h4 h5 => hK _ _ (h g w' h1 h2 h3 h4 h5))
set_option maxRecDepth 100000 in
theorem wpList_appHs (hgd : o.guard = none) (s x : Operand) (ho : o.op = .call { callee := .builtin .append, args := #[s, x], argTypes := #[24, 24] })
    (base : Nat) (w : World) (hb : Below base w W) (hbase : base ≤ w.heap.size) (A : Option Addr) (n c : Nat) (L : List (List UInt8)) (hs : a.eval s = .slice A n c) (hown : OwnH W base 47 A n c L) (X : Option Addr) (m c2 : Nat) (L2 : List (List UInt8)) (hx : a.eval x = .slice X m c2) (hr : RdH W X m L2) (hm : 0 < m)
    (hn : n + m ≤ 1000000) (h : ∀ A' c' w', OwnH w' base 47 A' (n + m) c' (L ++ L2) → Frm (fun i => blkOf A = some i) W w' → Below base w w' → wpList Tryd.prog ops Q rest (a.put o.dst (.slice A' (n + m) c')) w') : wpList Tryd.prog ops Q (o :: rest) a W :=
  wpList_plain hgd fun _ hK => wp_appHs s x ho base w hb hbase A n c L hs hown X m c2 L2 hx hr hm hn (fun A' c' w' h1 h2 h3 => hK _ _ (h A' c' w' h1 h2 h3))
set_option maxRecDepth 100000 in
theorem OwnH.form {w : World} {b n c : Nat} {e : TypeId} {A : Option Addr} {L : List (List UInt8)} (h : OwnH w b e A n c L) (hn : 0 < n) : ∃ g, A = some ⟨g, 0, none⟩ ∧ b ≤ g ∧ g < w.heap.size := by
  rcases h.2.2.2 with ⟨_, h0⟩ | ⟨g, cap, cur, hv, hb, hg, _⟩
  · omega
  · injection hv with e1
    exact ⟨g, e1, hb, (Array.getElem?_eq_some_iff.1 hg).1⟩
set_option maxRecDepth 100000 in
theorem wpList_storeH (hgd : o.guard = none) (x y : Operand) (ho : o.op = .store 47 x y) (base : Nat) (w : World) (hb : Below base w W) (g n c : Nat) (L : List (List UInt8)) (hown : OwnH W base 47 (some ⟨g, 0, none⟩) n c L) (k : Nat) (hk : k < n)
    (V : List UInt8) (VC : List Value) (hVC : VC = V.map B8) (hV : V.length = 32) (hx : a.eval x = .pointer (some ⟨g, k * 32, none⟩)) (hy : a.eval y = .agg VC.toArray)
    (h : ∀ w', OwnH w' base 47 (some ⟨g, 0, none⟩) n c (L.set k V) → Below base w w' → wpList Tryd.prog ops Q rest (a.put o.dst undef) w') : wpList Tryd.prog ops Q (o :: rest) a W := by
  obtain ⟨h1, h2, h3, h4⟩ := hown
  rcases h4 with ⟨_, h0⟩ | ⟨g', cap, cur, hv, hbg, hg, hnc, hcm, hcs, hct⟩
  · omega
  injection hv with e1 e2 e3
  injection e1 with e1
  obtain ⟨rfl⟩ : g = g' := by injection e1
  have hV32 : VC.length = 32 := by rw [hVC, List.length_map, hV]
  have hcl : cur.toList.length = cap * 32 := by rw [Array.length_toList, hcs]
  have hbk : Blk W g cur.toList 47 := hg
  have hle : k * 32 + VC.length ≤ cur.toList.length := by rw [hV32, hcl]; omega
  refine wpList_store_mid hgd 47 x y ho g (k * 32) VC.toArray hx hy (hbk.there _ _ (by rw [List.size_toArray]; omega)) (by rw [List.size_toArray, hV32]; kernel_rfl) (all_oneCell_toArray (by rw [hVC]; exact b8_one _)) ?_
  have hs := Blk.setCells VC W cur.toList (k * 32) hbk hle
  refine h _ ⟨by rw [List.length_set, h1], fun z hz => ?_, ?_, .inr ⟨g, cap, (over cur.toList (k * 32) VC).toArray, by rw [e3], hbg, hs, hnc, hcm, ?_, ?_⟩⟩ (below_setCells hbg VC _ _ _ hb)
  · rcases List.mem_or_eq_of_mem_set hz with hz | hz
    · exact h2 z hz
    · rw [hz]; exact hV
  · rw [List.length_map, flat_len _ (fun z hz => by
      rcases List.mem_or_eq_of_mem_set hz with hz | hz
      · exact h2 z hz
      · rw [hz]; exact hV), List.length_set, h1]
  · rw [List.size_toArray, over_len _ _ _ hle, hcl]
  · show (over cur.toList (k * 32) VC).take (n * 32) = _
    rw [over_take _ _ _ _ (by rw [hV32]; omega) (by rw [hcl]; omega), hct, hVC, flat_set L k V h2 hV (by omega)]
set_option maxRecDepth 100000 in
theorem at_bs0 {dst : Option Tmp} {t : TypeId} {p : String} {af : Array Edge} (ty : TypeId) (h : wpList Tryd.prog ops Q ({ dst := dst, op := .buildSlice ty 0 #[], type := t, pos := p, after := af, guard := none } :: rest) a W) : wpList Tryd.prog ops Q ({ dst := dst, op := .buildSlice ty 0 #[], type := t, pos := p, after := af, guard := none } :: rest) a W := h
set_option maxRecDepth 100000 in
theorem at_app {dst : Option Tmp} {t : TypeId} {p : String} {af : Array Edge} (ty : TypeId) (x y : Operand) (h : wpList Tryd.prog ops Q ({ dst := dst, op := .call { callee := .builtin .append, args := #[x, y], argTypes := #[ty, ty] }, type := t, pos := p, after := af, guard := none } :: rest) a W) : wpList Tryd.prog ops Q ({ dst := dst, op := .call { callee := .builtin .append, args := #[x, y], argTypes := #[ty, ty] }, type := t, pos := p, after := af, guard := none } :: rest) a W := h
end
end Go.Proofs.YtpoinhjkdgcnaaaDoor
