/- Merged texts: MrkZ. -/
import Derived.Test.YtkhjadecichlkaaDoorMbf
/- Lists of hashes within plain regions: an empty list, a list appended to another, a hash stored into a list. -/
namespace Go.Proofs.YtkhjadecichlkaaDoor
open Go.RowKit
set_option linter.unusedVariables false
set_option linter.unusedSimpArgs false

set_option maxRecDepth 100000 in
theorem over_take (C : List Value) (o : Nat) (V : List Value) (N : Nat) (h : o + V.length ≤ N) (hN : N ≤ C.length) : (over C o V).take N = over (C.take N) o V := by
  unfold over
  rw [List.append_assoc, List.take_append, List.take_take, List.length_take, List.take_append, List.drop_take, Nat.min_eq_left (show o ≤ C.length by omega), List.take_of_length_le (show V.length ≤ N - o by omega), List.append_assoc, List.take_take, Nat.min_eq_right (show o ≤ N by omega), Nat.min_eq_left (show o ≤ N by omega), Nat.sub_sub]
set_option maxRecDepth 100000 in
theorem over_len (C : List Value) (o : Nat) (V : List Value) (h : o + V.length ≤ C.length) : (over C o V).length = C.length := by
  unfold over
  rw [List.length_append, List.length_append, List.length_take, List.length_drop, Nat.min_eq_left (by omega)]
  omega
set_option maxRecDepth 100000 in
theorem flat_set : ∀ (L : List (List UInt8)) (k : Nat) (x : List UInt8), (∀ h ∈ L, h.length = 32) → x.length = 32 → k < L.length → ((L.set k x).flatten).map B8 = over (L.flatten.map B8) (k * 32) (x.map B8)
  | [], k, x, _, _, h => by simp at h
  | a :: r, 0, x, hl, hx, _ => by
    have ha := hl a (by simp)
    unfold over
    simp only [List.set_cons_zero, List.flatten_cons, List.map_append, Nat.zero_mul, List.take_zero, List.nil_append, Nat.zero_add, List.length_map, hx]
    rw [List.drop_left' (by rw [List.length_map]; exact ha)]
  | a :: r, k + 1, x, hl, hx, h => by
    have ha := hl a (by simp)
    have ih := flat_set r k x (fun y hy => hl y (by simp [hy])) hx (by simpa using h)
    unfold over at ih ⊢
    simp only [List.set_cons_succ, List.flatten_cons, List.map_append] at ih ⊢
    rw [ih]
    have e1 : (k + 1) * 32 = (a.map B8).length + k * 32 := by rw [List.length_map, ha]; omega
    rw [e1, List.take_length_add_append, Nat.add_assoc, List.drop_length_add_append]
    simp only [List.append_assoc]
section
variable {ops : Array Oper} {rest : List Oper} {o : Oper} {a : Act} {W : World} {Q : Exit → Act → World → Prop}
set_option maxRecDepth 100000 in
theorem wpList_bs0 (hgd : o.guard = none) (ho : o.op = .buildSlice 22 0 #[]) (base : Nat) (w : World) (hb : Below base w W) (hbase : base ≤ w.heap.size)
    (h : ∀ g w', OwnH w' base 25 (some ⟨g, 0, none⟩) 0 0 [] → W.heap.size ≤ g → g < w'.heap.size → Frm (fun _ => False) W w' → Below base w w' → wpList Tryd.prog ops Q rest (a.put o.dst (.slice (some ⟨g, 0, none⟩) 0 0)) w') : wpList Tryd.prog ops Q (o :: rest) a W :=
  wpList_plain hgd fun _ hK => wp_bs0 ho base w hb hbase (fun g w' h1 h2 h3 h4 h5 => hK _ _ (h g w' h1 h2 h3 h4 h5))
set_option maxRecDepth 100000 in
theorem wpList_appHs (hgd : o.guard = none) (s x : Operand) (ho : o.op = .call { callee := .builtin .append, args := #[s, x], argTypes := #[22, 22] })
    (base : Nat) (w : World) (hb : Below base w W) (hbase : base ≤ w.heap.size) (A : Option Addr) (n c : Nat) (L : List (List UInt8)) (hs : a.eval s = .slice A n c) (hown : OwnH W base 25 A n c L) (X : Option Addr) (m c2 : Nat) (L2 : List (List UInt8)) (hx : a.eval x = .slice X m c2) (hr : RdH W X m L2) (hm : 0 < m)
    (hn : n + m ≤ 1000000) (h : ∀ A' c' w', OwnH w' base 25 A' (n + m) c' (L ++ L2) → Frm (fun i => blkOf A = some i) W w' → Below base w w' → wpList Tryd.prog ops Q rest (a.put o.dst (.slice A' (n + m) c')) w') : wpList Tryd.prog ops Q (o :: rest) a W :=
  wpList_plain hgd fun _ hK => wp_appHs s x ho base w hb hbase A n c L hs hown X m c2 L2 hx hr hm hn (fun A' c' w' h1 h2 h3 => hK _ _ (h A' c' w' h1 h2 h3))
set_option maxRecDepth 100000 in
theorem OwnH.form {w : World} {b n c : Nat} {e : TypeId} {A : Option Addr} {L : List (List UInt8)} (h : OwnH w b e A n c L) (hn : 0 < n) : ∃ g, A = some ⟨g, 0, none⟩ ∧ b ≤ g ∧ g < w.heap.size := by
  rcases h.2.2.2 with ⟨_, h0⟩ | ⟨g, cap, cur, hv, hb, hg, _⟩
  · omega
  · injection hv with e1
    exact ⟨g, e1, hb, (Array.getElem?_eq_some_iff.1 hg).1⟩
set_option maxRecDepth 100000 in
theorem wpList_storeH (hgd : o.guard = none) (x y : Operand) (ho : o.op = .store 25 x y) (base : Nat) (w : World) (hb : Below base w W) (g n c : Nat) (L : List (List UInt8)) (hown : OwnH W base 25 (some ⟨g, 0, none⟩) n c L) (k : Nat) (hk : k < n)
    (V : List UInt8) (VC : List Value) (hVC : VC = V.map B8) (hV : V.length = 32) (hx : a.eval x = .pointer (some ⟨g, k * 32, none⟩)) (hy : a.eval y = .agg VC.toArray)
    (h : ∀ w', OwnH w' base 25 (some ⟨g, 0, none⟩) n c (L.set k V) → Below base w w' → wpList Tryd.prog ops Q rest (a.put o.dst undef) w') : wpList Tryd.prog ops Q (o :: rest) a W := by
  obtain ⟨h1, h2, h3, h4⟩ := hown
  rcases h4 with ⟨_, h0⟩ | ⟨g', cap, cur, hv, hbg, hg, hnc, hcm, hcs, hct⟩
  · omega
  injection hv with e1 e2 e3
  injection e1 with e1
  obtain ⟨rfl⟩ : g = g' := by injection e1
  have hV32 : VC.length = 32 := by rw [hVC, List.length_map, hV]
  have hcl : cur.toList.length = cap * 32 := by rw [Array.length_toList, hcs]
  have hbk : Blk W g cur.toList 25 := hg
  have hle : k * 32 + VC.length ≤ cur.toList.length := by rw [hV32, hcl]; omega
  refine wpList_store_mid hgd 25 x y ho g (k * 32) VC.toArray hx hy (hbk.there _ _ (by rw [List.size_toArray]; omega)) (by rw [List.size_toArray, hV32]; kernel_rfl) (all_oneCell_toArray (by rw [hVC]; exact b8_one _)) ?_
  have hs := Blk.setCells VC W cur.toList (k * 32) hbk hle
  refine h _ ⟨by rw [List.length_set, h1], fun z hz => ?_, ?_, .inr ⟨g, cap, (over cur.toList (k * 32) VC).toArray, by rw [e3], hbg, hs, hnc, hcm, ?_, ?_⟩⟩ (below_setCells hbg VC _ _ _ hb)
  · rcases List.mem_or_eq_of_mem_set hz with hz | hz
    · exact h2 z hz
    · rw [hz]; exact hV
  · rw [List.length_map, flat_len _ (fun z hz => by
      rcases List.mem_or_eq_of_mem_set hz with hz | hz
      · exact h2 z hz
      · rw [hz]; exact hV), List.length_set, h1]
  · rw [List.size_toArray, over_len _ _ _ hle, hcl]
  · show (over cur.toList (k * 32) VC).take (n * 32) = _
    rw [over_take _ _ _ _ (by rw [hV32]; omega) (by rw [hcl]; omega), hct, hVC, flat_set L k V h2 hV (by omega)]
set_option maxRecDepth 100000 in
theorem at_bs0 {dst : Option Tmp} {t : TypeId} {p : String} {af : Array Edge} (ty : TypeId) (h : wpList Tryd.prog ops Q ({ dst := dst, op := .buildSlice ty 0 #[], type := t, pos := p, after := af, guard := none } :: rest) a W) : wpList Tryd.prog ops Q ({ dst := dst, op := .buildSlice ty 0 #[], type := t, pos := p, after := af, guard := none } :: rest) a W := h
set_option maxRecDepth 100000 in
theorem at_app {dst : Option Tmp} {t : TypeId} {p : String} {af : Array Edge} (ty : TypeId) (x y : Operand) (h : wpList Tryd.prog ops Q ({ dst := dst, op := .call { callee := .builtin .append, args := #[x, y], argTypes := #[ty, ty] }, type := t, pos := p, after := af, guard := none } :: rest) a W) : wpList Tryd.prog ops Q ({ dst := dst, op := .call { callee := .builtin .append, args := #[x, y], argTypes := #[ty, ty] }, type := t, pos := p, after := af, guard := none } :: rest) a W := h
end
end Go.Proofs.YtkhjadecichlkaaDoor
