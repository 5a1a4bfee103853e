/- Merged texts: MrkZ MrkG. -/
import Derived.Test.YtnfcnjboeocnmaaDoorMbc
/- Lists of hashes within plain regions: an empty list, a list appended to another, a hash stored into a list. -/
namespace Go.Proofs.YtnfcnjboeocnmaaDoor
open Go.RowKit
set_option linter.unusedVariables false
set_option linter.unusedSimpArgs false

set_option maxRecDepth 100000 in
theorem over_take (C : List Value) (o : Nat) (V : List Value) (N : Nat) (h : o + V.length ≤ N) (hN : N ≤ C.length) : (over C o V).take N = over (C.take N) o V := by
  unfold over
  rw [List.append_assoc, List.take_append, List.take_take, List.length_take, List.take_append, List.drop_take, Nat.min_eq_left (show o ≤ C.length by omega), List.take_of_length_le (show V.length ≤ N - o by omega), List.append_assoc, List.take_take, Nat.min_eq_right (show o ≤ N by omega), Nat.min_eq_left (show o ≤ N by omega), Nat.sub_sub]
set_option maxRecDepth 100000 in
theorem over_len (C : List Value) (o : Nat) (V : List Value) (h : o + V.length ≤ C.length) : (over C o V).length = C.length := by
  unfold over
  rw [List.length_append, List.length_append, List.length_take, List.length_drop, Nat.min_eq_left (by omega)]
  omega
set_option maxRecDepth 100000 in
theorem flat_set : ∀ (L : List (List UInt8)) (k : Nat) (x : List UInt8), (∀ h ∈ L, h.length = 32) → x.length = 32 → k < L.length → ((L.set k x).flatten).map B8 = over (L.flatten.map B8) (k * 32) (x.map B8)
  | [], k, x, _, _, h => by simp at h
  | a :: r, 0, x, hl, hx, _ => by
    have ha := hl a (by simp)
    unfold over
    simp only [List.set_cons_zero, List.flatten_cons, List.map_append, Nat.zero_mul, List.take_zero, List.nil_append, Nat.zero_add, List.length_map, hx]
    rw [List.drop_left' (by rw [List.length_map]; exact ha)]
  | a :: r, k + 1, x, hl, hx, h => by
    have ha := hl a (by simp)
    have ih := flat_set r k x (fun y hy => hl y (by simp [hy])) hx (by simpa using h)
    unfold over at ih ⊢
    simp only [List.set_cons_succ, List.flatten_cons, List.map_append] at ih ⊢
    rw [ih]
    have e1 : (k + 1) * 32 = (a.map B8).length + k * 32 := by rw [List.length_map, ha]; omega
    rw [e1, List.take_length_add_append, Nat.add_assoc, List.drop_length_add_append]
    simp only [List.append_assoc]
section
variable {ops : Array Oper} {rest : List Oper} {o : Oper} {a : Act} {W : World} {Q : Exit → Act → World → Prop}
set_option maxRecDepth 100000 in
theorem wpList_bs0 (hgd : o.guard = none) (ho : o.op = .buildSlice 22 0 #[]) (base : Nat) (w : World) (hb : Below base w W) (hbase : base ≤ w.heap.size)
    (h : ∀ g w', OwnH w' base 35 (some ⟨g, 0, none⟩) 0 0 [] → W.heap.size ≤ g → g < w'.heap.size → Frm (fun _ => False) W w' → Below base w w' → wpList Tryd.prog ops Q rest (a.put o.dst (.slice (some ⟨g, 0, none⟩) 0 0)) w') : wpList Tryd.prog ops Q (o :: rest) a W :=
  wpList_plain hgd fun _ hK => wp_bs0 ho base w hb hbase (fun g w' h1 h2 h3 h4 h5 => hK _ _ (h g w' h1 h2 h3 h4 h5))
set_option maxRecDepth 100000 in
theorem wpList_appHs (hgd : o.guard = none) (s x : Operand) (ho : o.op = .call { callee := .builtin .append, args := #[s, x], argTypes := #[22, 22] })
    (base : Nat) (w : World) (hb : Below base w W) (hbase : base ≤ w.heap.size) (A : Option Addr) (n c : Nat) (L : List (List UInt8)) (hs : a.eval s = .slice A n c) (hown : OwnH W base 35 A n c L) (X : Option Addr) (m c2 : Nat) (L2 : List (List UInt8)) (hx : a.eval x = .slice X m c2) (hr : RdH W X m L2) (hm : 0 < m)
    (hn : n + m ≤ 1000000) (h : ∀ A' c' w', OwnH w' base 35 A' (n + m) c' (L ++ L2) → Frm (fun i => blkOf A = some i) W w' → Below base w w' → wpList Tryd.prog ops Q rest (a.put o.dst (.slice A' (n + m) c')) w') : wpList Tryd.prog ops Q (o :: rest) a W :=
  wpList_plain hgd fun _ hK => wp_appHs s x ho base w hb hbase A n c L hs hown X m c2 L2 hx hr hm hn (fun A' c' w' h1 h2 h3 => hK _ _ (h A' c' w' h1 h2 h3))
set_option maxRecDepth 100000 in
theorem OwnH.form {w : World} {b n c : Nat} {e : TypeId} {A : Option Addr} {L : List (List UInt8)} (h : OwnH w b e A n c L) (hn : 0 < n) : ∃ g, A = some ⟨g, 0, none⟩ ∧ b ≤ g ∧ g < w.heap.size := by
  rcases h.2.2.2 with ⟨_, h0⟩ | ⟨g, cap, cur, hv, hb, hg, _⟩
  · omega
  · injection hv with e1
    exact ⟨g, e1, hb, (Array.getElem?_eq_some_iff.1 hg).1⟩
set_option maxRecDepth 100000 in
theorem wpList_storeH (hgd : o.guard = none) (x y : Operand) (ho : o.op = .store 35 x y) (base : Nat) (w : World) (hb : Below base w W) (g n c : Nat) (L : List (List UInt8)) (hown : OwnH W base 35 (some ⟨g, 0, none⟩) n c L) (k : Nat) (hk : k < n)
    (V : List UInt8) (VC : List Value) (hVC : VC = V.map B8) (hV : V.length = 32) (hx : a.eval x = .pointer (some ⟨g, k * 32, none⟩)) (hy : a.eval y = .agg VC.toArray)
    (h : ∀ w', OwnH w' base 35 (some ⟨g, 0, none⟩) n c (L.set k V) → Below base w w' → wpList Tryd.prog ops Q rest (a.put o.dst undef) w') : wpList Tryd.prog ops Q (o :: rest) a W := by
  obtain ⟨h1, h2, h3, h4⟩ := hown
  rcases h4 with ⟨_, h0⟩ | ⟨g', cap, cur, hv, hbg, hg, hnc, hcm, hcs, hct⟩
  · omega
  injection hv with e1 e2 e3
  injection e1 with e1
  obtain ⟨rfl⟩ : g = g' := by injection e1
  have hV32 : VC.length = 32 := by rw [hVC, List.length_map, hV]
  have hcl : cur.toList.length = cap * 32 := by rw [Array.length_toList, hcs]
  have hbk : Blk W g cur.toList 35 := hg
  have hle : k * 32 + VC.length ≤ cur.toList.length := by rw [hV32, hcl]; omega
  refine wpList_store_mid hgd 35 x y ho g (k * 32) VC.toArray hx hy (hbk.there _ _ (by rw [List.size_toArray]; omega)) (by rw [List.size_toArray, hV32]; kernel_rfl) (all_oneCell_toArray (by rw [hVC]; exact b8_one _)) ?_
  have hs := Blk.setCells VC W cur.toList (k * 32) hbk hle
  refine h _ ⟨by rw [List.length_set, h1], fun z hz => ?_, ?_, .inr ⟨g, cap, (over cur.toList (k * 32) VC).toArray, by rw [e3], hbg, hs, hnc, hcm, ?_, ?_⟩⟩ (below_setCells hbg VC _ _ _ hb)
  · rcases List.mem_or_eq_of_mem_set hz with hz | hz
    · exact h2 z hz
    · rw [hz]; exact hV
  · rw [List.length_map, flat_len _ (fun z hz => by
      rcases List.mem_or_eq_of_mem_set hz with hz | hz
      · exact h2 z hz
      · rw [hz]; exact hV), List.length_set, h1]
  · rw [List.size_toArray, over_len _ _ _ hle, hcl]
  · show (over cur.toList (k * 32) VC).take (n * 32) = _
    rw [over_take _ _ _ _ (by rw [hV32]; omega) (by rw [hcl]; omega), hct, hVC, flat_set L k V h2 hV (by omega)]
set_option maxRecDepth 100000 in
theorem at_bs0 {dst : Option Tmp} {t : TypeId} {p : String} {af : Array Edge} (ty : TypeId) (h : wpList Tryd.prog ops Q ({ dst := dst, op := .buildSlice ty 0 #[], type := t, pos := p, after := af, guard := none } :: rest) a W) : wpList Tryd.prog ops Q ({ dst := dst, op := .buildSlice ty 0 #[], type := t, pos := p, after := af, guard := none } :: rest) a W := h
set_option maxRecDepth 100000 in
theorem at_app {dst : Option Tmp} {t : TypeId} {p : String} {af : Array Edge} (ty : TypeId) (x y : Operand) (h : wpList Tryd.prog ops Q ({ dst := dst, op := .call { callee := .builtin .append, args := #[x, y], argTypes := #[ty, ty] }, type := t, pos := p, after := af, guard := none } :: rest) a W) : wpList Tryd.prog ops Q ({ dst := dst, op := .call { callee := .builtin .append, args := #[x, y], argTypes := #[ty, ty] }, type := t, pos := p, after := af, guard := none } :: rest) a W := h
end
end Go.Proofs.YtnfcnjboeocnmaaDoor

/- The contracts of package merkle's Root and Doubled. -/
namespace Go.Proofs.YtnfcnjboeocnmaaDoor
open Go.RowKit Go.Shelf
set_option linter.unusedVariables false
set_option linter.unusedSimpArgs false
attribute [local go_sem] Oper.semAt_some

/-- What root holds behind k rounds. -/
def rootC (L : List (List UInt8)) (k : Nat) : List Value := if k ≤ depth L.length then z32 else (rootH L).map B8
set_option maxRecDepth 100000 in
theorem z32_rep : (List.replicate 32 (0 : UInt8)).map B8 = z32 := rfl
set_option maxRecDepth 100000 in
theorem rootC_len (L : List (List UInt8)) (hl : ∀ h ∈ L, h.length = 32) (k : Nat) : (rootC L k).length = 32 := by
  unfold rootC
  split
  · rfl
  · rw [List.length_map, rootH_len L hl]
set_option maxRecDepth 100000 in
theorem rootC_one (L : List (List UInt8)) (k : Nat) : ∀ v ∈ rootC L k, v.oneCell' = true := by
  unfold rootC
  split
  · rw [← z32_rep]; exact b8_one _
  · exact b8_one _
set_option maxRecDepth 100000 in
theorem rootC_next (L : List (List UInt8)) (k : Nat) (hk : k < depth L.length + 1) (h : (lev k L).length ≠ 1) : rootC L (k + 1) = rootC L k := by
  unfold rootC
  by_cases hkd : k = depth L.length
  · subst hkd
    rw [if_neg (by omega), if_pos (Nat.le_refl _)]
    have h0 : ¬ 0 < L.length := fun h0 => h (by rw [lev_len, wide_one _ h0])
    have h1 : L.length = 0 := by omega
    unfold rootH
    rw [if_pos h1, z32_rep]
  · rw [if_pos (by omega), if_pos (by omega)]
set_option maxRecDepth 100000 in
theorem rootC_last (L : List (List UInt8)) (k : Nat) (hk : k < depth L.length + 1) (h : (lev k L).length = 1) : rootC L (k + 1) = (hat (lev k L) 0).map B8 := by
  have hkd : k = depth L.length := by
    rcases Nat.lt_or_ge k (depth L.length) with h1 | h1
    · have := wide_more L.length k h1
      rw [lev_len] at h
      omega
    · omega
  subst hkd
  unfold rootC rootH
  rw [if_neg (by omega)]
  by_cases h0 : L.length = 0
  · rw [depth_small _ (by omega)] at h
    have : (lev 0 L).length = L.length := rfl
    omega
  · rw [if_neg h0]
set_option maxRecDepth 100000 in
set_option maxHeartbeats 4000000 in
theorem groot_calls (A : Option Addr) (n c : Nat) (L : List (List UInt8)) (w : World) (hr : RdH w A n L) (hT : Tab w) (hn : n ≤ 64) (hc : n ≤ c) (hm : c ≤ maxLen) :
    Calls Tryd.prog 20 #[.slice A n c] w (Ret w (.agg ((rootH L).map B8).toArray)) := by
  obtain ⟨w1, hw1⟩ : ∃ w1, w1 = (w.alloc (.cells z32.toArray 35)).alloc (.cells z32.toArray 35) := ⟨_, rfl⟩
  have hln := hr.len
  have h32 := hr.all
  have s1 : w1.heap.size = w.heap.size + 2 := by rw [hw1]; simp
  have hb1 : Below w.heap.size w w1 := by rw [hw1]; exact below2 w _ _
  have hbk0 : Blk w1 w.heap.size z32 35 := by rw [hw1]; exact Blk.alloc (Blk.new w z32.toArray _) _
  have hbk1 : Blk w1 (w.heap.size + 1) z32 35 := by rw [hw1]; exact Blk.new' _ _ _ _ (by simp)
  have hw1' : (w.alloc (.cells #[.int .u8 0, .int .u8 0, .int .u8 0, .int .u8 0, .int .u8 0, .int .u8 0, .int .u8 0, .int .u8 0, .int .u8 0, .int .u8 0, .int .u8 0, .int .u8 0, .int .u8 0, .int .u8 0, .int .u8 0, .int .u8 0, .int .u8 0, .int .u8 0, .int .u8 0, .int .u8 0, .int .u8 0, .int .u8 0, .int .u8 0, .int .u8 0, .int .u8 0, .int .u8 0, .int .u8 0, .int .u8 0, .int .u8 0, .int .u8 0, .int .u8 0, .int .u8 0] 35)).alloc (.cells #[.int .u8 0, .int .u8 0, .int .u8 0, .int .u8 0, .int .u8 0, .int .u8 0, .int .u8 0, .int .u8 0, .int .u8 0, .int .u8 0, .int .u8 0, .int .u8 0, .int .u8 0, .int .u8 0, .int .u8 0, .int .u8 0, .int .u8 0, .int .u8 0, .int .u8 0, .int .u8 0, .int .u8 0, .int .u8 0, .int .u8 0, .int .u8 0, .int .u8 0, .int .u8 0, .int .u8 0, .int .u8 0, .int .u8 0, .int .u8 0, .int .u8 0, .int .u8 0] 35) = w1 := hw1.symm
  have HR := Lib.hid hr
  have HB := Lib.hid hb1
  clear hw1
  refine (callsIn_wide (n := 3)).1 ?_
  refine callsIn_of_wp_marks Tryd.func20 rfl trivial ?_ rfl
  simp only [Tryd.ntmps20, List.size_toArray, List.length_cons, List.length_nil, Nat.reduceAdd, Nat.reduceSub, Array.replicate_succ, Array.replicate_zero, List.push_toArray, List.append_toArray, List.nil_append, List.cons_append]
  gi_wp2_with (refine ⟨trivial, ?_⟩; gi_at_call 31; (try rw [hw1']); refine (callsIn_wide.2 (levels_calls _ _ _ _)).mono ?_; rintro e w' ⟨rfl, rfl⟩)
  obtain ⟨w2, hw2⟩ : ∃ w2, w2 = w1.alloc (.cells #[.slice A n c] 22) := ⟨_, rfl⟩
  have s2 : w2.heap.size = w.heap.size + 3 := by rw [hw2]; simp; omega
  have hb2 : Below w.heap.size w w2 := by rw [hw2]; exact below_al hb1 _
  have hbk2 : Blk w2 (w.heap.size + 2) [.slice A n c] 22 := by rw [hw2]; exact Blk.new' _ _ _ _ s1
  have hb02 : Blk w2 w.heap.size z32 35 := by rw [hw2]; exact hbk0.alloc _
  have hb12 : Blk w2 (w.heap.size + 1) (rootC L 0) 35 := by rw [hw2]; unfold rootC; rw [if_pos (Nat.zero_le _)]; exact hbk1.alloc _
  rw [← hw2]
  clear hw2 hw1' hbk0 hbk1 hb1
  have IR : ∀ k, (Tryd.prog.info? 35).map (·.size) = some (rootC L k).length := fun k => by rw [rootC_len L h32]; kernel_rfl
  have IZ : (Tryd.prog.info? 35).map (·.size) = some z32.length := by kernel_rfl
  refine wpIn_rangeC rfl (by omega) (gf := 35) (lb := #[.pointer (some ⟨w.heap.size + 2, 0, none⟩)]) rfl trivial (enters_of Tryd.func35 (by kernel_rfl) rfl) (depth L.length + 1) (fun i => i = w.heap.size + 1) (fun i hi => by omega) (LevX L)
    (by rw [hln]; exact levels_iter 2 (by omega) A n c L w w2 hr hT hn hc hm hb2 (w.heap.size + 2) (by omega) (hbk2.cell 0) _ (fun i hi => ⟨by omega, by omega⟩)) (fun _ _ _ _ h => h.size) (fun _ _ _ _ _ h hf => h.frm hf)
    (fun k W => Blk W w.heap.size z32 35 ∧ Blk W (w.heap.size + 1) (rootC L k) 35 ∧ Below w.heap.size w W) (fun _ _ => False)
    (fun k T W W' hT h hf => ⟨hf.blk h.1 (fun ht => by have := hT _ ht; omega), hf.blk h.2.1 (fun ht => by have := hT _ ht; omega), h.2.2.trans (hf.below h.2.2.size (fun i hi => by have := hT i hi; omega))⟩)
    (fun _ _ _ _ _ h _ => h) ⟨hb02, hb12, hb2⟩
    (fun args => { tmps := #[.slice A n c, undef, .pointer (some ⟨w.heap.size, 0, none⟩), .pointer (some ⟨w.heap.size + 1, 0, none⟩), args.getD 0 undef, .slice A n c, .func (.func 35) #[] #[.pointer (some ⟨w.heap.size + 2, 0, none⟩)], args.getD 0 undef, undef, undef, undef, undef, undef, undef, undef], defers := [] }) ?assign ?body ?done ?stop
  case assign =>
    rintro l k args W K hk ⟨A', n', c', rfl, _⟩ hK
    gi_wp2
    exact hK
  case body =>
    rintro l k args W hl hk ⟨h0, h1, hb⟩ ⟨A', n', c', rfl, hrd, hc', hm'⟩
    by_cases hn1 : n' = 1
    · subst hn1
      obtain ⟨b, off, rfl, hbS, hblt, hra⟩ := hrd.2.2 (by omega)
      have hra0 := hra 0 (by omega)
      rw [Nat.zero_mul, Nat.add_zero] at hra0
      have hlast := rootC_last L k hk hrd.1
      have LH : (hat (lev k L) 0).length = 32 := hat_32 hrd.2.1 (by rw [hrd.1]; omega)
      obtain ⟨V, hV⟩ : ∃ V, V = (hat (lev k L) 0).map B8 := ⟨_, rfl⟩
      have IV : (Tryd.prog.info? 35).map (·.size) = some V.length := by rw [hV, List.length_map, LH]; kernel_rfl
      have LV : (rootC L k).length = V.length := by rw [rootC_len L h32, hV, List.length_map, LH]
      have OV : ∀ v ∈ V, v.oneCell' = true := by rw [hV]; exact b8_one _
      rw [← hV] at hra0 hlast
      clear hV LH hra hrd
      gi_wp2_with (first
        | ((with_reducible refine ati_load 35 (.tmp 12) ?_); refine wpListIn_load_mid rfl 35 (.tmp 12) rfl b off (by first | rfl | simp [Act.eval]) V _ hra0 Tryd.underlying35 rfl IV ?_)
        | ((with_reducible refine ati_store 35 (.tmp 3) (.tmp 13) ?_); refine wpListIn_store_blk rfl 35 (.tmp 3) (.tmp 13) rfl (w.heap.size + 1) (rootC L k) V _ rfl rfl h1 LV IV OV ?_; intro x1 hx1 ho1))
      exact ⟨⟨ho1.blk h0 (by omega), by rw [hlast]; exact hx1, hb.trans (ho1.below (by omega))⟩, Frm.only ho1 rfl⟩
    · have hne : ¬ (n' : Int) = 1 := by omega
      have hnx := rootC_next L k hk (by rw [hrd.1]; exact hn1)
      gi_wp2
      exact ⟨⟨h0, by rw [hnx]; exact h1, hb⟩, Frm.refl _ _⟩
  case done =>
    rintro D W hD ⟨h0, h1, hb⟩ hK
    have LR : z32.length = (rootC L (depth L.length + 1)).length := by rw [rootC_len L h32]; rfl
    gi_wp2_with (first
      | ((with_reducible refine ati_load 35 (.tmp 3) ?_); refine wpListIn_load_mid rfl 35 (.tmp 3) rfl (w.heap.size + 1) 0 (by first | rfl | simp [Act.eval]) (rootC L (depth L.length + 1)) _ (Blk.range h1) Tryd.underlying35 rfl (IR _) ?_)
      | ((with_reducible refine ati_store 35 (.tmp 2) (.tmp 14) ?_); refine wpListIn_store_blk rfl 35 (.tmp 2) (.tmp 14) rfl w.heap.size z32 (rootC L (depth L.length + 1)) _ rfl rfl h0 LR (IR _) (rootC_one L _) ?_; intro x1 hx1 ho1))
    have hK' : x1.heap[D]? = some (.deferred (some [])) := (ho1.block D (by omega)).trans hK
    refine ⟨by simp, .inl ⟨_, _, rfl, run_takeDeferred hK', ?_⟩⟩
    have hx2 : Blk (x1.putObj D (.deferred none)) w.heap.size (rootC L (depth L.length + 1)) 35 := (World.putObj_heap_other (by omega)).trans hx1
    refine ⟨_, results_cell_row rfl _ _ w.heap.size 35 _ (0, 0) _ (by rfl) hx2 Tryd.underlying35 rfl (IR _), ?_, ?_⟩
    · unfold rootC
      rw [if_neg (by omega)]
    · exact (hb.trans (ho1.below (Nat.le_refl _))).trans ((frm_put x1 D _).below (by have := hb.size; have := ho1.size; omega) (fun i hi => by omega))
  case stop =>
    rintro D c W _ h _
    exact h.elim
set_option maxRecDepth 100000 in
theorem pairs_small (l : List (List UInt8)) (h : l.length ≤ 1) : pairs l = false := pairs_false l (fun i hi => by omega)
end Go.Proofs.YtnfcnjboeocnmaaDoor
