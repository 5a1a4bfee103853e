/- Merged texts: MrkG. -/
import Derived.Test.YtkhjadecichlkaaDoorMbc
/- The contracts of package merkle's Root and Doubled. -/
namespace Go.Proofs.YtkhjadecichlkaaDoor
open Go.RowKit Go.Shelf
set_option linter.unusedVariables false
set_option linter.unusedSimpArgs false
attribute [local go_sem] Oper.semAt_some

/-- What root holds behind k rounds. -/
def rootC (L : List (List UInt8)) (k : Nat) : List Value := if k ≤ depth L.length then z32 else (rootH L).map B8
set_option maxRecDepth 100000 in
theorem z32_rep : (List.replicate 32 (0 : UInt8)).map B8 = z32 := rfl
set_option maxRecDepth 100000 in
theorem rootC_len (L : List (List UInt8)) (hl : ∀ h ∈ L, h.length = 32) (k : Nat) : (rootC L k).length = 32 := by
  unfold rootC
  split
  · rfl
  · rw [List.length_map, rootH_len L hl]
set_option maxRecDepth 100000 in
theorem rootC_one (L : List (List UInt8)) (k : Nat) : ∀ v ∈ rootC L k, v.oneCell' = true := by
  unfold rootC
  split
  · rw [← z32_rep]; exact b8_one _
  · exact b8_one _
set_option maxRecDepth 100000 in
theorem rootC_next (L : List (List UInt8)) (k : Nat) (hk : k < depth L.length + 1) (h : (lev k L).length ≠ 1) : rootC L (k + 1) = rootC L k := by
  unfold rootC
  by_cases hkd : k = depth L.length
  · subst hkd
    rw [if_neg (by omega), if_pos (Nat.le_refl _)]
    have h0 : ¬ 0 < L.length := fun h0 => h (by rw [lev_len, wide_one _ h0])
    have h1 : L.length = 0 := by omega
    unfold rootH
    rw [if_pos h1, z32_rep]
  · rw [if_pos (by omega), if_pos (by omega)]
set_option maxRecDepth 100000 in
theorem rootC_last (L : List (List UInt8)) (k : Nat) (hk : k < depth L.length + 1) (h : (lev k L).length = 1) : rootC L (k + 1) = (hat (lev k L) 0).map B8 := by
  have hkd : k = depth L.length := by
    rcases Nat.lt_or_ge k (depth L.length) with h1 | h1
    · have := wide_more L.length k h1
      rw [lev_len] at h
      omega
    · omega
  subst hkd
  unfold rootC rootH
  rw [if_neg (by omega)]
  by_cases h0 : L.length = 0
  · rw [depth_small _ (by omega)] at h
    have : (lev 0 L).length = L.length := rfl
    omega
  · rw [if_neg h0]
set_option maxRecDepth 100000 in
set_option maxHeartbeats 4000000 in
theorem groot_calls (A : Option Addr) (n c : Nat) (L : List (List UInt8)) (w : World) (hr : RdH w A n L) (hT : Tab w) (hn : n ≤ 64) (hc : n ≤ c) (hm : c ≤ maxLen) :
    Calls Tryd.prog 10 #[.slice A n c] w (Ret w (.agg ((rootH L).map B8).toArray)) := by
  obtain ⟨w1, hw1⟩ : ∃ w1, w1 = (w.alloc (.cells z32.toArray 25)).alloc (.cells z32.toArray 25) := ⟨_, rfl⟩
  have hln := hr.len
  have h32 := hr.all
  have s1 : w1.heap.size = w.heap.size + 2 := by rw [hw1]; simp
  have hb1 : Below w.heap.size w w1 := by rw [hw1]; exact below2 w _ _
  have hbk0 : Blk w1 w.heap.size z32 25 := by rw [hw1]; exact Blk.alloc (Blk.new w z32.toArray _) _
  have hbk1 : Blk w1 (w.heap.size + 1) z32 25 := by rw [hw1]; exact Blk.new' _ _ _ _ (by simp)
  have hw1' : (w.alloc (.cells #[.int .u8 0, .int .u8 0, .int .u8 0, .int .u8 0, .int .u8 0, .int .u8 0, .int .u8 0, .int .u8 0, .int .u8 0, .int .u8 0, .int .u8 0, .int .u8 0, .int .u8 0, .int .u8 0, .int .u8 0, .int .u8 0, .int .u8 0, .int .u8 0, .int .u8 0, .int .u8 0, .int .u8 0, .int .u8 0, .int .u8 0, .int .u8 0, .int .u8 0, .int .u8 0, .int .u8 0, .int .u8 0, .int .u8 0, .int .u8 0, .int .u8 0, .int .u8 0] 25)).alloc (.cells #[.int .u8 0, .int .u8 0, .int .u8 0, .int .u8 0, .int .u8 0, .int .u8 0, .int .u8 0, .int .u8 0, .int .u8 0, .int .u8 0, .int .u8 0, .int .u8 0, .int .u8 0, .int .u8 0, .int .u8 0, .int .u8 0, .int .u8 0, .int .u8 0, .int .u8 0, .int .u8 0, .int .u8 0, .int .u8 0, .int .u8 0, .int .u8 0, .int .u8 0, .int .u8 0, .int .u8 0, .int .u8 0, .int .u8 0, .int .u8 0, .int .u8 0, .int .u8 0] 25) = w1 := hw1.symm
  have HR := Lib.hid hr
  have HB := Lib.hid hb1
  clear hw1
  refine (callsIn_wide (n := 3)).1 ?_
  refine callsIn_of_wp_marks Tryd.func10 rfl trivial ?_ rfl
  simp only [Tryd.ntmps10, List.size_toArray, List.length_cons, List.length_nil, Nat.reduceAdd, Nat.reduceSub, Array.replicate_succ, Array.replicate_zero, List.push_toArray, List.append_toArray, List.nil_append, List.cons_append]
  gi_wp2_with (refine ⟨trivial, ?_⟩; gi_at_call 19; (try rw [hw1']); refine (callsIn_wide.2 (levels_calls _ _ _ _)).mono ?_; rintro e w' ⟨rfl, rfl⟩)
  obtain ⟨w2, hw2⟩ : ∃ w2, w2 = w1.alloc (.cells #[.slice A n c] 22) := ⟨_, rfl⟩
  have s2 : w2.heap.size = w.heap.size + 3 := by rw [hw2]; simp; omega
  have hb2 : Below w.heap.size w w2 := by rw [hw2]; exact below_al hb1 _
  have hbk2 : Blk w2 (w.heap.size + 2) [.slice A n c] 22 := by rw [hw2]; exact Blk.new' _ _ _ _ s1
  have hb02 : Blk w2 w.heap.size z32 25 := by rw [hw2]; exact hbk0.alloc _
  have hb12 : Blk w2 (w.heap.size + 1) (rootC L 0) 25 := by rw [hw2]; unfold rootC; rw [if_pos (Nat.zero_le _)]; exact hbk1.alloc _
  rw [← hw2]
  clear hw2 hw1' hbk0 hbk1 hb1
  have IR : ∀ k, (Tryd.prog.info? 25).map (·.size) = some (rootC L k).length := fun k => by rw [rootC_len L h32]; kernel_rfl
  have IZ : (Tryd.prog.info? 25).map (·.size) = some z32.length := by kernel_rfl
  refine wpIn_rangeC rfl (by omega) (gf := 27) (lb := #[.pointer (some ⟨w.heap.size + 2, 0, none⟩)]) rfl trivial (enters_of Tryd.func27 (by kernel_rfl) rfl) (depth L.length + 1) (fun i => i = w.heap.size + 1) (fun i hi => by omega) (LevX L)
    (by rw [hln]; exact levels_iter 2 (by omega) A n c L w w2 hr hT hn hc hm hb2 (w.heap.size + 2) (by omega) (hbk2.cell 0) _ (fun i hi => ⟨by omega, by omega⟩)) (fun _ _ _ _ h => h.size) (fun _ _ _ _ _ h hf => h.frm hf)
    (fun k W => Blk W w.heap.size z32 25 ∧ Blk W (w.heap.size + 1) (rootC L k) 25 ∧ Below w.heap.size w W) (fun _ _ => False)
    (fun k T W W' hT h hf => ⟨hf.blk h.1 (fun ht => by have := hT _ ht; omega), hf.blk h.2.1 (fun ht => by have := hT _ ht; omega), h.2.2.trans (hf.below h.2.2.size (fun i hi => by have := hT i hi; omega))⟩)
    (fun _ _ _ _ _ h _ => h) ⟨hb02, hb12, hb2⟩
    (fun args => { tmps := #[.slice A n c, undef, .pointer (some ⟨w.heap.size, 0, none⟩), .pointer (some ⟨w.heap.size + 1, 0, none⟩), args.getD 0 undef, .slice A n c, .func (.func 27) #[] #[.pointer (some ⟨w.heap.size + 2, 0, none⟩)], args.getD 0 undef, undef, undef, undef, undef, undef, undef, undef], defers := [] }) ?assign ?body ?done ?stop
  case assign =>
    rintro l k args W K hk ⟨A', n', c', rfl, _⟩ hK
    gi_wp2
    exact hK
  case body =>
    rintro l k args W hl hk ⟨h0, h1, hb⟩ ⟨A', n', c', rfl, hrd, hc', hm'⟩
    by_cases hn1 : n' = 1
    · subst hn1
      obtain ⟨b, off, rfl, hbS, hblt, hra⟩ := hrd.2.2 (by omega)
      have hra0 := hra 0 (by omega)
      rw [Nat.zero_mul, Nat.add_zero] at hra0
      have hlast := rootC_last L k hk hrd.1
      have LH : (hat (lev k L) 0).length = 32 := hat_32 hrd.2.1 (by rw [hrd.1]; omega)
      obtain ⟨V, hV⟩ : ∃ V, V = (hat (lev k L) 0).map B8 := ⟨_, rfl⟩
      have IV : (Tryd.prog.info? 25).map (·.size) = some V.length := by rw [hV, List.length_map, LH]; kernel_rfl
      have LV : (rootC L k).length = V.length := by rw [rootC_len L h32, hV, List.length_map, LH]
      have OV : ∀ v ∈ V, v.oneCell' = true := by rw [hV]; exact b8_one _
      rw [← hV] at hra0 hlast
      clear hV LH hra hrd
      gi_wp2_with (first
        | ((with_reducible refine ati_load 25 (.tmp 12) ?_); refine wpListIn_load_mid rfl 25 (.tmp 12) rfl b off (by first | rfl | simp [Act.eval]) V _ hra0 Tryd.underlying25 rfl IV ?_)
        | ((with_reducible refine ati_store 25 (.tmp 3) (.tmp 13) ?_); refine wpListIn_store_blk rfl 25 (.tmp 3) (.tmp 13) rfl (w.heap.size + 1) (rootC L k) V _ rfl rfl h1 LV IV OV ?_; intro x1 hx1 ho1))
      exact ⟨⟨ho1.blk h0 (by omega), by rw [hlast]; exact hx1, hb.trans (ho1.below (by omega))⟩, Frm.only ho1 rfl⟩
    · have hne : ¬ (n' : Int) = 1 := by omega
      have hnx := rootC_next L k hk (by rw [hrd.1]; exact hn1)
      gi_wp2
      exact ⟨⟨h0, by rw [hnx]; exact h1, hb⟩, Frm.refl _ _⟩
  case done =>
    rintro D W hD ⟨h0, h1, hb⟩ hK
    have LR : z32.length = (rootC L (depth L.length + 1)).length := by rw [rootC_len L h32]; rfl
    gi_wp2_with (first
      | ((with_reducible refine ati_load 25 (.tmp 3) ?_); refine wpListIn_load_mid rfl 25 (.tmp 3) rfl (w.heap.size + 1) 0 (by first | rfl | simp [Act.eval]) (rootC L (depth L.length + 1)) _ (Blk.range h1) Tryd.underlying25 rfl (IR _) ?_)
      | ((with_reducible refine ati_store 25 (.tmp 2) (.tmp 14) ?_); refine wpListIn_store_blk rfl 25 (.tmp 2) (.tmp 14) rfl w.heap.size z32 (rootC L (depth L.length + 1)) _ rfl rfl h0 LR (IR _) (rootC_one L _) ?_; intro x1 hx1 ho1))
    have hK' : x1.heap[D]? = some (.deferred (some [])) := (ho1.block D (by omega)).trans hK
    refine ⟨by simp, .inl ⟨_, _, rfl, run_takeDeferred hK', ?_⟩⟩
    have hx2 : Blk (x1.putObj D (.deferred none)) w.heap.size (rootC L (depth L.length + 1)) 25 := (World.putObj_heap_other (by omega)).trans hx1
    refine ⟨_, results_cell_row rfl _ _ w.heap.size 25 _ (0, 0) _ (by rfl) hx2 Tryd.underlying25 rfl (IR _), ?_, ?_⟩
    · unfold rootC
      rw [if_neg (by omega)]
    · exact (hb.trans (ho1.below (Nat.le_refl _))).trans ((frm_put x1 D _).below (by have := hb.size; have := ho1.size; omega) (fun i hi => by omega))
  case stop =>
    rintro D c W _ h _
    exact h.elim
set_option maxRecDepth 100000 in
theorem pairs_small (l : List (List UInt8)) (h : l.length ≤ 1) : pairs l = false := pairs_false l (fun i hi => by omega)
set_option maxRecDepth 100000 in
set_option maxHeartbeats 4000000 in
theorem gdoubled_calls (A : Option Addr) (n c : Nat) (L : List (List UInt8)) (w : World) (hr : RdH w A n L) (hT : Tab w) (hn : n ≤ 64) (hc : n ≤ c) (hm : c ≤ maxLen) :
    Calls Tryd.prog 16 #[.slice A n c] w (Ret w (.bool (dbl L))) := by
  obtain ⟨w1, hw1⟩ : ∃ w1, w1 = w.alloc (.cells #[.bool false] 4) := ⟨_, rfl⟩
  have hln := hr.len
  have s1 : w1.heap.size = w.heap.size + 1 := by rw [hw1]; simp
  have hb1 : Below w.heap.size w w1 := by rw [hw1]; exact below_al (Below.refl _ w) _
  have hbk0 : Blk w1 w.heap.size [.bool false] 4 := by rw [hw1]; exact Blk.new w _ _
  have hw1' := hw1.symm
  clear hw1
  refine (callsIn_wide (n := 3)).1 ?_
  refine callsIn_of_wp_marks Tryd.func16 rfl trivial ?_ rfl
  simp only [Tryd.ntmps16, List.size_toArray, List.length_cons, List.length_nil, Nat.reduceAdd, Nat.reduceSub, Array.replicate_succ, Array.replicate_zero, List.push_toArray, List.append_toArray, List.nil_append, List.cons_append]
  gi_wp2_with (refine ⟨trivial, ?_⟩; gi_at_call 19; (try rw [hw1']); refine (callsIn_wide.2 (levels_calls _ _ _ _)).mono ?_; rintro e w' ⟨rfl, rfl⟩)
  obtain ⟨w2, hw2⟩ : ∃ w2, w2 = w1.alloc (.cells #[.slice A n c] 22) := ⟨_, rfl⟩
  have s2 : w2.heap.size = w.heap.size + 2 := by rw [hw2]; simp; omega
  have hb2 : Below w.heap.size w w2 := by rw [hw2]; exact below_al hb1 _
  have hbk2 : Blk w2 (w.heap.size + 1) [.slice A n c] 22 := by rw [hw2]; exact Blk.new' _ _ _ _ s1
  have hb02 : Blk w2 w.heap.size [.bool false] 4 := by rw [hw2]; exact hbk0.alloc _
  rw [← hw2]
  clear hw2 hw1' hbk0 hb1
  refine wpIn_rangeC rfl (by omega) (gf := 27) (lb := #[.pointer (some ⟨w.heap.size + 1, 0, none⟩)]) rfl trivial (enters_of Tryd.func27 (by kernel_rfl) rfl) (depth L.length + 1) (fun i => i = w.heap.size) (fun i hi => by omega) (LevX L)
    (by rw [hln]; exact levels_iter 2 (by omega) A n c L w w2 hr hT hn hc hm hb2 (w.heap.size + 1) (by omega) (hbk2.cell 0) _ (fun i hi => ⟨by omega, by omega⟩)) (fun _ _ _ _ h => h.size) (fun _ _ _ _ _ h hf => h.frm hf)
    (fun k W => Blk W w.heap.size [.bool false] 4 ∧ (∀ i, i < k → pairs (lev i L) = false) ∧ Below w.heap.size w W) (fun c W => Blk W w.heap.size [.bool true] 4 ∧ (c = .ret ∧ dbl L = true) ∧ Below w.heap.size w W)
    (fun k T W W' hT h hf => ⟨hf.blk h.1 (fun ht => by have := hT _ ht; omega), h.2.1, h.2.2.trans (hf.below h.2.2.size (fun i hi => by have := hT i hi; omega))⟩)
    (fun k T W W' hT h hf => ⟨hf.blk h.1 (fun ht => by have := hT _ ht; omega), h.2.1, h.2.2.trans (hf.below h.2.2.size (fun i hi => by have := hT i hi; omega))⟩) ⟨hb02, fun i hi => absurd hi (by omega), hb2⟩
    (fun args => { tmps := #[.slice A n c, undef, .pointer (some ⟨w.heap.size, 0, none⟩), args.getD 0 undef, .slice A n c, .func (.func 27) #[] #[.pointer (some ⟨w.heap.size + 1, 0, none⟩)], args.getD 0 undef, undef, undef], defers := [] }) ?assign ?body ?done ?stop
  case assign =>
    rintro l k args W K hk ⟨A', n', c', rfl, _⟩ hK
    gi_wp2
    exact hK
  case body =>
    rintro l k args W hl hk ⟨h0, hp, hb⟩ ⟨A', n', c', rfl, hrd, hc', hm'⟩
    obtain ⟨B, hB⟩ : ∃ B, B = pairs (lev k L) := ⟨_, rfl⟩
    have h64 : n' ≤ 64 := by rw [← hrd.1, lev_len]; exact wide_64 _ (by omega) k
    have CT := Lib.hid (gtwins_calls A' n' c' (lev k L) W hrd.rd (by omega))
    rw [← hB] at CT
    cases B
    · have hnx : ∀ i, i < k + 1 → pairs (lev i L) = false := fun i hi => by
        rcases Nat.lt_or_ge i k with h | h
        · exact hp i h
        · obtain rfl : i = k := by omega
          exact hB.symm
      clear hB
      gi_wp2_with (refine ⟨trivial, ?_⟩; gi_at_call 25; refine (CallsIn.inRound l (callsIn_wide.2 CT.out)).mono ?_; rintro e w4 ⟨rfl, d4⟩)
      exact ⟨⟨h0.below (d4.mono (Nat.le_refl _)) h0.lt, hnx, hb.trans (d4.mono hb.size)⟩, Frm.of_below d4⟩
    · have hdb : dbl L = true := by
        rcases Nat.lt_or_ge k (depth L.length) with h | h
        · exact dbl_true L k h hB.symm
        · obtain rfl : k = depth L.length := by omega
          rw [pairs_small _ (by rw [lev_len]; exact wide_end _)] at hB
          exact absurd hB (by simp)
      clear hB
      gi_wp2_with (refine ⟨trivial, ?_⟩; gi_at_call 25; refine (CallsIn.inRound l (callsIn_wide.2 CT.out)).mono ?_; rintro e w4 ⟨rfl, d4⟩; have h4 := h0.below (d4.mono (Nat.le_refl _)) h0.lt; have h4c := h4.cell 0; have h4f := h4.free 0)
      have h5 : Blk (w4.setCell ⟨w.heap.size, 0, none⟩ (.bool true)) w.heap.size [.bool true] 4 := Blk.set h4 0 (.bool true)
      exact ⟨⟨h5, ⟨rfl, hdb⟩, (hb.trans (d4.mono hb.size)).setCell (p := ⟨w.heap.size, 0, none⟩) (Nat.le_refl _) _⟩, (Frm.of_below d4).setCell _ _ _ rfl⟩
  case done =>
    rintro D W hD ⟨h0, hp, hb⟩ hK
    have hdb : dbl L = false := dbl_false L (fun k hk => hp k (by omega))
    have h0c := h0.cell 0
    have h0f := h0.free 0
    gi_wp2
    have hK' := (KeepsOthers.setCell W ⟨w.heap.size, 0, none⟩ (.bool false)).same D _ hK rfl
    have h5 : Blk (W.setCell ⟨w.heap.size, 0, none⟩ (.bool false)) w.heap.size [.bool false] 4 := Blk.set h0 0 (.bool false)
    have h6 : Blk ((W.setCell ⟨w.heap.size, 0, none⟩ (.bool false)).putObj D (.deferred none)) w.heap.size [.bool false] 4 := (World.putObj_heap_other (by omega)).trans h5
    have h6c := h6.cell 0
    refine ⟨by simp, .inl ⟨_, _, rfl, run_takeDeferred hK', ?_⟩⟩
    refine ⟨.bool false, ?_, by rw [hdb], (hb.setCell (p := ⟨w.heap.size, 0, none⟩) (Nat.le_refl _) _).trans ((frm_put _ D _).below (by have := hb.size; simp; omega) (fun i hi => by omega))⟩
    simp [results, Tryd.f16, go_sem, h6c]
  case stop =>
    rintro D c W hD ⟨h0, ⟨rfl, hdb⟩, hb⟩ hK
    gi_wp2
    have h6 : Blk (W.putObj D (.deferred none)) w.heap.size [.bool true] 4 := (World.putObj_heap_other (by omega)).trans h0
    have h6c := h6.cell 0
    refine ⟨by simp, .inl ⟨_, _, rfl, run_takeDeferred hK, ?_⟩⟩
    refine ⟨.bool true, ?_, by rw [hdb], hb.trans ((frm_put _ D _).below (by have := hb.size; omega) (fun i hi => by omega))⟩
    simp [results, Tryd.f16, go_sem, h6c]
end Go.Proofs.YtkhjadecichlkaaDoor
