/- Merged texts: MrkG BrnM. -/
import Derived.Test.YtpoinhjkdgcnaaaDoorMat
import Derived.Test.YtpoinhjkdgcnaaaDoorMan
import Derived.Test.YtpoinhjkdgcnaaaDoorMaq
/- The contracts of package merkle's Root and Doubled. -/
namespace Go.Proofs.YtpoinhjkdgcnaaaDoor
open Go.RowKit Go.Shelf
set_option linter.unusedVariables false
set_option linter.unusedSimpArgs false
attribute [local go_sem] Oper.semAt_some

/-- What root holds behind k rounds. -/
def rootC (L : List (List UInt8)) (k : Nat) : List Value := if k ≤ depth L.length then z32 else (rootH L).map B8
set_option maxRecDepth 100000 in
theorem z32_rep : (List.replicate 32 (0 : UInt8)).map B8 = z32 := rfl
set_option maxRecDepth 100000 in
theorem rootC_len (L : List (List UInt8)) (hl : ∀ h ∈ L, h.length = 32) (k : Nat) : (rootC L k).length = 32 := by
  unfold rootC
  split
  · rfl
  · rw [List.length_map, rootH_len L hl]
set_option maxRecDepth 100000 in
theorem rootC_one (L : List (List UInt8)) (k : Nat) : ∀ v ∈ rootC L k, v.oneCell' = true := by
  unfold rootC
  split
  · rw [← z32_rep]; exact b8_one _
  · exact b8_one _
set_option maxRecDepth 100000 in
theorem rootC_next (L : List (List UInt8)) (k : Nat) (hk : k < depth L.length + 1) (h : (lev k L).length ≠ 1) : rootC L (k + 1) = rootC L k := by
  unfold rootC
  by_cases hkd : k = depth L.length
  · subst hkd
    rw [if_neg (by omega), if_pos (Nat.le_refl _)]
    have h0 : ¬ 0 < L.length := fun h0 => h (by rw [lev_len, wide_one _ h0])
    have h1 : L.length = 0 := by omega
    unfold rootH
    rw [if_pos h1, z32_rep]
  · rw [if_pos (by omega), if_pos (by omega)]
set_option maxRecDepth 100000 in
theorem rootC_last (L : List (List UInt8)) (k : Nat) (hk : k < depth L.length + 1) (h : (lev k L).length = 1) : rootC L (k + 1) = (hat (lev k L) 0).map B8 := by
  have hkd : k = depth L.length := by
    rcases Nat.lt_or_ge k (depth L.length) with h1 | h1
    · have := wide_more L.length k h1
      rw [lev_len] at h
      omega
    · omega
  subst hkd
  unfold rootC rootH
  rw [if_neg (by omega)]
  by_cases h0 : L.length = 0
  · rw [depth_small _ (by omega)] at h
    have : (lev 0 L).length = L.length := rfl
    omega
  · rw [if_neg h0]
set_option maxRecDepth 100000 in
set_option maxHeartbeats 4000000 in
theorem groot_calls (A : Option Addr) (n c : Nat) (L : List (List UInt8)) (w : World) (hr : RdH w A n L) (hT : Tab w) (hn : n ≤ 64) (hc : n ≤ c) (hm : c ≤ maxLen) :
    Calls Tryd.prog 21 #[.slice A n c] w (Ret w (.agg ((rootH L).map B8).toArray)) := by
  obtain ⟨w1, hw1⟩ : ∃ w1, w1 = (w.alloc (.cells z32.toArray 47)).alloc (.cells z32.toArray 47) := ⟨_, rfl⟩
  have hln := hr.len
  have h32 := hr.all
  have s1 : w1.heap.size = w.heap.size + 2 := by rw [hw1]; simp
  have hb1 : Below w.heap.size w w1 := by rw [hw1]; exact below2 w _ _
  have hbk0 : Blk w1 w.heap.size z32 47 := by rw [hw1]; exact Blk.alloc (Blk.new w z32.toArray _) _
  have hbk1 : Blk w1 (w.heap.size + 1) z32 47 := by rw [hw1]; exact Blk.new' _ _ _ _ (by simp)
  have hw1' : (w.alloc (.cells #[.int .u8 0, .int .u8 0, .int .u8 0, .int .u8 0, .int .u8 0, .int .u8 0, .int .u8 0, .int .u8 0, .int .u8 0, .int .u8 0, .int .u8 0, .int .u8 0, .int .u8 0, .int .u8 0, .int .u8 0, .int .u8 0, .int .u8 0, .int .u8 0, .int .u8 0, .int .u8 0, .int .u8 0, .int .u8 0, .int .u8 0, .int .u8 0, .int .u8 0, .int .u8 0, .int .u8 0, .int .u8 0, .int .u8 0, .int .u8 0, .int .u8 0, .int .u8 0] 47)).alloc (.cells #[.int .u8 0, .int .u8 0, .int .u8 0, .int .u8 0, .int .u8 0, .int .u8 0, .int .u8 0, .int .u8 0, .int .u8 0, .int .u8 0, .int .u8 0, .int .u8 0, .int .u8 0, .int .u8 0, .int .u8 0, .int .u8 0, .int .u8 0, .int .u8 0, .int .u8 0, .int .u8 0, .int .u8 0, .int .u8 0, .int .u8 0, .int .u8 0, .int .u8 0, .int .u8 0, .int .u8 0, .int .u8 0, .int .u8 0, .int .u8 0, .int .u8 0, .int .u8 0] 47) = w1 := hw1.symm
  have HR := Lib.hid hr
  have HB := Lib.hid hb1
  clear hw1
  refine (callsIn_wide (n := 3)).1 ?_
  refine callsIn_of_wp_marks Tryd.func21 rfl trivial ?_ rfl
  simp only [Tryd.ntmps21, List.size_toArray, List.length_cons, List.length_nil, Nat.reduceAdd, Nat.reduceSub, Array.replicate_succ, Array.replicate_zero, List.push_toArray, List.append_toArray, List.nil_append, List.cons_append]
  gi_wp2_with (refine ⟨trivial, ?_⟩; gi_at_call 38; (try rw [hw1']); refine (callsIn_wide.2 (levels_calls _ _ _ _)).mono ?_; rintro e w' ⟨rfl, rfl⟩)
  obtain ⟨w2, hw2⟩ : ∃ w2, w2 = w1.alloc (.cells #[.slice A n c] 24) := ⟨_, rfl⟩
  have s2 : w2.heap.size = w.heap.size + 3 := by rw [hw2]; simp; omega
  have hb2 : Below w.heap.size w w2 := by rw [hw2]; exact below_al hb1 _
  have hbk2 : Blk w2 (w.heap.size + 2) [.slice A n c] 24 := by rw [hw2]; exact Blk.new' _ _ _ _ s1
  have hb02 : Blk w2 w.heap.size z32 47 := by rw [hw2]; exact hbk0.alloc _
  have hb12 : Blk w2 (w.heap.size + 1) (rootC L 0) 47 := by rw [hw2]; unfold rootC; rw [if_pos (Nat.zero_le _)]; exact hbk1.alloc _
  rw [← hw2]
  clear hw2 hw1' hbk0 hbk1 hb1
  have IR : ∀ k, (Tryd.prog.info? 47).map (·.size) = some (rootC L k).length := fun k => by rw [rootC_len L h32]; kernel_rfl
  have IZ : (Tryd.prog.info? 47).map (·.size) = some z32.length := by kernel_rfl
  refine wpIn_rangeC rfl (by omega) (gf := 49) (lb := #[.pointer (some ⟨w.heap.size + 2, 0, none⟩)]) rfl trivial (enters_of Tryd.func49 (by kernel_rfl) rfl) (depth L.length + 1) (fun i => i = w.heap.size + 1) (fun i hi => by omega) (LevX L)
    (by rw [hln]; exact levels_iter 2 (by omega) A n c L w w2 hr hT hn hc hm hb2 (w.heap.size + 2) (by omega) (hbk2.cell 0) _ (fun i hi => ⟨by omega, by omega⟩)) (fun _ _ _ _ h => h.size) (fun _ _ _ _ _ h hf => h.frm hf)
    (fun k W => Blk W w.heap.size z32 47 ∧ Blk W (w.heap.size + 1) (rootC L k) 47 ∧ Below w.heap.size w W) (fun _ _ => False)
    (fun k T W W' hT h hf => ⟨hf.blk h.1 (fun ht => by have := hT _ ht; omega), hf.blk h.2.1 (fun ht => by have := hT _ ht; omega), h.2.2.trans (hf.below h.2.2.size (fun i hi => by have := hT i hi; omega))⟩)
    (fun _ _ _ _ _ h _ => h) ⟨hb02, hb12, hb2⟩
    (fun args => { tmps := #[.slice A n c, undef, .pointer (some ⟨w.heap.size, 0, none⟩), .pointer (some ⟨w.heap.size + 1, 0, none⟩), args.getD 0 undef, .slice A n c, .func (.func 49) #[] #[.pointer (some ⟨w.heap.size + 2, 0, none⟩)], args.getD 0 undef, undef, undef, undef, undef, undef, undef, undef], defers := [] }) ?assign ?body ?done ?stop
  case assign =>
    rintro l k args W K hk ⟨A', n', c', rfl, _⟩ hK
    gi_wp2
    exact hK
  case body =>
    rintro l k args W hl hk ⟨h0, h1, hb⟩ ⟨A', n', c', rfl, hrd, hc', hm'⟩
    by_cases hn1 : n' = 1
    · subst hn1
      obtain ⟨b, off, rfl, hbS, hblt, hra⟩ := hrd.2.2 (by omega)
      have hra0 := hra 0 (by omega)
      rw [Nat.zero_mul, Nat.add_zero] at hra0
      have hlast := rootC_last L k hk hrd.1
      have LH : (hat (lev k L) 0).length = 32 := hat_32 hrd.2.1 (by rw [hrd.1]; omega)
      obtain ⟨V, hV⟩ : ∃ V, V = (hat (lev k L) 0).map B8 := ⟨_, rfl⟩
      have IV : (Tryd.prog.info? 47).map (·.size) = some V.length := by rw [hV, List.length_map, LH]; kernel_rfl
      have LV : (rootC L k).length = V.length := by rw [rootC_len L h32, hV, List.length_map, LH]
      have OV : ∀ v ∈ V, v.oneCell' = true := by rw [hV]; exact b8_one _
      rw [← hV] at hra0 hlast
      clear hV LH hra hrd
      gi_wp2_with (first
        | ((with_reducible refine ati_load 47 (.tmp 12) ?_); refine wpListIn_load_mid rfl 47 (.tmp 12) rfl b off (by first | rfl | simp [Act.eval]) V _ hra0 Tryd.underlying47 rfl IV ?_)
        | ((with_reducible refine ati_store 47 (.tmp 3) (.tmp 13) ?_); refine wpListIn_store_blk rfl 47 (.tmp 3) (.tmp 13) rfl (w.heap.size + 1) (rootC L k) V _ rfl rfl h1 LV IV OV ?_; intro x1 hx1 ho1))
      exact ⟨⟨ho1.blk h0 (by omega), by rw [hlast]; exact hx1, hb.trans (ho1.below (by omega))⟩, Frm.only ho1 rfl⟩
    · have hne : ¬ (n' : Int) = 1 := by omega
      have hnx := rootC_next L k hk (by rw [hrd.1]; exact hn1)
      gi_wp2
      exact ⟨⟨h0, by rw [hnx]; exact h1, hb⟩, Frm.refl _ _⟩
  case done =>
    rintro D W hD ⟨h0, h1, hb⟩ hK
    have LR : z32.length = (rootC L (depth L.length + 1)).length := by rw [rootC_len L h32]; rfl
    gi_wp2_with (first
      | ((with_reducible refine ati_load 47 (.tmp 3) ?_); refine wpListIn_load_mid rfl 47 (.tmp 3) rfl (w.heap.size + 1) 0 (by first | rfl | simp [Act.eval]) (rootC L (depth L.length + 1)) _ (Blk.range h1) Tryd.underlying47 rfl (IR _) ?_)
      | ((with_reducible refine ati_store 47 (.tmp 2) (.tmp 14) ?_); refine wpListIn_store_blk rfl 47 (.tmp 2) (.tmp 14) rfl w.heap.size z32 (rootC L (depth L.length + 1)) _ rfl rfl h0 LR (IR _) (rootC_one L _) ?_; intro x1 hx1 ho1))
    have hK' : x1.heap[D]? = some (.deferred (some [])) := (ho1.block D (by omega)).trans hK
    refine ⟨by simp, .inl ⟨_, _, rfl, run_takeDeferred hK', ?_⟩⟩
    have hx2 : Blk (x1.putObj D (.deferred none)) w.heap.size (rootC L (depth L.length + 1)) 47 := (World.putObj_heap_other (by omega)).trans hx1
    refine ⟨_, results_cell_row rfl _ _ w.heap.size 47 _ (0, 0) _ (by rfl) hx2 Tryd.underlying47 rfl (IR _), ?_, ?_⟩
    · unfold rootC
      rw [if_neg (by omega)]
    · exact (hb.trans (ho1.below (Nat.le_refl _))).trans ((frm_put x1 D _).below (by have := hb.size; have := ho1.size; omega) (fun i hi => by omega))
  case stop =>
    rintro D c W _ h _
    exact h.elim
set_option maxRecDepth 100000 in
theorem pairs_small (l : List (List UInt8)) (h : l.length ≤ 1) : pairs l = false := pairs_false l (fun i hi => by omega)
set_option maxRecDepth 100000 in
set_option maxHeartbeats 4000000 in
theorem gdoubled_calls (A : Option Addr) (n c : Nat) (L : List (List UInt8)) (w : World) (hr : RdH w A n L) (hT : Tab w) (hn : n ≤ 64) (hc : n ≤ c) (hm : c ≤ maxLen) :
    Calls Tryd.prog 23 #[.slice A n c] w (Ret w (.bool (dbl L))) := by
  obtain ⟨w1, hw1⟩ : ∃ w1, w1 = w.alloc (.cells #[.bool false] 4) := ⟨_, rfl⟩
  have hln := hr.len
  have s1 : w1.heap.size = w.heap.size + 1 := by rw [hw1]; simp
  have hb1 : Below w.heap.size w w1 := by rw [hw1]; exact below_al (Below.refl _ w) _
  have hbk0 : Blk w1 w.heap.size [.bool false] 4 := by rw [hw1]; exact Blk.new w _ _
  have hw1' := hw1.symm
  clear hw1
  refine (callsIn_wide (n := 3)).1 ?_
  refine callsIn_of_wp_marks Tryd.func23 rfl trivial ?_ rfl
  simp only [Tryd.ntmps23, List.size_toArray, List.length_cons, List.length_nil, Nat.reduceAdd, Nat.reduceSub, Array.replicate_succ, Array.replicate_zero, List.push_toArray, List.append_toArray, List.nil_append, List.cons_append]
  gi_wp2_with (refine ⟨trivial, ?_⟩; gi_at_call 38; (try rw [hw1']); refine (callsIn_wide.2 (levels_calls _ _ _ _)).mono ?_; rintro e w' ⟨rfl, rfl⟩)
  obtain ⟨w2, hw2⟩ : ∃ w2, w2 = w1.alloc (.cells #[.slice A n c] 24) := ⟨_, rfl⟩
  have s2 : w2.heap.size = w.heap.size + 2 := by rw [hw2]; simp; omega
  have hb2 : Below w.heap.size w w2 := by rw [hw2]; exact below_al hb1 _
  have hbk2 : Blk w2 (w.heap.size + 1) [.slice A n c] 24 := by rw [hw2]; exact Blk.new' _ _ _ _ s1
  have hb02 : Blk w2 w.heap.size [.bool false] 4 := by rw [hw2]; exact hbk0.alloc _
  rw [← hw2]
  clear hw2 hw1' hbk0 hb1
  refine wpIn_rangeC rfl (by omega) (gf := 49) (lb := #[.pointer (some ⟨w.heap.size + 1, 0, none⟩)]) rfl trivial (enters_of Tryd.func49 (by kernel_rfl) rfl) (depth L.length + 1) (fun i => i = w.heap.size) (fun i hi => by omega) (LevX L)
    (by rw [hln]; exact levels_iter 2 (by omega) A n c L w w2 hr hT hn hc hm hb2 (w.heap.size + 1) (by omega) (hbk2.cell 0) _ (fun i hi => ⟨by omega, by omega⟩)) (fun _ _ _ _ h => h.size) (fun _ _ _ _ _ h hf => h.frm hf)
    (fun k W => Blk W w.heap.size [.bool false] 4 ∧ (∀ i, i < k → pairs (lev i L) = false) ∧ Below w.heap.size w W) (fun c W => Blk W w.heap.size [.bool true] 4 ∧ (c = .ret ∧ dbl L = true) ∧ Below w.heap.size w W)
    (fun k T W W' hT h hf => ⟨hf.blk h.1 (fun ht => by have := hT _ ht; omega), h.2.1, h.2.2.trans (hf.below h.2.2.size (fun i hi => by have := hT i hi; omega))⟩)
    (fun k T W W' hT h hf => ⟨hf.blk h.1 (fun ht => by have := hT _ ht; omega), h.2.1, h.2.2.trans (hf.below h.2.2.size (fun i hi => by have := hT i hi; omega))⟩) ⟨hb02, fun i hi => absurd hi (by omega), hb2⟩
    (fun args => { tmps := #[.slice A n c, undef, .pointer (some ⟨w.heap.size, 0, none⟩), args.getD 0 undef, .slice A n c, .func (.func 49) #[] #[.pointer (some ⟨w.heap.size + 1, 0, none⟩)], args.getD 0 undef, undef, undef], defers := [] }) ?assign ?body ?done ?stop
  case assign =>
    rintro l k args W K hk ⟨A', n', c', rfl, _⟩ hK
    gi_wp2
    exact hK
  case body =>
    rintro l k args W hl hk ⟨h0, hp, hb⟩ ⟨A', n', c', rfl, hrd, hc', hm'⟩
    obtain ⟨B, hB⟩ : ∃ B, B = pairs (lev k L) := ⟨_, rfl⟩
    have h64 : n' ≤ 64 := by rw [← hrd.1, lev_len]; exact wide_64 _ (by omega) k
    have CT := Lib.hid (gtwins_calls A' n' c' (lev k L) W hrd.rd (by omega))
    rw [← hB] at CT
    cases B
    · have hnx : ∀ i, i < k + 1 → pairs (lev i L) = false := fun i hi => by
        rcases Nat.lt_or_ge i k with h | h
        · exact hp i h
        · obtain rfl : i = k := by omega
          exact hB.symm
      clear hB
      gi_wp2_with (refine ⟨trivial, ?_⟩; gi_at_call 39; refine (CallsIn.inRound l (callsIn_wide.2 CT.out)).mono ?_; rintro e w4 ⟨rfl, d4⟩)
      exact ⟨⟨h0.below (d4.mono (Nat.le_refl _)) h0.lt, hnx, hb.trans (d4.mono hb.size)⟩, Frm.of_below d4⟩
    · have hdb : dbl L = true := by
        rcases Nat.lt_or_ge k (depth L.length) with h | h
        · exact dbl_true L k h hB.symm
        · obtain rfl : k = depth L.length := by omega
          rw [pairs_small _ (by rw [lev_len]; exact wide_end _)] at hB
          exact absurd hB (by simp)
      clear hB
      gi_wp2_with (refine ⟨trivial, ?_⟩; gi_at_call 39; refine (CallsIn.inRound l (callsIn_wide.2 CT.out)).mono ?_; rintro e w4 ⟨rfl, d4⟩; have h4 := h0.below (d4.mono (Nat.le_refl _)) h0.lt; have h4c := h4.cell 0; have h4f := h4.free 0)
      have h5 : Blk (w4.setCell ⟨w.heap.size, 0, none⟩ (.bool true)) w.heap.size [.bool true] 4 := Blk.set h4 0 (.bool true)
      exact ⟨⟨h5, ⟨rfl, hdb⟩, (hb.trans (d4.mono hb.size)).setCell (p := ⟨w.heap.size, 0, none⟩) (Nat.le_refl _) _⟩, (Frm.of_below d4).setCell _ _ _ rfl⟩
  case done =>
    rintro D W hD ⟨h0, hp, hb⟩ hK
    have hdb : dbl L = false := dbl_false L (fun k hk => hp k (by omega))
    have h0c := h0.cell 0
    have h0f := h0.free 0
    gi_wp2
    have hK' := (KeepsOthers.setCell W ⟨w.heap.size, 0, none⟩ (.bool false)).same D _ hK rfl
    have h5 : Blk (W.setCell ⟨w.heap.size, 0, none⟩ (.bool false)) w.heap.size [.bool false] 4 := Blk.set h0 0 (.bool false)
    have h6 : Blk ((W.setCell ⟨w.heap.size, 0, none⟩ (.bool false)).putObj D (.deferred none)) w.heap.size [.bool false] 4 := (World.putObj_heap_other (by omega)).trans h5
    have h6c := h6.cell 0
    refine ⟨by simp, .inl ⟨_, _, rfl, run_takeDeferred hK', ?_⟩⟩
    refine ⟨.bool false, ?_, by rw [hdb], (hb.setCell (p := ⟨w.heap.size, 0, none⟩) (Nat.le_refl _) _).trans ((frm_put _ D _).below (by have := hb.size; simp; omega) (fun i hi => by omega))⟩
    simp [results, Tryd.f23, go_sem, h6c]
  case stop =>
    rintro D c W hD ⟨h0, ⟨rfl, hdb⟩, hb⟩ hK
    gi_wp2
    have h6 : Blk (W.putObj D (.deferred none)) w.heap.size [.bool true] 4 := (World.putObj_heap_other (by omega)).trans h0
    have h6c := h6.cell 0
    refine ⟨by simp, .inl ⟨_, _, rfl, run_takeDeferred hK, ?_⟩⟩
    refine ⟨.bool true, ?_, by rw [hdb], hb.trans ((frm_put _ D _).below (by have := hb.size; omega) (fun i hi => by omega))⟩
    simp [results, Tryd.f23, go_sem, h6c]
end Go.Proofs.YtpoinhjkdgcnaaaDoor

/- Plain mathematics of layer 9: branches, by levels. -/
namespace Go.Proofs.YtpoinhjkdgcnaaaDoor
set_option linter.unusedVariables false

/-- The place beside a, of n: the last one of an odd number is its own. -/
def sib (n a : Nat) : Nat := if a % 2 = 1 then a - 1 else if a + 1 < n then a + 1 else a
/-- Where leaf i's node stands at level k. -/
def ix (i : Nat) : Nat → Nat
  | 0 => i
  | k + 1 => ix i k / 2
/-- The path of leaf i, up to level t. -/
def pth (L : List (List UInt8)) (i t : Nat) : List (List UInt8) := (List.range t).map fun k => hat (lev k L) (sib (wide L.length k) (ix i k))
set_option maxRecDepth 100000 in
theorem pth_len (L : List (List UInt8)) (i t : Nat) : (pth L i t).length = t := by simp [pth]
set_option maxRecDepth 100000 in
theorem pth_succ (L : List (List UInt8)) (i t : Nat) : pth L i (t + 1) = pth L i t ++ [hat (lev t L) (sib (wide L.length t) (ix i t))] := by simp [pth, List.range_succ]
set_option maxRecDepth 100000 in
theorem pth_at (L : List (List UInt8)) (i t k : Nat) (h : k < t) : hat (pth L i t) k = hat (lev k L) (sib (wide L.length k) (ix i k)) := by
  unfold pth hat
  rw [List.getD_eq_getElem?_getD, List.getElem?_map, List.getElem?_range h]
  rfl
set_option maxRecDepth 100000 in
theorem ix_lt (n i : Nat) (h : i < n) : ∀ k, ix i k < wide n k
  | 0 => h
  | k + 1 => by
    have := ix_lt n i h k
    show ix i k / 2 < (wide n k + 1) / 2
    omega
set_option maxRecDepth 100000 in
theorem sib_lt (n a : Nat) (h : a < n) : sib n a < n := by unfold sib; split <;> (try split) <;> omega
set_option maxRecDepth 100000 in
theorem pth_32 (L : List (List UInt8)) (hl : ∀ h ∈ L, h.length = 32) (i : Nat) (hi : i < L.length) (t : Nat) : ∀ h ∈ pth L i t, h.length = 32 := fun h hh => by
  unfold pth at hh
  obtain ⟨k, _, rfl⟩ := List.mem_map.1 hh
  exact hat_32 (lev_32 L hl k) (by rw [lev_len]; exact sib_lt _ _ (ix_lt _ _ hi k))
/-- The node that is made of a node and what stands beside it. -/
def two (a : Nat) (x b : List UInt8) : List UInt8 := if a % 2 = 0 then pr x b else pr b x
set_option maxRecDepth 100000 in
theorem two_len (a : Nat) (x b : List UInt8) : (two a x b).length = 32 := by unfold two; split <;> exact pr_len _ _
/-- Is a level right? -/
def lvl (n a : Nat) (x b : List UInt8) : Bool := decide (a + 1 = n ∧ a % 2 = 0) == decide (x = b)
/-- The way up, from level k and place a on; n: how many there are at that level. -/
def goUp : Nat → Nat → List UInt8 → List (List UInt8) → Option (List UInt8)
  | _, _, x, [] => some x
  | n, a, x, b :: r => if lvl n a x b then goUp ((n + 1) / 2) (a / 2) (two a x b) r else none
/-- The way up, without asking whether levels are right. -/
def wayUp : Nat → List UInt8 → List (List UInt8) → List UInt8
  | _, x, [] => x
  | a, x, b :: r => wayUp (a / 2) (two a x b) r
set_option maxRecDepth 100000 in
theorem goUp_some : ∀ (P : List (List UInt8)) (n a : Nat) (x y : List UInt8), goUp n a x P = some y → wayUp a x P = y
  | [], _, _, x, y, h => by simpa [goUp, wayUp] using h
  | b :: r, n, a, x, y, h => by
    unfold goUp at h
    split at h
    · exact goUp_some r _ _ _ _ h
    · simp at h
set_option maxRecDepth 100000 in
theorem goUp_32 : ∀ (P : List (List UInt8)) (n a : Nat) (x y : List UInt8), x.length = 32 → goUp n a x P = some y → y.length = 32
  | [], _, _, x, y, hx, h => by simp [goUp] at h; rw [← h]; exact hx
  | b :: r, n, a, x, y, _, h => by
    unfold goUp at h
    split at h
    · exact goUp_32 r _ _ _ _ (two_len _ _ _) h
    · simp at h
/-- What is wrong with a branch's numbers. -/
def rgt (c i : Int) (m : Nat) : Nat := if c < 1 ∨ 65536 < c ∨ i < 0 ∨ c ≤ i then 5 else if m ≠ depth c.toNat then 3 else 0
set_option maxRecDepth 100000 in
theorem rgt_zero {c i : Int} {m : Nat} (h : rgt c i m = 0) : 1 ≤ c ∧ c ≤ 65536 ∧ 0 ≤ i ∧ i < c ∧ m = depth c.toNat := by
  unfold rgt at h
  split at h
  · simp at h
  · split at h
    · simp at h
    · omega
/-- Where a branch leads, and the error. -/
def upE (c i : Int) (P : List (List UInt8)) (leaf : List UInt8) : List UInt8 × Nat :=
  if rgt c i P.length ≠ 0 then (List.replicate 32 0, rgt c i P.length) else
  match goUp c.toNat i.toNat leaf P with
  | some x => (x, 0)
  | none => (List.replicate 32 0, 15)
set_option maxRecDepth 100000 in
theorem upE_len (c i : Int) (P : List (List UInt8)) (leaf : List UInt8) (h : leaf.length = 32) : (upE c i P leaf).1.length = 32 := by
  unfold upE
  split
  · rfl
  · split
    · rename_i x hx; exact goUp_32 P _ _ _ _ h hx
    · rfl
def chk (c i : Int) (P : List (List UInt8)) (root leaf : List UInt8) : Nat := if (upE c i P leaf).2 ≠ 0 then (upE c i P leaf).2 else if (upE c i P leaf).1 = root then 0 else 15
set_option maxRecDepth 100000 in
theorem depth_16 (n : Nat) (h : n ≤ 65536) : depth n ≤ 16 := by
  by_cases hn : n ≤ 1
  · rw [depth_small n hn]; omega
  · have h1 := depth_low n (by omega)
    rcases Nat.lt_or_ge (depth n) 17 with h2 | h2
    · omega
    · have h3 := Nat.pow_le_pow_right (n := 2) (by omega) (show 16 ≤ depth n - 1 by omega)
      omega
set_option maxRecDepth 100000 in
/-- A node and what stands beside it make the node above. -/
theorem two_up (l : List (List UInt8)) (a : Nat) (h : a < l.length) : two a (hat l a) (hat l (sib l.length a)) = hat (abv l) (a / 2) := by
  rw [abv_at l (a / 2) (by omega)]
  unfold two sib beside
  by_cases h2 : a % 2 = 0
  · rw [if_pos h2, if_neg (show ¬ a % 2 = 1 by omega), show 2 * (a / 2) = a by omega]
  · rw [if_neg h2, if_pos (show a % 2 = 1 by omega), show 2 * (a / 2) = a - 1 by omega, if_pos (by omega), show a - 1 + 1 = a by omega]
set_option maxRecDepth 100000 in
/-- The way of a leaf's path, from level k on. -/
theorem way_at (L : List (List UInt8)) (i : Nat) (hi : i < L.length) : ∀ (d k : Nat), wayUp (ix i k) (hat (lev k L) (ix i k)) ((pth L i (k + d)).drop k) = hat (lev (k + d) L) (ix i (k + d))
  | 0, k => by
    rw [List.drop_of_length_le (by rw [pth_len]; omega)]
    rfl
  | d + 1, k => by
    have hk : k < (pth L i (k + (d + 1))).length := by rw [pth_len]; omega
    rw [List.drop_eq_getElem_cons hk]
    have e1 : (pth L i (k + (d + 1)))[k] = hat (lev k L) (sib (wide L.length k) (ix i k)) := by
      have := pth_at L i (k + (d + 1)) k (by omega)
      unfold hat at this
      rw [List.getD_eq_getElem?_getD, List.getElem?_eq_getElem hk] at this
      exact this
    rw [e1]
    show wayUp (ix i k / 2) (two (ix i k) (hat (lev k L) (ix i k)) (hat (lev k L) (sib (wide L.length k) (ix i k)))) _ = _
    have := two_up (lev k L) (ix i k) (by rw [lev_len]; exact ix_lt _ _ hi k)
    rw [lev_len] at this
    rw [this]
    have ih := way_at L i hi d (k + 1)
    rw [show k + 1 + d = k + (d + 1) by omega] at ih
    exact ih
set_option maxRecDepth 100000 in
/-- A made branch leads to the root, where the list isn't doubled. -/
theorem goUp_at (L : List (List UInt8)) (i : Nat) (hi : i < L.length) (hd : dbl L = false) : ∀ (d k : Nat), k + d ≤ depth L.length → goUp (wide L.length k) (ix i k) (hat (lev k L) (ix i k)) ((pth L i (k + d)).drop k) = some (hat (lev (k + d) L) (ix i (k + d)))
  | 0, k, _ => by
    rw [List.drop_of_length_le (by rw [pth_len]; omega)]
    rfl
  | d + 1, k, hkd => by
    have hk : k < (pth L i (k + (d + 1))).length := by rw [pth_len]; omega
    rw [List.drop_eq_getElem_cons hk]
    have e1 : (pth L i (k + (d + 1)))[k] = hat (lev k L) (sib (wide L.length k) (ix i k)) := by
      have := pth_at L i (k + (d + 1)) k (by omega)
      unfold hat at this
      rw [List.getD_eq_getElem?_getD, List.getElem?_eq_getElem hk] at this
      exact this
    rw [e1]
    have hlt := ix_lt L.length i hi k
    have hlv : lvl (wide L.length k) (ix i k) (hat (lev k L) (ix i k)) (hat (lev k L) (sib (wide L.length k) (ix i k))) = true := by
      unfold lvl
      by_cases hl : ix i k + 1 = wide L.length k ∧ ix i k % 2 = 0
      · have e2 : sib (wide L.length k) (ix i k) = ix i k := by unfold sib; rw [if_neg (by omega), if_neg (by omega)]
        rw [e2]
        simp [hl]
      · have hne : hat (lev k L) (ix i k) ≠ hat (lev k L) (sib (wide L.length k) (ix i k)) := fun e => by
          have : dbl L = true := by
            refine dbl_true L k (by omega) (pairs_true (lev k L) (ix i k / 2) (by rw [lev_len]; omega) ?_)
            by_cases h2 : ix i k % 2 = 0
            · have e3 : sib (wide L.length k) (ix i k) = ix i k + 1 := by unfold sib; rw [if_neg (by omega), if_pos (by omega)]
              rw [e3] at e
              rw [show 2 * (ix i k / 2) = ix i k by omega]
              exact e
            · have e3 : sib (wide L.length k) (ix i k) = ix i k - 1 := by unfold sib; rw [if_pos (by omega)]
              rw [e3] at e
              rw [show 2 * (ix i k / 2) = ix i k - 1 by omega, show ix i k - 1 + 1 = ix i k by omega]
              exact e.symm
          rw [hd] at this
          simp at this
        rw [decide_eq_false hl, decide_eq_false hne]
        rfl
    unfold goUp
    rw [if_pos hlv]
    have := two_up (lev k L) (ix i k) (by rw [lev_len]; exact hlt)
    rw [lev_len] at this
    rw [this]
    have ih := goUp_at L i hi hd d (k + 1) (by omega)
    rw [show k + 1 + d = k + (d + 1) by omega] at ih
    exact ih
set_option maxRecDepth 100000 in
theorem ix_top (n i : Nat) (h : i < n) : ix i (depth n) = 0 := by
  have := ix_lt n i h (depth n)
  rw [wide_one n (by omega)] at this
  omega
set_option maxRecDepth 100000 in
theorem top_root (L : List (List UInt8)) (i : Nat) (hi : i < L.length) : hat (lev (depth L.length) L) (ix i (depth L.length)) = rootH L := by
  rw [ix_top _ _ hi]
  unfold rootH
  rw [if_neg (by omega)]
set_option maxRecDepth 100000 in
theorem made_up (L : List (List UInt8)) (i : Nat) (hi : i < L.length) (hd : dbl L = false) : goUp L.length i (hat L i) (pth L i (depth L.length)) = some (rootH L) := by
  have := goUp_at L i hi hd (depth L.length) 0 (by omega)
  rw [Nat.zero_add, List.drop_zero, top_root L i hi] at this
  exact this
set_option maxRecDepth 100000 in
theorem made_way (L : List (List UInt8)) (i : Nat) (hi : i < L.length) : wayUp i (hat L i) (pth L i (depth L.length)) = rootH L := by
  have := way_at L i hi (depth L.length) 0
  rw [Nat.zero_add, List.drop_zero, top_root L i hi] at this
  exact this
/-- Where two ways from a leaf come together by two texts. -/
def meetB : Nat → List UInt8 → List UInt8 → List (List UInt8) → List (List UInt8) → Bool
  | a, x, y, b :: r, c :: s => (decide (two a x b = two a y c) && !(decide (x = y) && decide (b = c))) || meetB (a / 2) (two a x b) (two a y c) r s
  | _, _, _, _, _ => false
set_option maxRecDepth 100000 in
theorem meet_two : ∀ (P Q : List (List UInt8)) (a : Nat) (x y : List UInt8), P.length = Q.length → (x ≠ y ∨ P ≠ Q) → wayUp a x P = wayUp a y Q → meetB a x y P Q = true
  | [], [], a, x, y, _, h, e => by simp [wayUp] at e; simp [e] at h
  | [], _ :: _, a, x, y, hl, _, _ => by simp at hl
  | _ :: _, [], a, x, y, hl, _, _ => by simp at hl
  | b :: r, c :: s, a, x, y, hl, h, e => by
    unfold meetB
    by_cases h1 : x = y ∧ b = c
    · obtain ⟨rfl, rfl⟩ := h1
      have hrs : r ≠ s := fun hrs => by rcases h with h | h; exact h rfl; exact h (by rw [hrs])
      rw [meet_two r s (a / 2) _ _ (by simpa using hl) (.inr hrs) e, Bool.or_true]
    · by_cases h2 : two a x b = two a y c
      · have : (decide (x = y) && decide (b = c)) = false := by
          by_cases hx : x = y
          · have hb : b ≠ c := fun hb => h1 ⟨hx, hb⟩
            simp [hb]
          · simp [hx]
        rw [decide_eq_true h2, this]
        rfl
      · rw [meet_two r s (a / 2) _ _ (by simpa using hl) (.inl h2) e, Bool.or_true]
end Go.Proofs.YtpoinhjkdgcnaaaDoor
