/- Merged texts: MrkB. -/
import Derived.Test.YtpoinhjkdgcnaaaDoorMao
import Derived.Deep.RegionHeld3
/- The contracts of the document's own Node and Root of layer 8. -/
namespace Go.Proofs.YtpoinhjkdgcnaaaDoor
open Go.RowKit
set_option linter.unusedVariables false
set_option linter.unusedSimpArgs false

set_option maxRecDepth 100000 in
theorem zero32 (W : World) : W.alloc (.cells #[.int .u8 0, .int .u8 0, .int .u8 0, .int .u8 0, .int .u8 0, .int .u8 0, .int .u8 0, .int .u8 0, .int .u8 0, .int .u8 0, .int .u8 0, .int .u8 0, .int .u8 0, .int .u8 0, .int .u8 0, .int .u8 0, .int .u8 0, .int .u8 0, .int .u8 0, .int .u8 0, .int .u8 0, .int .u8 0, .int .u8 0, .int .u8 0, .int .u8 0, .int .u8 0, .int .u8 0, .int .u8 0, .int .u8 0, .int .u8 0, .int .u8 0, .int .u8 0] 46) = W.alloc (.cells z32.toArray 46) := rfl
set_option maxRecDepth 100000 in
theorem i32r : (Tryd.prog.info? 46).map (·.size) = some 32 := by kernel_rfl
set_option maxRecDepth 100000 in
set_option maxHeartbeats 8000000 in
theorem dnode_calls (A : Option Addr) (n c : Nat) (L : List (List UInt8)) (w : World) (hr : RdH w A n L) (hn : n ≤ 64) : ∀ (k i : Nat) (W : World), Below w.heap.size w W → k ≤ 20 → i < wide n k →
    Calls Tryd.prog 30 #[.slice A n c, .int .i64 (k : Int), .int .i64 (i : Int)] W (Ret W (.agg ((hat (lev k L) i).map B8).toArray))
  | 0, i, W, hW, _, hi => by
    have hin : i < n := hi
    obtain ⟨b, off, rfl, hlt, hrg⟩ := (hr.below hW).at_ hin
    obtain ⟨V, hV⟩ : ∃ V, V = (hat L i).map B8 := ⟨_, rfl⟩
    have hv32 : V.length = 32 := by rw [hV, List.length_map]; exact hat_32 hr.all (by rw [hr.len]; exact hin)
    have IV : Hid ((Tryd.prog.info? 46).map (·.size) = some V.length) := Lib.hid (by rw [hv32]; exact i32r)
    have LV : Hid (z32.length = V.length) := Lib.hid (by rw [hv32]; rfl)
    have OV : Hid (∀ v ∈ V, v.oneCell' = true) := Lib.hid (by rw [hV]; exact b8_one _)
    rw [← hV] at hrg
    have bi : (i : Int) < (n : Int) := by omega
    have hz : Blk (W.alloc (.cells z32.toArray 46)) W.heap.size z32 46 := Blk.new W _ _
    have hrg1 : (W.alloc (.cells z32.toArray 46)).rangeAt b (off + i * 32) V := fun j v hv => ((below_al (Below.refl _ W) (.cells z32.toArray 46)).cell (p := ⟨b, off + i * 32 + j, none⟩) hlt).trans (hrg j v hv)
    have HB := Lib.hid (below_al (Below.refl _ W) (.cells z32.toArray 46))
    show Calls _ _ _ _ (Ret W (.agg ((hat L i).map B8).toArray))
    rw [← hV]
    obtain ⟨w0, hw0⟩ : ∃ w0, w0 = W.alloc (.cells z32.toArray 46) := ⟨_, rfl⟩
    rw [← hw0] at hz hrg1 HB
    have hw1 : W.alloc (.cells #[.int .u8 0, .int .u8 0, .int .u8 0, .int .u8 0, .int .u8 0, .int .u8 0, .int .u8 0, .int .u8 0, .int .u8 0, .int .u8 0, .int .u8 0, .int .u8 0, .int .u8 0, .int .u8 0, .int .u8 0, .int .u8 0, .int .u8 0, .int .u8 0, .int .u8 0, .int .u8 0, .int .u8 0, .int .u8 0, .int .u8 0, .int .u8 0, .int .u8 0, .int .u8 0, .int .u8 0, .int .u8 0, .int .u8 0, .int .u8 0, .int .u8 0, .int .u8 0] 46) = w0 := hw0.symm
    clear hV hr hrg hv32 hw0 hW
    go_enter Tryd.func30, Tryd.ntmps30
    go_upto_region 1 with fail
    try rw [hw1]
    clear hw1
    go_wp2_with (first
      | ((with_reducible refine at_load 46 (.tmp 12) ?_); refine wpList_load_mid rfl 46 (.tmp 12) rfl b (off + i * 32) (by first | rfl | simp [Act.eval]) V _ hrg1 Tryd.underlying46 rfl IV.out ?_)
      | ((with_reducible refine at_store 46 (.tmp 6) (.tmp 13) ?_); refine wpList_store_blk rfl 46 (.tmp 6) (.tmp 13) rfl W.heap.size z32 V 46 rfl rfl hz LV.out IV.out OV.out ?_; intro w6 hb6 ho6))
    refine bodyPost_ret (v := .agg V.toArray) ?_ rfl ⟨rfl, below_only HB.out ho6 (Nat.le_refl _)⟩
    exact results_one Tryd.results30 _ _ W.heap.size 46 _ (0, 0) _ (by rfl) hb6 Tryd.underlying46 rfl IV.out
  | k + 1, i, W, hW, hk, hi => by
    have hln := hr.len
    have hwk : wide n k ≤ 1000 := by have := wide_le n k; omega
    have hi2 : 2 * i < wide n k := by rw [wide] at hi; omega
    have hlev : (lev k L).length = wide n k := by rw [lev_len, hln]
    have hat1 : hat (lev (k + 1) L) i = pr (hat (lev k L) (2 * i)) (hat (lev k L) (beside (wide n k) i)) := by
      have := abv_at (lev k L) i (by rw [hlev]; exact hi)
      rw [hlev] at this
      exact this
    obtain ⟨kk, hkk⟩ : ∃ kk, kk = k + 1 := ⟨_, rfl⟩
    obtain ⟨a2, ha2⟩ : ∃ a, a = 2 * i := ⟨_, rfl⟩
    obtain ⟨a3, ha3⟩ : ∃ a, a = 2 * i + 1 := ⟨_, rfl⟩
    obtain ⟨wk, hwk'⟩ : ∃ x, x = wide n k := ⟨_, rfl⟩
    rw [← hkk]
    rw [← hkk] at hat1
    rw [← hwk'] at hat1 hwk hi2
    have n0 : ¬ (kk : Int) = 0 := by omega
    have s1 : IntKind.i64.wrap ((kk : Int) - 1) = (k : Int) := by rw [IntKind.wrap_i64]; omega
    have m1 : IntKind.i64.wrap (2 * (i : Int)) = (a2 : Int) := by rw [IntKind.wrap_i64]; omega
    have m2 : IntKind.i64.wrap ((a2 : Int) + 1) = (a3 : Int) := by rw [IntKind.wrap_i64]; omega
    obtain ⟨V1, hV1⟩ : ∃ V, V = (hat (lev k L) a2).map B8 := ⟨_, rfl⟩
    have l1 : (hat (lev k L) a2).length = 32 := hat_32 (lev_32 L hr.all k) (by rw [hlev, ← hwk', ha2]; exact hi2)
    have I1 : Hid ((Tryd.prog.info? 46).map (·.size) = some V1.length) := Lib.hid (by rw [hV1, List.length_map, l1]; exact i32r)
    have L1 : Hid (z32.length = V1.length) := Lib.hid (by rw [hV1, List.length_map, l1]; rfl)
    have O1 : Hid (∀ v ∈ V1, v.oneCell' = true) := Lib.hid (by rw [hV1]; exact b8_one _)
    obtain ⟨V, hV⟩ : ∃ V, V = (hat (lev kk L) i).map B8 := ⟨_, rfl⟩
    have hv32 : V.length = 32 := by rw [hV, List.length_map, hat1, pr_len]
    have IV : Hid ((Tryd.prog.info? 46).map (·.size) = some V.length) := Lib.hid (by rw [hv32]; exact i32r)
    have LV : Hid (z32.length = V.length) := Lib.hid (by rw [hv32]; rfl)
    have OV : Hid (∀ v ∈ V, v.oneCell' = true) := Lib.hid (by rw [hV]; exact b8_one _)
    have hz : Blk (W.alloc (.cells z32.toArray 46)) W.heap.size z32 46 := Blk.new W _ _
    have HB := Lib.hid (below_al (Below.refl _ W) (.cells z32.toArray 46))
    obtain ⟨w0, hw0⟩ : ∃ w0, w0 = W.alloc (.cells z32.toArray 46) := ⟨_, rfl⟩
    rw [← hw0] at hz HB
    have hw1 : W.alloc (.cells #[.int .u8 0, .int .u8 0, .int .u8 0, .int .u8 0, .int .u8 0, .int .u8 0, .int .u8 0, .int .u8 0, .int .u8 0, .int .u8 0, .int .u8 0, .int .u8 0, .int .u8 0, .int .u8 0, .int .u8 0, .int .u8 0, .int .u8 0, .int .u8 0, .int .u8 0, .int .u8 0, .int .u8 0, .int .u8 0, .int .u8 0, .int .u8 0, .int .u8 0, .int .u8 0, .int .u8 0, .int .u8 0, .int .u8 0, .int .u8 0, .int .u8 0, .int .u8 0] 46) = w0 := hw0.symm
    have C1 : Hid (∀ W', Below w0.heap.size w0 W' → Calls Tryd.prog 30 #[.slice A n c, .int .i64 (k : Int), .int .i64 (a2 : Int)] W' (Ret W' (.agg V1.toArray))) := Lib.hid fun W' h => by
      rw [hV1]
      exact dnode_calls A n c L w hr hn k a2 W' (below_more (below_more hW HB.out) h) (by omega) (by rw [← hwk', ha2]; exact hi2)
    have CW : Hid (∀ W', Calls Tryd.prog 29 #[.int .i64 (n : Int), .int .i64 (k : Int)] W' (Ret W' (.int .i64 (wk : Int)))) := Lib.hid fun W' => by rw [hwk']; exact dwide_calls n k (by omega) (by omega) W'
    have ST : Hid (∀ (v1 x1 : World), Below w0.heap.size w0 v1 → Only v1.heap.size (v1.alloc (.cells z32.toArray 46)) x1 → Below w0.heap.size w0 x1) := Lib.hid fun v1 x1 h1 h2 => below_only (below_al h1 _) h2 h1.size
    have hzz := zero32
    by_cases hlast : a3 < wk
    · have hl1 : ¬ (a3 : Int) ≥ (wk : Int) := by omega
      have hl2 : ¬ (wk : Int) ≤ (a3 : Int) := by omega
      obtain ⟨V3, hV3⟩ : ∃ V, V = (hat (lev k L) a3).map B8 := ⟨_, rfl⟩
      have l3 : (hat (lev k L) a3).length = 32 := hat_32 (lev_32 L hr.all k) (by rw [hlev, ← hwk']; exact hlast)
      have hbs : beside wk i = a3 := by unfold beside; rw [← ha3, if_pos hlast]
      have C3 : Hid (∀ W', Below w0.heap.size w0 W' → Calls Tryd.prog 30 #[.slice A n c, .int .i64 (k : Int), .int .i64 (a3 : Int)] W' (Ret W' (.agg V3.toArray))) := Lib.hid fun W' h => by
        rw [hV3]
        exact dnode_calls A n c L w hr hn k a3 W' (below_more (below_more hW HB.out) h) (by omega) (by rw [← hwk']; exact hlast)
      have CP : Hid (∀ W', Calls Tryd.prog 42 #[.agg V1.toArray, .agg V3.toArray] W' (Ret W' (.agg V.toArray))) := Lib.hid fun W' => by
        rw [hV1, hV3, hV, hat1, hbs, ← ha2]
        exact dpair_calls _ _ l1 l3 W'
      rw [← hV]
      clear hV hV1 hV3 l1 l3 hat1 hbs hr hln hlev hw0 hW hv32 hkk ha2 ha3 hwk' hi hi2 hwk hn hk
      go_enter Tryd.func30, Tryd.ntmps30
      go_upto_region 1 with fail
      try rw [hw1]
      clear hw1
      go_upto_region 6 with (first
        | (go_at_call 30; refine (C1.out _ (Below.refl _ _)).mono ?_; rintro e' v1 ⟨rfl, d1⟩)
        | ((with_reducible refine at_store 46 (.tmp 7) (.tmp 19) ?_); refine wpList_store_blk rfl 46 (.tmp 7) (.tmp 19) rfl v1.heap.size z32 V1 46 rfl rfl (Blk.new v1 _ _) L1.out I1.out O1.out ?_; intro x1 hbx hox; have k1 := ST.out v1 x1 d1 hox)
        | (go_at_call 29; refine (CW.out _).mono ?_; rintro e' x2 ⟨rfl, d2⟩))
      have k2 : Below w0.heap.size w0 x2 := below_more k1 d2
      have hb1 := hbx.up d2
      have hz1 := hz.up k2
      have HB1 := Lib.hid (below_more HB.out k2)
      have hgv : W.heap.size < v1.heap.size := Nat.lt_of_lt_of_le hz.lt d1.size
      have C3' : Hid (∀ W', Below x2.heap.size x2 W' → Calls Tryd.prog 30 #[.slice A n c, .int .i64 (k : Int), .int .i64 (a3 : Int)] W' (Ret W' (.agg V3.toArray))) := Lib.hid fun W' h => C3.out W' (below_more k2 h)
      clear hbx hox k1 k2 d1 d2 hz HB C1 C3 CW ST hzz
      refine wp_region_held_drew (S := fun W' => W'.rangeAt v1.heap.size 0 V1) (by kernel_rfl) ?_ (fun hHeld => ?_)
      · exact (hb1.up (by ((repeat (first | with_reducible assumption | with_reducible exact Below.refl _ _ | with_reducible apply below_al | with_reducible apply below_dr | with_reducible refine below_more ?_ (by assumption)))))).range
      refine wpAnyH_take (i := 0) rfl (by kernel_rfl) (by kernel_rfl) (by kernel_rfl) (fun _ _ _ h => h) (yieldsIf_load_mid (by rfl) _ _ rfl _ _ rfl V1 _ (fun w hSw => by (try dsimp only at hSw); go_split_ands; assumption) Tryd.underlying46 rfl I1.out) (by assumption) ?_
      (try simp only [List.getElem_toArray, List.getElem_cons_succ, List.getElem_cons_zero, Act.put, List.setIfInBounds_toArray, List.set_cons_succ, List.set_cons_zero])
      refine wpAnyH_take (i := 1) (v := ?_) rfl (by kernel_rfl) (by kernel_rfl) (by kernel_rfl) (fun _ _ _ h => h) (Or.inl ⟨by rfl, ?_⟩) (by assumption) ?_
      rotate_left 1
      · intro w hSw; (try dsimp only at hSw); simp only [List.getElem_toArray, List.getElem_cons_succ, List.getElem_cons_zero]; go_simp; try (with_reducible rfl)
      (try simp only [List.getElem_toArray, List.getElem_cons_succ, List.getElem_cons_zero, Act.put, List.setIfInBounds_toArray, List.set_cons_succ, List.set_cons_zero])
      refine wpAnyH_take (i := 2) (v := ?_) rfl (by kernel_rfl) (by kernel_rfl) (by kernel_rfl) (fun _ _ _ h => h) (Or.inl ⟨by rfl, ?_⟩) (by assumption) ?_
      rotate_left 1
      · intro w hSw; (try dsimp only at hSw); simp only [List.getElem_toArray, List.getElem_cons_succ, List.getElem_cons_zero]; go_simp; try (with_reducible rfl)
      (try simp only [List.getElem_toArray, List.getElem_cons_succ, List.getElem_cons_zero, Act.put, List.setIfInBounds_toArray, List.set_cons_succ, List.set_cons_zero])
      refine wpAnyH_take (i := 3) (v := ?_) rfl (by kernel_rfl) (by kernel_rfl) (by kernel_rfl) (fun _ _ _ h => h) (Or.inl ⟨by rfl, ?_⟩) (by assumption) ?_
      rotate_left 1
      · intro w hSw; (try dsimp only at hSw); simp only [List.getElem_toArray, List.getElem_cons_succ, List.getElem_cons_zero]; go_simp; try (with_reducible rfl)
      (try simp only [List.getElem_toArray, List.getElem_cons_succ, List.getElem_cons_zero, Act.put, List.setIfInBounds_toArray, List.set_cons_succ, List.set_cons_zero])
      refine wpAnyH_take (i := 4) (v := ?_) rfl (by kernel_rfl) (by kernel_rfl) (by kernel_rfl) (fun _ _ _ h => h) (Or.inl ⟨by rfl, ?_⟩) (by assumption) ?_
      rotate_left 1
      · intro w hSw; (try dsimp only at hSw); simp only [List.getElem_toArray, List.getElem_cons_succ, List.getElem_cons_zero]; go_simp; try (with_reducible rfl)
      (try simp only [List.getElem_toArray, List.getElem_cons_succ, List.getElem_cons_zero, Act.put, List.setIfInBounds_toArray, List.set_cons_succ, List.set_cons_zero])
      refine wpAnyH_take (i := 5) (v := ?_) rfl (by kernel_rfl) (by kernel_rfl) (by kernel_rfl) (fun _ _ _ h => h) (Or.inl ⟨by rfl, ?_⟩) (by assumption) ?_
      rotate_left 1
      · intro w hSw; (try dsimp only at hSw); simp only [List.getElem_toArray, List.getElem_cons_succ, List.getElem_cons_zero]; go_simp; try (with_reducible rfl)
      (try simp only [List.getElem_toArray, List.getElem_cons_succ, List.getElem_cons_zero, Act.put, List.setIfInBounds_toArray, List.set_cons_succ, List.set_cons_zero])
      refine wpAnyH_take (i := 6) (v := ?_) rfl (by kernel_rfl) (by kernel_rfl) (by kernel_rfl) (fun _ _ _ h => h) (Or.inl ⟨by rfl, ?_⟩) (by assumption) ?_
      rotate_left 1
      · intro w hSw; (try dsimp only at hSw); simp only [List.getElem_toArray, List.getElem_cons_succ, List.getElem_cons_zero]; go_simp; try (with_reducible rfl)
      (try simp only [List.getElem_toArray, List.getElem_cons_succ, List.getElem_cons_zero, Act.put, List.setIfInBounds_toArray, List.set_cons_succ, List.set_cons_zero])
      refine wpAnyH_ready (rs := [7]) (by kernel_rfl) (by simp) ?_
      refine AllReadyH.cons rfl (fun K hK => ?_) AllReadyH.nil
      (try simp only [List.getElem_toArray, List.getElem_cons_succ, List.getElem_cons_zero])
      go_simp
      go_at_call 30; refine (C3'.out _ (by ((repeat (first | with_reducible assumption | with_reducible exact Below.refl _ _ | with_reducible apply below_al | with_reducible apply below_dr | with_reducible refine below_more ?_ (by assumption)))))).mono ?_; rintro e' x7 ⟨rfl, d7⟩
      (try (go_wp2_with fail))
      refine hK.out _ _ ?_ (fun hHeld => ?_)
      · exact (hb1.up (by ((repeat (first | with_reducible assumption | with_reducible exact Below.refl _ _ | with_reducible apply below_al | with_reducible apply below_dr | with_reducible refine below_more ?_ (by assumption)))))).range
      clear hK K
      (try simp only [Act.put, List.setIfInBounds_toArray, List.set_cons_succ, List.set_cons_zero])
      refine wpAnyH_ready (rs := [8]) (by kernel_rfl) (by simp) ?_
      refine AllReadyH.cons rfl (fun K hK => ?_) AllReadyH.nil
      (try simp only [List.getElem_toArray, List.getElem_cons_succ, List.getElem_cons_zero])
      go_simp
      go_at_call 42; refine (CP.out _).mono ?_; rintro e' x8 ⟨rfl, d8⟩
      (try (go_wp2_with fail))
      refine hK.out _ _ ?_ (fun hHeld => ?_)
      · exact (hb1.up (by ((repeat (first | with_reducible assumption | with_reducible exact Below.refl _ _ | with_reducible apply below_al | with_reducible apply below_dr | with_reducible refine below_more ?_ (by assumption)))))).range
      clear hK K
      (try simp only [Act.put, List.setIfInBounds_toArray, List.set_cons_succ, List.set_cons_zero])
      refine wpAnyH_ready (rs := [9]) (by kernel_rfl) (by simp) ?_
      refine AllReadyH.cons rfl (fun K hK => ?_) AllReadyH.nil
      (try simp only [List.getElem_toArray, List.getElem_cons_succ, List.getElem_cons_zero])
      refine Eq.mpr (if_pos (by rfl)) ?_
      refine wp_store_in 46 (.tmp 6) (.tmp 40) rfl W.heap.size z32 V 46 rfl rfl (hz1.up (by ((repeat (first | with_reducible assumption | with_reducible exact Below.refl _ _ | with_reducible apply below_al | with_reducible apply below_dr | with_reducible refine below_more ?_ (by assumption)))))) LV.out IV.out OV.out ?_
      intro w6 hb6 ho6
      have hB6 : Below W.heap.size W w6 := below_only (below_more HB1.out (by ((repeat (first | with_reducible assumption | with_reducible exact Below.refl _ _ | with_reducible apply below_al | with_reducible apply below_dr | with_reducible refine below_more ?_ (by assumption)))))) ho6 (Nat.le_refl _)
      refine hK.out _ _ ?_ (fun hHeld => ?_)
      · exact (ho6.blk (hb1.up (by ((repeat (first | with_reducible assumption | with_reducible exact Below.refl _ _ | with_reducible apply below_al | with_reducible apply below_dr | with_reducible refine below_more ?_ (by assumption)))))) (by omega)).range
      clear hK K
      (try simp only [Act.put, List.setIfInBounds_toArray, List.set_cons_succ, List.set_cons_zero])
      refine wpAnyH_done (by kernel_rfl) ?_ _
      go_wp2
      refine bodyPost_ret (v := .agg V.toArray) ?_ rfl ⟨rfl, hB6⟩
      exact results_one Tryd.results30 _ _ W.heap.size 46 _ (0, 0) _ (by rfl) hb6 Tryd.underlying46 rfl IV.out
    · have hl1 : (a3 : Int) ≥ (wk : Int) := by omega
      have hl2 : (wk : Int) ≤ (a3 : Int) := by omega
      have hbs : beside wk i = a2 := by unfold beside; rw [← ha3, if_neg hlast, ← ha2]
      have CP : Hid (∀ W', Calls Tryd.prog 42 #[.agg V1.toArray, .agg V1.toArray] W' (Ret W' (.agg V.toArray))) := Lib.hid fun W' => by
        rw [hV1, hV, hat1, hbs, ← ha2]
        exact dpair_calls _ _ l1 l1 W'
      rw [← hV]
      clear hV hV1 l1 hat1 hbs hr hln hlev hw0 hW hv32 hkk ha2 ha3 hwk' hi hi2 hwk hn hk
      go_enter Tryd.func30, Tryd.ntmps30
      go_upto_region 1 with fail
      try rw [hw1]
      clear hw1
      go_wp2_with (first
        | (go_at_call 30; refine (C1.out _ (Below.refl _ _)).mono ?_; rintro e' v1 ⟨rfl, d1⟩)
        | ((with_reducible refine at_store 46 (.tmp 7) (.tmp 19) ?_); refine wpList_store_blk rfl 46 (.tmp 7) (.tmp 19) rfl v1.heap.size z32 V1 46 rfl rfl (Blk.new v1 _ _) L1.out I1.out O1.out ?_; intro x1 hbx hox; have k1 := ST.out v1 x1 d1 hox)
        | (go_at_call 29; refine (CW.out _).mono ?_; rintro e' x2 ⟨rfl, d2⟩; have hb1 := hbx.up d2; have hz1 := hz.up (below_more k1 d2))
        | ((with_reducible refine at_load 46 (.tmp 7) ?_); refine wpList_load_mid rfl 46 (.tmp 7) rfl v1.heap.size 0 rfl V1 _ hb1.range Tryd.underlying46 rfl I1.out ?_)
        | (go_at_call 42; refine (CP.out _).mono ?_; rintro e' x3 ⟨rfl, d3⟩)
        | ((with_reducible refine at_store 46 (.tmp 6) (.tmp 31) ?_); refine wpList_store_blk rfl 46 (.tmp 6) (.tmp 31) rfl W.heap.size z32 V 46 rfl rfl (hz1.up d3) LV.out IV.out OV.out ?_; intro w6 hb6 ho6))
      refine bodyPost_ret (v := .agg V.toArray) ?_ rfl ⟨rfl, below_only (below_more HB.out (below_more (below_more k1 d2) d3)) ho6 (Nat.le_refl _)⟩
      exact results_one Tryd.results30 _ _ W.heap.size 46 _ (0, 0) _ (by rfl) hb6 Tryd.underlying46 rfl IV.out
end Go.Proofs.YtpoinhjkdgcnaaaDoor
