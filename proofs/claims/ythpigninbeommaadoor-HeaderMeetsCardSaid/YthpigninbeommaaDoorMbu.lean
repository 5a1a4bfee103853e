/- Merged texts: HdrF. -/
import Derived.Test.YthpigninbeommaaDoorMaw
import Derived.Test.YthpigninbeommaaDoorMas
import Derived.Test.YthpigninbeommaaDoorMbp
import Derived.Test.YthpigninbeommaaDoorMbo
import Derived.Test.YthpigninbeommaaDoorMbt
import Derived.Deep.RegionHeld3
/- The contracts of package header's own within and Meets. -/
namespace Go.Proofs.YthpigninbeommaaDoor
open Go.RowKit
set_option linter.unusedVariables false
set_option linter.unusedSimpArgs false

set_option maxRecDepth 100000 in
theorem numL_32 {l : List UInt8} (h : l.length = 32) : numL l < 2 ^ 256 := by
  have h1 := numL_lt l
  rw [h] at h1
  have h2 : (256 : Nat) ^ 32 = 2 ^ 256 := by decide
  omega
set_option maxRecDepth 100000 in
theorem cmp_le (x y : Nat) : decide (cmpN x y ≤ 0) = decide (x ≤ y) := by
  unfold cmpN
  rcases Nat.lt_trichotomy x y with h | h | h
  · rw [if_neg (by omega), if_pos h]; simp; omega
  · rw [if_pos h]; simp; omega
  · rw [if_neg (by omega), if_neg (by omega)]; simp; omega
set_option maxRecDepth 100000 in
set_option maxHeartbeats 4000000 in
theorem within_calls (l : List UInt8) (hl : l.length = 32) (t : Nat) (ht : t < 2 ^ 256) (B : Bool) (hB : decide (numL l ≤ t) = B) (w : World) : Calls Tryd.prog 30 #[.agg (l.map B8).toArray, .agg (cellsW (wd t)).toArray] w (Ret w (.bool B)) := by
  obtain ⟨V, hV⟩ : ∃ V, V = l.map B8 := ⟨_, rfl⟩
  obtain ⟨Y, hY⟩ : ∃ Y, Y = cellsW (wd t) := ⟨_, rfl⟩
  obtain ⟨N, hN⟩ : ∃ N, N = cellsW (wd (numL l)) := ⟨_, rfl⟩
  obtain ⟨cc, hcc⟩ : ∃ cc, cc = cmpN (numL l) t := ⟨_, rfl⟩
  have hc : decide (cc ≤ 0) = B := by rw [hcc, cmp_le, hB]
  have IV : Hid ((Tryd.prog.info? 24).map (·.size) = some V.length) := Lib.hid (by
    rw [hV, List.length_map, hl]
    kernel_rfl)
  have IY : Hid ((Tryd.prog.info? 61).map (·.size) = some Y.length) := Lib.hid (by rw [hY]; exact sizeW _)
  have CL : Hid (∀ W, Calls Tryd.prog 43 #[.agg V.toArray] W (Ret W (.agg N.toArray))) := Lib.hid fun W => by rw [hV, hN]; exact wlittle_calls l W hl
  have CC : Hid (∀ W, Calls Tryd.prog 44 #[.agg N.toArray, .agg Y.toArray] W (Ret W (.int .i64 cc))) := Lib.hid fun W => by rw [hN, hY, hcc]; exact cmp_calls _ _ W (numL_32 hl) ht
  have hb0 : Blk ((w.alloc (.cells V.toArray 24)).alloc (.cells Y.toArray 61)) w.heap.size V 24 := Blk.alloc (Blk.new w V.toArray _) _
  have hb1 : Blk ((w.alloc (.cells V.toArray 24)).alloc (.cells Y.toArray 61)) (w.heap.size + 1) Y 61 := Blk.new' _ _ _ _ (by simp)
  have HB := Lib.hid (below2 w (.cells V.toArray 24) (.cells Y.toArray 61))
  obtain ⟨w0, hw0⟩ : ∃ w0, w0 = (w.alloc (.cells V.toArray 24)).alloc (.cells Y.toArray 61) := ⟨_, rfl⟩
  rw [← hw0] at hb0 hb1 HB
  have K0 : Hid (∀ W, Below w0.heap.size w0 W → W.rangeAt w.heap.size 0 V ∧ W.rangeAt (w.heap.size + 1) 0 Y) := Lib.hid fun W h => ⟨(hb0.up h).range, (hb1.up h).range⟩
  rw [← hV, ← hY]
  clear hV hY hN hcc hb0 hb1 hB hl ht
  go_enter Tryd.func30, Tryd.ntmps30
  go_upto_region 1 with fail
  rw [← hw0]
  clear hw0
  refine wp_region_held_drew (S := fun W => W.rangeAt w.heap.size 0 V ∧ W.rangeAt (w.heap.size + 1) 0 Y) (by kernel_rfl) ?_ (fun hHeld => ?_)
  · exact K0.out _ (by ((repeat (first | with_reducible assumption | with_reducible exact Below.refl _ _ | with_reducible apply below_al | with_reducible apply below_dr | with_reducible refine below_more ?_ (by assumption)))))
  refine wpAnyH_take (i := 0) rfl (by kernel_rfl) (by kernel_rfl) (by kernel_rfl) (fun _ _ _ h => h) (yieldsIf_load_mid (by rfl) _ _ rfl _ _ rfl V _ (fun w hSw => by (try dsimp only at hSw); go_split_ands; assumption) Tryd.underlying24 rfl IV.out) (by assumption) ?_
  (try simp only [List.getElem_toArray, List.getElem_cons_succ, List.getElem_cons_zero, Act.put, List.setIfInBounds_toArray, List.set_cons_succ, List.set_cons_zero])
  refine wpAnyH_take (i := 2) rfl (by kernel_rfl) (by kernel_rfl) (by kernel_rfl) (fun _ _ _ h => h) (yieldsIf_load_mid (by rfl) _ _ rfl _ _ rfl Y _ (fun w hSw => by (try dsimp only at hSw); go_split_ands; assumption) Tryd.underlying61 rfl IY.out) (by assumption) ?_
  (try simp only [List.getElem_toArray, List.getElem_cons_succ, List.getElem_cons_zero, Act.put, List.setIfInBounds_toArray, List.set_cons_succ, List.set_cons_zero])
  refine wpAnyH_ready (rs := [1]) (by kernel_rfl) (by simp) ?_
  refine AllReadyH.cons rfl (fun K hK => ?_) AllReadyH.nil
  (try simp only [List.getElem_toArray, List.getElem_cons_succ, List.getElem_cons_zero])
  go_simp
  go_at_call 43; refine (CL.out _).mono ?_; rintro e' x1 ⟨rfl, d1⟩
  (try (go_wp2_with fail))
  refine hK.out _ _ ?_ (fun hHeld => ?_)
  · exact K0.out _ (by ((repeat (first | with_reducible assumption | with_reducible exact Below.refl _ _ | with_reducible apply below_al | with_reducible apply below_dr | with_reducible refine below_more ?_ (by assumption)))))
  clear hK K
  (try simp only [Act.put, List.setIfInBounds_toArray, List.set_cons_succ, List.set_cons_zero])
  refine wpAnyH_ready (rs := [3]) (by kernel_rfl) (by simp) ?_
  refine AllReadyH.cons rfl (fun K hK => ?_) AllReadyH.nil
  (try simp only [List.getElem_toArray, List.getElem_cons_succ, List.getElem_cons_zero])
  go_simp
  go_at_call 44; refine (CC.out _).mono ?_; rintro e' x3 ⟨rfl, d3⟩
  (try (go_wp2_with fail))
  refine hK.out _ _ ?_ (fun hHeld => ?_)
  · exact K0.out _ (by ((repeat (first | with_reducible assumption | with_reducible exact Below.refl _ _ | with_reducible apply below_al | with_reducible apply below_dr | with_reducible refine below_more ?_ (by assumption)))))
  clear hK K
  (try simp only [Act.put, List.setIfInBounds_toArray, List.set_cons_succ, List.set_cons_zero])
  refine wpAnyH_take (i := 4) (v := ?_) rfl (by kernel_rfl) (by kernel_rfl) (by kernel_rfl) (fun _ _ _ h => h) (Or.inl ⟨by rfl, ?_⟩) (by assumption) ?_
  rotate_left 1
  · intro w hSw; (try dsimp only at hSw); simp only [List.getElem_toArray, List.getElem_cons_succ, List.getElem_cons_zero]; go_simp; try (with_reducible rfl)
  (try simp only [List.getElem_toArray, List.getElem_cons_succ, List.getElem_cons_zero, Act.put, List.setIfInBounds_toArray, List.set_cons_succ, List.set_cons_zero])
  refine wpAnyH_take (i := 5) (v := ?_) rfl (by kernel_rfl) (by kernel_rfl) (by kernel_rfl) (fun _ _ _ h => h) (Or.inl ⟨by rfl, ?_⟩) (by assumption) ?_
  rotate_left 1
  · intro w hSw; (try dsimp only at hSw); simp only [List.getElem_toArray, List.getElem_cons_succ, List.getElem_cons_zero]; go_simp; try (with_reducible rfl)
  (try simp only [List.getElem_toArray, List.getElem_cons_succ, List.getElem_cons_zero, Act.put, List.setIfInBounds_toArray, List.set_cons_succ, List.set_cons_zero])
  refine wpAnyH_done (by kernel_rfl) ?_ _
  go_wp2
  go_ret
  exact ⟨rfl, below_more HB.out (show Below w0.heap.size w0 x3 by ((repeat (first | with_reducible assumption | with_reducible exact Below.refl _ _ | with_reducible apply below_al | with_reducible apply below_dr | with_reducible refine below_more ?_ (by assumption)))))⟩
/-- Does a header meet its target? -/
def Hd.meets (h : Hd) : Bool := tgt h.b && decide (numL h.hash ≤ valC h.b)
set_option maxRecDepth 100000 in
set_option maxHeartbeats 4000000 in
theorem gmeets_calls (h : Hd) (o : h.ok) (w : World) (hT : Tab w) : Calls Tryd.prog 14 #[.agg h.cells.toArray] w (Ret w (.bool h.meets)) := by
  obtain ⟨X, hX⟩ : ∃ X, X = h.cells := ⟨_, rfl⟩
  obtain ⟨V, hV⟩ : ∃ V, V = h.hash.map B8 := ⟨_, rfl⟩
  obtain ⟨bb, hbb⟩ : ∃ bb, bb = h.b := ⟨_, rfl⟩
  have IX : Hid ((Tryd.prog.info? 26).map (·.size) = some X.length) := Lib.hid (by rw [hX]; exact Hd.sizeG o)
  have hb0 : Blk (w.alloc (.cells X.toArray 26)) w.heap.size X 26 := Blk.new w X.toArray _
  have HB := Lib.hid (below_al (Below.refl _ w) (.cells X.toArray 26))
  obtain ⟨w0, hw0⟩ : ∃ w0, w0 = w.alloc (.cells X.toArray 26) := ⟨_, rfl⟩
  rw [← hw0] at hb0 HB
  have hc66 : w0.cell? ⟨w.heap.size, 66, none⟩ = some (.int .u32 (bb : Int)) := by rw [hb0.cell, hbb, hX]; exact (Hd.ct o).2.1
  by_cases ht : tgt h.b = true
  · obtain ⟨Y, hY⟩ : ∃ Y, Y = cellsW (wd (valC h.b)) := ⟨_, rfl⟩
    obtain ⟨B, hBB⟩ : ∃ B, B = decide (numL h.hash ≤ valC h.b) := ⟨_, rfl⟩
    have hv256 : valC h.b < 2 ^ 256 := by
      have := ht
      unfold tgt at this
      simp only [Bool.and_eq_true, decide_eq_true_eq] at this
      exact this.2
    have hm : h.meets = B := by unfold Hd.meets; rw [ht, Bool.true_and]; exact hBB.symm
    have CT : Hid (∀ W, Calls Tryd.prog 29 #[.int .u32 (bb : Int)] W (Ret W (.tuple #[.agg Y.toArray, .int .i64 0]))) := Lib.hid fun W => by rw [hY, hbb]; exact ctarget_yes h.b W o.b ht
    have IY : Hid ((Tryd.prog.info? 61).map (·.size) = some Y.length) := Lib.hid (by rw [hY]; exact sizeW _)
    have LY : Hid (zerosW.length = Y.length) := Lib.hid (by rw [hY]; rfl)
    have OY : Hid (∀ v ∈ Y, v.oneCell' = true) := Lib.hid (by rw [hY]; exact cellsW_one _)
    have CH : Hid (∀ W, Below w0.heap.size w0 W → Calls Tryd.prog 11 #[.agg X.toArray] W (Ret W (.agg V.toArray))) := Lib.hid fun W hW => by rw [hX, hV]; exact ghash_calls h o W (hT.all (below_more HB.out hW))
    have CW : Hid (∀ W, Calls Tryd.prog 30 #[.agg V.toArray, .agg Y.toArray] W (Ret W (.bool B))) := Lib.hid fun W => by rw [hV, hY]; exact within_calls _ (Hd.hash_len h) _ hv256 B hBB.symm W
    rw [hm, ← hX]
    clear hX hV hbb hY hBB hm o hT ht hv256
    go_enter Tryd.func14, Tryd.ntmps14
    go_upto_region 1 with fail
    rw [← hw0]
    clear hw0
    go_upto_region 2 with (first
      | (go_at_call 29; refine (CT.out _).mono ?_; rintro e' v1 ⟨rfl, d1⟩)
      | ((with_reducible refine at_store 61 (.tmp 3) (.tmp 9) ?_); refine wpList_store_blk rfl 61 (.tmp 3) (.tmp 9) rfl v1.heap.size zerosW Y 61 rfl rfl (Blk.new v1 _ _) LY.out IY.out OY.out ?_; intro y1 hby hoy))
    have k1 : Below w0.heap.size w0 y1 := below_only (below_al d1 _) hoy d1.size
    have K0 : Hid (∀ W, Below y1.heap.size y1 W → W.rangeAt w.heap.size 0 X ∧ W.rangeAt v1.heap.size 0 Y) := Lib.hid fun W h => ⟨((hb0.up k1).up h).range, (hby.up h).range⟩
    clear hby hoy d1 hb0 hc66
    refine wp_region_held_drew (S := fun W => W.rangeAt w.heap.size 0 X ∧ W.rangeAt v1.heap.size 0 Y) (by kernel_rfl) ?_ (fun hHeld => ?_)
    · exact K0.out _ (by ((repeat (first | with_reducible assumption | with_reducible exact Below.refl _ _ | with_reducible apply below_al | with_reducible apply below_dr | with_reducible refine below_more ?_ (by assumption)))))
    refine wpAnyH_take (i := 0) (v := ?_) rfl (by kernel_rfl) (by kernel_rfl) (by kernel_rfl) (fun _ _ _ h => h) (Or.inl ⟨by rfl, ?_⟩) (by assumption) ?_
    rotate_left 1
    · intro w hSw; (try dsimp only at hSw); simp only [List.getElem_toArray, List.getElem_cons_succ, List.getElem_cons_zero]; go_simp; try (with_reducible rfl)
    (try simp only [List.getElem_toArray, List.getElem_cons_succ, List.getElem_cons_zero, Act.put, List.setIfInBounds_toArray, List.set_cons_succ, List.set_cons_zero])
    refine wpAnyH_take (i := 1) (v := ?_) rfl (by kernel_rfl) (by kernel_rfl) (by kernel_rfl) (fun _ _ _ h => h) (Or.inl ⟨by rfl, ?_⟩) (by assumption) ?_
    rotate_left 1
    · intro w hSw; (try dsimp only at hSw); simp only [List.getElem_toArray, List.getElem_cons_succ, List.getElem_cons_zero]; go_simp; try (with_reducible rfl)
    (try simp only [List.getElem_toArray, List.getElem_cons_succ, List.getElem_cons_zero, Act.put, List.setIfInBounds_toArray, List.set_cons_succ, List.set_cons_zero])
    refine wpAnyH_take (i := 2) (v := ?_) rfl (by kernel_rfl) (by kernel_rfl) (by kernel_rfl) (fun _ _ _ h => h) (Or.inl ⟨by rfl, ?_⟩) (by assumption) ?_
    rotate_left 1
    · intro w hSw; (try dsimp only at hSw); simp only [List.getElem_toArray, List.getElem_cons_succ, List.getElem_cons_zero]; go_simp; try (with_reducible rfl)
    (try simp only [List.getElem_toArray, List.getElem_cons_succ, List.getElem_cons_zero, Act.put, List.setIfInBounds_toArray, List.set_cons_succ, List.set_cons_zero])
    refine wpAnyH_take (i := 3) rfl (by kernel_rfl) (by kernel_rfl) (by kernel_rfl) (fun _ _ _ h => h) (yieldsIf_load_mid (by rfl) _ _ rfl _ _ rfl X _ (fun w hSw => by (try dsimp only at hSw); go_split_ands; assumption) Tryd.underlying26 rfl IX.out) (by assumption) ?_
    (try simp only [List.getElem_toArray, List.getElem_cons_succ, List.getElem_cons_zero, Act.put, List.setIfInBounds_toArray, List.set_cons_succ, List.set_cons_zero])
    refine wpAnyH_take (i := 5) rfl (by kernel_rfl) (by kernel_rfl) (by kernel_rfl) (fun _ _ _ h => h) (yieldsIf_load_mid (by rfl) _ _ rfl _ _ rfl Y _ (fun w hSw => by (try dsimp only at hSw); go_split_ands; assumption) Tryd.underlying61 rfl IY.out) (by assumption) ?_
    (try simp only [List.getElem_toArray, List.getElem_cons_succ, List.getElem_cons_zero, Act.put, List.setIfInBounds_toArray, List.set_cons_succ, List.set_cons_zero])
    refine wpAnyH_ready (rs := [4]) (by kernel_rfl) (by simp) ?_
    refine AllReadyH.cons rfl (fun K hK => ?_) AllReadyH.nil
    (try simp only [List.getElem_toArray, List.getElem_cons_succ, List.getElem_cons_zero])
    go_simp
    go_at_call 11; refine (CH.out _ (by ((repeat (first | with_reducible assumption | with_reducible exact Below.refl _ _ | with_reducible apply below_al | with_reducible apply below_dr | with_reducible refine below_more ?_ (by assumption)))))).mono ?_; rintro e' x4 ⟨rfl, d4⟩
    (try (go_wp2_with fail))
    refine hK.out _ _ ?_ (fun hHeld => ?_)
    · exact K0.out _ (by ((repeat (first | with_reducible assumption | with_reducible exact Below.refl _ _ | with_reducible apply below_al | with_reducible apply below_dr | with_reducible refine below_more ?_ (by assumption)))))
    clear hK K
    (try simp only [Act.put, List.setIfInBounds_toArray, List.set_cons_succ, List.set_cons_zero])
    refine wpAnyH_ready (rs := [6]) (by kernel_rfl) (by simp) ?_
    refine AllReadyH.cons rfl (fun K hK => ?_) AllReadyH.nil
    (try simp only [List.getElem_toArray, List.getElem_cons_succ, List.getElem_cons_zero])
    go_simp
    go_at_call 30; refine (CW.out _).mono ?_; rintro e' x6 ⟨rfl, d6⟩
    (try (go_wp2_with fail))
    refine hK.out _ _ ?_ (fun hHeld => ?_)
    · exact K0.out _ (by ((repeat (first | with_reducible assumption | with_reducible exact Below.refl _ _ | with_reducible apply below_al | with_reducible apply below_dr | with_reducible refine below_more ?_ (by assumption)))))
    clear hK K
    (try simp only [Act.put, List.setIfInBounds_toArray, List.set_cons_succ, List.set_cons_zero])
    refine wpAnyH_take (i := 7) (v := ?_) rfl (by kernel_rfl) (by kernel_rfl) (by kernel_rfl) (fun _ _ _ h => h) (Or.inl ⟨by rfl, ?_⟩) (by assumption) ?_
    rotate_left 1
    · intro w hSw; (try dsimp only at hSw); simp only [List.getElem_toArray, List.getElem_cons_succ, List.getElem_cons_zero]; go_simp; try (with_reducible rfl)
    (try simp only [List.getElem_toArray, List.getElem_cons_succ, List.getElem_cons_zero, Act.put, List.setIfInBounds_toArray, List.set_cons_succ, List.set_cons_zero])
    refine wpAnyH_take (i := 8) (v := ?_) rfl (by kernel_rfl) (by kernel_rfl) (by kernel_rfl) (fun _ _ _ h => h) (Or.inl ⟨by rfl, ?_⟩) (by assumption) ?_
    rotate_left 1
    · intro w hSw; (try dsimp only at hSw); simp only [List.getElem_toArray, List.getElem_cons_succ, List.getElem_cons_zero]; go_simp; try (with_reducible rfl)
    (try simp only [List.getElem_toArray, List.getElem_cons_succ, List.getElem_cons_zero, Act.put, List.setIfInBounds_toArray, List.set_cons_succ, List.set_cons_zero])
    refine wpAnyH_done (by kernel_rfl) ?_ _
    go_wp2
    go_ret
    exact ⟨rfl, below_more HB.out (show Below w0.heap.size w0 x6 by ((repeat (first | with_reducible assumption | with_reducible exact Below.refl _ _ | with_reducible apply below_al | with_reducible apply below_dr | with_reducible refine below_more ?_ (by assumption)))))⟩
  · obtain ⟨Y, hY⟩ : ∃ Y, Y = cellsW (wd 0) := ⟨_, rfl⟩
    have ht : tgt h.b = false := by simpa using ht
    have hm : h.meets = false := by unfold Hd.meets; rw [ht, Bool.false_and]
    have CT : Hid (∀ W, Calls Tryd.prog 29 #[.int .u32 (bb : Int)] W (Ret W (.tuple #[.agg Y.toArray, .int .i64 5]))) := Lib.hid fun W => by rw [hY, hbb]; exact ctarget_no h.b W o.b ht
    have IY : Hid ((Tryd.prog.info? 61).map (·.size) = some Y.length) := Lib.hid (by rw [hY]; exact sizeW _)
    have LY : Hid (zerosW.length = Y.length) := Lib.hid (by rw [hY]; rfl)
    have OY : Hid (∀ v ∈ Y, v.oneCell' = true) := Lib.hid (by rw [hY]; exact cellsW_one _)
    rw [hm, ← hX]
    clear hX hV hbb hY hm o hT ht
    go_enter Tryd.func14, Tryd.ntmps14
    go_upto_region 1 with fail
    rw [← hw0]
    clear hw0
    go_upto_region 2 with (first
      | (go_at_call 29; refine (CT.out _).mono ?_; rintro e' v1 ⟨rfl, d1⟩)
      | ((with_reducible refine at_store 61 (.tmp 3) (.tmp 9) ?_); refine wpList_store_blk rfl 61 (.tmp 3) (.tmp 9) rfl v1.heap.size zerosW Y 61 rfl rfl (Blk.new v1 _ _) LY.out IY.out OY.out ?_; intro y1 hby hoy))
    have k1 : Below w0.heap.size w0 y1 := below_only (below_al d1 _) hoy d1.size
    clear hby hoy d1 hb0 hc66
    refine wp_region_held_drew (S := fun W => True) (by kernel_rfl) ?_ (fun hHeld => ?_)
    · trivial
    refine wpAnyH_take (i := 0) (v := ?_) rfl (by kernel_rfl) (by kernel_rfl) (by kernel_rfl) (fun _ _ _ h => h) (Or.inl ⟨by rfl, ?_⟩) (by assumption) ?_
    rotate_left 1
    · intro w hSw; (try dsimp only at hSw); simp only [List.getElem_toArray, List.getElem_cons_succ, List.getElem_cons_zero]; go_simp; try (with_reducible rfl)
    (try simp only [List.getElem_toArray, List.getElem_cons_succ, List.getElem_cons_zero, Act.put, List.setIfInBounds_toArray, List.set_cons_succ, List.set_cons_zero])
    refine wpAnyH_take (i := 1) (v := ?_) rfl (by kernel_rfl) (by kernel_rfl) (by kernel_rfl) (fun _ _ _ h => h) (Or.inl ⟨by rfl, ?_⟩) (by assumption) ?_
    rotate_left 1
    · intro w hSw; (try dsimp only at hSw); simp only [List.getElem_toArray, List.getElem_cons_succ, List.getElem_cons_zero]; go_simp; try (with_reducible rfl)
    (try simp only [List.getElem_toArray, List.getElem_cons_succ, List.getElem_cons_zero, Act.put, List.setIfInBounds_toArray, List.set_cons_succ, List.set_cons_zero])
    refine wpAnyH_take (i := 2) (v := ?_) rfl (by kernel_rfl) (by kernel_rfl) (by kernel_rfl) (fun _ _ _ h => h) (Or.inl ⟨by rfl, ?_⟩) (by assumption) ?_
    rotate_left 1
    · intro w hSw; (try dsimp only at hSw); simp only [List.getElem_toArray, List.getElem_cons_succ, List.getElem_cons_zero]; go_simp; try (with_reducible rfl)
    (try simp only [List.getElem_toArray, List.getElem_cons_succ, List.getElem_cons_zero, Act.put, List.setIfInBounds_toArray, List.set_cons_succ, List.set_cons_zero])
    refine wpAnyH_take (i := 3) (v := undef) rfl (by kernel_rfl) (by kernel_rfl) (by kernel_rfl) (fun _ _ _ h => h) (Or.inr ⟨by rfl, rfl⟩) (by assumption) ?_
    (try simp only [List.getElem_toArray, List.getElem_cons_succ, List.getElem_cons_zero, Act.put, List.setIfInBounds_toArray, List.set_cons_succ, List.set_cons_zero])
    refine wpAnyH_take (i := 4) (v := undef) rfl (by kernel_rfl) (by kernel_rfl) (by kernel_rfl) (fun _ _ _ h => h) (Or.inr ⟨by rfl, rfl⟩) (by assumption) ?_
    (try simp only [List.getElem_toArray, List.getElem_cons_succ, List.getElem_cons_zero, Act.put, List.setIfInBounds_toArray, List.set_cons_succ, List.set_cons_zero])
    refine wpAnyH_take (i := 5) (v := undef) rfl (by kernel_rfl) (by kernel_rfl) (by kernel_rfl) (fun _ _ _ h => h) (Or.inr ⟨by rfl, rfl⟩) (by assumption) ?_
    (try simp only [List.getElem_toArray, List.getElem_cons_succ, List.getElem_cons_zero, Act.put, List.setIfInBounds_toArray, List.set_cons_succ, List.set_cons_zero])
    refine wpAnyH_take (i := 6) (v := undef) rfl (by kernel_rfl) (by kernel_rfl) (by kernel_rfl) (fun _ _ _ h => h) (Or.inr ⟨by rfl, rfl⟩) (by assumption) ?_
    (try simp only [List.getElem_toArray, List.getElem_cons_succ, List.getElem_cons_zero, Act.put, List.setIfInBounds_toArray, List.set_cons_succ, List.set_cons_zero])
    refine wpAnyH_take (i := 7) (v := ?_) rfl (by kernel_rfl) (by kernel_rfl) (by kernel_rfl) (fun _ _ _ h => h) (Or.inl ⟨by rfl, ?_⟩) (by assumption) ?_
    rotate_left 1
    · intro w hSw; (try dsimp only at hSw); simp only [List.getElem_toArray, List.getElem_cons_succ, List.getElem_cons_zero]; go_simp; try (with_reducible rfl)
    (try simp only [List.getElem_toArray, List.getElem_cons_succ, List.getElem_cons_zero, Act.put, List.setIfInBounds_toArray, List.set_cons_succ, List.set_cons_zero])
    refine wpAnyH_take (i := 8) (v := ?_) rfl (by kernel_rfl) (by kernel_rfl) (by kernel_rfl) (fun _ _ _ h => h) (Or.inl ⟨by rfl, ?_⟩) (by assumption) ?_
    rotate_left 1
    · intro w hSw; (try dsimp only at hSw); simp only [List.getElem_toArray, List.getElem_cons_succ, List.getElem_cons_zero]; go_simp; try (with_reducible rfl)
    (try simp only [List.getElem_toArray, List.getElem_cons_succ, List.getElem_cons_zero, Act.put, List.setIfInBounds_toArray, List.set_cons_succ, List.set_cons_zero])
    refine wpAnyH_done (by kernel_rfl) ?_ _
    go_wp2
    go_ret
    exact ⟨rfl, below_more HB.out (show Below w0.heap.size w0 _ by ((repeat (first | with_reducible assumption | with_reducible exact Below.refl _ _ | with_reducible apply below_al | with_reducible apply below_dr | with_reducible refine below_more ?_ (by assumption)))))⟩
end Go.Proofs.YthpigninbeommaaDoor
