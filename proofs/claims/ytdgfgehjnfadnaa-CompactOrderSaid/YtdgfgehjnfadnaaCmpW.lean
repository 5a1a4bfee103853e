/- The contract of compact.Work. -/
import Derived.Test.YtdgfgehjnfadnaaCmpF
import Derived.Test.YtdgfgehjnfadnaaWidZ
import Derived.Test.YtdgfgehjnfadnaaWidA
import Derived.Deep.RegionHeld3
import Derived.Deep.CutRange
import Derived.Deep.DeepCutAuto
namespace Go.Proofs.Ytdgfgehjnfadnaa
open Go.RowKit
set_option linter.unusedVariables false
set_option linter.unusedSimpArgs false

set_option maxRecDepth 100000 in
set_option maxHeartbeats 4000000 in
theorem work_zero (t : Nat) (w : World) (ht : t < 2 ^ 256) (h0 : t = 0) : Calls Try.prog 21 #[.agg (cellsW (wd t)).toArray] w (Ret w (.agg (cellsW (wd (workN t))).toArray)) := by
  have gU := guardU
  obtain ⟨v, hv⟩ : ∃ v, v = workN t := ⟨_, rfl⟩
  have hv2 : v = 2 ^ 256 - 1 := by rw [hv]; unfold workN; rw [if_pos h0]
  obtain ⟨X, hX⟩ : ∃ X, X = cellsW (wd t) := ⟨_, rfl⟩
  have IX : Hid ((Try.prog.info? 25).map (·.size) = some X.length) := Lib.hid (by rw [hX]; exact sizeW _)
  have LX : Hid (zerosW.length = X.length) := Lib.hid (by rw [hX]; rfl)
  have OX : Hid (∀ v ∈ X, v.oneCell' = true) := Lib.hid (by rw [hX]; exact cellsW_one _)
  obtain ⟨V, hV⟩ : ∃ X, X = cellsW (wd v) := ⟨_, rfl⟩
  have IV : Hid ((Try.prog.info? 25).map (·.size) = some V.length) := Lib.hid (by rw [hV]; exact sizeW _)
  have LV : Hid (zerosW.length = V.length) := Lib.hid (by rw [hV]; rfl)
  have OV : Hid (∀ v ∈ V, v.oneCell' = true) := Lib.hid (by rw [hV]; exact cellsW_one _)
  have heq : ∀ W, (Op.equalIn 10000 25 (.agg X.toArray) (.agg #[.int .u64 0, .int .u64 0, .int .u64 0, .int .u64 0])).run Try.prog W = .ok true W := fun W => by
    have h := u_equal t 0 ht (by decide) W
    rw [decide_eq_true h0] at h
    rw [hX]
    exact h
  have CM : Hid (∀ W, Calls Try.prog 22 #[] W (Ret W (.agg V.toArray))) := Lib.hid (fun W => by rw [hV, hv2]; exact max_calls W)
  rw [← hv, ← hX, ← hV]
  obtain ⟨w0, hw0⟩ : ∃ w0, w0 = (w.alloc (.cells X.toArray 25)).alloc (.cells #[.int .u64 0, .int .u64 0, .int .u64 0, .int .u64 0] 25) := ⟨_, rfl⟩
  have hbX : Blk w0 (w.heap.size) X 25 := by rw [hw0]; exact Blk.alloc (Blk.new' w X.toArray 25 (w.heap.size) (by simp)) _
  have hbR : Blk w0 (w.heap.size + 1) zerosW 25 := by rw [hw0]; exact Blk.new' (w.alloc _) #[.int .u64 0, .int .u64 0, .int .u64 0, .int .u64 0] 25 (w.heap.size + 1) (by simp)
  have HB : Hid (Still w w0) := Lib.hid (by rw [hw0]; exact Still.alloc (Still.alloc (Still.refl w) _) _)
  clear hX hV hv hv2 ht h0
  go_enter Try.func21, Try.ntmps21
  go_upto_region 1 with fail
  rw [← hw0]
  clear hw0
  go_wp2_with (first
    | ((with_reducible refine at_load 25 (.tmp 1) ?_); refine wpList_load_mid rfl 25 (.tmp 1) rfl (w.heap.size) 0 rfl X _ (Blk.range (t := 25) (by ((repeat (first | with_reducible assumption | with_reducible apply Blk.alloc | with_reducible apply Blk.drew | with_reducible refine Blk.step ?_ (by assumption) | with_reducible refine Blk.stepS ?_ (by assumption)))))) Try.underlying25 rfl IX.out ?_)
    | (go_at_call 22; refine (CM.out _).mono ?_; rintro e' v1 ⟨rfl, d1⟩)
    | ((with_reducible refine at_store 25 (.tmp 2) (.tmp 14) ?_); refine wpList_store_blk rfl 25 (.tmp 2) (.tmp 14) rfl (w.heap.size + 1) zerosW V 25 rfl rfl (by ((repeat (first | with_reducible assumption | with_reducible apply Blk.alloc | with_reducible apply Blk.drew | with_reducible refine Blk.step ?_ (by assumption) | with_reducible refine Blk.stepS ?_ (by assumption))))) LV.out IV.out OV.out ?_; intro w9 hbw9 how9))
  refine bodyPost_ret (v := .agg V.toArray) ?_ rfl ⟨rfl, Below.trans (show Still w v1 from HB.out.trans (show Still w0 v1 by ((repeat (first | with_reducible exact Still.refl _ | with_reducible assumption | with_reducible apply Still.alloc | with_reducible apply Still.drew | with_reducible refine Still.step ?_ (by assumption) | with_reducible refine Still.trans ?_ (by assumption)))))) (how9.below (by omega))⟩
  exact results_cell_row Try.results21 _ _ (w.heap.size + 1) 25 _ (0, 0) _ (by rfl) hbw9 Try.underlying25 rfl IV.out
set_option maxRecDepth 100000 in
set_option maxHeartbeats 4000000 in
theorem work_max (t : Nat) (w : World) (ht : t < 2 ^ 256) (h0 : t ≠ 0) (hm : 2 ^ 256 ≤ t + 1) : Calls Try.prog 21 #[.agg (cellsW (wd t)).toArray] w (Ret w (.agg (cellsW (wd (workN t))).toArray)) := by
  have gU := guardU
  obtain ⟨y, hy⟩ : ∃ y, y = t + 1 := ⟨_, rfl⟩
  obtain ⟨B, hB⟩ : ∃ B, B = decide (2 ^ 256 ≤ y) := ⟨_, rfl⟩
  have hv : workN t = 1 := by
    unfold workN
    rw [if_neg h0, show t + 1 = 2 ^ 256 from by omega]
    try decide
  have hBt : B = true := by rw [hB, hy]; exact decide_eq_true hm
  obtain ⟨X, hX⟩ : ∃ X, X = cellsW (wd t) := ⟨_, rfl⟩
  have IX : Hid ((Try.prog.info? 25).map (·.size) = some X.length) := Lib.hid (by rw [hX]; exact sizeW _)
  have LX : Hid (zerosW.length = X.length) := Lib.hid (by rw [hX]; rfl)
  have OX : Hid (∀ v ∈ X, v.oneCell' = true) := Lib.hid (by rw [hX]; exact cellsW_one _)
  obtain ⟨K1, hK1⟩ : ∃ X, X = cellsW (wd 1) := ⟨_, rfl⟩
  have IK1 : Hid ((Try.prog.info? 25).map (·.size) = some K1.length) := Lib.hid (by rw [hK1]; exact sizeW _)
  have LK1 : Hid (zerosW.length = K1.length) := Lib.hid (by rw [hK1]; rfl)
  have OK1 : Hid (∀ v ∈ K1, v.oneCell' = true) := Lib.hid (by rw [hK1]; exact cellsW_one _)
  obtain ⟨Y, hY⟩ : ∃ X, X = cellsW (wd y) := ⟨_, rfl⟩
  have IY : Hid ((Try.prog.info? 25).map (·.size) = some Y.length) := Lib.hid (by rw [hY]; exact sizeW _)
  have LY : Hid (zerosW.length = Y.length) := Lib.hid (by rw [hY]; rfl)
  have OY : Hid (∀ v ∈ Y, v.oneCell' = true) := Lib.hid (by rw [hY]; exact cellsW_one _)
  have heq : ∀ W, (Op.equalIn 10000 25 (.agg X.toArray) (.agg #[.int .u64 0, .int .u64 0, .int .u64 0, .int .u64 0])).run Try.prog W = .ok false W := fun W => by
    have h := u_equal t 0 ht (by decide) W
    rw [decide_eq_false h0] at h
    rw [hX]
    exact h
  have CO : Hid (∀ W, Calls Try.prog 24 #[.int .u64 1] W (Ret W (.agg K1.toArray))) := Lib.hid (fun W => by rw [hK1]; exact wof_calls 1 W (by decide))
  have CA : Hid (∀ W, Calls Try.prog 38 #[.agg X.toArray, .agg K1.toArray] W (Ret W (.tuple #[.agg Y.toArray, .bool B]))) := Lib.hid fun W => by
    have h := add_calls t 1 W ht (by decide)
    rw [← hy, show decide (2 ^ 256 ≤ y) = B from hB.symm] at h
    rw [hX, hK1, hY]
    exact h
  rw [hv, ← hX, ← hK1]
  obtain ⟨w0, hw0⟩ : ∃ w0, w0 = (w.alloc (.cells X.toArray 25)).alloc (.cells #[.int .u64 0, .int .u64 0, .int .u64 0, .int .u64 0] 25) := ⟨_, rfl⟩
  have hbX : Blk w0 (w.heap.size) X 25 := by rw [hw0]; exact Blk.alloc (Blk.new' w X.toArray 25 (w.heap.size) (by simp)) _
  have hbR : Blk w0 (w.heap.size + 1) zerosW 25 := by rw [hw0]; exact Blk.new' (w.alloc _) #[.int .u64 0, .int .u64 0, .int .u64 0, .int .u64 0] 25 (w.heap.size + 1) (by simp)
  have HB : Hid (Still w w0) := Lib.hid (by rw [hw0]; exact Still.alloc (Still.alloc (Still.refl w) _) _)
  have K0 : Hid (∀ W, Still w0 W → (W.rangeAt w.heap.size 0 X ∧ Still w0 W)) := Lib.hid fun W h => ⟨(Blk.stepS hbX h).range, h⟩
  subst hBt
  clear hX hK1 hY hB hy hv ht h0 hm
  go_enter Try.func21, Try.ntmps21
  go_upto_region 1 with fail
  rw [← hw0]
  clear hw0
  go_upto_region 3 with (first
    | ((with_reducible refine at_load 25 (.tmp 1) ?_); refine wpList_load_mid rfl 25 (.tmp 1) rfl (w.heap.size) 0 rfl X _ (Blk.range (t := 25) (by ((repeat (first | with_reducible assumption | with_reducible apply Blk.alloc | with_reducible apply Blk.drew | with_reducible refine Blk.step ?_ (by assumption) | with_reducible refine Blk.stepS ?_ (by assumption)))))) Try.underlying25 rfl IX.out ?_))
  go_cut [3, 4] from 15 to 20 (fun p q wx => ∃ ga : Nat, p = .pointer (some ⟨ga, 0, none⟩) ∧ q = .bool true ∧ Blk wx ga Y 25 ∧ Still w0 wx)
  case first =>
    refine wp_region_held_drew (S := fun W => W.rangeAt w.heap.size 0 X ∧ Still w0 W) (by kernel_rfl) ?_ (fun hHeld => ?_)
    · exact K0.out _ (show Still w0 _ by ((repeat (first | with_reducible exact Still.refl _ | with_reducible assumption | with_reducible apply Still.alloc | with_reducible apply Still.drew | with_reducible refine Still.step ?_ (by assumption) | with_reducible refine Still.trans ?_ (by assumption)))))
    refine wpAnyH_take (i := 0) rfl (by kernel_rfl) (by kernel_rfl) (by kernel_rfl) (fun _ _ _ h => h) (yieldsIf_load_mid (by rfl) _ _ rfl _ _ rfl X _ (fun w hSw => by (try dsimp only at hSw); go_split_ands; assumption) Try.underlying25 rfl IX.out) (by assumption) ?_
    (try simp only [List.getElem_toArray, List.getElem_cons_succ, List.getElem_cons_zero, Act.put, List.setIfInBounds_toArray, List.set_cons_succ, List.set_cons_zero])
    refine wpAnyH_ready (rs := [1, 6]) (by kernel_rfl) (by simp) ?_
    refine AllReadyH.cons rfl (fun K hK => ?_) ?_
    · (try simp only [List.getElem_toArray, List.getElem_cons_succ, List.getElem_cons_zero])
      go_simp
      go_at_call 24; refine (CO.out _).mono ?_; rintro e' v1 ⟨rfl, dv1⟩
      (try (go_wp2_with fail))
      refine hK.out _ _ ?_ (fun hHeld => ?_)
      · exact K0.out _ (show Still w0 _ by ((repeat (first | with_reducible exact Still.refl _ | with_reducible assumption | with_reducible apply Still.alloc | with_reducible apply Still.drew | with_reducible refine Still.step ?_ (by assumption) | with_reducible refine Still.trans ?_ (by assumption)))))
      clear hK K
      (try simp only [Act.put, List.setIfInBounds_toArray, List.set_cons_succ, List.set_cons_zero])
      refine wpAnyH_ready (rs := [2, 6]) (by kernel_rfl) (by simp) ?_
      refine AllReadyH.cons rfl (fun K hK => ?_) ?_
      · (try simp only [List.getElem_toArray, List.getElem_cons_succ, List.getElem_cons_zero])
        go_simp
        go_at_call 38; refine (CA.out _).mono ?_; rintro e' v2 ⟨rfl, dv2⟩
        (try (go_wp2_with fail))
        refine hK.out _ _ ?_ (fun hHeld => ?_)
        · exact K0.out _ (show Still w0 _ by ((repeat (first | with_reducible exact Still.refl _ | with_reducible assumption | with_reducible apply Still.alloc | with_reducible apply Still.drew | with_reducible refine Still.step ?_ (by assumption) | with_reducible refine Still.trans ?_ (by assumption)))))
        clear hK K
        (try simp only [Act.put, List.setIfInBounds_toArray, List.set_cons_succ, List.set_cons_zero])
        refine wpAnyH_take (i := 3) (v := ?_) rfl (by kernel_rfl) (by kernel_rfl) (by kernel_rfl) (fun _ _ _ h => h) (Or.inl ⟨by rfl, ?_⟩) (by assumption) ?_
        rotate_left 1
        · intro w hSw; (try dsimp only at hSw); simp only [List.getElem_toArray, List.getElem_cons_succ, List.getElem_cons_zero]; go_simp; try (with_reducible rfl)
        (try simp only [List.getElem_toArray, List.getElem_cons_succ, List.getElem_cons_zero, Act.put, List.setIfInBounds_toArray, List.set_cons_succ, List.set_cons_zero])
        refine wpAnyH_take (i := 4) (v := ?_) rfl (by kernel_rfl) (by kernel_rfl) (by kernel_rfl) (fun _ _ _ h => h) (Or.inl ⟨by rfl, ?_⟩) (by assumption) ?_
        rotate_left 1
        · intro w hSw; (try dsimp only at hSw); simp only [List.getElem_toArray, List.getElem_cons_succ, List.getElem_cons_zero]; go_simp; try (with_reducible rfl)
        (try simp only [List.getElem_toArray, List.getElem_cons_succ, List.getElem_cons_zero, Act.put, List.setIfInBounds_toArray, List.set_cons_succ, List.set_cons_zero])
        refine wpAnyH_take (i := 5) (v := ?_) rfl (by kernel_rfl) (by kernel_rfl) (by kernel_rfl) (fun _ _ _ h => h) (Or.inl ⟨by rfl, ?_⟩) (by assumption) ?_
        rotate_left 1
        · intro w hSw; (try dsimp only at hSw); simp only [List.getElem_toArray, List.getElem_cons_succ, List.getElem_cons_zero]; go_simp; try (with_reducible rfl)
        (try simp only [List.getElem_toArray, List.getElem_cons_succ, List.getElem_cons_zero, Act.put, List.setIfInBounds_toArray, List.set_cons_succ, List.set_cons_zero])
        refine wpAnyH_ready (rs := [6]) (by kernel_rfl) (by simp) ?_
        refine AllReadyH.cons rfl (fun K hK => ?_) AllReadyH.nil
        (try simp only [List.getElem_toArray, List.getElem_cons_succ, List.getElem_cons_zero])
        go_simp
        have hz6 : Blk ((v2.alloc (.cells #[.int .u64 0, .int .u64 0, .int .u64 0, .int .u64 0] 25))) (v2.heap.size) zerosW 25 := Blk.new' _ _ _ _ (by simp)
        refine hK.out _ _ ?_ (fun hHeld => ?_)
        · exact K0.out _ (show Still w0 _ by ((repeat (first | with_reducible exact Still.refl _ | with_reducible assumption | with_reducible apply Still.alloc | with_reducible apply Still.drew | with_reducible refine Still.step ?_ (by assumption) | with_reducible refine Still.trans ?_ (by assumption)))))
        clear hK K
        (try simp only [Act.put, List.setIfInBounds_toArray, List.set_cons_succ, List.set_cons_zero])
        refine wpAnyH_ready (rs := [7]) (by kernel_rfl) (by simp) ?_
        refine AllReadyH.cons rfl (fun K hK => ?_) AllReadyH.nil
        (try simp only [List.getElem_toArray, List.getElem_cons_succ, List.getElem_cons_zero])
        refine Eq.mpr (if_pos (by rfl)) ?_
        refine wp_store_blk 25 (.tmp 3) (.tmp 19) rfl (v2.heap.size) zerosW Y 25 rfl rfl (by ((repeat (first | with_reducible assumption | with_reducible apply Blk.alloc | with_reducible apply Blk.drew | with_reducible refine Blk.step ?_ (by assumption) | with_reducible refine Blk.stepS ?_ (by assumption))))) LY.out IY.out OY.out ?_
        intro w6 hb6 ho6
        have hle6 : w0.heap.size ≤ v2.heap.size := by have h := (show Still w0 v2 from by ((repeat (first | with_reducible exact Still.refl _ | with_reducible assumption | with_reducible apply Still.alloc | with_reducible apply Still.drew | with_reducible refine Still.step ?_ (by assumption) | with_reducible refine Still.trans ?_ (by assumption))))).size; (first | omega | (simp at h ⊢; omega) | (simp at h ⊢) | simp)
        have st6 : Still w0 w6 := Below.trans (show Still w0 _ from by ((repeat (first | with_reducible exact Still.refl _ | with_reducible assumption | with_reducible apply Still.alloc | with_reducible apply Still.drew | with_reducible refine Still.step ?_ (by assumption) | with_reducible refine Still.trans ?_ (by assumption))))) (ho6.below hle6)
        refine hK.out _ _ ?_ (fun hHeld => ?_)
        · exact K0.out _ st6
        clear hK K
        (try simp only [Act.put, List.setIfInBounds_toArray, List.set_cons_succ, List.set_cons_zero])
        refine wpAnyH_take (i := 8) (v := ?_) rfl (by kernel_rfl) (by kernel_rfl) (by kernel_rfl) (fun _ _ _ h => h) (Or.inl ⟨by rfl, ?_⟩) (by assumption) ?_
        rotate_left 1
        · intro w hSw; (try dsimp only at hSw); simp only [List.getElem_toArray, List.getElem_cons_succ, List.getElem_cons_zero]; go_simp; try (with_reducible rfl)
        (try simp only [List.getElem_toArray, List.getElem_cons_succ, List.getElem_cons_zero, Act.put, List.setIfInBounds_toArray, List.set_cons_succ, List.set_cons_zero])
        refine wpAnyH_done (by kernel_rfl) ?_ _
        go_wp2_with fail
        go_meet
        exact ⟨_, rfl, rfl, hb6, st6⟩
      refine AllReadyH.cons rfl (fun K hK => ?_) AllReadyH.nil
      (try simp only [List.getElem_toArray, List.getElem_cons_succ, List.getElem_cons_zero])
      go_simp
      have hz6 : Blk ((v1.alloc (.cells #[.int .u64 0, .int .u64 0, .int .u64 0, .int .u64 0] 25))) (v1.heap.size) zerosW 25 := Blk.new' _ _ _ _ (by simp)
      refine hK.out _ _ ?_ (fun hHeld => ?_)
      · exact K0.out _ (show Still w0 _ by ((repeat (first | with_reducible exact Still.refl _ | with_reducible assumption | with_reducible apply Still.alloc | with_reducible apply Still.drew | with_reducible refine Still.step ?_ (by assumption) | with_reducible refine Still.trans ?_ (by assumption)))))
      clear hK K
      (try simp only [Act.put, List.setIfInBounds_toArray, List.set_cons_succ, List.set_cons_zero])
      refine wpAnyH_ready (rs := [2]) (by kernel_rfl) (by simp) ?_
      refine AllReadyH.cons rfl (fun K hK => ?_) AllReadyH.nil
      (try simp only [List.getElem_toArray, List.getElem_cons_succ, List.getElem_cons_zero])
      go_simp
      go_at_call 38; refine (CA.out _).mono ?_; rintro e' v2 ⟨rfl, dv2⟩
      (try (go_wp2_with fail))
      refine hK.out _ _ ?_ (fun hHeld => ?_)
      · exact K0.out _ (show Still w0 _ by ((repeat (first | with_reducible exact Still.refl _ | with_reducible assumption | with_reducible apply Still.alloc | with_reducible apply Still.drew | with_reducible refine Still.step ?_ (by assumption) | with_reducible refine Still.trans ?_ (by assumption)))))
      clear hK K
      (try simp only [Act.put, List.setIfInBounds_toArray, List.set_cons_succ, List.set_cons_zero])
      refine wpAnyH_take (i := 3) (v := ?_) rfl (by kernel_rfl) (by kernel_rfl) (by kernel_rfl) (fun _ _ _ h => h) (Or.inl ⟨by rfl, ?_⟩) (by assumption) ?_
      rotate_left 1
      · intro w hSw; (try dsimp only at hSw); simp only [List.getElem_toArray, List.getElem_cons_succ, List.getElem_cons_zero]; go_simp; try (with_reducible rfl)
      (try simp only [List.getElem_toArray, List.getElem_cons_succ, List.getElem_cons_zero, Act.put, List.setIfInBounds_toArray, List.set_cons_succ, List.set_cons_zero])
      refine wpAnyH_take (i := 4) (v := ?_) rfl (by kernel_rfl) (by kernel_rfl) (by kernel_rfl) (fun _ _ _ h => h) (Or.inl ⟨by rfl, ?_⟩) (by assumption) ?_
      rotate_left 1
      · intro w hSw; (try dsimp only at hSw); simp only [List.getElem_toArray, List.getElem_cons_succ, List.getElem_cons_zero]; go_simp; try (with_reducible rfl)
      (try simp only [List.getElem_toArray, List.getElem_cons_succ, List.getElem_cons_zero, Act.put, List.setIfInBounds_toArray, List.set_cons_succ, List.set_cons_zero])
      refine wpAnyH_take (i := 5) (v := ?_) rfl (by kernel_rfl) (by kernel_rfl) (by kernel_rfl) (fun _ _ _ h => h) (Or.inl ⟨by rfl, ?_⟩) (by assumption) ?_
      rotate_left 1
      · intro w hSw; (try dsimp only at hSw); simp only [List.getElem_toArray, List.getElem_cons_succ, List.getElem_cons_zero]; go_simp; try (with_reducible rfl)
      (try simp only [List.getElem_toArray, List.getElem_cons_succ, List.getElem_cons_zero, Act.put, List.setIfInBounds_toArray, List.set_cons_succ, List.set_cons_zero])
      refine wpAnyH_ready (rs := [7]) (by kernel_rfl) (by simp) ?_
      refine AllReadyH.cons rfl (fun K hK => ?_) AllReadyH.nil
      (try simp only [List.getElem_toArray, List.getElem_cons_succ, List.getElem_cons_zero])
      refine Eq.mpr (if_pos (by rfl)) ?_
      refine wp_store_blk 25 (.tmp 3) (.tmp 19) rfl (v1.heap.size) zerosW Y 25 rfl rfl (by ((repeat (first | with_reducible assumption | with_reducible apply Blk.alloc | with_reducible apply Blk.drew | with_reducible refine Blk.step ?_ (by assumption) | with_reducible refine Blk.stepS ?_ (by assumption))))) LY.out IY.out OY.out ?_
      intro w6 hb6 ho6
      have hle6 : w0.heap.size ≤ v1.heap.size := by have h := (show Still w0 v1 from by ((repeat (first | with_reducible exact Still.refl _ | with_reducible assumption | with_reducible apply Still.alloc | with_reducible apply Still.drew | with_reducible refine Still.step ?_ (by assumption) | with_reducible refine Still.trans ?_ (by assumption))))).size; (first | omega | (simp at h ⊢; omega) | (simp at h ⊢) | simp)
      have st6 : Still w0 w6 := Below.trans (show Still w0 _ from by ((repeat (first | with_reducible exact Still.refl _ | with_reducible assumption | with_reducible apply Still.alloc | with_reducible apply Still.drew | with_reducible refine Still.step ?_ (by assumption) | with_reducible refine Still.trans ?_ (by assumption))))) (ho6.below hle6)
      refine hK.out _ _ ?_ (fun hHeld => ?_)
      · exact K0.out _ st6
      clear hK K
      (try simp only [Act.put, List.setIfInBounds_toArray, List.set_cons_succ, List.set_cons_zero])
      refine wpAnyH_take (i := 8) (v := ?_) rfl (by kernel_rfl) (by kernel_rfl) (by kernel_rfl) (fun _ _ _ h => h) (Or.inl ⟨by rfl, ?_⟩) (by assumption) ?_
      rotate_left 1
      · intro w hSw; (try dsimp only at hSw); simp only [List.getElem_toArray, List.getElem_cons_succ, List.getElem_cons_zero]; go_simp; try (with_reducible rfl)
      (try simp only [List.getElem_toArray, List.getElem_cons_succ, List.getElem_cons_zero, Act.put, List.setIfInBounds_toArray, List.set_cons_succ, List.set_cons_zero])
      refine wpAnyH_done (by kernel_rfl) ?_ _
      go_wp2_with fail
      go_meet
      exact ⟨_, rfl, rfl, hb6, st6⟩
    refine AllReadyH.cons rfl (fun K hK => ?_) AllReadyH.nil
    (try simp only [List.getElem_toArray, List.getElem_cons_succ, List.getElem_cons_zero])
    go_simp
    have hz6 : Blk ((w0.alloc (.cells #[.int .u64 0, .int .u64 0, .int .u64 0, .int .u64 0] 25))) (w0.heap.size) zerosW 25 := Blk.new' _ _ _ _ (by simp)
    refine hK.out _ _ ?_ (fun hHeld => ?_)
    · exact K0.out _ (show Still w0 _ by ((repeat (first | with_reducible exact Still.refl _ | with_reducible assumption | with_reducible apply Still.alloc | with_reducible apply Still.drew | with_reducible refine Still.step ?_ (by assumption) | with_reducible refine Still.trans ?_ (by assumption)))))
    clear hK K
    (try simp only [Act.put, List.setIfInBounds_toArray, List.set_cons_succ, List.set_cons_zero])
    refine wpAnyH_ready (rs := [1]) (by kernel_rfl) (by simp) ?_
    refine AllReadyH.cons rfl (fun K hK => ?_) AllReadyH.nil
    (try simp only [List.getElem_toArray, List.getElem_cons_succ, List.getElem_cons_zero])
    go_simp
    go_at_call 24; refine (CO.out _).mono ?_; rintro e' v1 ⟨rfl, dv1⟩
    (try (go_wp2_with fail))
    refine hK.out _ _ ?_ (fun hHeld => ?_)
    · exact K0.out _ (show Still w0 _ by ((repeat (first | with_reducible exact Still.refl _ | with_reducible assumption | with_reducible apply Still.alloc | with_reducible apply Still.drew | with_reducible refine Still.step ?_ (by assumption) | with_reducible refine Still.trans ?_ (by assumption)))))
    clear hK K
    (try simp only [Act.put, List.setIfInBounds_toArray, List.set_cons_succ, List.set_cons_zero])
    refine wpAnyH_ready (rs := [2]) (by kernel_rfl) (by simp) ?_
    refine AllReadyH.cons rfl (fun K hK => ?_) AllReadyH.nil
    (try simp only [List.getElem_toArray, List.getElem_cons_succ, List.getElem_cons_zero])
    go_simp
    go_at_call 38; refine (CA.out _).mono ?_; rintro e' v2 ⟨rfl, dv2⟩
    (try (go_wp2_with fail))
    refine hK.out _ _ ?_ (fun hHeld => ?_)
    · exact K0.out _ (show Still w0 _ by ((repeat (first | with_reducible exact Still.refl _ | with_reducible assumption | with_reducible apply Still.alloc | with_reducible apply Still.drew | with_reducible refine Still.step ?_ (by assumption) | with_reducible refine Still.trans ?_ (by assumption)))))
    clear hK K
    (try simp only [Act.put, List.setIfInBounds_toArray, List.set_cons_succ, List.set_cons_zero])
    refine wpAnyH_take (i := 3) (v := ?_) rfl (by kernel_rfl) (by kernel_rfl) (by kernel_rfl) (fun _ _ _ h => h) (Or.inl ⟨by rfl, ?_⟩) (by assumption) ?_
    rotate_left 1
    · intro w hSw; (try dsimp only at hSw); simp only [List.getElem_toArray, List.getElem_cons_succ, List.getElem_cons_zero]; go_simp; try (with_reducible rfl)
    (try simp only [List.getElem_toArray, List.getElem_cons_succ, List.getElem_cons_zero, Act.put, List.setIfInBounds_toArray, List.set_cons_succ, List.set_cons_zero])
    refine wpAnyH_take (i := 4) (v := ?_) rfl (by kernel_rfl) (by kernel_rfl) (by kernel_rfl) (fun _ _ _ h => h) (Or.inl ⟨by rfl, ?_⟩) (by assumption) ?_
    rotate_left 1
    · intro w hSw; (try dsimp only at hSw); simp only [List.getElem_toArray, List.getElem_cons_succ, List.getElem_cons_zero]; go_simp; try (with_reducible rfl)
    (try simp only [List.getElem_toArray, List.getElem_cons_succ, List.getElem_cons_zero, Act.put, List.setIfInBounds_toArray, List.set_cons_succ, List.set_cons_zero])
    refine wpAnyH_take (i := 5) (v := ?_) rfl (by kernel_rfl) (by kernel_rfl) (by kernel_rfl) (fun _ _ _ h => h) (Or.inl ⟨by rfl, ?_⟩) (by assumption) ?_
    rotate_left 1
    · intro w hSw; (try dsimp only at hSw); simp only [List.getElem_toArray, List.getElem_cons_succ, List.getElem_cons_zero]; go_simp; try (with_reducible rfl)
    (try simp only [List.getElem_toArray, List.getElem_cons_succ, List.getElem_cons_zero, Act.put, List.setIfInBounds_toArray, List.set_cons_succ, List.set_cons_zero])
    refine wpAnyH_ready (rs := [7]) (by kernel_rfl) (by simp) ?_
    refine AllReadyH.cons rfl (fun K hK => ?_) AllReadyH.nil
    (try simp only [List.getElem_toArray, List.getElem_cons_succ, List.getElem_cons_zero])
    refine Eq.mpr (if_pos (by rfl)) ?_
    refine wp_store_blk 25 (.tmp 3) (.tmp 19) rfl (w0.heap.size) zerosW Y 25 rfl rfl (by ((repeat (first | with_reducible assumption | with_reducible apply Blk.alloc | with_reducible apply Blk.drew | with_reducible refine Blk.step ?_ (by assumption) | with_reducible refine Blk.stepS ?_ (by assumption))))) LY.out IY.out OY.out ?_
    intro w6 hb6 ho6
    have hle6 : w0.heap.size ≤ w0.heap.size := by have h := (show Still w0 w0.drew from by ((repeat (first | with_reducible exact Still.refl _ | with_reducible assumption | with_reducible apply Still.alloc | with_reducible apply Still.drew | with_reducible refine Still.step ?_ (by assumption) | with_reducible refine Still.trans ?_ (by assumption))))).size; (first | omega | (simp at h ⊢; omega) | (simp at h ⊢) | simp)
    have st6 : Still w0 w6 := Below.trans (show Still w0 _ from by ((repeat (first | with_reducible exact Still.refl _ | with_reducible assumption | with_reducible apply Still.alloc | with_reducible apply Still.drew | with_reducible refine Still.step ?_ (by assumption) | with_reducible refine Still.trans ?_ (by assumption))))) (ho6.below hle6)
    refine hK.out _ _ ?_ (fun hHeld => ?_)
    · exact K0.out _ st6
    clear hK K
    (try simp only [Act.put, List.setIfInBounds_toArray, List.set_cons_succ, List.set_cons_zero])
    refine wpAnyH_take (i := 8) (v := ?_) rfl (by kernel_rfl) (by kernel_rfl) (by kernel_rfl) (fun _ _ _ h => h) (Or.inl ⟨by rfl, ?_⟩) (by assumption) ?_
    rotate_left 1
    · intro w hSw; (try dsimp only at hSw); simp only [List.getElem_toArray, List.getElem_cons_succ, List.getElem_cons_zero]; go_simp; try (with_reducible rfl)
    (try simp only [List.getElem_toArray, List.getElem_cons_succ, List.getElem_cons_zero, Act.put, List.setIfInBounds_toArray, List.set_cons_succ, List.set_cons_zero])
    refine wpAnyH_done (by kernel_rfl) ?_ _
    go_wp2_with fail
    go_meet
    exact ⟨_, rfl, rfl, hb6, st6⟩
  case rest =>
  obtain ⟨ga, rfl, rfl, kY, st0⟩ := hcut
  have kX : Blk wc (w.heap.size) X 25 := Blk.stepS hbX st0
  have kR : Blk wc (w.heap.size + 1) zerosW 25 := Blk.stepS hbR st0
  have HB2 : Hid (Still w wc) := Lib.hid (HB.out.trans st0)
  obtain ⟨w1, hw1⟩ : ∃ w1, w1 = wc := ⟨_, rfl⟩
  rw [← hw1] at kY kX kR HB2 ⊢
  clear hw1 hbX hbR st0 HB K0
  go_wp2_with (first
    | (go_at_call 24; refine (CO.out _).mono ?_; rintro e' v5 ⟨rfl, d5⟩)
    | ((with_reducible refine at_store 25 (.tmp 2) (.tmp 22) ?_); refine wpList_store_blk rfl 25 (.tmp 2) (.tmp 22) rfl (w.heap.size + 1) zerosW K1 25 rfl rfl (by ((repeat (first | with_reducible assumption | with_reducible apply Blk.alloc | with_reducible apply Blk.drew | with_reducible refine Blk.step ?_ (by assumption) | with_reducible refine Blk.stepS ?_ (by assumption))))) LK1.out IK1.out OK1.out ?_; intro w9 hbw9 how9))
  refine bodyPost_ret (v := .agg K1.toArray) ?_ rfl ⟨rfl, Below.trans (show Still w v5 from HB2.out.trans (show Still w1 v5 by ((repeat (first | with_reducible exact Still.refl _ | with_reducible assumption | with_reducible apply Still.alloc | with_reducible apply Still.drew | with_reducible refine Still.step ?_ (by assumption) | with_reducible refine Still.trans ?_ (by assumption)))))) (how9.below (by omega))⟩
  exact results_cell_row Try.results21 _ _ (w.heap.size + 1) 25 _ (0, 0) _ (by rfl) hbw9 Try.underlying25 rfl IK1.out
set_option maxRecDepth 100000 in
set_option maxHeartbeats 4000000 in
theorem work_some (t : Nat) (w : World) (ht : t < 2 ^ 256) (h0 : t ≠ 0) (hm : ¬ 2 ^ 256 ≤ t + 1) : Calls Try.prog 21 #[.agg (cellsW (wd t)).toArray] w (Ret w (.agg (cellsW (wd (workN t))).toArray)) := by
  have gU := guardU
  obtain ⟨y, hy⟩ : ∃ y, y = t + 1 := ⟨_, rfl⟩
  obtain ⟨B, hB⟩ : ∃ B, B = decide (2 ^ 256 ≤ y) := ⟨_, rfl⟩
  obtain ⟨r, hr⟩ : ∃ r, r = 2 ^ 256 - 1 - t := ⟨_, rfl⟩
  obtain ⟨q, hq⟩ : ∃ q, q = r / y := ⟨_, rfl⟩
  obtain ⟨z, hz⟩ : ∃ z, z = r % y := ⟨_, rfl⟩
  obtain ⟨v, hv⟩ : ∃ v, v = workN t := ⟨_, rfl⟩
  obtain ⟨mx, hmx⟩ : ∃ mx, mx = 2 ^ 256 - 1 := ⟨_, rfl⟩
  have bmx : mx < 2 ^ 256 := by rw [hmx]; decide
  have br : r < 2 ^ 256 := by rw [hr]; omega
  have by1 : y < 2 ^ 256 := by omega
  have hv2 : v = q + 1 := by
    rw [hv, hq]
    unfold workN
    rw [if_neg h0, ← hy, show 2 ^ 256 = r + y from by omega, Nat.add_div_right _ (by omega)]
  have bq : q < 2 ^ 256 := by rw [hq]; exact Nat.lt_of_le_of_lt (Nat.div_le_self _ _) br
  have hd : dif mx t = r := by
    unfold dif
    rw [hr, hmx]
    omega
  have hBt : B = false := by rw [hB, hy]; exact decide_eq_false hm
  obtain ⟨X, hX⟩ : ∃ X, X = cellsW (wd t) := ⟨_, rfl⟩
  have IX : Hid ((Try.prog.info? 25).map (·.size) = some X.length) := Lib.hid (by rw [hX]; exact sizeW _)
  have LX : Hid (zerosW.length = X.length) := Lib.hid (by rw [hX]; rfl)
  have OX : Hid (∀ v ∈ X, v.oneCell' = true) := Lib.hid (by rw [hX]; exact cellsW_one _)
  obtain ⟨K1, hK1⟩ : ∃ X, X = cellsW (wd 1) := ⟨_, rfl⟩
  have IK1 : Hid ((Try.prog.info? 25).map (·.size) = some K1.length) := Lib.hid (by rw [hK1]; exact sizeW _)
  have LK1 : Hid (zerosW.length = K1.length) := Lib.hid (by rw [hK1]; rfl)
  have OK1 : Hid (∀ v ∈ K1, v.oneCell' = true) := Lib.hid (by rw [hK1]; exact cellsW_one _)
  obtain ⟨Y, hY⟩ : ∃ X, X = cellsW (wd y) := ⟨_, rfl⟩
  have IY : Hid ((Try.prog.info? 25).map (·.size) = some Y.length) := Lib.hid (by rw [hY]; exact sizeW _)
  have LY : Hid (zerosW.length = Y.length) := Lib.hid (by rw [hY]; rfl)
  have OY : Hid (∀ v ∈ Y, v.oneCell' = true) := Lib.hid (by rw [hY]; exact cellsW_one _)
  have heq : ∀ W, (Op.equalIn 10000 25 (.agg X.toArray) (.agg #[.int .u64 0, .int .u64 0, .int .u64 0, .int .u64 0])).run Try.prog W = .ok false W := fun W => by
    have h := u_equal t 0 ht (by decide) W
    rw [decide_eq_false h0] at h
    rw [hX]
    exact h
  have CO : Hid (∀ W, Calls Try.prog 24 #[.int .u64 1] W (Ret W (.agg K1.toArray))) := Lib.hid (fun W => by rw [hK1]; exact wof_calls 1 W (by decide))
  have CA : Hid (∀ W, Calls Try.prog 38 #[.agg X.toArray, .agg K1.toArray] W (Ret W (.tuple #[.agg Y.toArray, .bool B]))) := Lib.hid fun W => by
    have h := add_calls t 1 W ht (by decide)
    rw [← hy, show decide (2 ^ 256 ≤ y) = B from hB.symm] at h
    rw [hX, hK1, hY]
    exact h
  obtain ⟨M, hM⟩ : ∃ X, X = cellsW (wd mx) := ⟨_, rfl⟩
  have IM : Hid ((Try.prog.info? 25).map (·.size) = some M.length) := Lib.hid (by rw [hM]; exact sizeW _)
  have LM : Hid (zerosW.length = M.length) := Lib.hid (by rw [hM]; rfl)
  have OM : Hid (∀ v ∈ M, v.oneCell' = true) := Lib.hid (by rw [hM]; exact cellsW_one _)
  obtain ⟨R, hR⟩ : ∃ X, X = cellsW (wd r) := ⟨_, rfl⟩
  have IR : Hid ((Try.prog.info? 25).map (·.size) = some R.length) := Lib.hid (by rw [hR]; exact sizeW _)
  have LR : Hid (zerosW.length = R.length) := Lib.hid (by rw [hR]; rfl)
  have OR : Hid (∀ v ∈ R, v.oneCell' = true) := Lib.hid (by rw [hR]; exact cellsW_one _)
  obtain ⟨Q, hQ⟩ : ∃ X, X = cellsW (wd q) := ⟨_, rfl⟩
  have IQ : Hid ((Try.prog.info? 25).map (·.size) = some Q.length) := Lib.hid (by rw [hQ]; exact sizeW _)
  have LQ : Hid (zerosW.length = Q.length) := Lib.hid (by rw [hQ]; rfl)
  have OQ : Hid (∀ v ∈ Q, v.oneCell' = true) := Lib.hid (by rw [hQ]; exact cellsW_one _)
  obtain ⟨D, hD⟩ : ∃ X, X = cellsW (wd z) := ⟨_, rfl⟩
  have ID : Hid ((Try.prog.info? 25).map (·.size) = some D.length) := Lib.hid (by rw [hD]; exact sizeW _)
  have LD : Hid (zerosW.length = D.length) := Lib.hid (by rw [hD]; rfl)
  have OD : Hid (∀ v ∈ D, v.oneCell' = true) := Lib.hid (by rw [hD]; exact cellsW_one _)
  obtain ⟨V, hV⟩ : ∃ X, X = cellsW (wd v) := ⟨_, rfl⟩
  have IV : Hid ((Try.prog.info? 25).map (·.size) = some V.length) := Lib.hid (by rw [hV]; exact sizeW _)
  have LV : Hid (zerosW.length = V.length) := Lib.hid (by rw [hV]; rfl)
  have OV : Hid (∀ v ∈ V, v.oneCell' = true) := Lib.hid (by rw [hV]; exact cellsW_one _)
  have CM : Hid (∀ W, Calls Try.prog 22 #[] W (Ret W (.agg M.toArray))) := Lib.hid (fun W => by rw [hM, hmx]; exact max_calls W)
  have CS : Hid (∀ W, Calls Try.prog 18 #[.agg M.toArray, .agg X.toArray] W (Ret W (.tuple #[.agg R.toArray, .bool false]))) := Lib.hid fun W => by
    have h := sub_calls mx t W bmx ht
    rw [hd, decide_eq_false (by omega)] at h
    rw [hX, hM, hR]
    exact h
  have CQ : Hid (∀ W, Calls Try.prog 39 #[.agg R.toArray, .agg Y.toArray] W (Ret W (.tuple #[.agg Q.toArray, .agg D.toArray]))) := Lib.hid fun W => by
    have h := quo_calls r y W br by1 (by omega)
    rw [← hq, ← hz] at h
    rw [hR, hY, hQ, hD]
    exact h
  obtain ⟨B2, hB2⟩ : ∃ B2, B2 = decide (2 ^ 256 ≤ q + 1) := ⟨_, rfl⟩
  have CA2 : Hid (∀ W, Calls Try.prog 38 #[.agg Q.toArray, .agg K1.toArray] W (Ret W (.tuple #[.agg V.toArray, .bool B2]))) := Lib.hid fun W => by
    have h := add_calls q 1 W bq (by decide)
    rw [← hB2, ← hv2] at h
    rw [hQ, hK1, hV]
    exact h
  rw [← hv, ← hX, ← hV]
  obtain ⟨w0, hw0⟩ : ∃ w0, w0 = (w.alloc (.cells X.toArray 25)).alloc (.cells #[.int .u64 0, .int .u64 0, .int .u64 0, .int .u64 0] 25) := ⟨_, rfl⟩
  have hbX : Blk w0 (w.heap.size) X 25 := by rw [hw0]; exact Blk.alloc (Blk.new' w X.toArray 25 (w.heap.size) (by simp)) _
  have hbR : Blk w0 (w.heap.size + 1) zerosW 25 := by rw [hw0]; exact Blk.new' (w.alloc _) #[.int .u64 0, .int .u64 0, .int .u64 0, .int .u64 0] 25 (w.heap.size + 1) (by simp)
  have HB : Hid (Still w w0) := Lib.hid (by rw [hw0]; exact Still.alloc (Still.alloc (Still.refl w) _) _)
  have K0 : Hid (∀ W, Still w0 W → (W.rangeAt w.heap.size 0 X ∧ Still w0 W)) := Lib.hid fun W h => ⟨(Blk.stepS hbX h).range, h⟩
  subst hBt
  clear hX hK1 hY hB hy hv ht h0 hm hM hR hQ hD hV hr hq hz hmx bmx br by1 hv2 bq hd hB2
  go_enter Try.func21, Try.ntmps21
  go_upto_region 1 with fail
  rw [← hw0]
  clear hw0
  go_upto_region 3 with (first
    | ((with_reducible refine at_load 25 (.tmp 1) ?_); refine wpList_load_mid rfl 25 (.tmp 1) rfl (w.heap.size) 0 rfl X _ (Blk.range (t := 25) (by ((repeat (first | with_reducible assumption | with_reducible apply Blk.alloc | with_reducible apply Blk.drew | with_reducible refine Blk.step ?_ (by assumption) | with_reducible refine Blk.stepS ?_ (by assumption)))))) Try.underlying25 rfl IX.out ?_))
  go_cut [3, 4] from 15 to 20 (fun p q wx => ∃ ga : Nat, p = .pointer (some ⟨ga, 0, none⟩) ∧ q = .bool false ∧ Blk wx ga Y 25 ∧ Still w0 wx)
  case first =>
    refine wp_region_held_drew (S := fun W => W.rangeAt w.heap.size 0 X ∧ Still w0 W) (by kernel_rfl) ?_ (fun hHeld => ?_)
    · exact K0.out _ (show Still w0 _ by ((repeat (first | with_reducible exact Still.refl _ | with_reducible assumption | with_reducible apply Still.alloc | with_reducible apply Still.drew | with_reducible refine Still.step ?_ (by assumption) | with_reducible refine Still.trans ?_ (by assumption)))))
    refine wpAnyH_take (i := 0) rfl (by kernel_rfl) (by kernel_rfl) (by kernel_rfl) (fun _ _ _ h => h) (yieldsIf_load_mid (by rfl) _ _ rfl _ _ rfl X _ (fun w hSw => by (try dsimp only at hSw); go_split_ands; assumption) Try.underlying25 rfl IX.out) (by assumption) ?_
    (try simp only [List.getElem_toArray, List.getElem_cons_succ, List.getElem_cons_zero, Act.put, List.setIfInBounds_toArray, List.set_cons_succ, List.set_cons_zero])
    refine wpAnyH_ready (rs := [1, 6]) (by kernel_rfl) (by simp) ?_
    refine AllReadyH.cons rfl (fun K hK => ?_) ?_
    · (try simp only [List.getElem_toArray, List.getElem_cons_succ, List.getElem_cons_zero])
      go_simp
      go_at_call 24; refine (CO.out _).mono ?_; rintro e' v1 ⟨rfl, dv1⟩
      (try (go_wp2_with fail))
      refine hK.out _ _ ?_ (fun hHeld => ?_)
      · exact K0.out _ (show Still w0 _ by ((repeat (first | with_reducible exact Still.refl _ | with_reducible assumption | with_reducible apply Still.alloc | with_reducible apply Still.drew | with_reducible refine Still.step ?_ (by assumption) | with_reducible refine Still.trans ?_ (by assumption)))))
      clear hK K
      (try simp only [Act.put, List.setIfInBounds_toArray, List.set_cons_succ, List.set_cons_zero])
      refine wpAnyH_ready (rs := [2, 6]) (by kernel_rfl) (by simp) ?_
      refine AllReadyH.cons rfl (fun K hK => ?_) ?_
      · (try simp only [List.getElem_toArray, List.getElem_cons_succ, List.getElem_cons_zero])
        go_simp
        go_at_call 38; refine (CA.out _).mono ?_; rintro e' v2 ⟨rfl, dv2⟩
        (try (go_wp2_with fail))
        refine hK.out _ _ ?_ (fun hHeld => ?_)
        · exact K0.out _ (show Still w0 _ by ((repeat (first | with_reducible exact Still.refl _ | with_reducible assumption | with_reducible apply Still.alloc | with_reducible apply Still.drew | with_reducible refine Still.step ?_ (by assumption) | with_reducible refine Still.trans ?_ (by assumption)))))
        clear hK K
        (try simp only [Act.put, List.setIfInBounds_toArray, List.set_cons_succ, List.set_cons_zero])
        refine wpAnyH_take (i := 3) (v := ?_) rfl (by kernel_rfl) (by kernel_rfl) (by kernel_rfl) (fun _ _ _ h => h) (Or.inl ⟨by rfl, ?_⟩) (by assumption) ?_
        rotate_left 1
        · intro w hSw; (try dsimp only at hSw); simp only [List.getElem_toArray, List.getElem_cons_succ, List.getElem_cons_zero]; go_simp; try (with_reducible rfl)
        (try simp only [List.getElem_toArray, List.getElem_cons_succ, List.getElem_cons_zero, Act.put, List.setIfInBounds_toArray, List.set_cons_succ, List.set_cons_zero])
        refine wpAnyH_take (i := 4) (v := ?_) rfl (by kernel_rfl) (by kernel_rfl) (by kernel_rfl) (fun _ _ _ h => h) (Or.inl ⟨by rfl, ?_⟩) (by assumption) ?_
        rotate_left 1
        · intro w hSw; (try dsimp only at hSw); simp only [List.getElem_toArray, List.getElem_cons_succ, List.getElem_cons_zero]; go_simp; try (with_reducible rfl)
        (try simp only [List.getElem_toArray, List.getElem_cons_succ, List.getElem_cons_zero, Act.put, List.setIfInBounds_toArray, List.set_cons_succ, List.set_cons_zero])
        refine wpAnyH_take (i := 5) (v := ?_) rfl (by kernel_rfl) (by kernel_rfl) (by kernel_rfl) (fun _ _ _ h => h) (Or.inl ⟨by rfl, ?_⟩) (by assumption) ?_
        rotate_left 1
        · intro w hSw; (try dsimp only at hSw); simp only [List.getElem_toArray, List.getElem_cons_succ, List.getElem_cons_zero]; go_simp; try (with_reducible rfl)
        (try simp only [List.getElem_toArray, List.getElem_cons_succ, List.getElem_cons_zero, Act.put, List.setIfInBounds_toArray, List.set_cons_succ, List.set_cons_zero])
        refine wpAnyH_ready (rs := [6]) (by kernel_rfl) (by simp) ?_
        refine AllReadyH.cons rfl (fun K hK => ?_) AllReadyH.nil
        (try simp only [List.getElem_toArray, List.getElem_cons_succ, List.getElem_cons_zero])
        go_simp
        have hz6 : Blk ((v2.alloc (.cells #[.int .u64 0, .int .u64 0, .int .u64 0, .int .u64 0] 25))) (v2.heap.size) zerosW 25 := Blk.new' _ _ _ _ (by simp)
        refine hK.out _ _ ?_ (fun hHeld => ?_)
        · exact K0.out _ (show Still w0 _ by ((repeat (first | with_reducible exact Still.refl _ | with_reducible assumption | with_reducible apply Still.alloc | with_reducible apply Still.drew | with_reducible refine Still.step ?_ (by assumption) | with_reducible refine Still.trans ?_ (by assumption)))))
        clear hK K
        (try simp only [Act.put, List.setIfInBounds_toArray, List.set_cons_succ, List.set_cons_zero])
        refine wpAnyH_ready (rs := [7]) (by kernel_rfl) (by simp) ?_
        refine AllReadyH.cons rfl (fun K hK => ?_) AllReadyH.nil
        (try simp only [List.getElem_toArray, List.getElem_cons_succ, List.getElem_cons_zero])
        refine Eq.mpr (if_pos (by rfl)) ?_
        refine wp_store_blk 25 (.tmp 3) (.tmp 19) rfl (v2.heap.size) zerosW Y 25 rfl rfl (by ((repeat (first | with_reducible assumption | with_reducible apply Blk.alloc | with_reducible apply Blk.drew | with_reducible refine Blk.step ?_ (by assumption) | with_reducible refine Blk.stepS ?_ (by assumption))))) LY.out IY.out OY.out ?_
        intro w6 hb6 ho6
        have hle6 : w0.heap.size ≤ v2.heap.size := by have h := (show Still w0 v2 from by ((repeat (first | with_reducible exact Still.refl _ | with_reducible assumption | with_reducible apply Still.alloc | with_reducible apply Still.drew | with_reducible refine Still.step ?_ (by assumption) | with_reducible refine Still.trans ?_ (by assumption))))).size; (first | omega | (simp at h ⊢; omega) | (simp at h ⊢) | simp)
        have st6 : Still w0 w6 := Below.trans (show Still w0 _ from by ((repeat (first | with_reducible exact Still.refl _ | with_reducible assumption | with_reducible apply Still.alloc | with_reducible apply Still.drew | with_reducible refine Still.step ?_ (by assumption) | with_reducible refine Still.trans ?_ (by assumption))))) (ho6.below hle6)
        refine hK.out _ _ ?_ (fun hHeld => ?_)
        · exact K0.out _ st6
        clear hK K
        (try simp only [Act.put, List.setIfInBounds_toArray, List.set_cons_succ, List.set_cons_zero])
        refine wpAnyH_take (i := 8) (v := ?_) rfl (by kernel_rfl) (by kernel_rfl) (by kernel_rfl) (fun _ _ _ h => h) (Or.inl ⟨by rfl, ?_⟩) (by assumption) ?_
        rotate_left 1
        · intro w hSw; (try dsimp only at hSw); simp only [List.getElem_toArray, List.getElem_cons_succ, List.getElem_cons_zero]; go_simp; try (with_reducible rfl)
        (try simp only [List.getElem_toArray, List.getElem_cons_succ, List.getElem_cons_zero, Act.put, List.setIfInBounds_toArray, List.set_cons_succ, List.set_cons_zero])
        refine wpAnyH_done (by kernel_rfl) ?_ _
        go_wp2_with fail
        go_meet
        exact ⟨_, rfl, rfl, hb6, st6⟩
      refine AllReadyH.cons rfl (fun K hK => ?_) AllReadyH.nil
      (try simp only [List.getElem_toArray, List.getElem_cons_succ, List.getElem_cons_zero])
      go_simp
      have hz6 : Blk ((v1.alloc (.cells #[.int .u64 0, .int .u64 0, .int .u64 0, .int .u64 0] 25))) (v1.heap.size) zerosW 25 := Blk.new' _ _ _ _ (by simp)
      refine hK.out _ _ ?_ (fun hHeld => ?_)
      · exact K0.out _ (show Still w0 _ by ((repeat (first | with_reducible exact Still.refl _ | with_reducible assumption | with_reducible apply Still.alloc | with_reducible apply Still.drew | with_reducible refine Still.step ?_ (by assumption) | with_reducible refine Still.trans ?_ (by assumption)))))
      clear hK K
      (try simp only [Act.put, List.setIfInBounds_toArray, List.set_cons_succ, List.set_cons_zero])
      refine wpAnyH_ready (rs := [2]) (by kernel_rfl) (by simp) ?_
      refine AllReadyH.cons rfl (fun K hK => ?_) AllReadyH.nil
      (try simp only [List.getElem_toArray, List.getElem_cons_succ, List.getElem_cons_zero])
      go_simp
      go_at_call 38; refine (CA.out _).mono ?_; rintro e' v2 ⟨rfl, dv2⟩
      (try (go_wp2_with fail))
      refine hK.out _ _ ?_ (fun hHeld => ?_)
      · exact K0.out _ (show Still w0 _ by ((repeat (first | with_reducible exact Still.refl _ | with_reducible assumption | with_reducible apply Still.alloc | with_reducible apply Still.drew | with_reducible refine Still.step ?_ (by assumption) | with_reducible refine Still.trans ?_ (by assumption)))))
      clear hK K
      (try simp only [Act.put, List.setIfInBounds_toArray, List.set_cons_succ, List.set_cons_zero])
      refine wpAnyH_take (i := 3) (v := ?_) rfl (by kernel_rfl) (by kernel_rfl) (by kernel_rfl) (fun _ _ _ h => h) (Or.inl ⟨by rfl, ?_⟩) (by assumption) ?_
      rotate_left 1
      · intro w hSw; (try dsimp only at hSw); simp only [List.getElem_toArray, List.getElem_cons_succ, List.getElem_cons_zero]; go_simp; try (with_reducible rfl)
      (try simp only [List.getElem_toArray, List.getElem_cons_succ, List.getElem_cons_zero, Act.put, List.setIfInBounds_toArray, List.set_cons_succ, List.set_cons_zero])
      refine wpAnyH_take (i := 4) (v := ?_) rfl (by kernel_rfl) (by kernel_rfl) (by kernel_rfl) (fun _ _ _ h => h) (Or.inl ⟨by rfl, ?_⟩) (by assumption) ?_
      rotate_left 1
      · intro w hSw; (try dsimp only at hSw); simp only [List.getElem_toArray, List.getElem_cons_succ, List.getElem_cons_zero]; go_simp; try (with_reducible rfl)
      (try simp only [List.getElem_toArray, List.getElem_cons_succ, List.getElem_cons_zero, Act.put, List.setIfInBounds_toArray, List.set_cons_succ, List.set_cons_zero])
      refine wpAnyH_take (i := 5) (v := ?_) rfl (by kernel_rfl) (by kernel_rfl) (by kernel_rfl) (fun _ _ _ h => h) (Or.inl ⟨by rfl, ?_⟩) (by assumption) ?_
      rotate_left 1
      · intro w hSw; (try dsimp only at hSw); simp only [List.getElem_toArray, List.getElem_cons_succ, List.getElem_cons_zero]; go_simp; try (with_reducible rfl)
      (try simp only [List.getElem_toArray, List.getElem_cons_succ, List.getElem_cons_zero, Act.put, List.setIfInBounds_toArray, List.set_cons_succ, List.set_cons_zero])
      refine wpAnyH_ready (rs := [7]) (by kernel_rfl) (by simp) ?_
      refine AllReadyH.cons rfl (fun K hK => ?_) AllReadyH.nil
      (try simp only [List.getElem_toArray, List.getElem_cons_succ, List.getElem_cons_zero])
      refine Eq.mpr (if_pos (by rfl)) ?_
      refine wp_store_blk 25 (.tmp 3) (.tmp 19) rfl (v1.heap.size) zerosW Y 25 rfl rfl (by ((repeat (first | with_reducible assumption | with_reducible apply Blk.alloc | with_reducible apply Blk.drew | with_reducible refine Blk.step ?_ (by assumption) | with_reducible refine Blk.stepS ?_ (by assumption))))) LY.out IY.out OY.out ?_
      intro w6 hb6 ho6
      have hle6 : w0.heap.size ≤ v1.heap.size := by have h := (show Still w0 v1 from by ((repeat (first | with_reducible exact Still.refl _ | with_reducible assumption | with_reducible apply Still.alloc | with_reducible apply Still.drew | with_reducible refine Still.step ?_ (by assumption) | with_reducible refine Still.trans ?_ (by assumption))))).size; (first | omega | (simp at h ⊢; omega) | (simp at h ⊢) | simp)
      have st6 : Still w0 w6 := Below.trans (show Still w0 _ from by ((repeat (first | with_reducible exact Still.refl _ | with_reducible assumption | with_reducible apply Still.alloc | with_reducible apply Still.drew | with_reducible refine Still.step ?_ (by assumption) | with_reducible refine Still.trans ?_ (by assumption))))) (ho6.below hle6)
      refine hK.out _ _ ?_ (fun hHeld => ?_)
      · exact K0.out _ st6
      clear hK K
      (try simp only [Act.put, List.setIfInBounds_toArray, List.set_cons_succ, List.set_cons_zero])
      refine wpAnyH_take (i := 8) (v := ?_) rfl (by kernel_rfl) (by kernel_rfl) (by kernel_rfl) (fun _ _ _ h => h) (Or.inl ⟨by rfl, ?_⟩) (by assumption) ?_
      rotate_left 1
      · intro w hSw; (try dsimp only at hSw); simp only [List.getElem_toArray, List.getElem_cons_succ, List.getElem_cons_zero]; go_simp; try (with_reducible rfl)
      (try simp only [List.getElem_toArray, List.getElem_cons_succ, List.getElem_cons_zero, Act.put, List.setIfInBounds_toArray, List.set_cons_succ, List.set_cons_zero])
      refine wpAnyH_done (by kernel_rfl) ?_ _
      go_wp2_with fail
      go_meet
      exact ⟨_, rfl, rfl, hb6, st6⟩
    refine AllReadyH.cons rfl (fun K hK => ?_) AllReadyH.nil
    (try simp only [List.getElem_toArray, List.getElem_cons_succ, List.getElem_cons_zero])
    go_simp
    have hz6 : Blk ((w0.alloc (.cells #[.int .u64 0, .int .u64 0, .int .u64 0, .int .u64 0] 25))) (w0.heap.size) zerosW 25 := Blk.new' _ _ _ _ (by simp)
    refine hK.out _ _ ?_ (fun hHeld => ?_)
    · exact K0.out _ (show Still w0 _ by ((repeat (first | with_reducible exact Still.refl _ | with_reducible assumption | with_reducible apply Still.alloc | with_reducible apply Still.drew | with_reducible refine Still.step ?_ (by assumption) | with_reducible refine Still.trans ?_ (by assumption)))))
    clear hK K
    (try simp only [Act.put, List.setIfInBounds_toArray, List.set_cons_succ, List.set_cons_zero])
    refine wpAnyH_ready (rs := [1]) (by kernel_rfl) (by simp) ?_
    refine AllReadyH.cons rfl (fun K hK => ?_) AllReadyH.nil
    (try simp only [List.getElem_toArray, List.getElem_cons_succ, List.getElem_cons_zero])
    go_simp
    go_at_call 24; refine (CO.out _).mono ?_; rintro e' v1 ⟨rfl, dv1⟩
    (try (go_wp2_with fail))
    refine hK.out _ _ ?_ (fun hHeld => ?_)
    · exact K0.out _ (show Still w0 _ by ((repeat (first | with_reducible exact Still.refl _ | with_reducible assumption | with_reducible apply Still.alloc | with_reducible apply Still.drew | with_reducible refine Still.step ?_ (by assumption) | with_reducible refine Still.trans ?_ (by assumption)))))
    clear hK K
    (try simp only [Act.put, List.setIfInBounds_toArray, List.set_cons_succ, List.set_cons_zero])
    refine wpAnyH_ready (rs := [2]) (by kernel_rfl) (by simp) ?_
    refine AllReadyH.cons rfl (fun K hK => ?_) AllReadyH.nil
    (try simp only [List.getElem_toArray, List.getElem_cons_succ, List.getElem_cons_zero])
    go_simp
    go_at_call 38; refine (CA.out _).mono ?_; rintro e' v2 ⟨rfl, dv2⟩
    (try (go_wp2_with fail))
    refine hK.out _ _ ?_ (fun hHeld => ?_)
    · exact K0.out _ (show Still w0 _ by ((repeat (first | with_reducible exact Still.refl _ | with_reducible assumption | with_reducible apply Still.alloc | with_reducible apply Still.drew | with_reducible refine Still.step ?_ (by assumption) | with_reducible refine Still.trans ?_ (by assumption)))))
    clear hK K
    (try simp only [Act.put, List.setIfInBounds_toArray, List.set_cons_succ, List.set_cons_zero])
    refine wpAnyH_take (i := 3) (v := ?_) rfl (by kernel_rfl) (by kernel_rfl) (by kernel_rfl) (fun _ _ _ h => h) (Or.inl ⟨by rfl, ?_⟩) (by assumption) ?_
    rotate_left 1
    · intro w hSw; (try dsimp only at hSw); simp only [List.getElem_toArray, List.getElem_cons_succ, List.getElem_cons_zero]; go_simp; try (with_reducible rfl)
    (try simp only [List.getElem_toArray, List.getElem_cons_succ, List.getElem_cons_zero, Act.put, List.setIfInBounds_toArray, List.set_cons_succ, List.set_cons_zero])
    refine wpAnyH_take (i := 4) (v := ?_) rfl (by kernel_rfl) (by kernel_rfl) (by kernel_rfl) (fun _ _ _ h => h) (Or.inl ⟨by rfl, ?_⟩) (by assumption) ?_
    rotate_left 1
    · intro w hSw; (try dsimp only at hSw); simp only [List.getElem_toArray, List.getElem_cons_succ, List.getElem_cons_zero]; go_simp; try (with_reducible rfl)
    (try simp only [List.getElem_toArray, List.getElem_cons_succ, List.getElem_cons_zero, Act.put, List.setIfInBounds_toArray, List.set_cons_succ, List.set_cons_zero])
    refine wpAnyH_take (i := 5) (v := ?_) rfl (by kernel_rfl) (by kernel_rfl) (by kernel_rfl) (fun _ _ _ h => h) (Or.inl ⟨by rfl, ?_⟩) (by assumption) ?_
    rotate_left 1
    · intro w hSw; (try dsimp only at hSw); simp only [List.getElem_toArray, List.getElem_cons_succ, List.getElem_cons_zero]; go_simp; try (with_reducible rfl)
    (try simp only [List.getElem_toArray, List.getElem_cons_succ, List.getElem_cons_zero, Act.put, List.setIfInBounds_toArray, List.set_cons_succ, List.set_cons_zero])
    refine wpAnyH_ready (rs := [7]) (by kernel_rfl) (by simp) ?_
    refine AllReadyH.cons rfl (fun K hK => ?_) AllReadyH.nil
    (try simp only [List.getElem_toArray, List.getElem_cons_succ, List.getElem_cons_zero])
    refine Eq.mpr (if_pos (by rfl)) ?_
    refine wp_store_blk 25 (.tmp 3) (.tmp 19) rfl (w0.heap.size) zerosW Y 25 rfl rfl (by ((repeat (first | with_reducible assumption | with_reducible apply Blk.alloc | with_reducible apply Blk.drew | with_reducible refine Blk.step ?_ (by assumption) | with_reducible refine Blk.stepS ?_ (by assumption))))) LY.out IY.out OY.out ?_
    intro w6 hb6 ho6
    have hle6 : w0.heap.size ≤ w0.heap.size := by have h := (show Still w0 w0.drew from by ((repeat (first | with_reducible exact Still.refl _ | with_reducible assumption | with_reducible apply Still.alloc | with_reducible apply Still.drew | with_reducible refine Still.step ?_ (by assumption) | with_reducible refine Still.trans ?_ (by assumption))))).size; (first | omega | (simp at h ⊢; omega) | (simp at h ⊢) | simp)
    have st6 : Still w0 w6 := Below.trans (show Still w0 _ from by ((repeat (first | with_reducible exact Still.refl _ | with_reducible assumption | with_reducible apply Still.alloc | with_reducible apply Still.drew | with_reducible refine Still.step ?_ (by assumption) | with_reducible refine Still.trans ?_ (by assumption))))) (ho6.below hle6)
    refine hK.out _ _ ?_ (fun hHeld => ?_)
    · exact K0.out _ st6
    clear hK K
    (try simp only [Act.put, List.setIfInBounds_toArray, List.set_cons_succ, List.set_cons_zero])
    refine wpAnyH_take (i := 8) (v := ?_) rfl (by kernel_rfl) (by kernel_rfl) (by kernel_rfl) (fun _ _ _ h => h) (Or.inl ⟨by rfl, ?_⟩) (by assumption) ?_
    rotate_left 1
    · intro w hSw; (try dsimp only at hSw); simp only [List.getElem_toArray, List.getElem_cons_succ, List.getElem_cons_zero]; go_simp; try (with_reducible rfl)
    (try simp only [List.getElem_toArray, List.getElem_cons_succ, List.getElem_cons_zero, Act.put, List.setIfInBounds_toArray, List.set_cons_succ, List.set_cons_zero])
    refine wpAnyH_done (by kernel_rfl) ?_ _
    go_wp2_with fail
    go_meet
    exact ⟨_, rfl, rfl, hb6, st6⟩
  case rest =>
  obtain ⟨ga, rfl, rfl, kY, st0⟩ := hcut
  have kX : Blk wc (w.heap.size) X 25 := Blk.stepS hbX st0
  have kR : Blk wc (w.heap.size + 1) zerosW 25 := Blk.stepS hbR st0
  have HB2 : Hid (Still w wc) := Lib.hid (HB.out.trans st0)
  obtain ⟨w1, hw1⟩ : ∃ w1, w1 = wc := ⟨_, rfl⟩
  rw [← hw1] at kY kX kR HB2 ⊢
  clear hw1 hbX hbR st0 HB K0
  go_upto_region 6 with fail
  have K0 : Hid (∀ W, Still w1 W → (W.rangeAt w.heap.size 0 X ∧ Still w1 W)) := Lib.hid fun W h => ⟨(Blk.stepS kX h).range, h⟩
  go_cut [5, 6] from 23 to 28 (fun p q wx => ∃ gb : Nat, p = .pointer (some ⟨gb, 0, none⟩) ∧ q = .bool false ∧ Blk wx gb R 25 ∧ Still w1 wx)
  case first =>
    refine wp_region_held_drew (S := fun W => W.rangeAt w.heap.size 0 X ∧ Still w1 W) (by kernel_rfl) ?_ (fun hHeld => ?_)
    · exact K0.out _ (show Still w1 _ by ((repeat (first | with_reducible exact Still.refl _ | with_reducible assumption | with_reducible apply Still.alloc | with_reducible apply Still.drew | with_reducible refine Still.step ?_ (by assumption) | with_reducible refine Still.trans ?_ (by assumption)))))
    refine wpAnyH_take (i := 1) rfl (by kernel_rfl) (by kernel_rfl) (by kernel_rfl) (fun _ _ _ h => h) (yieldsIf_load_mid (by rfl) _ _ rfl _ _ rfl X _ (fun w hSw => by (try dsimp only at hSw); go_split_ands; assumption) Try.underlying25 rfl IX.out) (by assumption) ?_
    (try simp only [List.getElem_toArray, List.getElem_cons_succ, List.getElem_cons_zero, Act.put, List.setIfInBounds_toArray, List.set_cons_succ, List.set_cons_zero])
    refine wpAnyH_ready (rs := [0, 6]) (by kernel_rfl) (by simp) ?_
    refine AllReadyH.cons rfl (fun K hK => ?_) ?_
    · (try simp only [List.getElem_toArray, List.getElem_cons_succ, List.getElem_cons_zero])
      go_simp
      go_at_call 22; refine (CM.out _).mono ?_; rintro e' v1 ⟨rfl, dv1⟩
      (try (go_wp2_with fail))
      refine hK.out _ _ ?_ (fun hHeld => ?_)
      · exact K0.out _ (show Still w1 _ by ((repeat (first | with_reducible exact Still.refl _ | with_reducible assumption | with_reducible apply Still.alloc | with_reducible apply Still.drew | with_reducible refine Still.step ?_ (by assumption) | with_reducible refine Still.trans ?_ (by assumption)))))
      clear hK K
      (try simp only [Act.put, List.setIfInBounds_toArray, List.set_cons_succ, List.set_cons_zero])
      refine wpAnyH_ready (rs := [2, 6]) (by kernel_rfl) (by simp) ?_
      refine AllReadyH.cons rfl (fun K hK => ?_) ?_
      · (try simp only [List.getElem_toArray, List.getElem_cons_succ, List.getElem_cons_zero])
        go_simp
        go_at_call 18; refine (CS.out _).mono ?_; rintro e' v2 ⟨rfl, dv2⟩
        (try (go_wp2_with fail))
        refine hK.out _ _ ?_ (fun hHeld => ?_)
        · exact K0.out _ (show Still w1 _ by ((repeat (first | with_reducible exact Still.refl _ | with_reducible assumption | with_reducible apply Still.alloc | with_reducible apply Still.drew | with_reducible refine Still.step ?_ (by assumption) | with_reducible refine Still.trans ?_ (by assumption)))))
        clear hK K
        (try simp only [Act.put, List.setIfInBounds_toArray, List.set_cons_succ, List.set_cons_zero])
        refine wpAnyH_take (i := 3) (v := ?_) rfl (by kernel_rfl) (by kernel_rfl) (by kernel_rfl) (fun _ _ _ h => h) (Or.inl ⟨by rfl, ?_⟩) (by assumption) ?_
        rotate_left 1
        · intro w hSw; (try dsimp only at hSw); simp only [List.getElem_toArray, List.getElem_cons_succ, List.getElem_cons_zero]; go_simp; try (with_reducible rfl)
        (try simp only [List.getElem_toArray, List.getElem_cons_succ, List.getElem_cons_zero, Act.put, List.setIfInBounds_toArray, List.set_cons_succ, List.set_cons_zero])
        refine wpAnyH_take (i := 4) (v := ?_) rfl (by kernel_rfl) (by kernel_rfl) (by kernel_rfl) (fun _ _ _ h => h) (Or.inl ⟨by rfl, ?_⟩) (by assumption) ?_
        rotate_left 1
        · intro w hSw; (try dsimp only at hSw); simp only [List.getElem_toArray, List.getElem_cons_succ, List.getElem_cons_zero]; go_simp; try (with_reducible rfl)
        (try simp only [List.getElem_toArray, List.getElem_cons_succ, List.getElem_cons_zero, Act.put, List.setIfInBounds_toArray, List.set_cons_succ, List.set_cons_zero])
        refine wpAnyH_take (i := 5) (v := ?_) rfl (by kernel_rfl) (by kernel_rfl) (by kernel_rfl) (fun _ _ _ h => h) (Or.inl ⟨by rfl, ?_⟩) (by assumption) ?_
        rotate_left 1
        · intro w hSw; (try dsimp only at hSw); simp only [List.getElem_toArray, List.getElem_cons_succ, List.getElem_cons_zero]; go_simp; try (with_reducible rfl)
        (try simp only [List.getElem_toArray, List.getElem_cons_succ, List.getElem_cons_zero, Act.put, List.setIfInBounds_toArray, List.set_cons_succ, List.set_cons_zero])
        refine wpAnyH_ready (rs := [6]) (by kernel_rfl) (by simp) ?_
        refine AllReadyH.cons rfl (fun K hK => ?_) AllReadyH.nil
        (try simp only [List.getElem_toArray, List.getElem_cons_succ, List.getElem_cons_zero])
        go_simp
        have hz6 : Blk ((v2.alloc (.cells #[.int .u64 0, .int .u64 0, .int .u64 0, .int .u64 0] 25))) (v2.heap.size) zerosW 25 := Blk.new' _ _ _ _ (by simp)
        refine hK.out _ _ ?_ (fun hHeld => ?_)
        · exact K0.out _ (show Still w1 _ by ((repeat (first | with_reducible exact Still.refl _ | with_reducible assumption | with_reducible apply Still.alloc | with_reducible apply Still.drew | with_reducible refine Still.step ?_ (by assumption) | with_reducible refine Still.trans ?_ (by assumption)))))
        clear hK K
        (try simp only [Act.put, List.setIfInBounds_toArray, List.set_cons_succ, List.set_cons_zero])
        refine wpAnyH_ready (rs := [7]) (by kernel_rfl) (by simp) ?_
        refine AllReadyH.cons rfl (fun K hK => ?_) AllReadyH.nil
        (try simp only [List.getElem_toArray, List.getElem_cons_succ, List.getElem_cons_zero])
        refine Eq.mpr (if_pos (by rfl)) ?_
        refine wp_store_blk 25 (.tmp 5) (.tmp 27) rfl (v2.heap.size) zerosW R 25 rfl rfl (by ((repeat (first | with_reducible assumption | with_reducible apply Blk.alloc | with_reducible apply Blk.drew | with_reducible refine Blk.step ?_ (by assumption) | with_reducible refine Blk.stepS ?_ (by assumption))))) LR.out IR.out OR.out ?_
        intro w6 hb6 ho6
        have hle6 : w1.heap.size ≤ v2.heap.size := by have h := (show Still w1 v2 from by ((repeat (first | with_reducible exact Still.refl _ | with_reducible assumption | with_reducible apply Still.alloc | with_reducible apply Still.drew | with_reducible refine Still.step ?_ (by assumption) | with_reducible refine Still.trans ?_ (by assumption))))).size; (first | omega | (simp at h ⊢; omega) | (simp at h ⊢) | simp)
        have st6 : Still w1 w6 := Below.trans (show Still w1 _ from by ((repeat (first | with_reducible exact Still.refl _ | with_reducible assumption | with_reducible apply Still.alloc | with_reducible apply Still.drew | with_reducible refine Still.step ?_ (by assumption) | with_reducible refine Still.trans ?_ (by assumption))))) (ho6.below hle6)
        refine hK.out _ _ ?_ (fun hHeld => ?_)
        · exact K0.out _ st6
        clear hK K
        (try simp only [Act.put, List.setIfInBounds_toArray, List.set_cons_succ, List.set_cons_zero])
        refine wpAnyH_take (i := 8) (v := ?_) rfl (by kernel_rfl) (by kernel_rfl) (by kernel_rfl) (fun _ _ _ h => h) (Or.inl ⟨by rfl, ?_⟩) (by assumption) ?_
        rotate_left 1
        · intro w hSw; (try dsimp only at hSw); simp only [List.getElem_toArray, List.getElem_cons_succ, List.getElem_cons_zero]; go_simp; try (with_reducible rfl)
        (try simp only [List.getElem_toArray, List.getElem_cons_succ, List.getElem_cons_zero, Act.put, List.setIfInBounds_toArray, List.set_cons_succ, List.set_cons_zero])
        refine wpAnyH_done (by kernel_rfl) ?_ _
        go_wp2_with fail
        go_meet
        exact ⟨_, rfl, rfl, hb6, st6⟩
      refine AllReadyH.cons rfl (fun K hK => ?_) AllReadyH.nil
      (try simp only [List.getElem_toArray, List.getElem_cons_succ, List.getElem_cons_zero])
      go_simp
      have hz6 : Blk ((v1.alloc (.cells #[.int .u64 0, .int .u64 0, .int .u64 0, .int .u64 0] 25))) (v1.heap.size) zerosW 25 := Blk.new' _ _ _ _ (by simp)
      refine hK.out _ _ ?_ (fun hHeld => ?_)
      · exact K0.out _ (show Still w1 _ by ((repeat (first | with_reducible exact Still.refl _ | with_reducible assumption | with_reducible apply Still.alloc | with_reducible apply Still.drew | with_reducible refine Still.step ?_ (by assumption) | with_reducible refine Still.trans ?_ (by assumption)))))
      clear hK K
      (try simp only [Act.put, List.setIfInBounds_toArray, List.set_cons_succ, List.set_cons_zero])
      refine wpAnyH_ready (rs := [2]) (by kernel_rfl) (by simp) ?_
      refine AllReadyH.cons rfl (fun K hK => ?_) AllReadyH.nil
      (try simp only [List.getElem_toArray, List.getElem_cons_succ, List.getElem_cons_zero])
      go_simp
      go_at_call 18; refine (CS.out _).mono ?_; rintro e' v2 ⟨rfl, dv2⟩
      (try (go_wp2_with fail))
      refine hK.out _ _ ?_ (fun hHeld => ?_)
      · exact K0.out _ (show Still w1 _ by ((repeat (first | with_reducible exact Still.refl _ | with_reducible assumption | with_reducible apply Still.alloc | with_reducible apply Still.drew | with_reducible refine Still.step ?_ (by assumption) | with_reducible refine Still.trans ?_ (by assumption)))))
      clear hK K
      (try simp only [Act.put, List.setIfInBounds_toArray, List.set_cons_succ, List.set_cons_zero])
      refine wpAnyH_take (i := 3) (v := ?_) rfl (by kernel_rfl) (by kernel_rfl) (by kernel_rfl) (fun _ _ _ h => h) (Or.inl ⟨by rfl, ?_⟩) (by assumption) ?_
      rotate_left 1
      · intro w hSw; (try dsimp only at hSw); simp only [List.getElem_toArray, List.getElem_cons_succ, List.getElem_cons_zero]; go_simp; try (with_reducible rfl)
      (try simp only [List.getElem_toArray, List.getElem_cons_succ, List.getElem_cons_zero, Act.put, List.setIfInBounds_toArray, List.set_cons_succ, List.set_cons_zero])
      refine wpAnyH_take (i := 4) (v := ?_) rfl (by kernel_rfl) (by kernel_rfl) (by kernel_rfl) (fun _ _ _ h => h) (Or.inl ⟨by rfl, ?_⟩) (by assumption) ?_
      rotate_left 1
      · intro w hSw; (try dsimp only at hSw); simp only [List.getElem_toArray, List.getElem_cons_succ, List.getElem_cons_zero]; go_simp; try (with_reducible rfl)
      (try simp only [List.getElem_toArray, List.getElem_cons_succ, List.getElem_cons_zero, Act.put, List.setIfInBounds_toArray, List.set_cons_succ, List.set_cons_zero])
      refine wpAnyH_take (i := 5) (v := ?_) rfl (by kernel_rfl) (by kernel_rfl) (by kernel_rfl) (fun _ _ _ h => h) (Or.inl ⟨by rfl, ?_⟩) (by assumption) ?_
      rotate_left 1
      · intro w hSw; (try dsimp only at hSw); simp only [List.getElem_toArray, List.getElem_cons_succ, List.getElem_cons_zero]; go_simp; try (with_reducible rfl)
      (try simp only [List.getElem_toArray, List.getElem_cons_succ, List.getElem_cons_zero, Act.put, List.setIfInBounds_toArray, List.set_cons_succ, List.set_cons_zero])
      refine wpAnyH_ready (rs := [7]) (by kernel_rfl) (by simp) ?_
      refine AllReadyH.cons rfl (fun K hK => ?_) AllReadyH.nil
      (try simp only [List.getElem_toArray, List.getElem_cons_succ, List.getElem_cons_zero])
      refine Eq.mpr (if_pos (by rfl)) ?_
      refine wp_store_blk 25 (.tmp 5) (.tmp 27) rfl (v1.heap.size) zerosW R 25 rfl rfl (by ((repeat (first | with_reducible assumption | with_reducible apply Blk.alloc | with_reducible apply Blk.drew | with_reducible refine Blk.step ?_ (by assumption) | with_reducible refine Blk.stepS ?_ (by assumption))))) LR.out IR.out OR.out ?_
      intro w6 hb6 ho6
      have hle6 : w1.heap.size ≤ v1.heap.size := by have h := (show Still w1 v1 from by ((repeat (first | with_reducible exact Still.refl _ | with_reducible assumption | with_reducible apply Still.alloc | with_reducible apply Still.drew | with_reducible refine Still.step ?_ (by assumption) | with_reducible refine Still.trans ?_ (by assumption))))).size; (first | omega | (simp at h ⊢; omega) | (simp at h ⊢) | simp)
      have st6 : Still w1 w6 := Below.trans (show Still w1 _ from by ((repeat (first | with_reducible exact Still.refl _ | with_reducible assumption | with_reducible apply Still.alloc | with_reducible apply Still.drew | with_reducible refine Still.step ?_ (by assumption) | with_reducible refine Still.trans ?_ (by assumption))))) (ho6.below hle6)
      refine hK.out _ _ ?_ (fun hHeld => ?_)
      · exact K0.out _ st6
      clear hK K
      (try simp only [Act.put, List.setIfInBounds_toArray, List.set_cons_succ, List.set_cons_zero])
      refine wpAnyH_take (i := 8) (v := ?_) rfl (by kernel_rfl) (by kernel_rfl) (by kernel_rfl) (fun _ _ _ h => h) (Or.inl ⟨by rfl, ?_⟩) (by assumption) ?_
      rotate_left 1
      · intro w hSw; (try dsimp only at hSw); simp only [List.getElem_toArray, List.getElem_cons_succ, List.getElem_cons_zero]; go_simp; try (with_reducible rfl)
      (try simp only [List.getElem_toArray, List.getElem_cons_succ, List.getElem_cons_zero, Act.put, List.setIfInBounds_toArray, List.set_cons_succ, List.set_cons_zero])
      refine wpAnyH_done (by kernel_rfl) ?_ _
      go_wp2_with fail
      go_meet
      exact ⟨_, rfl, rfl, hb6, st6⟩
    refine AllReadyH.cons rfl (fun K hK => ?_) AllReadyH.nil
    (try simp only [List.getElem_toArray, List.getElem_cons_succ, List.getElem_cons_zero])
    go_simp
    have hz6 : Blk ((w1.alloc (.cells #[.int .u64 0, .int .u64 0, .int .u64 0, .int .u64 0] 25))) (w1.heap.size) zerosW 25 := Blk.new' _ _ _ _ (by simp)
    refine hK.out _ _ ?_ (fun hHeld => ?_)
    · exact K0.out _ (show Still w1 _ by ((repeat (first | with_reducible exact Still.refl _ | with_reducible assumption | with_reducible apply Still.alloc | with_reducible apply Still.drew | with_reducible refine Still.step ?_ (by assumption) | with_reducible refine Still.trans ?_ (by assumption)))))
    clear hK K
    (try simp only [Act.put, List.setIfInBounds_toArray, List.set_cons_succ, List.set_cons_zero])
    refine wpAnyH_ready (rs := [0]) (by kernel_rfl) (by simp) ?_
    refine AllReadyH.cons rfl (fun K hK => ?_) AllReadyH.nil
    (try simp only [List.getElem_toArray, List.getElem_cons_succ, List.getElem_cons_zero])
    go_simp
    go_at_call 22; refine (CM.out _).mono ?_; rintro e' v1 ⟨rfl, dv1⟩
    (try (go_wp2_with fail))
    refine hK.out _ _ ?_ (fun hHeld => ?_)
    · exact K0.out _ (show Still w1 _ by ((repeat (first | with_reducible exact Still.refl _ | with_reducible assumption | with_reducible apply Still.alloc | with_reducible apply Still.drew | with_reducible refine Still.step ?_ (by assumption) | with_reducible refine Still.trans ?_ (by assumption)))))
    clear hK K
    (try simp only [Act.put, List.setIfInBounds_toArray, List.set_cons_succ, List.set_cons_zero])
    refine wpAnyH_ready (rs := [2]) (by kernel_rfl) (by simp) ?_
    refine AllReadyH.cons rfl (fun K hK => ?_) AllReadyH.nil
    (try simp only [List.getElem_toArray, List.getElem_cons_succ, List.getElem_cons_zero])
    go_simp
    go_at_call 18; refine (CS.out _).mono ?_; rintro e' v2 ⟨rfl, dv2⟩
    (try (go_wp2_with fail))
    refine hK.out _ _ ?_ (fun hHeld => ?_)
    · exact K0.out _ (show Still w1 _ by ((repeat (first | with_reducible exact Still.refl _ | with_reducible assumption | with_reducible apply Still.alloc | with_reducible apply Still.drew | with_reducible refine Still.step ?_ (by assumption) | with_reducible refine Still.trans ?_ (by assumption)))))
    clear hK K
    (try simp only [Act.put, List.setIfInBounds_toArray, List.set_cons_succ, List.set_cons_zero])
    refine wpAnyH_take (i := 3) (v := ?_) rfl (by kernel_rfl) (by kernel_rfl) (by kernel_rfl) (fun _ _ _ h => h) (Or.inl ⟨by rfl, ?_⟩) (by assumption) ?_
    rotate_left 1
    · intro w hSw; (try dsimp only at hSw); simp only [List.getElem_toArray, List.getElem_cons_succ, List.getElem_cons_zero]; go_simp; try (with_reducible rfl)
    (try simp only [List.getElem_toArray, List.getElem_cons_succ, List.getElem_cons_zero, Act.put, List.setIfInBounds_toArray, List.set_cons_succ, List.set_cons_zero])
    refine wpAnyH_take (i := 4) (v := ?_) rfl (by kernel_rfl) (by kernel_rfl) (by kernel_rfl) (fun _ _ _ h => h) (Or.inl ⟨by rfl, ?_⟩) (by assumption) ?_
    rotate_left 1
    · intro w hSw; (try dsimp only at hSw); simp only [List.getElem_toArray, List.getElem_cons_succ, List.getElem_cons_zero]; go_simp; try (with_reducible rfl)
    (try simp only [List.getElem_toArray, List.getElem_cons_succ, List.getElem_cons_zero, Act.put, List.setIfInBounds_toArray, List.set_cons_succ, List.set_cons_zero])
    refine wpAnyH_take (i := 5) (v := ?_) rfl (by kernel_rfl) (by kernel_rfl) (by kernel_rfl) (fun _ _ _ h => h) (Or.inl ⟨by rfl, ?_⟩) (by assumption) ?_
    rotate_left 1
    · intro w hSw; (try dsimp only at hSw); simp only [List.getElem_toArray, List.getElem_cons_succ, List.getElem_cons_zero]; go_simp; try (with_reducible rfl)
    (try simp only [List.getElem_toArray, List.getElem_cons_succ, List.getElem_cons_zero, Act.put, List.setIfInBounds_toArray, List.set_cons_succ, List.set_cons_zero])
    refine wpAnyH_ready (rs := [7]) (by kernel_rfl) (by simp) ?_
    refine AllReadyH.cons rfl (fun K hK => ?_) AllReadyH.nil
    (try simp only [List.getElem_toArray, List.getElem_cons_succ, List.getElem_cons_zero])
    refine Eq.mpr (if_pos (by rfl)) ?_
    refine wp_store_blk 25 (.tmp 5) (.tmp 27) rfl (w1.heap.size) zerosW R 25 rfl rfl (by ((repeat (first | with_reducible assumption | with_reducible apply Blk.alloc | with_reducible apply Blk.drew | with_reducible refine Blk.step ?_ (by assumption) | with_reducible refine Blk.stepS ?_ (by assumption))))) LR.out IR.out OR.out ?_
    intro w6 hb6 ho6
    have hle6 : w1.heap.size ≤ w1.heap.size := by have h := (show Still w1 w1.drew from by ((repeat (first | with_reducible exact Still.refl _ | with_reducible assumption | with_reducible apply Still.alloc | with_reducible apply Still.drew | with_reducible refine Still.step ?_ (by assumption) | with_reducible refine Still.trans ?_ (by assumption))))).size; (first | omega | (simp at h ⊢; omega) | (simp at h ⊢) | simp)
    have st6 : Still w1 w6 := Below.trans (show Still w1 _ from by ((repeat (first | with_reducible exact Still.refl _ | with_reducible assumption | with_reducible apply Still.alloc | with_reducible apply Still.drew | with_reducible refine Still.step ?_ (by assumption) | with_reducible refine Still.trans ?_ (by assumption))))) (ho6.below hle6)
    refine hK.out _ _ ?_ (fun hHeld => ?_)
    · exact K0.out _ st6
    clear hK K
    (try simp only [Act.put, List.setIfInBounds_toArray, List.set_cons_succ, List.set_cons_zero])
    refine wpAnyH_take (i := 8) (v := ?_) rfl (by kernel_rfl) (by kernel_rfl) (by kernel_rfl) (fun _ _ _ h => h) (Or.inl ⟨by rfl, ?_⟩) (by assumption) ?_
    rotate_left 1
    · intro w hSw; (try dsimp only at hSw); simp only [List.getElem_toArray, List.getElem_cons_succ, List.getElem_cons_zero]; go_simp; try (with_reducible rfl)
    (try simp only [List.getElem_toArray, List.getElem_cons_succ, List.getElem_cons_zero, Act.put, List.setIfInBounds_toArray, List.set_cons_succ, List.set_cons_zero])
    refine wpAnyH_done (by kernel_rfl) ?_ _
    go_wp2_with fail
    go_meet
    exact ⟨_, rfl, rfl, hb6, st6⟩
  case rest =>
  obtain ⟨gb, rfl, rfl, kRr, st1⟩ := hcut
  have kY2 : Blk wc ga Y 25 := Blk.stepS kY st1
  have kR2 : Blk wc (w.heap.size + 1) zerosW 25 := Blk.stepS kR st1
  have HB3 : Hid (Still w wc) := Lib.hid (HB2.out.trans st1)
  obtain ⟨w2, hw2⟩ : ∃ w2, w2 = wc := ⟨_, rfl⟩
  rw [← hw2] at kY2 kRr kR2 HB3 ⊢
  clear hw2 kX kY kR st1 HB2 K0 CM CS
  go_upto_region 8 with (first
    | ((with_reducible refine at_load 25 (.tmp 5) ?_); refine wpList_load_mid rfl 25 (.tmp 5) rfl (gb) 0 rfl R _ (Blk.range (t := 25) (by ((repeat (first | with_reducible assumption | with_reducible apply Blk.alloc | with_reducible apply Blk.drew | with_reducible refine Blk.step ?_ (by assumption) | with_reducible refine Blk.stepS ?_ (by assumption)))))) Try.underlying25 rfl IR.out ?_)
    | ((with_reducible refine at_load 25 (.tmp 3) ?_); refine wpList_load_mid rfl 25 (.tmp 3) rfl (ga) 0 rfl Y _ (Blk.range (t := 25) (by ((repeat (first | with_reducible assumption | with_reducible apply Blk.alloc | with_reducible apply Blk.drew | with_reducible refine Blk.step ?_ (by assumption) | with_reducible refine Blk.stepS ?_ (by assumption)))))) Try.underlying25 rfl IY.out ?_)
    | (go_at_call 39; refine (CQ.out _).mono ?_; rintro e' v3 ⟨rfl, d3⟩)
    | ((with_reducible refine at_store 25 (.tmp 7) (.tmp 33) ?_); refine wpList_store_blk rfl 25 (.tmp 7) (.tmp 33) rfl v3.heap.size zerosW Q 25 rfl rfl (Blk.alloc (Blk.new v3 _ _) _) LQ.out IQ.out OQ.out ?_; intro w4 hbw4 how4)
    | ((with_reducible refine at_store 25 (.tmp 8) (.tmp 34) ?_); refine wpList_store_blk rfl 25 (.tmp 8) (.tmp 34) rfl (v3.heap.size + 1) zerosW D 25 rfl rfl (how4.blk (Blk.new' (v3.alloc _) _ _ _ (by simp)) (by omega)) LD.out ID.out OD.out ?_; intro w5 hbw5 how5))
  have kQ : Blk w5 v3.heap.size Q 25 := how5.blk hbw4 (by omega)
  have st2 : Still w2 w5 := by
    have h := d3.size
    exact Below.trans (Below.trans (show Still w2 _ from Still.alloc (Still.alloc (show Still w2 v3 by ((repeat (first | with_reducible exact Still.refl _ | with_reducible assumption | with_reducible apply Still.alloc | with_reducible apply Still.drew | with_reducible refine Still.step ?_ (by assumption) | with_reducible refine Still.trans ?_ (by assumption))))) _) _) (how4.below (by omega))) (how5.below (by omega))
  have kR3 : Blk w5 (w.heap.size + 1) zerosW 25 := Blk.stepS kR2 st2
  have HB4 : Hid (Still w w5) := Lib.hid (HB3.out.trans st2)
  clear hbw4 how4 hbw5 how5 st2 kR2 HB3 kY2 kRr d3
  have K0 : Hid (∀ W, Still w5 W → (W.rangeAt v3.heap.size 0 Q ∧ Still w5 W)) := Lib.hid fun W h => ⟨(Blk.stepS kQ h).range, h⟩
  simp only [Act.put]
  go_cut [9, 10] from 35 to 40 (fun p q wx => ∃ gc : Nat, p = .pointer (some ⟨gc, 0, none⟩) ∧ Blk wx gc V 25 ∧ Still w5 wx)
  case first =>
    refine wp_region_held_drew (S := fun W => W.rangeAt v3.heap.size 0 Q ∧ Still w5 W) (by kernel_rfl) ?_ (fun hHeld => ?_)
    · exact K0.out _ (show Still w5 _ by ((repeat (first | with_reducible exact Still.refl _ | with_reducible assumption | with_reducible apply Still.alloc | with_reducible apply Still.drew | with_reducible refine Still.step ?_ (by assumption) | with_reducible refine Still.trans ?_ (by assumption)))))
    refine wpAnyH_take (i := 0) rfl (by kernel_rfl) (by kernel_rfl) (by kernel_rfl) (fun _ _ _ h => h) (yieldsIf_load_mid (by rfl) _ _ rfl _ _ rfl Q _ (fun w hSw => by (try dsimp only at hSw); go_split_ands; assumption) Try.underlying25 rfl IQ.out) (by assumption) ?_
    (try simp only [List.getElem_toArray, List.getElem_cons_succ, List.getElem_cons_zero, Act.put, List.setIfInBounds_toArray, List.set_cons_succ, List.set_cons_zero])
    refine wpAnyH_ready (rs := [1, 6]) (by kernel_rfl) (by simp) ?_
    refine AllReadyH.cons rfl (fun K hK => ?_) ?_
    · (try simp only [List.getElem_toArray, List.getElem_cons_succ, List.getElem_cons_zero])
      go_simp
      go_at_call 24; refine (CO.out _).mono ?_; rintro e' v1 ⟨rfl, dv1⟩
      (try (go_wp2_with fail))
      refine hK.out _ _ ?_ (fun hHeld => ?_)
      · exact K0.out _ (show Still w5 _ by ((repeat (first | with_reducible exact Still.refl _ | with_reducible assumption | with_reducible apply Still.alloc | with_reducible apply Still.drew | with_reducible refine Still.step ?_ (by assumption) | with_reducible refine Still.trans ?_ (by assumption)))))
      clear hK K
      (try simp only [Act.put, List.setIfInBounds_toArray, List.set_cons_succ, List.set_cons_zero])
      refine wpAnyH_ready (rs := [2, 6]) (by kernel_rfl) (by simp) ?_
      refine AllReadyH.cons rfl (fun K hK => ?_) ?_
      · (try simp only [List.getElem_toArray, List.getElem_cons_succ, List.getElem_cons_zero])
        go_simp
        go_at_call 38; refine (CA2.out _).mono ?_; rintro e' v2 ⟨rfl, dv2⟩
        (try (go_wp2_with fail))
        refine hK.out _ _ ?_ (fun hHeld => ?_)
        · exact K0.out _ (show Still w5 _ by ((repeat (first | with_reducible exact Still.refl _ | with_reducible assumption | with_reducible apply Still.alloc | with_reducible apply Still.drew | with_reducible refine Still.step ?_ (by assumption) | with_reducible refine Still.trans ?_ (by assumption)))))
        clear hK K
        (try simp only [Act.put, List.setIfInBounds_toArray, List.set_cons_succ, List.set_cons_zero])
        refine wpAnyH_take (i := 3) (v := ?_) rfl (by kernel_rfl) (by kernel_rfl) (by kernel_rfl) (fun _ _ _ h => h) (Or.inl ⟨by rfl, ?_⟩) (by assumption) ?_
        rotate_left 1
        · intro w hSw; (try dsimp only at hSw); simp only [List.getElem_toArray, List.getElem_cons_succ, List.getElem_cons_zero]; go_simp; try (with_reducible rfl)
        (try simp only [List.getElem_toArray, List.getElem_cons_succ, List.getElem_cons_zero, Act.put, List.setIfInBounds_toArray, List.set_cons_succ, List.set_cons_zero])
        refine wpAnyH_take (i := 4) (v := ?_) rfl (by kernel_rfl) (by kernel_rfl) (by kernel_rfl) (fun _ _ _ h => h) (Or.inl ⟨by rfl, ?_⟩) (by assumption) ?_
        rotate_left 1
        · intro w hSw; (try dsimp only at hSw); simp only [List.getElem_toArray, List.getElem_cons_succ, List.getElem_cons_zero]; go_simp; try (with_reducible rfl)
        (try simp only [List.getElem_toArray, List.getElem_cons_succ, List.getElem_cons_zero, Act.put, List.setIfInBounds_toArray, List.set_cons_succ, List.set_cons_zero])
        refine wpAnyH_take (i := 5) (v := ?_) rfl (by kernel_rfl) (by kernel_rfl) (by kernel_rfl) (fun _ _ _ h => h) (Or.inl ⟨by rfl, ?_⟩) (by assumption) ?_
        rotate_left 1
        · intro w hSw; (try dsimp only at hSw); simp only [List.getElem_toArray, List.getElem_cons_succ, List.getElem_cons_zero]; go_simp; try (with_reducible rfl)
        (try simp only [List.getElem_toArray, List.getElem_cons_succ, List.getElem_cons_zero, Act.put, List.setIfInBounds_toArray, List.set_cons_succ, List.set_cons_zero])
        refine wpAnyH_ready (rs := [6]) (by kernel_rfl) (by simp) ?_
        refine AllReadyH.cons rfl (fun K hK => ?_) AllReadyH.nil
        (try simp only [List.getElem_toArray, List.getElem_cons_succ, List.getElem_cons_zero])
        go_simp
        have hz6 : Blk ((v2.alloc (.cells #[.int .u64 0, .int .u64 0, .int .u64 0, .int .u64 0] 25))) (v2.heap.size) zerosW 25 := Blk.new' _ _ _ _ (by simp)
        refine hK.out _ _ ?_ (fun hHeld => ?_)
        · exact K0.out _ (show Still w5 _ by ((repeat (first | with_reducible exact Still.refl _ | with_reducible assumption | with_reducible apply Still.alloc | with_reducible apply Still.drew | with_reducible refine Still.step ?_ (by assumption) | with_reducible refine Still.trans ?_ (by assumption)))))
        clear hK K
        (try simp only [Act.put, List.setIfInBounds_toArray, List.set_cons_succ, List.set_cons_zero])
        refine wpAnyH_ready (rs := [7]) (by kernel_rfl) (by simp) ?_
        refine AllReadyH.cons rfl (fun K hK => ?_) AllReadyH.nil
        (try simp only [List.getElem_toArray, List.getElem_cons_succ, List.getElem_cons_zero])
        refine Eq.mpr (if_pos (by rfl)) ?_
        refine wp_store_blk 25 (.tmp 9) (.tmp 39) rfl (v2.heap.size) zerosW V 25 rfl rfl (by ((repeat (first | with_reducible assumption | with_reducible apply Blk.alloc | with_reducible apply Blk.drew | with_reducible refine Blk.step ?_ (by assumption) | with_reducible refine Blk.stepS ?_ (by assumption))))) LV.out IV.out OV.out ?_
        intro w6 hb6 ho6
        have hle6 : w5.heap.size ≤ v2.heap.size := by have h := (show Still w5 v2 from by ((repeat (first | with_reducible exact Still.refl _ | with_reducible assumption | with_reducible apply Still.alloc | with_reducible apply Still.drew | with_reducible refine Still.step ?_ (by assumption) | with_reducible refine Still.trans ?_ (by assumption))))).size; (first | omega | (simp at h ⊢; omega) | (simp at h ⊢) | simp)
        have st6 : Still w5 w6 := Below.trans (show Still w5 _ from by ((repeat (first | with_reducible exact Still.refl _ | with_reducible assumption | with_reducible apply Still.alloc | with_reducible apply Still.drew | with_reducible refine Still.step ?_ (by assumption) | with_reducible refine Still.trans ?_ (by assumption))))) (ho6.below hle6)
        refine hK.out _ _ ?_ (fun hHeld => ?_)
        · exact K0.out _ st6
        clear hK K
        (try simp only [Act.put, List.setIfInBounds_toArray, List.set_cons_succ, List.set_cons_zero])
        refine wpAnyH_take (i := 8) (v := ?_) rfl (by kernel_rfl) (by kernel_rfl) (by kernel_rfl) (fun _ _ _ h => h) (Or.inl ⟨by rfl, ?_⟩) (by assumption) ?_
        rotate_left 1
        · intro w hSw; (try dsimp only at hSw); simp only [List.getElem_toArray, List.getElem_cons_succ, List.getElem_cons_zero]; go_simp; try (with_reducible rfl)
        (try simp only [List.getElem_toArray, List.getElem_cons_succ, List.getElem_cons_zero, Act.put, List.setIfInBounds_toArray, List.set_cons_succ, List.set_cons_zero])
        refine wpAnyH_done (by kernel_rfl) ?_ _
        go_wp2_with fail
        go_meet
        exact ⟨_, rfl, hb6, st6⟩
      refine AllReadyH.cons rfl (fun K hK => ?_) AllReadyH.nil
      (try simp only [List.getElem_toArray, List.getElem_cons_succ, List.getElem_cons_zero])
      go_simp
      have hz6 : Blk ((v1.alloc (.cells #[.int .u64 0, .int .u64 0, .int .u64 0, .int .u64 0] 25))) (v1.heap.size) zerosW 25 := Blk.new' _ _ _ _ (by simp)
      refine hK.out _ _ ?_ (fun hHeld => ?_)
      · exact K0.out _ (show Still w5 _ by ((repeat (first | with_reducible exact Still.refl _ | with_reducible assumption | with_reducible apply Still.alloc | with_reducible apply Still.drew | with_reducible refine Still.step ?_ (by assumption) | with_reducible refine Still.trans ?_ (by assumption)))))
      clear hK K
      (try simp only [Act.put, List.setIfInBounds_toArray, List.set_cons_succ, List.set_cons_zero])
      refine wpAnyH_ready (rs := [2]) (by kernel_rfl) (by simp) ?_
      refine AllReadyH.cons rfl (fun K hK => ?_) AllReadyH.nil
      (try simp only [List.getElem_toArray, List.getElem_cons_succ, List.getElem_cons_zero])
      go_simp
      go_at_call 38; refine (CA2.out _).mono ?_; rintro e' v2 ⟨rfl, dv2⟩
      (try (go_wp2_with fail))
      refine hK.out _ _ ?_ (fun hHeld => ?_)
      · exact K0.out _ (show Still w5 _ by ((repeat (first | with_reducible exact Still.refl _ | with_reducible assumption | with_reducible apply Still.alloc | with_reducible apply Still.drew | with_reducible refine Still.step ?_ (by assumption) | with_reducible refine Still.trans ?_ (by assumption)))))
      clear hK K
      (try simp only [Act.put, List.setIfInBounds_toArray, List.set_cons_succ, List.set_cons_zero])
      refine wpAnyH_take (i := 3) (v := ?_) rfl (by kernel_rfl) (by kernel_rfl) (by kernel_rfl) (fun _ _ _ h => h) (Or.inl ⟨by rfl, ?_⟩) (by assumption) ?_
      rotate_left 1
      · intro w hSw; (try dsimp only at hSw); simp only [List.getElem_toArray, List.getElem_cons_succ, List.getElem_cons_zero]; go_simp; try (with_reducible rfl)
      (try simp only [List.getElem_toArray, List.getElem_cons_succ, List.getElem_cons_zero, Act.put, List.setIfInBounds_toArray, List.set_cons_succ, List.set_cons_zero])
      refine wpAnyH_take (i := 4) (v := ?_) rfl (by kernel_rfl) (by kernel_rfl) (by kernel_rfl) (fun _ _ _ h => h) (Or.inl ⟨by rfl, ?_⟩) (by assumption) ?_
      rotate_left 1
      · intro w hSw; (try dsimp only at hSw); simp only [List.getElem_toArray, List.getElem_cons_succ, List.getElem_cons_zero]; go_simp; try (with_reducible rfl)
      (try simp only [List.getElem_toArray, List.getElem_cons_succ, List.getElem_cons_zero, Act.put, List.setIfInBounds_toArray, List.set_cons_succ, List.set_cons_zero])
      refine wpAnyH_take (i := 5) (v := ?_) rfl (by kernel_rfl) (by kernel_rfl) (by kernel_rfl) (fun _ _ _ h => h) (Or.inl ⟨by rfl, ?_⟩) (by assumption) ?_
      rotate_left 1
      · intro w hSw; (try dsimp only at hSw); simp only [List.getElem_toArray, List.getElem_cons_succ, List.getElem_cons_zero]; go_simp; try (with_reducible rfl)
      (try simp only [List.getElem_toArray, List.getElem_cons_succ, List.getElem_cons_zero, Act.put, List.setIfInBounds_toArray, List.set_cons_succ, List.set_cons_zero])
      refine wpAnyH_ready (rs := [7]) (by kernel_rfl) (by simp) ?_
      refine AllReadyH.cons rfl (fun K hK => ?_) AllReadyH.nil
      (try simp only [List.getElem_toArray, List.getElem_cons_succ, List.getElem_cons_zero])
      refine Eq.mpr (if_pos (by rfl)) ?_
      refine wp_store_blk 25 (.tmp 9) (.tmp 39) rfl (v1.heap.size) zerosW V 25 rfl rfl (by ((repeat (first | with_reducible assumption | with_reducible apply Blk.alloc | with_reducible apply Blk.drew | with_reducible refine Blk.step ?_ (by assumption) | with_reducible refine Blk.stepS ?_ (by assumption))))) LV.out IV.out OV.out ?_
      intro w6 hb6 ho6
      have hle6 : w5.heap.size ≤ v1.heap.size := by have h := (show Still w5 v1 from by ((repeat (first | with_reducible exact Still.refl _ | with_reducible assumption | with_reducible apply Still.alloc | with_reducible apply Still.drew | with_reducible refine Still.step ?_ (by assumption) | with_reducible refine Still.trans ?_ (by assumption))))).size; (first | omega | (simp at h ⊢; omega) | (simp at h ⊢) | simp)
      have st6 : Still w5 w6 := Below.trans (show Still w5 _ from by ((repeat (first | with_reducible exact Still.refl _ | with_reducible assumption | with_reducible apply Still.alloc | with_reducible apply Still.drew | with_reducible refine Still.step ?_ (by assumption) | with_reducible refine Still.trans ?_ (by assumption))))) (ho6.below hle6)
      refine hK.out _ _ ?_ (fun hHeld => ?_)
      · exact K0.out _ st6
      clear hK K
      (try simp only [Act.put, List.setIfInBounds_toArray, List.set_cons_succ, List.set_cons_zero])
      refine wpAnyH_take (i := 8) (v := ?_) rfl (by kernel_rfl) (by kernel_rfl) (by kernel_rfl) (fun _ _ _ h => h) (Or.inl ⟨by rfl, ?_⟩) (by assumption) ?_
      rotate_left 1
      · intro w hSw; (try dsimp only at hSw); simp only [List.getElem_toArray, List.getElem_cons_succ, List.getElem_cons_zero]; go_simp; try (with_reducible rfl)
      (try simp only [List.getElem_toArray, List.getElem_cons_succ, List.getElem_cons_zero, Act.put, List.setIfInBounds_toArray, List.set_cons_succ, List.set_cons_zero])
      refine wpAnyH_done (by kernel_rfl) ?_ _
      go_wp2_with fail
      go_meet
      exact ⟨_, rfl, hb6, st6⟩
    refine AllReadyH.cons rfl (fun K hK => ?_) AllReadyH.nil
    (try simp only [List.getElem_toArray, List.getElem_cons_succ, List.getElem_cons_zero])
    go_simp
    have hz6 : Blk ((w5.alloc (.cells #[.int .u64 0, .int .u64 0, .int .u64 0, .int .u64 0] 25))) (w5.heap.size) zerosW 25 := Blk.new' _ _ _ _ (by simp)
    refine hK.out _ _ ?_ (fun hHeld => ?_)
    · exact K0.out _ (show Still w5 _ by ((repeat (first | with_reducible exact Still.refl _ | with_reducible assumption | with_reducible apply Still.alloc | with_reducible apply Still.drew | with_reducible refine Still.step ?_ (by assumption) | with_reducible refine Still.trans ?_ (by assumption)))))
    clear hK K
    (try simp only [Act.put, List.setIfInBounds_toArray, List.set_cons_succ, List.set_cons_zero])
    refine wpAnyH_ready (rs := [1]) (by kernel_rfl) (by simp) ?_
    refine AllReadyH.cons rfl (fun K hK => ?_) AllReadyH.nil
    (try simp only [List.getElem_toArray, List.getElem_cons_succ, List.getElem_cons_zero])
    go_simp
    go_at_call 24; refine (CO.out _).mono ?_; rintro e' v1 ⟨rfl, dv1⟩
    (try (go_wp2_with fail))
    refine hK.out _ _ ?_ (fun hHeld => ?_)
    · exact K0.out _ (show Still w5 _ by ((repeat (first | with_reducible exact Still.refl _ | with_reducible assumption | with_reducible apply Still.alloc | with_reducible apply Still.drew | with_reducible refine Still.step ?_ (by assumption) | with_reducible refine Still.trans ?_ (by assumption)))))
    clear hK K
    (try simp only [Act.put, List.setIfInBounds_toArray, List.set_cons_succ, List.set_cons_zero])
    refine wpAnyH_ready (rs := [2]) (by kernel_rfl) (by simp) ?_
    refine AllReadyH.cons rfl (fun K hK => ?_) AllReadyH.nil
    (try simp only [List.getElem_toArray, List.getElem_cons_succ, List.getElem_cons_zero])
    go_simp
    go_at_call 38; refine (CA2.out _).mono ?_; rintro e' v2 ⟨rfl, dv2⟩
    (try (go_wp2_with fail))
    refine hK.out _ _ ?_ (fun hHeld => ?_)
    · exact K0.out _ (show Still w5 _ by ((repeat (first | with_reducible exact Still.refl _ | with_reducible assumption | with_reducible apply Still.alloc | with_reducible apply Still.drew | with_reducible refine Still.step ?_ (by assumption) | with_reducible refine Still.trans ?_ (by assumption)))))
    clear hK K
    (try simp only [Act.put, List.setIfInBounds_toArray, List.set_cons_succ, List.set_cons_zero])
    refine wpAnyH_take (i := 3) (v := ?_) rfl (by kernel_rfl) (by kernel_rfl) (by kernel_rfl) (fun _ _ _ h => h) (Or.inl ⟨by rfl, ?_⟩) (by assumption) ?_
    rotate_left 1
    · intro w hSw; (try dsimp only at hSw); simp only [List.getElem_toArray, List.getElem_cons_succ, List.getElem_cons_zero]; go_simp; try (with_reducible rfl)
    (try simp only [List.getElem_toArray, List.getElem_cons_succ, List.getElem_cons_zero, Act.put, List.setIfInBounds_toArray, List.set_cons_succ, List.set_cons_zero])
    refine wpAnyH_take (i := 4) (v := ?_) rfl (by kernel_rfl) (by kernel_rfl) (by kernel_rfl) (fun _ _ _ h => h) (Or.inl ⟨by rfl, ?_⟩) (by assumption) ?_
    rotate_left 1
    · intro w hSw; (try dsimp only at hSw); simp only [List.getElem_toArray, List.getElem_cons_succ, List.getElem_cons_zero]; go_simp; try (with_reducible rfl)
    (try simp only [List.getElem_toArray, List.getElem_cons_succ, List.getElem_cons_zero, Act.put, List.setIfInBounds_toArray, List.set_cons_succ, List.set_cons_zero])
    refine wpAnyH_take (i := 5) (v := ?_) rfl (by kernel_rfl) (by kernel_rfl) (by kernel_rfl) (fun _ _ _ h => h) (Or.inl ⟨by rfl, ?_⟩) (by assumption) ?_
    rotate_left 1
    · intro w hSw; (try dsimp only at hSw); simp only [List.getElem_toArray, List.getElem_cons_succ, List.getElem_cons_zero]; go_simp; try (with_reducible rfl)
    (try simp only [List.getElem_toArray, List.getElem_cons_succ, List.getElem_cons_zero, Act.put, List.setIfInBounds_toArray, List.set_cons_succ, List.set_cons_zero])
    refine wpAnyH_ready (rs := [7]) (by kernel_rfl) (by simp) ?_
    refine AllReadyH.cons rfl (fun K hK => ?_) AllReadyH.nil
    (try simp only [List.getElem_toArray, List.getElem_cons_succ, List.getElem_cons_zero])
    refine Eq.mpr (if_pos (by rfl)) ?_
    refine wp_store_blk 25 (.tmp 9) (.tmp 39) rfl (w5.heap.size) zerosW V 25 rfl rfl (by ((repeat (first | with_reducible assumption | with_reducible apply Blk.alloc | with_reducible apply Blk.drew | with_reducible refine Blk.step ?_ (by assumption) | with_reducible refine Blk.stepS ?_ (by assumption))))) LV.out IV.out OV.out ?_
    intro w6 hb6 ho6
    have hle6 : w5.heap.size ≤ w5.heap.size := by have h := (show Still w5 w5.drew from by ((repeat (first | with_reducible exact Still.refl _ | with_reducible assumption | with_reducible apply Still.alloc | with_reducible apply Still.drew | with_reducible refine Still.step ?_ (by assumption) | with_reducible refine Still.trans ?_ (by assumption))))).size; (first | omega | (simp at h ⊢; omega) | (simp at h ⊢) | simp)
    have st6 : Still w5 w6 := Below.trans (show Still w5 _ from by ((repeat (first | with_reducible exact Still.refl _ | with_reducible assumption | with_reducible apply Still.alloc | with_reducible apply Still.drew | with_reducible refine Still.step ?_ (by assumption) | with_reducible refine Still.trans ?_ (by assumption))))) (ho6.below hle6)
    refine hK.out _ _ ?_ (fun hHeld => ?_)
    · exact K0.out _ st6
    clear hK K
    (try simp only [Act.put, List.setIfInBounds_toArray, List.set_cons_succ, List.set_cons_zero])
    refine wpAnyH_take (i := 8) (v := ?_) rfl (by kernel_rfl) (by kernel_rfl) (by kernel_rfl) (fun _ _ _ h => h) (Or.inl ⟨by rfl, ?_⟩) (by assumption) ?_
    rotate_left 1
    · intro w hSw; (try dsimp only at hSw); simp only [List.getElem_toArray, List.getElem_cons_succ, List.getElem_cons_zero]; go_simp; try (with_reducible rfl)
    (try simp only [List.getElem_toArray, List.getElem_cons_succ, List.getElem_cons_zero, Act.put, List.setIfInBounds_toArray, List.set_cons_succ, List.set_cons_zero])
    refine wpAnyH_done (by kernel_rfl) ?_ _
    go_wp2_with fail
    go_meet
    exact ⟨_, rfl, hb6, st6⟩
  case rest =>
  obtain ⟨gc, rfl, kV, st3⟩ := hcut
  have kR4 : Blk wc (w.heap.size + 1) zerosW 25 := Blk.stepS kR3 st3
  have HB5 : Hid (Still w wc) := Lib.hid (HB4.out.trans st3)
  obtain ⟨w8, hw8⟩ : ∃ w8, w8 = wc := ⟨_, rfl⟩
  rw [← hw8] at kV kR4 HB5 ⊢
  clear hw8 kR3 st3 HB4 K0
  go_wp2_with (first
    | ((with_reducible refine at_load 25 (.tmp 9) ?_); refine wpList_load_mid rfl 25 (.tmp 9) rfl (gc) 0 rfl V _ (Blk.range (t := 25) (by ((repeat (first | with_reducible assumption | with_reducible apply Blk.alloc | with_reducible apply Blk.drew | with_reducible refine Blk.step ?_ (by assumption) | with_reducible refine Blk.stepS ?_ (by assumption)))))) Try.underlying25 rfl IV.out ?_)
    | ((with_reducible refine at_store 25 (.tmp 2) (.tmp 41) ?_); refine wpList_store_blk rfl 25 (.tmp 2) (.tmp 41) rfl (w.heap.size + 1) zerosW V 25 rfl rfl (by ((repeat (first | with_reducible assumption | with_reducible apply Blk.alloc | with_reducible apply Blk.drew | with_reducible refine Blk.step ?_ (by assumption) | with_reducible refine Blk.stepS ?_ (by assumption))))) LV.out IV.out OV.out ?_; intro w9 hbw9 how9))
  refine bodyPost_ret (v := .agg V.toArray) ?_ rfl ⟨rfl, Below.trans (show Still w w8 from HB5.out) (how9.below (by omega))⟩
  exact results_cell_row Try.results21 _ _ (w.heap.size + 1) 25 _ (0, 0) _ (by rfl) hbw9 Try.underlying25 rfl IV.out
theorem work_calls (t : Nat) (w : World) (ht : t < 2 ^ 256) : Calls Try.prog 21 #[.agg (cellsW (wd t)).toArray] w (Ret w (.agg (cellsW (wd (workN t))).toArray)) := by
  by_cases h0 : t = 0
  · exact work_zero t w ht h0
  · by_cases hm : 2 ^ 256 ≤ t + 1
    · exact work_max t w ht h0 hm
    · exact work_some t w ht h0 hm
end Go.Proofs.Ytdgfgehjnfadnaa
