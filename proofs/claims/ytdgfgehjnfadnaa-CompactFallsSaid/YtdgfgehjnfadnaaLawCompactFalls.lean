/- Proved: of every two wide numbers the greater one has not more work, and each has at least 1; the arguments read as they did. No condition. -/
import Derived.Test.YtdgfgehjnfadnaaRows
import Derived.Test.YtdgfgehjnfadnaaCmpA
import Derived.Test.YtdgfgehjnfadnaaCmpA
import Derived.Test.YtdgfgehjnfadnaaArrW
import Derived.Test.YtdgfgehjnfadnaaWidG
import Derived.ProofKit
import Derived.Deep.RegionHeld3
import Derived.Deep.CutRange
import Derived.Deep.DeepCutAuto
import Derived.OpenShut
import Derived.ShutString
import Derived.ChangeOld
import Derived.Test.YtdgfgehjnfadnaaOpen
namespace Go.Proofs.Ytdgfgehjnfadnaa.compactFalls
open Go.ChangeShapes Go.WideShapes Go.ChangeAt Go.RowKit
open Go.ChangeMaps (open_string shut_string)
set_option linter.unusedVariables false
set_option linter.unusedSimpArgs false

theorem own : ownKnob Try.prog.godebug = none := by kernel_rfl
theorem laidOut : laidOutB Try.prog = true := by kernel_rfl

theorem cmp_ge (x y : Nat) : 0 ≤ cmpN x y ↔ y ≤ x := by
  unfold cmpN
  by_cases h : x = y
  · simp [h]
  · rw [if_neg h]
    by_cases h2 : x < y
    · rw [if_pos h2]; simp; omega
    · rw [if_neg h2]; simp; omega
theorem cmp_le (x y : Nat) : cmpN x y ≤ 0 ↔ x ≤ y := by
  unfold cmpN
  by_cases h : x = y
  · simp [h]
  · rw [if_neg h]
    by_cases h2 : x < y
    · rw [if_pos h2]; simp; omega
    · rw [if_neg h2]; simp; omega
set_option maxRecDepth 100000 in
set_option maxHeartbeats 4000000 in
theorem walkN (x y : Nat) (bx : x < 2 ^ 256) (by2 : y < 2 ^ 256) (w : World) : Calls Try.prog 8 #[.agg (cellsW (wd x)).toArray, .agg (cellsW (wd y)).toArray] w (Ret w (.bool true)) := by
  have gU := guardU
  obtain ⟨a, ha⟩ : ∃ a, a = workN x := ⟨_, rfl⟩
  obtain ⟨b, hb⟩ : ∃ b, b = workN y := ⟨_, rfl⟩
  obtain ⟨z1, hz1⟩ : ∃ z, z = cmpN x y := ⟨_, rfl⟩
  obtain ⟨z2, hz2⟩ : ∃ z, z = cmpN a b := ⟨_, rfl⟩
  obtain ⟨z3, hz3⟩ : ∃ z, z = cmpN a 1 := ⟨_, rfl⟩
  have ba : a < 2 ^ 256 := by rw [ha]; exact work_lt x
  have bb : b < 2 ^ 256 := by rw [hb]; exact work_lt y
  have h3 : 0 ≤ z3 := by rw [hz3, cmp_ge, ha]; exact work_pos bx
  have HC : Hid ((z1 = -1 ∧ 0 ≤ z2) ∨ (z1 = 0 ∧ z2 = 0) ∨ (z1 = 1 ∧ z2 ≤ 0)) := Lib.hid (by
    rcases Nat.lt_trichotomy x y with h | h | h
    · left
      refine ⟨by rw [hz1]; unfold cmpN; rw [if_neg (by omega), if_pos h], ?_⟩
      rw [hz2, cmp_ge, ha, hb]; exact work_mono (Nat.le_of_lt h)
    · right; left
      subst h
      refine ⟨by rw [hz1]; unfold cmpN; rw [if_pos rfl], by rw [hz2, ha, hb]; unfold cmpN; rw [if_pos rfl]⟩
    · right; right
      refine ⟨by rw [hz1]; unfold cmpN; rw [if_neg (by omega), if_neg (by omega)], ?_⟩
      rw [hz2, cmp_le, ha, hb]; exact work_mono (Nat.le_of_lt h))
  obtain ⟨X, hX⟩ : ∃ X, X = cellsW (wd x) := ⟨_, rfl⟩
  have IX : Hid ((Try.prog.info? 25).map (·.size) = some X.length) := Lib.hid (by rw [hX]; exact sizeW _)
  have LX : Hid (zerosW.length = X.length) := Lib.hid (by rw [hX]; rfl)
  have OX : Hid (∀ v ∈ X, v.oneCell' = true) := Lib.hid (by rw [hX]; exact cellsW_one _)
  obtain ⟨Y, hY⟩ : ∃ X, X = cellsW (wd y) := ⟨_, rfl⟩
  have IY : Hid ((Try.prog.info? 25).map (·.size) = some Y.length) := Lib.hid (by rw [hY]; exact sizeW _)
  have LY : Hid (zerosW.length = Y.length) := Lib.hid (by rw [hY]; rfl)
  have OY : Hid (∀ v ∈ Y, v.oneCell' = true) := Lib.hid (by rw [hY]; exact cellsW_one _)
  obtain ⟨A, hA⟩ : ∃ X, X = cellsW (wd a) := ⟨_, rfl⟩
  have IA : Hid ((Try.prog.info? 25).map (·.size) = some A.length) := Lib.hid (by rw [hA]; exact sizeW _)
  have LA : Hid (zerosW.length = A.length) := Lib.hid (by rw [hA]; rfl)
  have OA : Hid (∀ v ∈ A, v.oneCell' = true) := Lib.hid (by rw [hA]; exact cellsW_one _)
  obtain ⟨B, hB⟩ : ∃ X, X = cellsW (wd b) := ⟨_, rfl⟩
  have IB : Hid ((Try.prog.info? 25).map (·.size) = some B.length) := Lib.hid (by rw [hB]; exact sizeW _)
  have LB : Hid (zerosW.length = B.length) := Lib.hid (by rw [hB]; rfl)
  have OB : Hid (∀ v ∈ B, v.oneCell' = true) := Lib.hid (by rw [hB]; exact cellsW_one _)
  obtain ⟨K1, hK1⟩ : ∃ X, X = cellsW (wd 1) := ⟨_, rfl⟩
  have IK1 : Hid ((Try.prog.info? 25).map (·.size) = some K1.length) := Lib.hid (by rw [hK1]; exact sizeW _)
  have LK1 : Hid (zerosW.length = K1.length) := Lib.hid (by rw [hK1]; rfl)
  have OK1 : Hid (∀ v ∈ K1, v.oneCell' = true) := Lib.hid (by rw [hK1]; exact cellsW_one _)
  have CW1 : Hid (∀ W, Calls Try.prog 21 #[.agg X.toArray] W (Ret W (.agg A.toArray))) := Lib.hid fun W => by rw [hX, hA, ha]; exact work_calls x W bx
  have CW2 : Hid (∀ W, Calls Try.prog 21 #[.agg Y.toArray] W (Ret W (.agg B.toArray))) := Lib.hid fun W => by rw [hY, hB, hb]; exact work_calls y W by2
  have C1 : Hid (∀ W, Calls Try.prog 19 #[.agg X.toArray, .agg Y.toArray] W (Ret W (.int .i64 z1))) := Lib.hid fun W => by rw [hX, hY, hz1]; exact cmp_calls x y W bx by2
  have C2 : Hid (∀ W, Calls Try.prog 19 #[.agg A.toArray, .agg B.toArray] W (Ret W (.int .i64 z2))) := Lib.hid fun W => by rw [hA, hB, hz2]; exact cmp_calls a b W ba bb
  have C3 : Hid (∀ W, Calls Try.prog 19 #[.agg A.toArray, .agg K1.toArray] W (Ret W (.int .i64 z3))) := Lib.hid fun W => by rw [hA, hK1, hz3]; exact cmp_calls a 1 W ba (by decide)
  have CO : Hid (∀ W, Calls Try.prog 24 #[.int .u64 1] W (Ret W (.agg K1.toArray))) := Lib.hid fun W => by rw [hK1]; exact wof_calls 1 W (by decide)
  rw [← hX, ← hY]
  obtain ⟨w0, hw0⟩ : ∃ w0, w0 = ((w.alloc (.cells X.toArray 25)).alloc (.cells Y.toArray 25)) := ⟨_, rfl⟩
  have hbX : Blk w0 (w.heap.size) X 25 := by rw [hw0]; exact Blk.alloc (Blk.new' w X.toArray 25 (w.heap.size) (by simp)) _
  have hbY : Blk w0 (w.heap.size + 1) Y 25 := by rw [hw0]; exact Blk.new' (w.alloc _) Y.toArray 25 (w.heap.size + 1) (by simp)
  have HB : Hid (Still w w0) := Lib.hid (by rw [hw0]; exact Still.alloc (Still.alloc (Still.refl w) _) _)
  have K0 : Hid (∀ W, Still w0 W → (W.rangeAt w.heap.size 0 X ∧ W.rangeAt (w.heap.size + 1) 0 Y ∧ Still w0 W)) := Lib.hid fun W h => ⟨(Blk.stepS hbX h).range, (Blk.stepS hbY h).range, h⟩
  clear hX hY hA hB hK1 ha hb hz1 hz2 hz3 ba bb bx by2
  go_enter Try.func8, Try.ntmps8
  go_upto_region 1 with fail
  rw [← hw0]
  clear hw0
  go_cut [5, 6] from 7 to 10 (fun p q wx => ∃ ga gb : Nat, p = .pointer (some ⟨ga, 0, none⟩) ∧ q = .pointer (some ⟨gb, 0, none⟩) ∧ Blk wx ga A 25 ∧ Blk wx gb B 25 ∧ Still w0 wx)
  case first =>
    refine wp_region_held_drew (S := fun W => W.rangeAt w.heap.size 0 X ∧ W.rangeAt (w.heap.size + 1) 0 Y ∧ Still w0 W) (by kernel_rfl) ?_ (fun hHeld => ?_)
    · exact K0.out _ (by ((repeat (first | with_reducible exact Still.refl _ | with_reducible assumption | with_reducible apply Still.alloc | with_reducible apply Still.drew | with_reducible refine Still.step ?_ (by assumption) | with_reducible refine Still.trans ?_ (by assumption)))))
    refine wpAnyH_take (i := 0) rfl (by kernel_rfl) (by kernel_rfl) (by kernel_rfl) (fun _ _ _ h => h) (yieldsIf_load_mid (by rfl) _ _ rfl _ _ rfl X _ (fun w hSw => by (try dsimp only at hSw); go_split_ands; assumption) Try.underlying25 rfl IX.out) (by assumption) ?_
    (try simp only [List.getElem_toArray, List.getElem_cons_succ, List.getElem_cons_zero, Act.put, List.setIfInBounds_toArray, List.set_cons_succ, List.set_cons_zero])
    refine wpAnyH_take (i := 2) rfl (by kernel_rfl) (by kernel_rfl) (by kernel_rfl) (fun _ _ _ h => h) (yieldsIf_load_mid (by rfl) _ _ rfl _ _ rfl Y _ (fun w hSw => by (try dsimp only at hSw); go_split_ands; assumption) Try.underlying25 rfl IY.out) (by assumption) ?_
    (try simp only [List.getElem_toArray, List.getElem_cons_succ, List.getElem_cons_zero, Act.put, List.setIfInBounds_toArray, List.set_cons_succ, List.set_cons_zero])
    refine wpAnyH_ready (rs := [1, 4, 5]) (by kernel_rfl) (by simp) ?_
    refine AllReadyH.cons rfl (fun K hK => ?_) ?_
    · (try simp only [List.getElem_toArray, List.getElem_cons_succ, List.getElem_cons_zero])
      go_simp
      go_at_call 21; refine (CW1.out _).mono ?_; rintro e' v1 ⟨rfl, d1⟩
      (try (go_wp2_with fail))
      refine hK.out _ _ ?_ (fun hHeld => ?_)
      · exact K0.out _ (by ((repeat (first | with_reducible exact Still.refl _ | with_reducible assumption | with_reducible apply Still.alloc | with_reducible apply Still.drew | with_reducible refine Still.step ?_ (by assumption) | with_reducible refine Still.trans ?_ (by assumption)))))
      clear hK K
      (try simp only [Act.put, List.setIfInBounds_toArray, List.set_cons_succ, List.set_cons_zero])
      refine wpAnyH_ready (rs := [3, 4, 5]) (by kernel_rfl) (by simp) ?_
      refine AllReadyH.cons rfl (fun K hK => ?_) ?_
      · (try simp only [List.getElem_toArray, List.getElem_cons_succ, List.getElem_cons_zero])
        go_simp
        go_at_call 21; refine (CW2.out _).mono ?_; rintro e' v3 ⟨rfl, d3⟩
        (try (go_wp2_with fail))
        refine hK.out _ _ ?_ (fun hHeld => ?_)
        · exact K0.out _ (by ((repeat (first | with_reducible exact Still.refl _ | with_reducible assumption | with_reducible apply Still.alloc | with_reducible apply Still.drew | with_reducible refine Still.step ?_ (by assumption) | with_reducible refine Still.trans ?_ (by assumption)))))
        clear hK K
        (try simp only [Act.put, List.setIfInBounds_toArray, List.set_cons_succ, List.set_cons_zero])
        refine wpAnyH_ready (rs := [4, 5]) (by kernel_rfl) (by simp) ?_
        refine AllReadyH.cons rfl (fun K hK => ?_) ?_
        · (try simp only [List.getElem_toArray, List.getElem_cons_succ, List.getElem_cons_zero])
          go_simp
          have hz4 : Blk ((v3.alloc (.cells #[.int .u64 0, .int .u64 0, .int .u64 0, .int .u64 0] 25))) (v3.heap.size) zerosW 25 := Blk.new' _ _ _ _ (by simp)
          refine hK.out _ _ ?_ (fun hHeld => ?_)
          · exact K0.out _ (by ((repeat (first | with_reducible exact Still.refl _ | with_reducible assumption | with_reducible apply Still.alloc | with_reducible apply Still.drew | with_reducible refine Still.step ?_ (by assumption) | with_reducible refine Still.trans ?_ (by assumption)))))
          clear hK K
          (try simp only [Act.put, List.setIfInBounds_toArray, List.set_cons_succ, List.set_cons_zero])
          refine wpAnyH_ready (rs := [5]) (by kernel_rfl) (by simp) ?_
          refine AllReadyH.cons rfl (fun K hK => ?_) AllReadyH.nil
          (try simp only [List.getElem_toArray, List.getElem_cons_succ, List.getElem_cons_zero])
          go_simp
          have hz5 : Blk (((v3.alloc (.cells #[.int .u64 0, .int .u64 0, .int .u64 0, .int .u64 0] 25)).alloc (.cells #[.int .u64 0, .int .u64 0, .int .u64 0, .int .u64 0] 25))) (v3.heap.size + 1) zerosW 25 := Blk.new' _ _ _ _ (by simp)
          refine hK.out _ _ ?_ (fun hHeld => ?_)
          · exact K0.out _ (by ((repeat (first | with_reducible exact Still.refl _ | with_reducible assumption | with_reducible apply Still.alloc | with_reducible apply Still.drew | with_reducible refine Still.step ?_ (by assumption) | with_reducible refine Still.trans ?_ (by assumption)))))
          clear hK K
          (try simp only [Act.put, List.setIfInBounds_toArray, List.set_cons_succ, List.set_cons_zero])
          refine wpAnyH_ready (rs := [6]) (by kernel_rfl) (by simp) ?_
          refine AllReadyH.cons rfl (fun K hK => ?_) AllReadyH.nil
          (try simp only [List.getElem_toArray, List.getElem_cons_succ, List.getElem_cons_zero])
          refine Eq.mpr (if_pos (by rfl)) ?_
          refine wp_store_blk 25 (.tmp 5) (.tmp 8) rfl (v3.heap.size) zerosW A 25 rfl rfl (by ((repeat (first | with_reducible assumption | with_reducible apply Blk.alloc | with_reducible apply Blk.drew | with_reducible refine Blk.step ?_ (by assumption) | with_reducible refine Blk.stepS ?_ (by assumption))))) LA.out IA.out OA.out ?_
          intro w6 hb6 ho6
          have hle6 : w0.heap.size ≤ v3.heap.size := by have h := (show Still w0 v3 from by ((repeat (first | with_reducible exact Still.refl _ | with_reducible assumption | with_reducible apply Still.alloc | with_reducible apply Still.drew | with_reducible refine Still.step ?_ (by assumption) | with_reducible refine Still.trans ?_ (by assumption))))).size; (first | omega | (simp at h ⊢; omega) | (simp at h ⊢) | simp)
          have st6 : Still w0 w6 := Below.trans (show Still w0 _ from by ((repeat (first | with_reducible exact Still.refl _ | with_reducible assumption | with_reducible apply Still.alloc | with_reducible apply Still.drew | with_reducible refine Still.step ?_ (by assumption) | with_reducible refine Still.trans ?_ (by assumption))))) (ho6.below hle6)
          refine hK.out _ _ ?_ (fun hHeld => ?_)
          · exact K0.out _ st6
          clear hK K
          (try simp only [Act.put, List.setIfInBounds_toArray, List.set_cons_succ, List.set_cons_zero])
          refine wpAnyH_ready (rs := [7]) (by kernel_rfl) (by simp) ?_
          refine AllReadyH.cons rfl (fun K hK => ?_) AllReadyH.nil
          (try simp only [List.getElem_toArray, List.getElem_cons_succ, List.getElem_cons_zero])
          refine Eq.mpr (if_pos (by rfl)) ?_
          have hlt : v3.heap.size < v3.heap.size + 1 := by have h := (show Blk (v3.alloc (.cells #[.int .u64 0, .int .u64 0, .int .u64 0, .int .u64 0] 25)) (v3.heap.size) zerosW 25 from by ((repeat (first | with_reducible assumption | with_reducible apply Blk.alloc | with_reducible apply Blk.drew | with_reducible refine Blk.step ?_ (by assumption) | with_reducible refine Blk.stepS ?_ (by assumption))))).lt; (first | omega | (simp at h ⊢; omega) | (simp at h ⊢) | simp)
          refine wp_store_blk 25 (.tmp 6) (.tmp 10) rfl (v3.heap.size + 1) zerosW B 25 rfl rfl (ho6.blk (by ((repeat (first | with_reducible assumption | with_reducible apply Blk.alloc | with_reducible apply Blk.drew | with_reducible refine Blk.step ?_ (by assumption) | with_reducible refine Blk.stepS ?_ (by assumption))))) (by omega)) LB.out IB.out OB.out ?_
          intro w7 hb7 ho7
          have hle7 : w0.heap.size ≤ v3.heap.size + 1 := by have h := (show Still w0 (v3.alloc (.cells #[.int .u64 0, .int .u64 0, .int .u64 0, .int .u64 0] 25)) from by ((repeat (first | with_reducible exact Still.refl _ | with_reducible assumption | with_reducible apply Still.alloc | with_reducible apply Still.drew | with_reducible refine Still.step ?_ (by assumption) | with_reducible refine Still.trans ?_ (by assumption))))).size; (first | omega | (simp at h ⊢; omega) | (simp at h ⊢) | simp)
          have st7 : Still w0 w7 := Below.trans st6 (ho7.below hle7)
          have hb67 := ho7.blk hb6 (by omega)
          refine hK.out _ _ ?_ (fun hHeld => ?_)
          · exact K0.out _ st7
          clear hK K
          (try simp only [Act.put, List.setIfInBounds_toArray, List.set_cons_succ, List.set_cons_zero])
          refine wpAnyH_done (by kernel_rfl) ?_ _
          go_wp2_with fail
          go_meet
          exact ⟨_, _, rfl, rfl, hb67, hb7, st7⟩
        refine AllReadyH.cons rfl (fun K hK => ?_) AllReadyH.nil
        (try simp only [List.getElem_toArray, List.getElem_cons_succ, List.getElem_cons_zero])
        go_simp
        have hz5 : Blk ((v3.alloc (.cells #[.int .u64 0, .int .u64 0, .int .u64 0, .int .u64 0] 25))) (v3.heap.size) zerosW 25 := Blk.new' _ _ _ _ (by simp)
        refine hK.out _ _ ?_ (fun hHeld => ?_)
        · exact K0.out _ (by ((repeat (first | with_reducible exact Still.refl _ | with_reducible assumption | with_reducible apply Still.alloc | with_reducible apply Still.drew | with_reducible refine Still.step ?_ (by assumption) | with_reducible refine Still.trans ?_ (by assumption)))))
        clear hK K
        (try simp only [Act.put, List.setIfInBounds_toArray, List.set_cons_succ, List.set_cons_zero])
        refine wpAnyH_ready (rs := [4]) (by kernel_rfl) (by simp) ?_
        refine AllReadyH.cons rfl (fun K hK => ?_) AllReadyH.nil
        (try simp only [List.getElem_toArray, List.getElem_cons_succ, List.getElem_cons_zero])
        go_simp
        have hz4 : Blk (((v3.alloc (.cells #[.int .u64 0, .int .u64 0, .int .u64 0, .int .u64 0] 25)).alloc (.cells #[.int .u64 0, .int .u64 0, .int .u64 0, .int .u64 0] 25))) (v3.heap.size + 1) zerosW 25 := Blk.new' _ _ _ _ (by simp)
        refine hK.out _ _ ?_ (fun hHeld => ?_)
        · exact K0.out _ (by ((repeat (first | with_reducible exact Still.refl _ | with_reducible assumption | with_reducible apply Still.alloc | with_reducible apply Still.drew | with_reducible refine Still.step ?_ (by assumption) | with_reducible refine Still.trans ?_ (by assumption)))))
        clear hK K
        (try simp only [Act.put, List.setIfInBounds_toArray, List.set_cons_succ, List.set_cons_zero])
        refine wpAnyH_ready (rs := [6]) (by kernel_rfl) (by simp) ?_
        refine AllReadyH.cons rfl (fun K hK => ?_) AllReadyH.nil
        (try simp only [List.getElem_toArray, List.getElem_cons_succ, List.getElem_cons_zero])
        refine Eq.mpr (if_pos (by rfl)) ?_
        refine wp_store_blk 25 (.tmp 5) (.tmp 8) rfl (v3.heap.size + 1) zerosW A 25 rfl rfl (by ((repeat (first | with_reducible assumption | with_reducible apply Blk.alloc | with_reducible apply Blk.drew | with_reducible refine Blk.step ?_ (by assumption) | with_reducible refine Blk.stepS ?_ (by assumption))))) LA.out IA.out OA.out ?_
        intro w6 hb6 ho6
        have hle6 : w0.heap.size ≤ v3.heap.size + 1 := by have h := (show Still w0 (v3.alloc (.cells #[.int .u64 0, .int .u64 0, .int .u64 0, .int .u64 0] 25)) from by ((repeat (first | with_reducible exact Still.refl _ | with_reducible assumption | with_reducible apply Still.alloc | with_reducible apply Still.drew | with_reducible refine Still.step ?_ (by assumption) | with_reducible refine Still.trans ?_ (by assumption))))).size; (first | omega | (simp at h ⊢; omega) | (simp at h ⊢) | simp)
        have st6 : Still w0 w6 := Below.trans (show Still w0 _ from by ((repeat (first | with_reducible exact Still.refl _ | with_reducible assumption | with_reducible apply Still.alloc | with_reducible apply Still.drew | with_reducible refine Still.step ?_ (by assumption) | with_reducible refine Still.trans ?_ (by assumption))))) (ho6.below hle6)
        refine hK.out _ _ ?_ (fun hHeld => ?_)
        · exact K0.out _ st6
        clear hK K
        (try simp only [Act.put, List.setIfInBounds_toArray, List.set_cons_succ, List.set_cons_zero])
        refine wpAnyH_ready (rs := [7]) (by kernel_rfl) (by simp) ?_
        refine AllReadyH.cons rfl (fun K hK => ?_) AllReadyH.nil
        (try simp only [List.getElem_toArray, List.getElem_cons_succ, List.getElem_cons_zero])
        refine Eq.mpr (if_pos (by rfl)) ?_
        have hlt : v3.heap.size < v3.heap.size + 1 := by have h := (show Blk (v3.alloc (.cells #[.int .u64 0, .int .u64 0, .int .u64 0, .int .u64 0] 25)) (v3.heap.size) zerosW 25 from by ((repeat (first | with_reducible assumption | with_reducible apply Blk.alloc | with_reducible apply Blk.drew | with_reducible refine Blk.step ?_ (by assumption) | with_reducible refine Blk.stepS ?_ (by assumption))))).lt; (first | omega | (simp at h ⊢; omega) | (simp at h ⊢) | simp)
        refine wp_store_blk 25 (.tmp 6) (.tmp 10) rfl (v3.heap.size) zerosW B 25 rfl rfl (ho6.blk (by ((repeat (first | with_reducible assumption | with_reducible apply Blk.alloc | with_reducible apply Blk.drew | with_reducible refine Blk.step ?_ (by assumption) | with_reducible refine Blk.stepS ?_ (by assumption))))) (by omega)) LB.out IB.out OB.out ?_
        intro w7 hb7 ho7
        have hle7 : w0.heap.size ≤ v3.heap.size := by have h := (show Still w0 v3 from by ((repeat (first | with_reducible exact Still.refl _ | with_reducible assumption | with_reducible apply Still.alloc | with_reducible apply Still.drew | with_reducible refine Still.step ?_ (by assumption) | with_reducible refine Still.trans ?_ (by assumption))))).size; (first | omega | (simp at h ⊢; omega) | (simp at h ⊢) | simp)
        have st7 : Still w0 w7 := Below.trans st6 (ho7.below hle7)
        have hb67 := ho7.blk hb6 (by omega)
        refine hK.out _ _ ?_ (fun hHeld => ?_)
        · exact K0.out _ st7
        clear hK K
        (try simp only [Act.put, List.setIfInBounds_toArray, List.set_cons_succ, List.set_cons_zero])
        refine wpAnyH_done (by kernel_rfl) ?_ _
        go_wp2_with fail
        go_meet
        exact ⟨_, _, rfl, rfl, hb67, hb7, st7⟩
      refine AllReadyH.cons rfl (fun K hK => ?_) ?_
      · (try simp only [List.getElem_toArray, List.getElem_cons_succ, List.getElem_cons_zero])
        go_simp
        have hz4 : Blk ((v1.alloc (.cells #[.int .u64 0, .int .u64 0, .int .u64 0, .int .u64 0] 25))) (v1.heap.size) zerosW 25 := Blk.new' _ _ _ _ (by simp)
        refine hK.out _ _ ?_ (fun hHeld => ?_)
        · exact K0.out _ (by ((repeat (first | with_reducible exact Still.refl _ | with_reducible assumption | with_reducible apply Still.alloc | with_reducible apply Still.drew | with_reducible refine Still.step ?_ (by assumption) | with_reducible refine Still.trans ?_ (by assumption)))))
        clear hK K
        (try simp only [Act.put, List.setIfInBounds_toArray, List.set_cons_succ, List.set_cons_zero])
        refine wpAnyH_ready (rs := [3, 5]) (by kernel_rfl) (by simp) ?_
        refine AllReadyH.cons rfl (fun K hK => ?_) ?_
        · (try simp only [List.getElem_toArray, List.getElem_cons_succ, List.getElem_cons_zero])
          go_simp
          go_at_call 21; refine (CW2.out _).mono ?_; rintro e' v3 ⟨rfl, d3⟩
          (try (go_wp2_with fail))
          refine hK.out _ _ ?_ (fun hHeld => ?_)
          · exact K0.out _ (by ((repeat (first | with_reducible exact Still.refl _ | with_reducible assumption | with_reducible apply Still.alloc | with_reducible apply Still.drew | with_reducible refine Still.step ?_ (by assumption) | with_reducible refine Still.trans ?_ (by assumption)))))
          clear hK K
          (try simp only [Act.put, List.setIfInBounds_toArray, List.set_cons_succ, List.set_cons_zero])
          refine wpAnyH_ready (rs := [5]) (by kernel_rfl) (by simp) ?_
          refine AllReadyH.cons rfl (fun K hK => ?_) AllReadyH.nil
          (try simp only [List.getElem_toArray, List.getElem_cons_succ, List.getElem_cons_zero])
          go_simp
          have hz5 : Blk ((v3.alloc (.cells #[.int .u64 0, .int .u64 0, .int .u64 0, .int .u64 0] 25))) (v3.heap.size) zerosW 25 := Blk.new' _ _ _ _ (by simp)
          refine hK.out _ _ ?_ (fun hHeld => ?_)
          · exact K0.out _ (by ((repeat (first | with_reducible exact Still.refl _ | with_reducible assumption | with_reducible apply Still.alloc | with_reducible apply Still.drew | with_reducible refine Still.step ?_ (by assumption) | with_reducible refine Still.trans ?_ (by assumption)))))
          clear hK K
          (try simp only [Act.put, List.setIfInBounds_toArray, List.set_cons_succ, List.set_cons_zero])
          refine wpAnyH_ready (rs := [6]) (by kernel_rfl) (by simp) ?_
          refine AllReadyH.cons rfl (fun K hK => ?_) AllReadyH.nil
          (try simp only [List.getElem_toArray, List.getElem_cons_succ, List.getElem_cons_zero])
          refine Eq.mpr (if_pos (by rfl)) ?_
          refine wp_store_blk 25 (.tmp 5) (.tmp 8) rfl (v1.heap.size) zerosW A 25 rfl rfl (by ((repeat (first | with_reducible assumption | with_reducible apply Blk.alloc | with_reducible apply Blk.drew | with_reducible refine Blk.step ?_ (by assumption) | with_reducible refine Blk.stepS ?_ (by assumption))))) LA.out IA.out OA.out ?_
          intro w6 hb6 ho6
          have hle6 : w0.heap.size ≤ v1.heap.size := by have h := (show Still w0 v1 from by ((repeat (first | with_reducible exact Still.refl _ | with_reducible assumption | with_reducible apply Still.alloc | with_reducible apply Still.drew | with_reducible refine Still.step ?_ (by assumption) | with_reducible refine Still.trans ?_ (by assumption))))).size; (first | omega | (simp at h ⊢; omega) | (simp at h ⊢) | simp)
          have st6 : Still w0 w6 := Below.trans (show Still w0 _ from by ((repeat (first | with_reducible exact Still.refl _ | with_reducible assumption | with_reducible apply Still.alloc | with_reducible apply Still.drew | with_reducible refine Still.step ?_ (by assumption) | with_reducible refine Still.trans ?_ (by assumption))))) (ho6.below hle6)
          refine hK.out _ _ ?_ (fun hHeld => ?_)
          · exact K0.out _ st6
          clear hK K
          (try simp only [Act.put, List.setIfInBounds_toArray, List.set_cons_succ, List.set_cons_zero])
          refine wpAnyH_ready (rs := [7]) (by kernel_rfl) (by simp) ?_
          refine AllReadyH.cons rfl (fun K hK => ?_) AllReadyH.nil
          (try simp only [List.getElem_toArray, List.getElem_cons_succ, List.getElem_cons_zero])
          refine Eq.mpr (if_pos (by rfl)) ?_
          have hlt : v1.heap.size < v3.heap.size := by have h := (show Blk v3 (v1.heap.size) zerosW 25 from by ((repeat (first | with_reducible assumption | with_reducible apply Blk.alloc | with_reducible apply Blk.drew | with_reducible refine Blk.step ?_ (by assumption) | with_reducible refine Blk.stepS ?_ (by assumption))))).lt; (first | omega | (simp at h ⊢; omega) | (simp at h ⊢) | simp)
          refine wp_store_blk 25 (.tmp 6) (.tmp 10) rfl (v3.heap.size) zerosW B 25 rfl rfl (ho6.blk (by ((repeat (first | with_reducible assumption | with_reducible apply Blk.alloc | with_reducible apply Blk.drew | with_reducible refine Blk.step ?_ (by assumption) | with_reducible refine Blk.stepS ?_ (by assumption))))) (by omega)) LB.out IB.out OB.out ?_
          intro w7 hb7 ho7
          have hle7 : w0.heap.size ≤ v3.heap.size := by have h := (show Still w0 v3 from by ((repeat (first | with_reducible exact Still.refl _ | with_reducible assumption | with_reducible apply Still.alloc | with_reducible apply Still.drew | with_reducible refine Still.step ?_ (by assumption) | with_reducible refine Still.trans ?_ (by assumption))))).size; (first | omega | (simp at h ⊢; omega) | (simp at h ⊢) | simp)
          have st7 : Still w0 w7 := Below.trans st6 (ho7.below hle7)
          have hb67 := ho7.blk hb6 (by omega)
          refine hK.out _ _ ?_ (fun hHeld => ?_)
          · exact K0.out _ st7
          clear hK K
          (try simp only [Act.put, List.setIfInBounds_toArray, List.set_cons_succ, List.set_cons_zero])
          refine wpAnyH_done (by kernel_rfl) ?_ _
          go_wp2_with fail
          go_meet
          exact ⟨_, _, rfl, rfl, hb67, hb7, st7⟩
        refine AllReadyH.cons rfl (fun K hK => ?_) AllReadyH.nil
        (try simp only [List.getElem_toArray, List.getElem_cons_succ, List.getElem_cons_zero])
        go_simp
        have hz5 : Blk (((v1.alloc (.cells #[.int .u64 0, .int .u64 0, .int .u64 0, .int .u64 0] 25)).alloc (.cells #[.int .u64 0, .int .u64 0, .int .u64 0, .int .u64 0] 25))) (v1.heap.size + 1) zerosW 25 := Blk.new' _ _ _ _ (by simp)
        refine hK.out _ _ ?_ (fun hHeld => ?_)
        · exact K0.out _ (by ((repeat (first | with_reducible exact Still.refl _ | with_reducible assumption | with_reducible apply Still.alloc | with_reducible apply Still.drew | with_reducible refine Still.step ?_ (by assumption) | with_reducible refine Still.trans ?_ (by assumption)))))
        clear hK K
        (try simp only [Act.put, List.setIfInBounds_toArray, List.set_cons_succ, List.set_cons_zero])
        refine wpAnyH_ready (rs := [3]) (by kernel_rfl) (by simp) ?_
        refine AllReadyH.cons rfl (fun K hK => ?_) AllReadyH.nil
        (try simp only [List.getElem_toArray, List.getElem_cons_succ, List.getElem_cons_zero])
        go_simp
        go_at_call 21; refine (CW2.out _).mono ?_; rintro e' v3 ⟨rfl, d3⟩
        (try (go_wp2_with fail))
        refine hK.out _ _ ?_ (fun hHeld => ?_)
        · exact K0.out _ (by ((repeat (first | with_reducible exact Still.refl _ | with_reducible assumption | with_reducible apply Still.alloc | with_reducible apply Still.drew | with_reducible refine Still.step ?_ (by assumption) | with_reducible refine Still.trans ?_ (by assumption)))))
        clear hK K
        (try simp only [Act.put, List.setIfInBounds_toArray, List.set_cons_succ, List.set_cons_zero])
        refine wpAnyH_ready (rs := [6]) (by kernel_rfl) (by simp) ?_
        refine AllReadyH.cons rfl (fun K hK => ?_) AllReadyH.nil
        (try simp only [List.getElem_toArray, List.getElem_cons_succ, List.getElem_cons_zero])
        refine Eq.mpr (if_pos (by rfl)) ?_
        refine wp_store_blk 25 (.tmp 5) (.tmp 8) rfl (v1.heap.size) zerosW A 25 rfl rfl (by ((repeat (first | with_reducible assumption | with_reducible apply Blk.alloc | with_reducible apply Blk.drew | with_reducible refine Blk.step ?_ (by assumption) | with_reducible refine Blk.stepS ?_ (by assumption))))) LA.out IA.out OA.out ?_
        intro w6 hb6 ho6
        have hle6 : w0.heap.size ≤ v1.heap.size := by have h := (show Still w0 v1 from by ((repeat (first | with_reducible exact Still.refl _ | with_reducible assumption | with_reducible apply Still.alloc | with_reducible apply Still.drew | with_reducible refine Still.step ?_ (by assumption) | with_reducible refine Still.trans ?_ (by assumption))))).size; (first | omega | (simp at h ⊢; omega) | (simp at h ⊢) | simp)
        have st6 : Still w0 w6 := Below.trans (show Still w0 _ from by ((repeat (first | with_reducible exact Still.refl _ | with_reducible assumption | with_reducible apply Still.alloc | with_reducible apply Still.drew | with_reducible refine Still.step ?_ (by assumption) | with_reducible refine Still.trans ?_ (by assumption))))) (ho6.below hle6)
        refine hK.out _ _ ?_ (fun hHeld => ?_)
        · exact K0.out _ st6
        clear hK K
        (try simp only [Act.put, List.setIfInBounds_toArray, List.set_cons_succ, List.set_cons_zero])
        refine wpAnyH_ready (rs := [7]) (by kernel_rfl) (by simp) ?_
        refine AllReadyH.cons rfl (fun K hK => ?_) AllReadyH.nil
        (try simp only [List.getElem_toArray, List.getElem_cons_succ, List.getElem_cons_zero])
        refine Eq.mpr (if_pos (by rfl)) ?_
        have hlt : v1.heap.size < v1.heap.size + 1 := by have h := (show Blk (v1.alloc (.cells #[.int .u64 0, .int .u64 0, .int .u64 0, .int .u64 0] 25)) (v1.heap.size) zerosW 25 from by ((repeat (first | with_reducible assumption | with_reducible apply Blk.alloc | with_reducible apply Blk.drew | with_reducible refine Blk.step ?_ (by assumption) | with_reducible refine Blk.stepS ?_ (by assumption))))).lt; (first | omega | (simp at h ⊢; omega) | (simp at h ⊢) | simp)
        refine wp_store_blk 25 (.tmp 6) (.tmp 10) rfl (v1.heap.size + 1) zerosW B 25 rfl rfl (ho6.blk (by ((repeat (first | with_reducible assumption | with_reducible apply Blk.alloc | with_reducible apply Blk.drew | with_reducible refine Blk.step ?_ (by assumption) | with_reducible refine Blk.stepS ?_ (by assumption))))) (by omega)) LB.out IB.out OB.out ?_
        intro w7 hb7 ho7
        have hle7 : w0.heap.size ≤ v1.heap.size + 1 := by have h := (show Still w0 (v1.alloc (.cells #[.int .u64 0, .int .u64 0, .int .u64 0, .int .u64 0] 25)) from by ((repeat (first | with_reducible exact Still.refl _ | with_reducible assumption | with_reducible apply Still.alloc | with_reducible apply Still.drew | with_reducible refine Still.step ?_ (by assumption) | with_reducible refine Still.trans ?_ (by assumption))))).size; (first | omega | (simp at h ⊢; omega) | (simp at h ⊢) | simp)
        have st7 : Still w0 w7 := Below.trans st6 (ho7.below hle7)
        have hb67 := ho7.blk hb6 (by omega)
        refine hK.out _ _ ?_ (fun hHeld => ?_)
        · exact K0.out _ st7
        clear hK K
        (try simp only [Act.put, List.setIfInBounds_toArray, List.set_cons_succ, List.set_cons_zero])
        refine wpAnyH_done (by kernel_rfl) ?_ _
        go_wp2_with fail
        go_meet
        exact ⟨_, _, rfl, rfl, hb67, hb7, st7⟩
      refine AllReadyH.cons rfl (fun K hK => ?_) AllReadyH.nil
      (try simp only [List.getElem_toArray, List.getElem_cons_succ, List.getElem_cons_zero])
      go_simp
      have hz5 : Blk ((v1.alloc (.cells #[.int .u64 0, .int .u64 0, .int .u64 0, .int .u64 0] 25))) (v1.heap.size) zerosW 25 := Blk.new' _ _ _ _ (by simp)
      refine hK.out _ _ ?_ (fun hHeld => ?_)
      · exact K0.out _ (by ((repeat (first | with_reducible exact Still.refl _ | with_reducible assumption | with_reducible apply Still.alloc | with_reducible apply Still.drew | with_reducible refine Still.step ?_ (by assumption) | with_reducible refine Still.trans ?_ (by assumption)))))
      clear hK K
      (try simp only [Act.put, List.setIfInBounds_toArray, List.set_cons_succ, List.set_cons_zero])
      refine wpAnyH_ready (rs := [3, 4]) (by kernel_rfl) (by simp) ?_
      refine AllReadyH.cons rfl (fun K hK => ?_) ?_
      · (try simp only [List.getElem_toArray, List.getElem_cons_succ, List.getElem_cons_zero])
        go_simp
        go_at_call 21; refine (CW2.out _).mono ?_; rintro e' v3 ⟨rfl, d3⟩
        (try (go_wp2_with fail))
        refine hK.out _ _ ?_ (fun hHeld => ?_)
        · exact K0.out _ (by ((repeat (first | with_reducible exact Still.refl _ | with_reducible assumption | with_reducible apply Still.alloc | with_reducible apply Still.drew | with_reducible refine Still.step ?_ (by assumption) | with_reducible refine Still.trans ?_ (by assumption)))))
        clear hK K
        (try simp only [Act.put, List.setIfInBounds_toArray, List.set_cons_succ, List.set_cons_zero])
        refine wpAnyH_ready (rs := [4]) (by kernel_rfl) (by simp) ?_
        refine AllReadyH.cons rfl (fun K hK => ?_) AllReadyH.nil
        (try simp only [List.getElem_toArray, List.getElem_cons_succ, List.getElem_cons_zero])
        go_simp
        have hz4 : Blk ((v3.alloc (.cells #[.int .u64 0, .int .u64 0, .int .u64 0, .int .u64 0] 25))) (v3.heap.size) zerosW 25 := Blk.new' _ _ _ _ (by simp)
        refine hK.out _ _ ?_ (fun hHeld => ?_)
        · exact K0.out _ (by ((repeat (first | with_reducible exact Still.refl _ | with_reducible assumption | with_reducible apply Still.alloc | with_reducible apply Still.drew | with_reducible refine Still.step ?_ (by assumption) | with_reducible refine Still.trans ?_ (by assumption)))))
        clear hK K
        (try simp only [Act.put, List.setIfInBounds_toArray, List.set_cons_succ, List.set_cons_zero])
        refine wpAnyH_ready (rs := [6]) (by kernel_rfl) (by simp) ?_
        refine AllReadyH.cons rfl (fun K hK => ?_) AllReadyH.nil
        (try simp only [List.getElem_toArray, List.getElem_cons_succ, List.getElem_cons_zero])
        refine Eq.mpr (if_pos (by rfl)) ?_
        refine wp_store_blk 25 (.tmp 5) (.tmp 8) rfl (v3.heap.size) zerosW A 25 rfl rfl (by ((repeat (first | with_reducible assumption | with_reducible apply Blk.alloc | with_reducible apply Blk.drew | with_reducible refine Blk.step ?_ (by assumption) | with_reducible refine Blk.stepS ?_ (by assumption))))) LA.out IA.out OA.out ?_
        intro w6 hb6 ho6
        have hle6 : w0.heap.size ≤ v3.heap.size := by have h := (show Still w0 v3 from by ((repeat (first | with_reducible exact Still.refl _ | with_reducible assumption | with_reducible apply Still.alloc | with_reducible apply Still.drew | with_reducible refine Still.step ?_ (by assumption) | with_reducible refine Still.trans ?_ (by assumption))))).size; (first | omega | (simp at h ⊢; omega) | (simp at h ⊢) | simp)
        have st6 : Still w0 w6 := Below.trans (show Still w0 _ from by ((repeat (first | with_reducible exact Still.refl _ | with_reducible assumption | with_reducible apply Still.alloc | with_reducible apply Still.drew | with_reducible refine Still.step ?_ (by assumption) | with_reducible refine Still.trans ?_ (by assumption))))) (ho6.below hle6)
        refine hK.out _ _ ?_ (fun hHeld => ?_)
        · exact K0.out _ st6
        clear hK K
        (try simp only [Act.put, List.setIfInBounds_toArray, List.set_cons_succ, List.set_cons_zero])
        refine wpAnyH_ready (rs := [7]) (by kernel_rfl) (by simp) ?_
        refine AllReadyH.cons rfl (fun K hK => ?_) AllReadyH.nil
        (try simp only [List.getElem_toArray, List.getElem_cons_succ, List.getElem_cons_zero])
        refine Eq.mpr (if_pos (by rfl)) ?_
        have hlt : v1.heap.size < v3.heap.size := by have h := (show Blk v3 (v1.heap.size) zerosW 25 from by ((repeat (first | with_reducible assumption | with_reducible apply Blk.alloc | with_reducible apply Blk.drew | with_reducible refine Blk.step ?_ (by assumption) | with_reducible refine Blk.stepS ?_ (by assumption))))).lt; (first | omega | (simp at h ⊢; omega) | (simp at h ⊢) | simp)
        refine wp_store_blk 25 (.tmp 6) (.tmp 10) rfl (v1.heap.size) zerosW B 25 rfl rfl (ho6.blk (by ((repeat (first | with_reducible assumption | with_reducible apply Blk.alloc | with_reducible apply Blk.drew | with_reducible refine Blk.step ?_ (by assumption) | with_reducible refine Blk.stepS ?_ (by assumption))))) (by omega)) LB.out IB.out OB.out ?_
        intro w7 hb7 ho7
        have hle7 : w0.heap.size ≤ v1.heap.size := by have h := (show Still w0 v1 from by ((repeat (first | with_reducible exact Still.refl _ | with_reducible assumption | with_reducible apply Still.alloc | with_reducible apply Still.drew | with_reducible refine Still.step ?_ (by assumption) | with_reducible refine Still.trans ?_ (by assumption))))).size; (first | omega | (simp at h ⊢; omega) | (simp at h ⊢) | simp)
        have st7 : Still w0 w7 := Below.trans st6 (ho7.below hle7)
        have hb67 := ho7.blk hb6 (by omega)
        refine hK.out _ _ ?_ (fun hHeld => ?_)
        · exact K0.out _ st7
        clear hK K
        (try simp only [Act.put, List.setIfInBounds_toArray, List.set_cons_succ, List.set_cons_zero])
        refine wpAnyH_done (by kernel_rfl) ?_ _
        go_wp2_with fail
        go_meet
        exact ⟨_, _, rfl, rfl, hb67, hb7, st7⟩
      refine AllReadyH.cons rfl (fun K hK => ?_) AllReadyH.nil
      (try simp only [List.getElem_toArray, List.getElem_cons_succ, List.getElem_cons_zero])
      go_simp
      have hz4 : Blk (((v1.alloc (.cells #[.int .u64 0, .int .u64 0, .int .u64 0, .int .u64 0] 25)).alloc (.cells #[.int .u64 0, .int .u64 0, .int .u64 0, .int .u64 0] 25))) (v1.heap.size + 1) zerosW 25 := Blk.new' _ _ _ _ (by simp)
      refine hK.out _ _ ?_ (fun hHeld => ?_)
      · exact K0.out _ (by ((repeat (first | with_reducible exact Still.refl _ | with_reducible assumption | with_reducible apply Still.alloc | with_reducible apply Still.drew | with_reducible refine Still.step ?_ (by assumption) | with_reducible refine Still.trans ?_ (by assumption)))))
      clear hK K
      (try simp only [Act.put, List.setIfInBounds_toArray, List.set_cons_succ, List.set_cons_zero])
      refine wpAnyH_ready (rs := [3]) (by kernel_rfl) (by simp) ?_
      refine AllReadyH.cons rfl (fun K hK => ?_) AllReadyH.nil
      (try simp only [List.getElem_toArray, List.getElem_cons_succ, List.getElem_cons_zero])
      go_simp
      go_at_call 21; refine (CW2.out _).mono ?_; rintro e' v3 ⟨rfl, d3⟩
      (try (go_wp2_with fail))
      refine hK.out _ _ ?_ (fun hHeld => ?_)
      · exact K0.out _ (by ((repeat (first | with_reducible exact Still.refl _ | with_reducible assumption | with_reducible apply Still.alloc | with_reducible apply Still.drew | with_reducible refine Still.step ?_ (by assumption) | with_reducible refine Still.trans ?_ (by assumption)))))
      clear hK K
      (try simp only [Act.put, List.setIfInBounds_toArray, List.set_cons_succ, List.set_cons_zero])
      refine wpAnyH_ready (rs := [6]) (by kernel_rfl) (by simp) ?_
      refine AllReadyH.cons rfl (fun K hK => ?_) AllReadyH.nil
      (try simp only [List.getElem_toArray, List.getElem_cons_succ, List.getElem_cons_zero])
      refine Eq.mpr (if_pos (by rfl)) ?_
      refine wp_store_blk 25 (.tmp 5) (.tmp 8) rfl (v1.heap.size + 1) zerosW A 25 rfl rfl (by ((repeat (first | with_reducible assumption | with_reducible apply Blk.alloc | with_reducible apply Blk.drew | with_reducible refine Blk.step ?_ (by assumption) | with_reducible refine Blk.stepS ?_ (by assumption))))) LA.out IA.out OA.out ?_
      intro w6 hb6 ho6
      have hle6 : w0.heap.size ≤ v1.heap.size + 1 := by have h := (show Still w0 (v1.alloc (.cells #[.int .u64 0, .int .u64 0, .int .u64 0, .int .u64 0] 25)) from by ((repeat (first | with_reducible exact Still.refl _ | with_reducible assumption | with_reducible apply Still.alloc | with_reducible apply Still.drew | with_reducible refine Still.step ?_ (by assumption) | with_reducible refine Still.trans ?_ (by assumption))))).size; (first | omega | (simp at h ⊢; omega) | (simp at h ⊢) | simp)
      have st6 : Still w0 w6 := Below.trans (show Still w0 _ from by ((repeat (first | with_reducible exact Still.refl _ | with_reducible assumption | with_reducible apply Still.alloc | with_reducible apply Still.drew | with_reducible refine Still.step ?_ (by assumption) | with_reducible refine Still.trans ?_ (by assumption))))) (ho6.below hle6)
      refine hK.out _ _ ?_ (fun hHeld => ?_)
      · exact K0.out _ st6
      clear hK K
      (try simp only [Act.put, List.setIfInBounds_toArray, List.set_cons_succ, List.set_cons_zero])
      refine wpAnyH_ready (rs := [7]) (by kernel_rfl) (by simp) ?_
      refine AllReadyH.cons rfl (fun K hK => ?_) AllReadyH.nil
      (try simp only [List.getElem_toArray, List.getElem_cons_succ, List.getElem_cons_zero])
      refine Eq.mpr (if_pos (by rfl)) ?_
      have hlt : v1.heap.size < v1.heap.size + 1 := by have h := (show Blk (v1.alloc (.cells #[.int .u64 0, .int .u64 0, .int .u64 0, .int .u64 0] 25)) (v1.heap.size) zerosW 25 from by ((repeat (first | with_reducible assumption | with_reducible apply Blk.alloc | with_reducible apply Blk.drew | with_reducible refine Blk.step ?_ (by assumption) | with_reducible refine Blk.stepS ?_ (by assumption))))).lt; (first | omega | (simp at h ⊢; omega) | (simp at h ⊢) | simp)
      refine wp_store_blk 25 (.tmp 6) (.tmp 10) rfl (v1.heap.size) zerosW B 25 rfl rfl (ho6.blk (by ((repeat (first | with_reducible assumption | with_reducible apply Blk.alloc | with_reducible apply Blk.drew | with_reducible refine Blk.step ?_ (by assumption) | with_reducible refine Blk.stepS ?_ (by assumption))))) (by omega)) LB.out IB.out OB.out ?_
      intro w7 hb7 ho7
      have hle7 : w0.heap.size ≤ v1.heap.size := by have h := (show Still w0 v1 from by ((repeat (first | with_reducible exact Still.refl _ | with_reducible assumption | with_reducible apply Still.alloc | with_reducible apply Still.drew | with_reducible refine Still.step ?_ (by assumption) | with_reducible refine Still.trans ?_ (by assumption))))).size; (first | omega | (simp at h ⊢; omega) | (simp at h ⊢) | simp)
      have st7 : Still w0 w7 := Below.trans st6 (ho7.below hle7)
      have hb67 := ho7.blk hb6 (by omega)
      refine hK.out _ _ ?_ (fun hHeld => ?_)
      · exact K0.out _ st7
      clear hK K
      (try simp only [Act.put, List.setIfInBounds_toArray, List.set_cons_succ, List.set_cons_zero])
      refine wpAnyH_done (by kernel_rfl) ?_ _
      go_wp2_with fail
      go_meet
      exact ⟨_, _, rfl, rfl, hb67, hb7, st7⟩
    refine AllReadyH.cons rfl (fun K hK => ?_) ?_
    · (try simp only [List.getElem_toArray, List.getElem_cons_succ, List.getElem_cons_zero])
      go_simp
      have hz4 : Blk ((w0.alloc (.cells #[.int .u64 0, .int .u64 0, .int .u64 0, .int .u64 0] 25))) (w0.heap.size) zerosW 25 := Blk.new' _ _ _ _ (by simp)
      refine hK.out _ _ ?_ (fun hHeld => ?_)
      · exact K0.out _ (by ((repeat (first | with_reducible exact Still.refl _ | with_reducible assumption | with_reducible apply Still.alloc | with_reducible apply Still.drew | with_reducible refine Still.step ?_ (by assumption) | with_reducible refine Still.trans ?_ (by assumption)))))
      clear hK K
      (try simp only [Act.put, List.setIfInBounds_toArray, List.set_cons_succ, List.set_cons_zero])
      refine wpAnyH_ready (rs := [1, 5]) (by kernel_rfl) (by simp) ?_
      refine AllReadyH.cons rfl (fun K hK => ?_) ?_
      · (try simp only [List.getElem_toArray, List.getElem_cons_succ, List.getElem_cons_zero])
        go_simp
        go_at_call 21; refine (CW1.out _).mono ?_; rintro e' v1 ⟨rfl, d1⟩
        (try (go_wp2_with fail))
        refine hK.out _ _ ?_ (fun hHeld => ?_)
        · exact K0.out _ (by ((repeat (first | with_reducible exact Still.refl _ | with_reducible assumption | with_reducible apply Still.alloc | with_reducible apply Still.drew | with_reducible refine Still.step ?_ (by assumption) | with_reducible refine Still.trans ?_ (by assumption)))))
        clear hK K
        (try simp only [Act.put, List.setIfInBounds_toArray, List.set_cons_succ, List.set_cons_zero])
        refine wpAnyH_ready (rs := [3, 5]) (by kernel_rfl) (by simp) ?_
        refine AllReadyH.cons rfl (fun K hK => ?_) ?_
        · (try simp only [List.getElem_toArray, List.getElem_cons_succ, List.getElem_cons_zero])
          go_simp
          go_at_call 21; refine (CW2.out _).mono ?_; rintro e' v3 ⟨rfl, d3⟩
          (try (go_wp2_with fail))
          refine hK.out _ _ ?_ (fun hHeld => ?_)
          · exact K0.out _ (by ((repeat (first | with_reducible exact Still.refl _ | with_reducible assumption | with_reducible apply Still.alloc | with_reducible apply Still.drew | with_reducible refine Still.step ?_ (by assumption) | with_reducible refine Still.trans ?_ (by assumption)))))
          clear hK K
          (try simp only [Act.put, List.setIfInBounds_toArray, List.set_cons_succ, List.set_cons_zero])
          refine wpAnyH_ready (rs := [5]) (by kernel_rfl) (by simp) ?_
          refine AllReadyH.cons rfl (fun K hK => ?_) AllReadyH.nil
          (try simp only [List.getElem_toArray, List.getElem_cons_succ, List.getElem_cons_zero])
          go_simp
          have hz5 : Blk ((v3.alloc (.cells #[.int .u64 0, .int .u64 0, .int .u64 0, .int .u64 0] 25))) (v3.heap.size) zerosW 25 := Blk.new' _ _ _ _ (by simp)
          refine hK.out _ _ ?_ (fun hHeld => ?_)
          · exact K0.out _ (by ((repeat (first | with_reducible exact Still.refl _ | with_reducible assumption | with_reducible apply Still.alloc | with_reducible apply Still.drew | with_reducible refine Still.step ?_ (by assumption) | with_reducible refine Still.trans ?_ (by assumption)))))
          clear hK K
          (try simp only [Act.put, List.setIfInBounds_toArray, List.set_cons_succ, List.set_cons_zero])
          refine wpAnyH_ready (rs := [6]) (by kernel_rfl) (by simp) ?_
          refine AllReadyH.cons rfl (fun K hK => ?_) AllReadyH.nil
          (try simp only [List.getElem_toArray, List.getElem_cons_succ, List.getElem_cons_zero])
          refine Eq.mpr (if_pos (by rfl)) ?_
          refine wp_store_blk 25 (.tmp 5) (.tmp 8) rfl (w0.heap.size) zerosW A 25 rfl rfl (by ((repeat (first | with_reducible assumption | with_reducible apply Blk.alloc | with_reducible apply Blk.drew | with_reducible refine Blk.step ?_ (by assumption) | with_reducible refine Blk.stepS ?_ (by assumption))))) LA.out IA.out OA.out ?_
          intro w6 hb6 ho6
          have hle6 : w0.heap.size ≤ w0.heap.size := by have h := (show Still w0 w0.drew from by ((repeat (first | with_reducible exact Still.refl _ | with_reducible assumption | with_reducible apply Still.alloc | with_reducible apply Still.drew | with_reducible refine Still.step ?_ (by assumption) | with_reducible refine Still.trans ?_ (by assumption))))).size; (first | omega | (simp at h ⊢; omega) | (simp at h ⊢) | simp)
          have st6 : Still w0 w6 := Below.trans (show Still w0 _ from by ((repeat (first | with_reducible exact Still.refl _ | with_reducible assumption | with_reducible apply Still.alloc | with_reducible apply Still.drew | with_reducible refine Still.step ?_ (by assumption) | with_reducible refine Still.trans ?_ (by assumption))))) (ho6.below hle6)
          refine hK.out _ _ ?_ (fun hHeld => ?_)
          · exact K0.out _ st6
          clear hK K
          (try simp only [Act.put, List.setIfInBounds_toArray, List.set_cons_succ, List.set_cons_zero])
          refine wpAnyH_ready (rs := [7]) (by kernel_rfl) (by simp) ?_
          refine AllReadyH.cons rfl (fun K hK => ?_) AllReadyH.nil
          (try simp only [List.getElem_toArray, List.getElem_cons_succ, List.getElem_cons_zero])
          refine Eq.mpr (if_pos (by rfl)) ?_
          have hlt : w0.heap.size < v3.heap.size := by have h := (show Blk v3 (w0.heap.size) zerosW 25 from by ((repeat (first | with_reducible assumption | with_reducible apply Blk.alloc | with_reducible apply Blk.drew | with_reducible refine Blk.step ?_ (by assumption) | with_reducible refine Blk.stepS ?_ (by assumption))))).lt; (first | omega | (simp at h ⊢; omega) | (simp at h ⊢) | simp)
          refine wp_store_blk 25 (.tmp 6) (.tmp 10) rfl (v3.heap.size) zerosW B 25 rfl rfl (ho6.blk (by ((repeat (first | with_reducible assumption | with_reducible apply Blk.alloc | with_reducible apply Blk.drew | with_reducible refine Blk.step ?_ (by assumption) | with_reducible refine Blk.stepS ?_ (by assumption))))) (by omega)) LB.out IB.out OB.out ?_
          intro w7 hb7 ho7
          have hle7 : w0.heap.size ≤ v3.heap.size := by have h := (show Still w0 v3 from by ((repeat (first | with_reducible exact Still.refl _ | with_reducible assumption | with_reducible apply Still.alloc | with_reducible apply Still.drew | with_reducible refine Still.step ?_ (by assumption) | with_reducible refine Still.trans ?_ (by assumption))))).size; (first | omega | (simp at h ⊢; omega) | (simp at h ⊢) | simp)
          have st7 : Still w0 w7 := Below.trans st6 (ho7.below hle7)
          have hb67 := ho7.blk hb6 (by omega)
          refine hK.out _ _ ?_ (fun hHeld => ?_)
          · exact K0.out _ st7
          clear hK K
          (try simp only [Act.put, List.setIfInBounds_toArray, List.set_cons_succ, List.set_cons_zero])
          refine wpAnyH_done (by kernel_rfl) ?_ _
          go_wp2_with fail
          go_meet
          exact ⟨_, _, rfl, rfl, hb67, hb7, st7⟩
        refine AllReadyH.cons rfl (fun K hK => ?_) AllReadyH.nil
        (try simp only [List.getElem_toArray, List.getElem_cons_succ, List.getElem_cons_zero])
        go_simp
        have hz5 : Blk ((v1.alloc (.cells #[.int .u64 0, .int .u64 0, .int .u64 0, .int .u64 0] 25))) (v1.heap.size) zerosW 25 := Blk.new' _ _ _ _ (by simp)
        refine hK.out _ _ ?_ (fun hHeld => ?_)
        · exact K0.out _ (by ((repeat (first | with_reducible exact Still.refl _ | with_reducible assumption | with_reducible apply Still.alloc | with_reducible apply Still.drew | with_reducible refine Still.step ?_ (by assumption) | with_reducible refine Still.trans ?_ (by assumption)))))
        clear hK K
        (try simp only [Act.put, List.setIfInBounds_toArray, List.set_cons_succ, List.set_cons_zero])
        refine wpAnyH_ready (rs := [3]) (by kernel_rfl) (by simp) ?_
        refine AllReadyH.cons rfl (fun K hK => ?_) AllReadyH.nil
        (try simp only [List.getElem_toArray, List.getElem_cons_succ, List.getElem_cons_zero])
        go_simp
        go_at_call 21; refine (CW2.out _).mono ?_; rintro e' v3 ⟨rfl, d3⟩
        (try (go_wp2_with fail))
        refine hK.out _ _ ?_ (fun hHeld => ?_)
        · exact K0.out _ (by ((repeat (first | with_reducible exact Still.refl _ | with_reducible assumption | with_reducible apply Still.alloc | with_reducible apply Still.drew | with_reducible refine Still.step ?_ (by assumption) | with_reducible refine Still.trans ?_ (by assumption)))))
        clear hK K
        (try simp only [Act.put, List.setIfInBounds_toArray, List.set_cons_succ, List.set_cons_zero])
        refine wpAnyH_ready (rs := [6]) (by kernel_rfl) (by simp) ?_
        refine AllReadyH.cons rfl (fun K hK => ?_) AllReadyH.nil
        (try simp only [List.getElem_toArray, List.getElem_cons_succ, List.getElem_cons_zero])
        refine Eq.mpr (if_pos (by rfl)) ?_
        refine wp_store_blk 25 (.tmp 5) (.tmp 8) rfl (w0.heap.size) zerosW A 25 rfl rfl (by ((repeat (first | with_reducible assumption | with_reducible apply Blk.alloc | with_reducible apply Blk.drew | with_reducible refine Blk.step ?_ (by assumption) | with_reducible refine Blk.stepS ?_ (by assumption))))) LA.out IA.out OA.out ?_
        intro w6 hb6 ho6
        have hle6 : w0.heap.size ≤ w0.heap.size := by have h := (show Still w0 w0.drew from by ((repeat (first | with_reducible exact Still.refl _ | with_reducible assumption | with_reducible apply Still.alloc | with_reducible apply Still.drew | with_reducible refine Still.step ?_ (by assumption) | with_reducible refine Still.trans ?_ (by assumption))))).size; (first | omega | (simp at h ⊢; omega) | (simp at h ⊢) | simp)
        have st6 : Still w0 w6 := Below.trans (show Still w0 _ from by ((repeat (first | with_reducible exact Still.refl _ | with_reducible assumption | with_reducible apply Still.alloc | with_reducible apply Still.drew | with_reducible refine Still.step ?_ (by assumption) | with_reducible refine Still.trans ?_ (by assumption))))) (ho6.below hle6)
        refine hK.out _ _ ?_ (fun hHeld => ?_)
        · exact K0.out _ st6
        clear hK K
        (try simp only [Act.put, List.setIfInBounds_toArray, List.set_cons_succ, List.set_cons_zero])
        refine wpAnyH_ready (rs := [7]) (by kernel_rfl) (by simp) ?_
        refine AllReadyH.cons rfl (fun K hK => ?_) AllReadyH.nil
        (try simp only [List.getElem_toArray, List.getElem_cons_succ, List.getElem_cons_zero])
        refine Eq.mpr (if_pos (by rfl)) ?_
        have hlt : w0.heap.size < v1.heap.size := by have h := (show Blk v1 (w0.heap.size) zerosW 25 from by ((repeat (first | with_reducible assumption | with_reducible apply Blk.alloc | with_reducible apply Blk.drew | with_reducible refine Blk.step ?_ (by assumption) | with_reducible refine Blk.stepS ?_ (by assumption))))).lt; (first | omega | (simp at h ⊢; omega) | (simp at h ⊢) | simp)
        refine wp_store_blk 25 (.tmp 6) (.tmp 10) rfl (v1.heap.size) zerosW B 25 rfl rfl (ho6.blk (by ((repeat (first | with_reducible assumption | with_reducible apply Blk.alloc | with_reducible apply Blk.drew | with_reducible refine Blk.step ?_ (by assumption) | with_reducible refine Blk.stepS ?_ (by assumption))))) (by omega)) LB.out IB.out OB.out ?_
        intro w7 hb7 ho7
        have hle7 : w0.heap.size ≤ v1.heap.size := by have h := (show Still w0 v1 from by ((repeat (first | with_reducible exact Still.refl _ | with_reducible assumption | with_reducible apply Still.alloc | with_reducible apply Still.drew | with_reducible refine Still.step ?_ (by assumption) | with_reducible refine Still.trans ?_ (by assumption))))).size; (first | omega | (simp at h ⊢; omega) | (simp at h ⊢) | simp)
        have st7 : Still w0 w7 := Below.trans st6 (ho7.below hle7)
        have hb67 := ho7.blk hb6 (by omega)
        refine hK.out _ _ ?_ (fun hHeld => ?_)
        · exact K0.out _ st7
        clear hK K
        (try simp only [Act.put, List.setIfInBounds_toArray, List.set_cons_succ, List.set_cons_zero])
        refine wpAnyH_done (by kernel_rfl) ?_ _
        go_wp2_with fail
        go_meet
        exact ⟨_, _, rfl, rfl, hb67, hb7, st7⟩
      refine AllReadyH.cons rfl (fun K hK => ?_) AllReadyH.nil
      (try simp only [List.getElem_toArray, List.getElem_cons_succ, List.getElem_cons_zero])
      go_simp
      have hz5 : Blk (((w0.alloc (.cells #[.int .u64 0, .int .u64 0, .int .u64 0, .int .u64 0] 25)).alloc (.cells #[.int .u64 0, .int .u64 0, .int .u64 0, .int .u64 0] 25))) (w0.heap.size + 1) zerosW 25 := Blk.new' _ _ _ _ (by simp)
      refine hK.out _ _ ?_ (fun hHeld => ?_)
      · exact K0.out _ (by ((repeat (first | with_reducible exact Still.refl _ | with_reducible assumption | with_reducible apply Still.alloc | with_reducible apply Still.drew | with_reducible refine Still.step ?_ (by assumption) | with_reducible refine Still.trans ?_ (by assumption)))))
      clear hK K
      (try simp only [Act.put, List.setIfInBounds_toArray, List.set_cons_succ, List.set_cons_zero])
      refine wpAnyH_ready (rs := [1]) (by kernel_rfl) (by simp) ?_
      refine AllReadyH.cons rfl (fun K hK => ?_) AllReadyH.nil
      (try simp only [List.getElem_toArray, List.getElem_cons_succ, List.getElem_cons_zero])
      go_simp
      go_at_call 21; refine (CW1.out _).mono ?_; rintro e' v1 ⟨rfl, d1⟩
      (try (go_wp2_with fail))
      refine hK.out _ _ ?_ (fun hHeld => ?_)
      · exact K0.out _ (by ((repeat (first | with_reducible exact Still.refl _ | with_reducible assumption | with_reducible apply Still.alloc | with_reducible apply Still.drew | with_reducible refine Still.step ?_ (by assumption) | with_reducible refine Still.trans ?_ (by assumption)))))
      clear hK K
      (try simp only [Act.put, List.setIfInBounds_toArray, List.set_cons_succ, List.set_cons_zero])
      refine wpAnyH_ready (rs := [3]) (by kernel_rfl) (by simp) ?_
      refine AllReadyH.cons rfl (fun K hK => ?_) AllReadyH.nil
      (try simp only [List.getElem_toArray, List.getElem_cons_succ, List.getElem_cons_zero])
      go_simp
      go_at_call 21; refine (CW2.out _).mono ?_; rintro e' v3 ⟨rfl, d3⟩
      (try (go_wp2_with fail))
      refine hK.out _ _ ?_ (fun hHeld => ?_)
      · exact K0.out _ (by ((repeat (first | with_reducible exact Still.refl _ | with_reducible assumption | with_reducible apply Still.alloc | with_reducible apply Still.drew | with_reducible refine Still.step ?_ (by assumption) | with_reducible refine Still.trans ?_ (by assumption)))))
      clear hK K
      (try simp only [Act.put, List.setIfInBounds_toArray, List.set_cons_succ, List.set_cons_zero])
      refine wpAnyH_ready (rs := [6]) (by kernel_rfl) (by simp) ?_
      refine AllReadyH.cons rfl (fun K hK => ?_) AllReadyH.nil
      (try simp only [List.getElem_toArray, List.getElem_cons_succ, List.getElem_cons_zero])
      refine Eq.mpr (if_pos (by rfl)) ?_
      refine wp_store_blk 25 (.tmp 5) (.tmp 8) rfl (w0.heap.size) zerosW A 25 rfl rfl (by ((repeat (first | with_reducible assumption | with_reducible apply Blk.alloc | with_reducible apply Blk.drew | with_reducible refine Blk.step ?_ (by assumption) | with_reducible refine Blk.stepS ?_ (by assumption))))) LA.out IA.out OA.out ?_
      intro w6 hb6 ho6
      have hle6 : w0.heap.size ≤ w0.heap.size := by have h := (show Still w0 w0.drew from by ((repeat (first | with_reducible exact Still.refl _ | with_reducible assumption | with_reducible apply Still.alloc | with_reducible apply Still.drew | with_reducible refine Still.step ?_ (by assumption) | with_reducible refine Still.trans ?_ (by assumption))))).size; (first | omega | (simp at h ⊢; omega) | (simp at h ⊢) | simp)
      have st6 : Still w0 w6 := Below.trans (show Still w0 _ from by ((repeat (first | with_reducible exact Still.refl _ | with_reducible assumption | with_reducible apply Still.alloc | with_reducible apply Still.drew | with_reducible refine Still.step ?_ (by assumption) | with_reducible refine Still.trans ?_ (by assumption))))) (ho6.below hle6)
      refine hK.out _ _ ?_ (fun hHeld => ?_)
      · exact K0.out _ st6
      clear hK K
      (try simp only [Act.put, List.setIfInBounds_toArray, List.set_cons_succ, List.set_cons_zero])
      refine wpAnyH_ready (rs := [7]) (by kernel_rfl) (by simp) ?_
      refine AllReadyH.cons rfl (fun K hK => ?_) AllReadyH.nil
      (try simp only [List.getElem_toArray, List.getElem_cons_succ, List.getElem_cons_zero])
      refine Eq.mpr (if_pos (by rfl)) ?_
      have hlt : w0.heap.size < w0.heap.size + 1 := by have h := (show Blk (w0.alloc (.cells #[.int .u64 0, .int .u64 0, .int .u64 0, .int .u64 0] 25)).drew (w0.heap.size) zerosW 25 from by ((repeat (first | with_reducible assumption | with_reducible apply Blk.alloc | with_reducible apply Blk.drew | with_reducible refine Blk.step ?_ (by assumption) | with_reducible refine Blk.stepS ?_ (by assumption))))).lt; (first | omega | (simp at h ⊢; omega) | (simp at h ⊢) | simp)
      refine wp_store_blk 25 (.tmp 6) (.tmp 10) rfl (w0.heap.size + 1) zerosW B 25 rfl rfl (ho6.blk (by ((repeat (first | with_reducible assumption | with_reducible apply Blk.alloc | with_reducible apply Blk.drew | with_reducible refine Blk.step ?_ (by assumption) | with_reducible refine Blk.stepS ?_ (by assumption))))) (by omega)) LB.out IB.out OB.out ?_
      intro w7 hb7 ho7
      have hle7 : w0.heap.size ≤ w0.heap.size + 1 := by have h := (show Still w0 (w0.alloc (.cells #[.int .u64 0, .int .u64 0, .int .u64 0, .int .u64 0] 25)).drew from by ((repeat (first | with_reducible exact Still.refl _ | with_reducible assumption | with_reducible apply Still.alloc | with_reducible apply Still.drew | with_reducible refine Still.step ?_ (by assumption) | with_reducible refine Still.trans ?_ (by assumption))))).size; (first | omega | (simp at h ⊢; omega) | (simp at h ⊢) | simp)
      have st7 : Still w0 w7 := Below.trans st6 (ho7.below hle7)
      have hb67 := ho7.blk hb6 (by omega)
      refine hK.out _ _ ?_ (fun hHeld => ?_)
      · exact K0.out _ st7
      clear hK K
      (try simp only [Act.put, List.setIfInBounds_toArray, List.set_cons_succ, List.set_cons_zero])
      refine wpAnyH_done (by kernel_rfl) ?_ _
      go_wp2_with fail
      go_meet
      exact ⟨_, _, rfl, rfl, hb67, hb7, st7⟩
    refine AllReadyH.cons rfl (fun K hK => ?_) AllReadyH.nil
    (try simp only [List.getElem_toArray, List.getElem_cons_succ, List.getElem_cons_zero])
    go_simp
    have hz5 : Blk ((w0.alloc (.cells #[.int .u64 0, .int .u64 0, .int .u64 0, .int .u64 0] 25))) (w0.heap.size) zerosW 25 := Blk.new' _ _ _ _ (by simp)
    refine hK.out _ _ ?_ (fun hHeld => ?_)
    · exact K0.out _ (by ((repeat (first | with_reducible exact Still.refl _ | with_reducible assumption | with_reducible apply Still.alloc | with_reducible apply Still.drew | with_reducible refine Still.step ?_ (by assumption) | with_reducible refine Still.trans ?_ (by assumption)))))
    clear hK K
    (try simp only [Act.put, List.setIfInBounds_toArray, List.set_cons_succ, List.set_cons_zero])
    refine wpAnyH_ready (rs := [1, 4]) (by kernel_rfl) (by simp) ?_
    refine AllReadyH.cons rfl (fun K hK => ?_) ?_
    · (try simp only [List.getElem_toArray, List.getElem_cons_succ, List.getElem_cons_zero])
      go_simp
      go_at_call 21; refine (CW1.out _).mono ?_; rintro e' v1 ⟨rfl, d1⟩
      (try (go_wp2_with fail))
      refine hK.out _ _ ?_ (fun hHeld => ?_)
      · exact K0.out _ (by ((repeat (first | with_reducible exact Still.refl _ | with_reducible assumption | with_reducible apply Still.alloc | with_reducible apply Still.drew | with_reducible refine Still.step ?_ (by assumption) | with_reducible refine Still.trans ?_ (by assumption)))))
      clear hK K
      (try simp only [Act.put, List.setIfInBounds_toArray, List.set_cons_succ, List.set_cons_zero])
      refine wpAnyH_ready (rs := [3, 4]) (by kernel_rfl) (by simp) ?_
      refine AllReadyH.cons rfl (fun K hK => ?_) ?_
      · (try simp only [List.getElem_toArray, List.getElem_cons_succ, List.getElem_cons_zero])
        go_simp
        go_at_call 21; refine (CW2.out _).mono ?_; rintro e' v3 ⟨rfl, d3⟩
        (try (go_wp2_with fail))
        refine hK.out _ _ ?_ (fun hHeld => ?_)
        · exact K0.out _ (by ((repeat (first | with_reducible exact Still.refl _ | with_reducible assumption | with_reducible apply Still.alloc | with_reducible apply Still.drew | with_reducible refine Still.step ?_ (by assumption) | with_reducible refine Still.trans ?_ (by assumption)))))
        clear hK K
        (try simp only [Act.put, List.setIfInBounds_toArray, List.set_cons_succ, List.set_cons_zero])
        refine wpAnyH_ready (rs := [4]) (by kernel_rfl) (by simp) ?_
        refine AllReadyH.cons rfl (fun K hK => ?_) AllReadyH.nil
        (try simp only [List.getElem_toArray, List.getElem_cons_succ, List.getElem_cons_zero])
        go_simp
        have hz4 : Blk ((v3.alloc (.cells #[.int .u64 0, .int .u64 0, .int .u64 0, .int .u64 0] 25))) (v3.heap.size) zerosW 25 := Blk.new' _ _ _ _ (by simp)
        refine hK.out _ _ ?_ (fun hHeld => ?_)
        · exact K0.out _ (by ((repeat (first | with_reducible exact Still.refl _ | with_reducible assumption | with_reducible apply Still.alloc | with_reducible apply Still.drew | with_reducible refine Still.step ?_ (by assumption) | with_reducible refine Still.trans ?_ (by assumption)))))
        clear hK K
        (try simp only [Act.put, List.setIfInBounds_toArray, List.set_cons_succ, List.set_cons_zero])
        refine wpAnyH_ready (rs := [6]) (by kernel_rfl) (by simp) ?_
        refine AllReadyH.cons rfl (fun K hK => ?_) AllReadyH.nil
        (try simp only [List.getElem_toArray, List.getElem_cons_succ, List.getElem_cons_zero])
        refine Eq.mpr (if_pos (by rfl)) ?_
        refine wp_store_blk 25 (.tmp 5) (.tmp 8) rfl (v3.heap.size) zerosW A 25 rfl rfl (by ((repeat (first | with_reducible assumption | with_reducible apply Blk.alloc | with_reducible apply Blk.drew | with_reducible refine Blk.step ?_ (by assumption) | with_reducible refine Blk.stepS ?_ (by assumption))))) LA.out IA.out OA.out ?_
        intro w6 hb6 ho6
        have hle6 : w0.heap.size ≤ v3.heap.size := by have h := (show Still w0 v3 from by ((repeat (first | with_reducible exact Still.refl _ | with_reducible assumption | with_reducible apply Still.alloc | with_reducible apply Still.drew | with_reducible refine Still.step ?_ (by assumption) | with_reducible refine Still.trans ?_ (by assumption))))).size; (first | omega | (simp at h ⊢; omega) | (simp at h ⊢) | simp)
        have st6 : Still w0 w6 := Below.trans (show Still w0 _ from by ((repeat (first | with_reducible exact Still.refl _ | with_reducible assumption | with_reducible apply Still.alloc | with_reducible apply Still.drew | with_reducible refine Still.step ?_ (by assumption) | with_reducible refine Still.trans ?_ (by assumption))))) (ho6.below hle6)
        refine hK.out _ _ ?_ (fun hHeld => ?_)
        · exact K0.out _ st6
        clear hK K
        (try simp only [Act.put, List.setIfInBounds_toArray, List.set_cons_succ, List.set_cons_zero])
        refine wpAnyH_ready (rs := [7]) (by kernel_rfl) (by simp) ?_
        refine AllReadyH.cons rfl (fun K hK => ?_) AllReadyH.nil
        (try simp only [List.getElem_toArray, List.getElem_cons_succ, List.getElem_cons_zero])
        refine Eq.mpr (if_pos (by rfl)) ?_
        have hlt : w0.heap.size < v3.heap.size := by have h := (show Blk v3 (w0.heap.size) zerosW 25 from by ((repeat (first | with_reducible assumption | with_reducible apply Blk.alloc | with_reducible apply Blk.drew | with_reducible refine Blk.step ?_ (by assumption) | with_reducible refine Blk.stepS ?_ (by assumption))))).lt; (first | omega | (simp at h ⊢; omega) | (simp at h ⊢) | simp)
        refine wp_store_blk 25 (.tmp 6) (.tmp 10) rfl (w0.heap.size) zerosW B 25 rfl rfl (ho6.blk (by ((repeat (first | with_reducible assumption | with_reducible apply Blk.alloc | with_reducible apply Blk.drew | with_reducible refine Blk.step ?_ (by assumption) | with_reducible refine Blk.stepS ?_ (by assumption))))) (by omega)) LB.out IB.out OB.out ?_
        intro w7 hb7 ho7
        have hle7 : w0.heap.size ≤ w0.heap.size := by have h := (show Still w0 w0.drew from by ((repeat (first | with_reducible exact Still.refl _ | with_reducible assumption | with_reducible apply Still.alloc | with_reducible apply Still.drew | with_reducible refine Still.step ?_ (by assumption) | with_reducible refine Still.trans ?_ (by assumption))))).size; (first | omega | (simp at h ⊢; omega) | (simp at h ⊢) | simp)
        have st7 : Still w0 w7 := Below.trans st6 (ho7.below hle7)
        have hb67 := ho7.blk hb6 (by omega)
        refine hK.out _ _ ?_ (fun hHeld => ?_)
        · exact K0.out _ st7
        clear hK K
        (try simp only [Act.put, List.setIfInBounds_toArray, List.set_cons_succ, List.set_cons_zero])
        refine wpAnyH_done (by kernel_rfl) ?_ _
        go_wp2_with fail
        go_meet
        exact ⟨_, _, rfl, rfl, hb67, hb7, st7⟩
      refine AllReadyH.cons rfl (fun K hK => ?_) AllReadyH.nil
      (try simp only [List.getElem_toArray, List.getElem_cons_succ, List.getElem_cons_zero])
      go_simp
      have hz4 : Blk ((v1.alloc (.cells #[.int .u64 0, .int .u64 0, .int .u64 0, .int .u64 0] 25))) (v1.heap.size) zerosW 25 := Blk.new' _ _ _ _ (by simp)
      refine hK.out _ _ ?_ (fun hHeld => ?_)
      · exact K0.out _ (by ((repeat (first | with_reducible exact Still.refl _ | with_reducible assumption | with_reducible apply Still.alloc | with_reducible apply Still.drew | with_reducible refine Still.step ?_ (by assumption) | with_reducible refine Still.trans ?_ (by assumption)))))
      clear hK K
      (try simp only [Act.put, List.setIfInBounds_toArray, List.set_cons_succ, List.set_cons_zero])
      refine wpAnyH_ready (rs := [3]) (by kernel_rfl) (by simp) ?_
      refine AllReadyH.cons rfl (fun K hK => ?_) AllReadyH.nil
      (try simp only [List.getElem_toArray, List.getElem_cons_succ, List.getElem_cons_zero])
      go_simp
      go_at_call 21; refine (CW2.out _).mono ?_; rintro e' v3 ⟨rfl, d3⟩
      (try (go_wp2_with fail))
      refine hK.out _ _ ?_ (fun hHeld => ?_)
      · exact K0.out _ (by ((repeat (first | with_reducible exact Still.refl _ | with_reducible assumption | with_reducible apply Still.alloc | with_reducible apply Still.drew | with_reducible refine Still.step ?_ (by assumption) | with_reducible refine Still.trans ?_ (by assumption)))))
      clear hK K
      (try simp only [Act.put, List.setIfInBounds_toArray, List.set_cons_succ, List.set_cons_zero])
      refine wpAnyH_ready (rs := [6]) (by kernel_rfl) (by simp) ?_
      refine AllReadyH.cons rfl (fun K hK => ?_) AllReadyH.nil
      (try simp only [List.getElem_toArray, List.getElem_cons_succ, List.getElem_cons_zero])
      refine Eq.mpr (if_pos (by rfl)) ?_
      refine wp_store_blk 25 (.tmp 5) (.tmp 8) rfl (v1.heap.size) zerosW A 25 rfl rfl (by ((repeat (first | with_reducible assumption | with_reducible apply Blk.alloc | with_reducible apply Blk.drew | with_reducible refine Blk.step ?_ (by assumption) | with_reducible refine Blk.stepS ?_ (by assumption))))) LA.out IA.out OA.out ?_
      intro w6 hb6 ho6
      have hle6 : w0.heap.size ≤ v1.heap.size := by have h := (show Still w0 v1 from by ((repeat (first | with_reducible exact Still.refl _ | with_reducible assumption | with_reducible apply Still.alloc | with_reducible apply Still.drew | with_reducible refine Still.step ?_ (by assumption) | with_reducible refine Still.trans ?_ (by assumption))))).size; (first | omega | (simp at h ⊢; omega) | (simp at h ⊢) | simp)
      have st6 : Still w0 w6 := Below.trans (show Still w0 _ from by ((repeat (first | with_reducible exact Still.refl _ | with_reducible assumption | with_reducible apply Still.alloc | with_reducible apply Still.drew | with_reducible refine Still.step ?_ (by assumption) | with_reducible refine Still.trans ?_ (by assumption))))) (ho6.below hle6)
      refine hK.out _ _ ?_ (fun hHeld => ?_)
      · exact K0.out _ st6
      clear hK K
      (try simp only [Act.put, List.setIfInBounds_toArray, List.set_cons_succ, List.set_cons_zero])
      refine wpAnyH_ready (rs := [7]) (by kernel_rfl) (by simp) ?_
      refine AllReadyH.cons rfl (fun K hK => ?_) AllReadyH.nil
      (try simp only [List.getElem_toArray, List.getElem_cons_succ, List.getElem_cons_zero])
      refine Eq.mpr (if_pos (by rfl)) ?_
      have hlt : w0.heap.size < v1.heap.size := by have h := (show Blk v1 (w0.heap.size) zerosW 25 from by ((repeat (first | with_reducible assumption | with_reducible apply Blk.alloc | with_reducible apply Blk.drew | with_reducible refine Blk.step ?_ (by assumption) | with_reducible refine Blk.stepS ?_ (by assumption))))).lt; (first | omega | (simp at h ⊢; omega) | (simp at h ⊢) | simp)
      refine wp_store_blk 25 (.tmp 6) (.tmp 10) rfl (w0.heap.size) zerosW B 25 rfl rfl (ho6.blk (by ((repeat (first | with_reducible assumption | with_reducible apply Blk.alloc | with_reducible apply Blk.drew | with_reducible refine Blk.step ?_ (by assumption) | with_reducible refine Blk.stepS ?_ (by assumption))))) (by omega)) LB.out IB.out OB.out ?_
      intro w7 hb7 ho7
      have hle7 : w0.heap.size ≤ w0.heap.size := by have h := (show Still w0 w0.drew from by ((repeat (first | with_reducible exact Still.refl _ | with_reducible assumption | with_reducible apply Still.alloc | with_reducible apply Still.drew | with_reducible refine Still.step ?_ (by assumption) | with_reducible refine Still.trans ?_ (by assumption))))).size; (first | omega | (simp at h ⊢; omega) | (simp at h ⊢) | simp)
      have st7 : Still w0 w7 := Below.trans st6 (ho7.below hle7)
      have hb67 := ho7.blk hb6 (by omega)
      refine hK.out _ _ ?_ (fun hHeld => ?_)
      · exact K0.out _ st7
      clear hK K
      (try simp only [Act.put, List.setIfInBounds_toArray, List.set_cons_succ, List.set_cons_zero])
      refine wpAnyH_done (by kernel_rfl) ?_ _
      go_wp2_with fail
      go_meet
      exact ⟨_, _, rfl, rfl, hb67, hb7, st7⟩
    refine AllReadyH.cons rfl (fun K hK => ?_) AllReadyH.nil
    (try simp only [List.getElem_toArray, List.getElem_cons_succ, List.getElem_cons_zero])
    go_simp
    have hz4 : Blk (((w0.alloc (.cells #[.int .u64 0, .int .u64 0, .int .u64 0, .int .u64 0] 25)).alloc (.cells #[.int .u64 0, .int .u64 0, .int .u64 0, .int .u64 0] 25))) (w0.heap.size + 1) zerosW 25 := Blk.new' _ _ _ _ (by simp)
    refine hK.out _ _ ?_ (fun hHeld => ?_)
    · exact K0.out _ (by ((repeat (first | with_reducible exact Still.refl _ | with_reducible assumption | with_reducible apply Still.alloc | with_reducible apply Still.drew | with_reducible refine Still.step ?_ (by assumption) | with_reducible refine Still.trans ?_ (by assumption)))))
    clear hK K
    (try simp only [Act.put, List.setIfInBounds_toArray, List.set_cons_succ, List.set_cons_zero])
    refine wpAnyH_ready (rs := [1]) (by kernel_rfl) (by simp) ?_
    refine AllReadyH.cons rfl (fun K hK => ?_) AllReadyH.nil
    (try simp only [List.getElem_toArray, List.getElem_cons_succ, List.getElem_cons_zero])
    go_simp
    go_at_call 21; refine (CW1.out _).mono ?_; rintro e' v1 ⟨rfl, d1⟩
    (try (go_wp2_with fail))
    refine hK.out _ _ ?_ (fun hHeld => ?_)
    · exact K0.out _ (by ((repeat (first | with_reducible exact Still.refl _ | with_reducible assumption | with_reducible apply Still.alloc | with_reducible apply Still.drew | with_reducible refine Still.step ?_ (by assumption) | with_reducible refine Still.trans ?_ (by assumption)))))
    clear hK K
    (try simp only [Act.put, List.setIfInBounds_toArray, List.set_cons_succ, List.set_cons_zero])
    refine wpAnyH_ready (rs := [3]) (by kernel_rfl) (by simp) ?_
    refine AllReadyH.cons rfl (fun K hK => ?_) AllReadyH.nil
    (try simp only [List.getElem_toArray, List.getElem_cons_succ, List.getElem_cons_zero])
    go_simp
    go_at_call 21; refine (CW2.out _).mono ?_; rintro e' v3 ⟨rfl, d3⟩
    (try (go_wp2_with fail))
    refine hK.out _ _ ?_ (fun hHeld => ?_)
    · exact K0.out _ (by ((repeat (first | with_reducible exact Still.refl _ | with_reducible assumption | with_reducible apply Still.alloc | with_reducible apply Still.drew | with_reducible refine Still.step ?_ (by assumption) | with_reducible refine Still.trans ?_ (by assumption)))))
    clear hK K
    (try simp only [Act.put, List.setIfInBounds_toArray, List.set_cons_succ, List.set_cons_zero])
    refine wpAnyH_ready (rs := [6]) (by kernel_rfl) (by simp) ?_
    refine AllReadyH.cons rfl (fun K hK => ?_) AllReadyH.nil
    (try simp only [List.getElem_toArray, List.getElem_cons_succ, List.getElem_cons_zero])
    refine Eq.mpr (if_pos (by rfl)) ?_
    refine wp_store_blk 25 (.tmp 5) (.tmp 8) rfl (w0.heap.size + 1) zerosW A 25 rfl rfl (by ((repeat (first | with_reducible assumption | with_reducible apply Blk.alloc | with_reducible apply Blk.drew | with_reducible refine Blk.step ?_ (by assumption) | with_reducible refine Blk.stepS ?_ (by assumption))))) LA.out IA.out OA.out ?_
    intro w6 hb6 ho6
    have hle6 : w0.heap.size ≤ w0.heap.size + 1 := by have h := (show Still w0 (w0.alloc (.cells #[.int .u64 0, .int .u64 0, .int .u64 0, .int .u64 0] 25)).drew from by ((repeat (first | with_reducible exact Still.refl _ | with_reducible assumption | with_reducible apply Still.alloc | with_reducible apply Still.drew | with_reducible refine Still.step ?_ (by assumption) | with_reducible refine Still.trans ?_ (by assumption))))).size; (first | omega | (simp at h ⊢; omega) | (simp at h ⊢) | simp)
    have st6 : Still w0 w6 := Below.trans (show Still w0 _ from by ((repeat (first | with_reducible exact Still.refl _ | with_reducible assumption | with_reducible apply Still.alloc | with_reducible apply Still.drew | with_reducible refine Still.step ?_ (by assumption) | with_reducible refine Still.trans ?_ (by assumption))))) (ho6.below hle6)
    refine hK.out _ _ ?_ (fun hHeld => ?_)
    · exact K0.out _ st6
    clear hK K
    (try simp only [Act.put, List.setIfInBounds_toArray, List.set_cons_succ, List.set_cons_zero])
    refine wpAnyH_ready (rs := [7]) (by kernel_rfl) (by simp) ?_
    refine AllReadyH.cons rfl (fun K hK => ?_) AllReadyH.nil
    (try simp only [List.getElem_toArray, List.getElem_cons_succ, List.getElem_cons_zero])
    refine Eq.mpr (if_pos (by rfl)) ?_
    have hlt : w0.heap.size < w0.heap.size + 1 := by have h := (show Blk (w0.alloc (.cells #[.int .u64 0, .int .u64 0, .int .u64 0, .int .u64 0] 25)).drew (w0.heap.size) zerosW 25 from by ((repeat (first | with_reducible assumption | with_reducible apply Blk.alloc | with_reducible apply Blk.drew | with_reducible refine Blk.step ?_ (by assumption) | with_reducible refine Blk.stepS ?_ (by assumption))))).lt; (first | omega | (simp at h ⊢; omega) | (simp at h ⊢) | simp)
    refine wp_store_blk 25 (.tmp 6) (.tmp 10) rfl (w0.heap.size) zerosW B 25 rfl rfl (ho6.blk (by ((repeat (first | with_reducible assumption | with_reducible apply Blk.alloc | with_reducible apply Blk.drew | with_reducible refine Blk.step ?_ (by assumption) | with_reducible refine Blk.stepS ?_ (by assumption))))) (by omega)) LB.out IB.out OB.out ?_
    intro w7 hb7 ho7
    have hle7 : w0.heap.size ≤ w0.heap.size := by have h := (show Still w0 w0.drew from by ((repeat (first | with_reducible exact Still.refl _ | with_reducible assumption | with_reducible apply Still.alloc | with_reducible apply Still.drew | with_reducible refine Still.step ?_ (by assumption) | with_reducible refine Still.trans ?_ (by assumption))))).size; (first | omega | (simp at h ⊢; omega) | (simp at h ⊢) | simp)
    have st7 : Still w0 w7 := Below.trans st6 (ho7.below hle7)
    have hb67 := ho7.blk hb6 (by omega)
    refine hK.out _ _ ?_ (fun hHeld => ?_)
    · exact K0.out _ st7
    clear hK K
    (try simp only [Act.put, List.setIfInBounds_toArray, List.set_cons_succ, List.set_cons_zero])
    refine wpAnyH_done (by kernel_rfl) ?_ _
    go_wp2_with fail
    go_meet
    exact ⟨_, _, rfl, rfl, hb67, hb7, st7⟩
  case rest =>
  obtain ⟨ga, gb, rfl, rfl, kA, kB, st0⟩ := hcut
  have kX : Blk wc w.heap.size X 25 := Blk.stepS hbX st0
  have kY : Blk wc (w.heap.size + 1) Y 25 := Blk.stepS hbY st0
  have HB2 : Hid (Still w wc) := Lib.hid (HB.out.trans st0)
  obtain ⟨w1, hw1⟩ : ∃ w1, w1 = wc := ⟨_, rfl⟩
  rw [← hw1] at kA kB kX kY HB2 ⊢
  clear hw1 hbX hbY st0 HB K0 CW1 CW2
  go_upto_region 2 with fail
  go_cut [32] from 11 to 32 (fun v wx => v = .bool false ∧ Still w1 wx)
  case first =>
    rcases HC.out with ⟨e1, e2⟩ | ⟨e1, e2⟩ | ⟨e1, e2⟩
    · subst e1
      have e3 : decide (z2 < 0) = false := decide_eq_false (by omega)
      go_wp2_with (first
        | (go_at_call 19; (with_reducible refine (C1.out _).mono ?_); rintro e' v1 ⟨rfl, d1⟩)
        | (go_at_call 19; (with_reducible refine (C2.out _).mono ?_); rintro e' v2 ⟨rfl, d2⟩)
        | ((with_reducible refine at_load 25 (.tmp 2) ?_); refine wpList_load_mid rfl 25 (.tmp 2) rfl (w.heap.size) 0 rfl X _ (Blk.range (t := 25) (by ((repeat (first | with_reducible assumption | with_reducible apply Blk.alloc | with_reducible apply Blk.drew | with_reducible refine Blk.step ?_ (by assumption) | with_reducible refine Blk.stepS ?_ (by assumption)))))) Try.underlying25 rfl IX.out ?_)
        | ((with_reducible refine at_load 25 (.tmp 3) ?_); refine wpList_load_mid rfl 25 (.tmp 3) rfl (w.heap.size + 1) 0 rfl Y _ (Blk.range (t := 25) (by ((repeat (first | with_reducible assumption | with_reducible apply Blk.alloc | with_reducible apply Blk.drew | with_reducible refine Blk.step ?_ (by assumption) | with_reducible refine Blk.stepS ?_ (by assumption)))))) Try.underlying25 rfl IY.out ?_)
        | ((with_reducible refine at_loadg 25 (.tmp 2) ?_); refine wpList_load_midg ?_ 25 (.tmp 2) rfl (w.heap.size) 0 rfl X _ (Blk.range (t := 25) (by ((repeat (first | with_reducible assumption | with_reducible apply Blk.alloc | with_reducible apply Blk.drew | with_reducible refine Blk.step ?_ (by assumption) | with_reducible refine Blk.stepS ?_ (by assumption)))))) Try.underlying25 rfl IX.out ?_; (focus (simp [Region.wanted, yielded, Act.put]; done)))
        | ((with_reducible refine at_loadg 25 (.tmp 3) ?_); refine wpList_load_midg ?_ 25 (.tmp 3) rfl (w.heap.size + 1) 0 rfl Y _ (Blk.range (t := 25) (by ((repeat (first | with_reducible assumption | with_reducible apply Blk.alloc | with_reducible apply Blk.drew | with_reducible refine Blk.step ?_ (by assumption) | with_reducible refine Blk.stepS ?_ (by assumption)))))) Try.underlying25 rfl IY.out ?_; (focus (simp [Region.wanted, yielded, Act.put]; done)))
        | ((with_reducible refine at_loadg 25 (.tmp 5) ?_); refine wpList_load_midg ?_ 25 (.tmp 5) rfl (ga) 0 rfl A _ (Blk.range (t := 25) (by ((repeat (first | with_reducible assumption | with_reducible apply Blk.alloc | with_reducible apply Blk.drew | with_reducible refine Blk.step ?_ (by assumption) | with_reducible refine Blk.stepS ?_ (by assumption)))))) Try.underlying25 rfl IA.out ?_; (focus (simp [Region.wanted, yielded, Act.put]; done)))
        | ((with_reducible refine at_loadg 25 (.tmp 6) ?_); refine wpList_load_midg ?_ 25 (.tmp 6) rfl (gb) 0 rfl B _ (Blk.range (t := 25) (by ((repeat (first | with_reducible assumption | with_reducible apply Blk.alloc | with_reducible apply Blk.drew | with_reducible refine Blk.step ?_ (by assumption) | with_reducible refine Blk.stepS ?_ (by assumption)))))) Try.underlying25 rfl IB.out ?_; (focus (simp [Region.wanted, yielded, Act.put]; done))))
      go_meet
      exact ⟨rfl, by ((repeat (first | with_reducible exact Still.refl _ | with_reducible assumption | with_reducible apply Still.alloc | with_reducible apply Still.drew | with_reducible refine Still.step ?_ (by assumption) | with_reducible refine Still.trans ?_ (by assumption))))⟩
    · subst e1
      subst e2
      go_wp2_with (first
        | (go_at_call 19; (with_reducible refine (C1.out _).mono ?_); rintro e' v1 ⟨rfl, d1⟩)
        | (go_at_call 19; (with_reducible refine (C2.out _).mono ?_); rintro e' v2 ⟨rfl, d2⟩)
        | ((with_reducible refine at_load 25 (.tmp 2) ?_); refine wpList_load_mid rfl 25 (.tmp 2) rfl (w.heap.size) 0 rfl X _ (Blk.range (t := 25) (by ((repeat (first | with_reducible assumption | with_reducible apply Blk.alloc | with_reducible apply Blk.drew | with_reducible refine Blk.step ?_ (by assumption) | with_reducible refine Blk.stepS ?_ (by assumption)))))) Try.underlying25 rfl IX.out ?_)
        | ((with_reducible refine at_load 25 (.tmp 3) ?_); refine wpList_load_mid rfl 25 (.tmp 3) rfl (w.heap.size + 1) 0 rfl Y _ (Blk.range (t := 25) (by ((repeat (first | with_reducible assumption | with_reducible apply Blk.alloc | with_reducible apply Blk.drew | with_reducible refine Blk.step ?_ (by assumption) | with_reducible refine Blk.stepS ?_ (by assumption)))))) Try.underlying25 rfl IY.out ?_)
        | ((with_reducible refine at_loadg 25 (.tmp 2) ?_); refine wpList_load_midg ?_ 25 (.tmp 2) rfl (w.heap.size) 0 rfl X _ (Blk.range (t := 25) (by ((repeat (first | with_reducible assumption | with_reducible apply Blk.alloc | with_reducible apply Blk.drew | with_reducible refine Blk.step ?_ (by assumption) | with_reducible refine Blk.stepS ?_ (by assumption)))))) Try.underlying25 rfl IX.out ?_; (focus (simp [Region.wanted, yielded, Act.put]; done)))
        | ((with_reducible refine at_loadg 25 (.tmp 3) ?_); refine wpList_load_midg ?_ 25 (.tmp 3) rfl (w.heap.size + 1) 0 rfl Y _ (Blk.range (t := 25) (by ((repeat (first | with_reducible assumption | with_reducible apply Blk.alloc | with_reducible apply Blk.drew | with_reducible refine Blk.step ?_ (by assumption) | with_reducible refine Blk.stepS ?_ (by assumption)))))) Try.underlying25 rfl IY.out ?_; (focus (simp [Region.wanted, yielded, Act.put]; done)))
        | ((with_reducible refine at_loadg 25 (.tmp 5) ?_); refine wpList_load_midg ?_ 25 (.tmp 5) rfl (ga) 0 rfl A _ (Blk.range (t := 25) (by ((repeat (first | with_reducible assumption | with_reducible apply Blk.alloc | with_reducible apply Blk.drew | with_reducible refine Blk.step ?_ (by assumption) | with_reducible refine Blk.stepS ?_ (by assumption)))))) Try.underlying25 rfl IA.out ?_; (focus (simp [Region.wanted, yielded, Act.put]; done)))
        | ((with_reducible refine at_loadg 25 (.tmp 6) ?_); refine wpList_load_midg ?_ 25 (.tmp 6) rfl (gb) 0 rfl B _ (Blk.range (t := 25) (by ((repeat (first | with_reducible assumption | with_reducible apply Blk.alloc | with_reducible apply Blk.drew | with_reducible refine Blk.step ?_ (by assumption) | with_reducible refine Blk.stepS ?_ (by assumption)))))) Try.underlying25 rfl IB.out ?_; (focus (simp [Region.wanted, yielded, Act.put]; done))))
      go_meet
      exact ⟨rfl, by ((repeat (first | with_reducible exact Still.refl _ | with_reducible assumption | with_reducible apply Still.alloc | with_reducible apply Still.drew | with_reducible refine Still.step ?_ (by assumption) | with_reducible refine Still.trans ?_ (by assumption))))⟩
    · subst e1
      have e3 : decide (0 < z2) = false := decide_eq_false (by omega)
      go_wp2_with (first
        | (go_at_call 19; (with_reducible refine (C1.out _).mono ?_); rintro e' v1 ⟨rfl, d1⟩)
        | (go_at_call 19; (with_reducible refine (C2.out _).mono ?_); rintro e' v2 ⟨rfl, d2⟩)
        | ((with_reducible refine at_load 25 (.tmp 2) ?_); refine wpList_load_mid rfl 25 (.tmp 2) rfl (w.heap.size) 0 rfl X _ (Blk.range (t := 25) (by ((repeat (first | with_reducible assumption | with_reducible apply Blk.alloc | with_reducible apply Blk.drew | with_reducible refine Blk.step ?_ (by assumption) | with_reducible refine Blk.stepS ?_ (by assumption)))))) Try.underlying25 rfl IX.out ?_)
        | ((with_reducible refine at_load 25 (.tmp 3) ?_); refine wpList_load_mid rfl 25 (.tmp 3) rfl (w.heap.size + 1) 0 rfl Y _ (Blk.range (t := 25) (by ((repeat (first | with_reducible assumption | with_reducible apply Blk.alloc | with_reducible apply Blk.drew | with_reducible refine Blk.step ?_ (by assumption) | with_reducible refine Blk.stepS ?_ (by assumption)))))) Try.underlying25 rfl IY.out ?_)
        | ((with_reducible refine at_loadg 25 (.tmp 2) ?_); refine wpList_load_midg ?_ 25 (.tmp 2) rfl (w.heap.size) 0 rfl X _ (Blk.range (t := 25) (by ((repeat (first | with_reducible assumption | with_reducible apply Blk.alloc | with_reducible apply Blk.drew | with_reducible refine Blk.step ?_ (by assumption) | with_reducible refine Blk.stepS ?_ (by assumption)))))) Try.underlying25 rfl IX.out ?_; (focus (simp [Region.wanted, yielded, Act.put]; done)))
        | ((with_reducible refine at_loadg 25 (.tmp 3) ?_); refine wpList_load_midg ?_ 25 (.tmp 3) rfl (w.heap.size + 1) 0 rfl Y _ (Blk.range (t := 25) (by ((repeat (first | with_reducible assumption | with_reducible apply Blk.alloc | with_reducible apply Blk.drew | with_reducible refine Blk.step ?_ (by assumption) | with_reducible refine Blk.stepS ?_ (by assumption)))))) Try.underlying25 rfl IY.out ?_; (focus (simp [Region.wanted, yielded, Act.put]; done)))
        | ((with_reducible refine at_loadg 25 (.tmp 5) ?_); refine wpList_load_midg ?_ 25 (.tmp 5) rfl (ga) 0 rfl A _ (Blk.range (t := 25) (by ((repeat (first | with_reducible assumption | with_reducible apply Blk.alloc | with_reducible apply Blk.drew | with_reducible refine Blk.step ?_ (by assumption) | with_reducible refine Blk.stepS ?_ (by assumption)))))) Try.underlying25 rfl IA.out ?_; (focus (simp [Region.wanted, yielded, Act.put]; done)))
        | ((with_reducible refine at_loadg 25 (.tmp 6) ?_); refine wpList_load_midg ?_ 25 (.tmp 6) rfl (gb) 0 rfl B _ (Blk.range (t := 25) (by ((repeat (first | with_reducible assumption | with_reducible apply Blk.alloc | with_reducible apply Blk.drew | with_reducible refine Blk.step ?_ (by assumption) | with_reducible refine Blk.stepS ?_ (by assumption)))))) Try.underlying25 rfl IB.out ?_; (focus (simp [Region.wanted, yielded, Act.put]; done))))
      go_meet
      exact ⟨rfl, by ((repeat (first | with_reducible exact Still.refl _ | with_reducible assumption | with_reducible apply Still.alloc | with_reducible apply Still.drew | with_reducible refine Still.step ?_ (by assumption) | with_reducible refine Still.trans ?_ (by assumption))))⟩
  case rest =>
  obtain ⟨rfl, st1⟩ := hcut
  have K0 : Hid (∀ W, Still wc W → (W.rangeAt ga 0 A ∧ Still wc W)) := Lib.hid fun W h => ⟨(Blk.stepS (Blk.stepS kA st1) h).range, h⟩
  have HB3 : Hid (Still w wc) := Lib.hid (HB2.out.trans st1)
  obtain ⟨w2, hw2⟩ : ∃ w2, w2 = wc := ⟨_, rfl⟩
  rw [← hw2] at K0 HB3 ⊢
  clear hw2 kA kB kX kY st1 HB2 HC C1 C2
  go_upto_region 4 with fail
  refine wp_region_held_drew (S := fun W => W.rangeAt ga 0 A ∧ Still w2 W) (by kernel_rfl) ?_ (fun hHeld => ?_)
  · exact K0.out _ (by ((repeat (first | with_reducible exact Still.refl _ | with_reducible assumption | with_reducible apply Still.alloc | with_reducible apply Still.drew | with_reducible refine Still.step ?_ (by assumption) | with_reducible refine Still.trans ?_ (by assumption)))))
  refine wpAnyH_take (i := 0) rfl (by kernel_rfl) (by kernel_rfl) (by kernel_rfl) (fun _ _ _ h => h) (yieldsIf_load_mid (by rfl) _ _ rfl _ _ rfl A _ (fun w hSw => by (try dsimp only at hSw); go_split_ands; assumption) Try.underlying25 rfl IA.out) (by assumption) ?_
  (try simp only [List.getElem_toArray, List.getElem_cons_succ, List.getElem_cons_zero, Act.put, List.setIfInBounds_toArray, List.set_cons_succ, List.set_cons_zero])
  refine wpAnyH_ready (rs := [1]) (by kernel_rfl) (by simp) ?_
  refine AllReadyH.cons rfl (fun K hK => ?_) AllReadyH.nil
  (try simp only [List.getElem_toArray, List.getElem_cons_succ, List.getElem_cons_zero])
  go_simp
  go_at_call 24; refine (CO.out _).mono ?_; rintro e' v5 ⟨rfl, d5⟩
  (try (go_wp2_with fail))
  refine hK.out _ _ ?_ (fun hHeld => ?_)
  · exact K0.out _ (by ((repeat (first | with_reducible exact Still.refl _ | with_reducible assumption | with_reducible apply Still.alloc | with_reducible apply Still.drew | with_reducible refine Still.step ?_ (by assumption) | with_reducible refine Still.trans ?_ (by assumption)))))
  clear hK K
  (try simp only [Act.put, List.setIfInBounds_toArray, List.set_cons_succ, List.set_cons_zero])
  refine wpAnyH_ready (rs := [2]) (by kernel_rfl) (by simp) ?_
  refine AllReadyH.cons rfl (fun K hK => ?_) AllReadyH.nil
  (try simp only [List.getElem_toArray, List.getElem_cons_succ, List.getElem_cons_zero])
  go_simp
  go_at_call 19; refine (C3.out _).mono ?_; rintro e' v6 ⟨rfl, d6⟩
  (try (go_wp2_with fail))
  refine hK.out _ _ ?_ (fun hHeld => ?_)
  · exact K0.out _ (by ((repeat (first | with_reducible exact Still.refl _ | with_reducible assumption | with_reducible apply Still.alloc | with_reducible apply Still.drew | with_reducible refine Still.step ?_ (by assumption) | with_reducible refine Still.trans ?_ (by assumption)))))
  clear hK K
  (try simp only [Act.put, List.setIfInBounds_toArray, List.set_cons_succ, List.set_cons_zero])
  refine wpAnyH_take (i := 3) (v := ?_) rfl (by kernel_rfl) (by kernel_rfl) (by kernel_rfl) (fun _ _ _ h => h) (Or.inl ⟨by rfl, ?_⟩) (by assumption) ?_
  rotate_left 1
  · intro w hSw; (try dsimp only at hSw); simp only [List.getElem_toArray, List.getElem_cons_succ, List.getElem_cons_zero]; go_simp; try (with_reducible rfl)
  (try simp only [List.getElem_toArray, List.getElem_cons_succ, List.getElem_cons_zero, Act.put, List.setIfInBounds_toArray, List.set_cons_succ, List.set_cons_zero])
  refine wpAnyH_take (i := 4) (v := ?_) rfl (by kernel_rfl) (by kernel_rfl) (by kernel_rfl) (fun _ _ _ h => h) (Or.inl ⟨by rfl, ?_⟩) (by assumption) ?_
  rotate_left 1
  · intro w hSw; (try dsimp only at hSw); simp only [List.getElem_toArray, List.getElem_cons_succ, List.getElem_cons_zero]; go_simp; try (with_reducible rfl)
  (try simp only [List.getElem_toArray, List.getElem_cons_succ, List.getElem_cons_zero, Act.put, List.setIfInBounds_toArray, List.set_cons_succ, List.set_cons_zero])
  refine wpAnyH_ready (rs := [5]) (by kernel_rfl) (by simp) ?_
  refine AllReadyH.cons rfl (fun K hK => ?_) AllReadyH.nil
  (try simp only [List.getElem_toArray, List.getElem_cons_succ, List.getElem_cons_zero])
  go_simp
  go_at_call 13; refine (awake5_calls _).mono ?_; rintro e' va ⟨rfl, da⟩
  (try (go_wp2_with fail))
  refine hK.out _ _ ?_ (fun hHeld => ?_)
  · exact K0.out _ (by ((repeat (first | with_reducible exact Still.refl _ | with_reducible assumption | with_reducible apply Still.alloc | with_reducible apply Still.drew | with_reducible refine Still.step ?_ (by assumption) | with_reducible refine Still.trans ?_ (by assumption)))))
  clear hK K
  (try simp only [Act.put, List.setIfInBounds_toArray, List.set_cons_succ, List.set_cons_zero])
  refine wpAnyH_take (i := 6) (v := ?_) rfl (by kernel_rfl) (by kernel_rfl) (by kernel_rfl) (fun _ _ _ h => h) (Or.inl ⟨by rfl, ?_⟩) (by assumption) ?_
  rotate_left 1
  · intro w hSw; (try dsimp only at hSw); simp only [List.getElem_toArray, List.getElem_cons_succ, List.getElem_cons_zero]; go_simp; try (with_reducible rfl)
  (try simp only [List.getElem_toArray, List.getElem_cons_succ, List.getElem_cons_zero, Act.put, List.setIfInBounds_toArray, List.set_cons_succ, List.set_cons_zero])
  refine wpAnyH_take (i := 7) (v := ?_) rfl (by kernel_rfl) (by kernel_rfl) (by kernel_rfl) (fun _ _ _ h => h) (Or.inl ⟨by rfl, ?_⟩) (by assumption) ?_
  rotate_left 1
  · intro w hSw; (try dsimp only at hSw); simp only [List.getElem_toArray, List.getElem_cons_succ, List.getElem_cons_zero]; go_simp; try (with_reducible rfl)
  (try simp only [List.getElem_toArray, List.getElem_cons_succ, List.getElem_cons_zero, Act.put, List.setIfInBounds_toArray, List.set_cons_succ, List.set_cons_zero])
  refine wpAnyH_done (by kernel_rfl) ?_ _
  go_wp2_with fail
  go_ret
  exact ⟨rfl, HB3.out.trans (show Still w2 va by ((repeat (first | with_reducible exact Still.refl _ | with_reducible assumption | with_reducible apply Still.alloc | with_reducible apply Still.drew | with_reducible refine Still.step ?_ (by assumption) | with_reducible refine Still.trans ?_ (by assumption)))))⟩
theorem walk (u v : U4) (w : World) (hu : u.ok) (hv : v.ok) : Calls Try.prog 8 #[.agg u.arr, .agg v.arr] w (Ret w (.bool true)) := by
  rw [u.uA hu, v.uA hv]
  exact walkN u.val v.val (u.val_lt hu) (v.val_lt hv) w

set_option maxRecDepth 100000 in
theorem lifted (os : Os) (started : os.Started) (H : Type) (enc : TypeId × Value → H) :
    ReturnsInHanded {} Try.checked os 8 .any (Rows.compactFallsSpec.pre6 enc Try.prog Try.f8 Rows.compactFallsRow.domain false) (Rows.compactFallsSpec.post enc Try.prog Try.f8 false true false false) := by
  refine returnsInHanded_of_change (C := Try.checked) own started (by kernel_rfl) Try.func8
    (ChangeSpec.witness6 (enc := enc) (C := Try.checked) false ⟨#[], #[.agg #[.int .u64 0, .int .u64 0, .int .u64 0, .int .u64 0], .agg #[.int .u64 0, .int .u64 0, .int .u64 0, .int .u64 0]], []⟩ 8 (by kernel_rfl) (by kernel_rfl) (by kernel_rfl) (by kernel_rfl)) ?_
  intro W base args ds gs before hval0 hW hcnd _
  have hval : ∀ (j : Nat) t v, Try.f8.params[j]? = some t → args[j]? = some v → Value.okWide Try.prog W .any base t v := hval0
  have hW' := hW
  obtain ⟨p, q, hA0, hV, rfl, hfz, hnd⟩ := hW
  have hA : DataW.TrodAll enc Try.prog W 0 (fun _ => true) true Try.f8.params.toList args.toList ds p := hA0
  rw [Try.params8] at hA hval
  obtain ⟨v0, vs0, d0, ds0, p0, q0, hargs, rfl, rfl, h0, r0⟩ := trodAll_cons hA
  obtain ⟨v1, vs1, d1, ds1, p1, q1, rfl, rfl, rfl, h1, r1⟩ := trodAll_cons r0
  obtain ⟨rfl, rfl, rfl⟩ := trodAll_nil r1
  obtain rfl : args = #[v0, v1] := by cases args; simp_all
  obtain ⟨rfl, rfl⟩ := trodVars_none hV
  have k0 := h0
  have lt0 : ∀ x ∈ p0, x.block < W.heap.size := by obtain ⟨m, hm⟩ := k0; exact DataW.trod_lt m _ _ _ hm
  obtain ⟨a0, rfl, w0⟩ := arrW (hval 0 25 v0 rfl rfl) h0
  have k1 := h1
  have lt1 : ∀ x ∈ p1, x.block < W.heap.size := by obtain ⟨m, hm⟩ := k1; exact DataW.trod_lt m _ _ _ hm
  obtain ⟨a1, rfl, w1⟩ := arrW (hval 1 25 v1 rfl rfl) h1
  clear hA0 hval0
  refine (walk a0 a1 W w0 w1).mono fun e W' ⟨he, bel⟩ => ?_
  subst he
  exact ⟨_, rfl, _, _, _, [], _, [], hW', trodAll_mk1 (shut_bool Try.underlying4 _), (trodAll_cons_mk (Below.trod laidOut (by kernel_rfl) (of_decide_eq_true (by kernel_rfl)) k0 bel lt0) (trodAll_cons_mk (Below.trod laidOut (by kernel_rfl) (of_decide_eq_true (by kernel_rfl)) k1 bel lt1) trodAll_mk0)), rfl, bel.frame _, fun h => by cases h⟩

theorem over : Rows.compactFallsRow.holds Try.pinned (OpenSpec.ofChange Rows.compactFallsSpec) :=
  OpenClaim.holds_of_wide 8 Try.f8 rfl rfl rfl rfl rfl rfl rfl ⟨rfl, rfl, rfl, rfl, rfl⟩ rfl rfl rfl rfl rfl (by kernel_rfl) Try.func8 (by kernel_rfl)
    (of_decide_eq_true (by kernel_rfl)) (by unfold Func.isWrapper; first | (rw [if_pos (by decide +kernel)]; kernel_rfl) | (rw [if_neg (by decide +kernel)]; exact ⟨rfl, rfl⟩))
    (fun os started H enc _ => lifted os started H enc)

theorem proved : Rows.CompactFallsSaid := over
end Go.Proofs.Ytdgfgehjnfadnaa.compactFalls
