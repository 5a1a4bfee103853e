/- Merged texts: CmpH. -/
import Derived.Test.YthpigninbeommaaDoorMbr
import Derived.Deep.RegionHeld3
import Derived.Deep.CutRange
import Derived.Deep.DeepCutAuto
/- The contract of package compact's value. -/
namespace Go.Proofs.YthpigninbeommaaDoor
open Go.RowKit
set_option linter.unusedVariables false
set_option linter.unusedSimpArgs false

set_option maxRecDepth 100000 in
set_option maxHeartbeats 4000000 in
theorem cvalue_calls (c : Nat) (w : World) (hc : c < 2 ^ 32) : Calls Tryd.prog 42 #[.int .u32 (c : Int)] w (Ret w (.tuple #[.agg (cellsW (wd (valC c))).toArray, .bool (fitC c)])) := by
  obtain ⟨e, he⟩ : ∃ e, e = expC c := ⟨_, rfl⟩
  obtain ⟨m, hm⟩ : ∃ m, m = manC c := ⟨_, rfl⟩
  obtain ⟨F, hF⟩ : ∃ F, F = fitC c := ⟨_, rfl⟩
  obtain ⟨v, hv⟩ : ∃ v, v = valC c := ⟨_, rfl⟩
  have bm : m < 8388608 := by rw [hm]; exact man_lt c
  have be : e < 256 := by rw [he]; exact exp_lt hc
  have g1 : bits .and .u32 (c : Int) 8388607 = (m : Int) := by rw [u32_and_low c hc, hm]; rfl
  have g2 : IntKind.u64.wrap (m : Int) = (m : Int) := by rw [IntKind.wrap_u64]; omega
  have g3 : (c : Int) / 2 ^ 24 = (e : Int) := by rw [he, show (2 : Int) ^ 24 = 16777216 from rfl]; unfold expC; omega
  have g3b : (c : Int) / 16777216 = (e : Int) := by rw [he]; unfold expC; omega
  have g4 : IntKind.i64.wrap (e : Int) = (e : Int) := by rw [IntKind.wrap_i64]; omega
  have g4b : IntKind.u32.wrap (e : Int) = (e : Int) := u32_in e (by omega)
  have hvs : v = if e ≤ 3 then m / 2 ^ (8 * (3 - e)) else m * 2 ^ (8 * (e - 3)) := by rw [hv, he, hm]; exact val_shift
  have hFs : F = (decide (e ≤ 3) || decide (bl m + 8 * (e - 3) ≤ 256)) := by rw [hF, he, hm]; rfl
  rw [← hF, ← hv]
  clear hF hv he hm
  obtain ⟨A, hA⟩ : ∃ X, X = cellsW (wd m) := ⟨_, rfl⟩
  have IA : Hid ((Tryd.prog.info? 61).map (·.size) = some A.length) := Lib.hid (by rw [hA]; exact sizeW _)
  have LA : Hid (zerosW.length = A.length) := Lib.hid (by rw [hA]; rfl)
  have OA : Hid (∀ v ∈ A, v.oneCell' = true) := Lib.hid (by rw [hA]; exact cellsW_one _)
  obtain ⟨V, hV⟩ : ∃ X, X = cellsW (wd v) := ⟨_, rfl⟩
  have IV : Hid ((Tryd.prog.info? 61).map (·.size) = some V.length) := Lib.hid (by rw [hV]; exact sizeW _)
  have LV : Hid (zerosW.length = V.length) := Lib.hid (by rw [hV]; rfl)
  have OV : Hid (∀ v ∈ V, v.oneCell' = true) := Lib.hid (by rw [hV]; exact cellsW_one _)
  have CO : Hid (∀ W, Calls Tryd.prog 54 #[.int .u64 (m : Int)] W (Ret W (.agg A.toArray))) := Lib.hid (fun W => by rw [hA]; exact wof_calls m W (by omega))
  rw [← hV]
  have HB : Hid (Still w (w.alloc (.cells #[.int .u64 0, .int .u64 0, .int .u64 0, .int .u64 0] 61))) := Lib.hid (Still.alloc (Still.refl w) _)
  have kZ0 : Blk (w.alloc (.cells #[.int .u64 0, .int .u64 0, .int .u64 0, .int .u64 0] 61)) w.heap.size zerosW 61 := Blk.new w _ _
  obtain ⟨w0, hw0⟩ : ∃ w0, w0 = w.alloc (.cells #[.int .u64 0, .int .u64 0, .int .u64 0, .int .u64 0] 61) := ⟨_, rfl⟩
  rw [← hw0] at HB kZ0
  by_cases h3 : e ≤ 3
  · rw [if_pos h3] at hvs
    rw [decide_eq_true h3, Bool.true_or] at hFs
    obtain ⟨K, hK⟩ : ∃ K, K = 8 * (3 - e) := ⟨_, rfl⟩
    have h1 : IntKind.i64.wrap (3 - (e : Int)) = 3 - (e : Int) := by rw [IntKind.wrap_i64]; omega
    have h2 : IntKind.i64.wrap (8 * (3 - (e : Int))) = (K : Int) := by rw [IntKind.wrap_i64]; omega
    have h2b : 8 * (3 - (e : Int)) = (K : Int) := by omega
    have CS : Hid (∀ W, Calls Tryd.prog 55 #[.agg A.toArray, .int .i64 (K : Int)] W (Ret W (.agg V.toArray))) := Lib.hid (fun W => by rw [hA, hV, hvs, ← hK]; exact shr_calls m K K W (by omega) (by omega) (by omega))
    have hle : (e : Int) ≤ 3 := by omega
    subst hFs
    clear hvs hK hA hV h3 hc
    go_enter Tryd.func42, Tryd.ntmps42
    go_upto_region 1 with fail
    rw [← hw0]
    clear hw0
    go_wp2_with (first
      | (go_at_call 54; refine (CO.out _).mono ?_; rintro e' v1 ⟨rfl, d1⟩)
      | ((with_reducible refine at_store 61 (.tmp 4) (.tmp 10) ?_); refine wpList_store_blk rfl 61 (.tmp 4) (.tmp 10) rfl v1.heap.size zerosW A _ rfl rfl (Blk.new v1 _ _) LA.out IA.out OA.out ?_; intro w2 hbw2 how2; have dw2 := Only.still how2; clear how2)
      | ((with_reducible refine at_load 61 (.tmp 4) ?_); refine wpList_load_mid rfl 61 (.tmp 4) rfl (v1.heap.size) 0 rfl A _ (Blk.range (t := 61) (by ((repeat (first | with_reducible assumption | with_reducible apply Blk.alloc | with_reducible apply Blk.drew | with_reducible refine Blk.step ?_ (by assumption) | with_reducible refine Blk.stepS ?_ (by assumption)))))) Tryd.underlying61 rfl IA.out ?_)
      | (go_at_call 55; refine (CS.out _).mono ?_; rintro e' v3 ⟨rfl, d3⟩)
      | ((with_reducible refine at_store 61 (.tmp 2) (.tmp 20) ?_); refine wpList_store_blk rfl 61 (.tmp 2) (.tmp 20) rfl (w.heap.size) zerosW V 61 rfl rfl (by ((repeat (first | with_reducible assumption | with_reducible apply Blk.alloc | with_reducible apply Blk.drew | with_reducible refine Blk.step ?_ (by assumption) | with_reducible refine Blk.stepS ?_ (by assumption))))) LV.out IV.out OV.out ?_; intro w9 hbw9 how9))

    refine bodyPost_ret (v := .tuple #[.agg V.toArray, .bool true]) ?_ rfl ⟨rfl, Below.trans (show Still w v3 from HB.out.trans (show Still w0 v3 by ((repeat (first | with_reducible exact Still.refl _ | with_reducible assumption | with_reducible apply Still.alloc | with_reducible apply Still.drew | with_reducible refine Still.step ?_ (by assumption) | with_reducible refine Still.trans ?_ (by assumption)))))) (how9.below (by omega))⟩
    exact results_row_tmp Tryd.results42 _ _ (w.heap.size) 61 _ (0, 0) _ _ (by rfl) (by rfl) hbw9 Tryd.underlying61 rfl IV.out
  · rw [if_neg h3] at hvs
    rw [decide_eq_false h3, Bool.false_or] at hFs
    obtain ⟨K, hK⟩ : ∃ K, K = 8 * (e - 3) := ⟨_, rfl⟩
    obtain ⟨L, hL⟩ : ∃ L, L = bl m := ⟨_, rfl⟩
    have bL : L ≤ 256 := by rw [hL]; exact (bl_le m 256).2 (by omega)
    obtain ⟨G, hG⟩ : ∃ G, G = L + K := ⟨_, rfl⟩
    have h1 : IntKind.i64.wrap ((e : Int) - 3) = (e : Int) - 3 := by rw [IntKind.wrap_i64]; omega
    have h2 : IntKind.i64.wrap (8 * ((e : Int) - 3)) = (K : Int) := by rw [IntKind.wrap_i64]; omega
    have h2b : 8 * ((e : Int) - 3) = (K : Int) := by omega
    have h4 : IntKind.i64.wrap ((L : Int) + (K : Int)) = (G : Int) := by rw [IntKind.wrap_i64]; omega
    have h4b : (L : Int) + (K : Int) = (G : Int) := by omega
    have h4c : IntKind.i64.wrap (G : Int) = (G : Int) := by rw [IntKind.wrap_i64]; omega
    have h5 : decide ((G : Int) ≤ 256) = F := by rw [hFs, ← hL, ← hK, ← hG]; apply decide_eq_decide.2; omega
    have CS : Hid (∀ W, Calls Tryd.prog 56 #[.agg A.toArray, .int .i64 (K : Int)] W (Ret W (.agg V.toArray))) := Lib.hid (fun W => by rw [hA, hV, hvs, ← hK]; exact shl_calls m K K W (by omega) (by omega) (by omega))
    have CL : Hid (∀ W, Calls Tryd.prog 57 #[.agg A.toArray] W (Ret W (.int .i64 (L : Int)))) := Lib.hid (fun W => by rw [hA, hL]; exact wlen_calls m W (by omega))
    have hle : ¬ (e : Int) ≤ 3 := by omega
    clear hvs hFs hK hL hG hA hV h3 hc
    go_enter Tryd.func42, Tryd.ntmps42
    go_upto_region 1 with fail
    rw [← hw0]
    clear hw0
    go_upto_region 6 with (first
      | (go_at_call 54; refine (CO.out _).mono ?_; rintro e' v1 ⟨rfl, d1⟩)
      | ((with_reducible refine at_store 61 (.tmp 4) (.tmp 10) ?_); refine wpList_store_blk rfl 61 (.tmp 4) (.tmp 10) rfl v1.heap.size zerosW A _ rfl rfl (Blk.new v1 _ _) LA.out IA.out OA.out ?_; intro w2 hbw2 how2; have dw2 := Only.still how2; clear how2))
    have kZ : Blk w2 w.heap.size zerosW 61 := by ((repeat (first | with_reducible assumption | with_reducible apply Blk.alloc | with_reducible apply Blk.drew | with_reducible refine Blk.step ?_ (by assumption) | with_reducible refine Blk.stepS ?_ (by assumption))))
    have HLT : Hid (w.heap.size < v1.heap.size) := Lib.hid (show Blk v1 w.heap.size zerosW 61 by ((repeat (first | with_reducible assumption | with_reducible apply Blk.alloc | with_reducible apply Blk.drew | with_reducible refine Blk.step ?_ (by assumption) | with_reducible refine Blk.stepS ?_ (by assumption))))).lt
    have K0 : Hid (∀ W, Still w2 W → (W.rangeAt v1.heap.size 0 A ∧ True)) := Lib.hid fun W h => ⟨(Blk.stepS hbw2 h).range, True.intro⟩
    have HB2 : Hid (Still w w2) := Lib.hid (HB.out.trans (show Still w0 w2 by ((repeat (first | with_reducible exact Still.refl _ | with_reducible assumption | with_reducible apply Still.alloc | with_reducible apply Still.drew | with_reducible refine Still.step ?_ (by assumption) | with_reducible refine Still.trans ?_ (by assumption))))))
    clear d1 dw2 kZ0 HB
    refine wp_region_held_drew (S := fun W => W.rangeAt v1.heap.size 0 A ∧ True) (by kernel_rfl) ?_ (fun hHeld => ?_)
    · exact K0.out _ (show Still w2 _ by ((repeat (first | with_reducible exact Still.refl _ | with_reducible assumption | with_reducible apply Still.alloc | with_reducible apply Still.drew | with_reducible refine Still.step ?_ (by assumption) | with_reducible refine Still.trans ?_ (by assumption)))))
    refine wpAnyH_take (i := 0) rfl (by kernel_rfl) (by kernel_rfl) (by kernel_rfl) (fun _ _ _ h => h) (yieldsIf_load_mid (by rfl) _ _ rfl _ _ rfl A _ (fun w hSw => by (try dsimp only at hSw); go_split_ands; assumption) Tryd.underlying61 rfl IA.out) (by assumption) ?_
    (try simp only [List.getElem_toArray, List.getElem_cons_succ, List.getElem_cons_zero, Act.put, List.setIfInBounds_toArray, List.set_cons_succ, List.set_cons_zero])
    refine wpAnyH_take (i := 1) (v := ?_) rfl (by kernel_rfl) (by kernel_rfl) (by kernel_rfl) (fun _ _ _ h => h) (Or.inl ⟨by rfl, ?_⟩) (by assumption) ?_
    rotate_left 1
    · intro w hSw; (try dsimp only at hSw); simp only [List.getElem_toArray, List.getElem_cons_succ, List.getElem_cons_zero]; go_simp; try (with_reducible rfl)
    (try simp only [List.getElem_toArray, List.getElem_cons_succ, List.getElem_cons_zero, Act.put, List.setIfInBounds_toArray, List.set_cons_succ, List.set_cons_zero])
    refine wpAnyH_take (i := 3) rfl (by kernel_rfl) (by kernel_rfl) (by kernel_rfl) (fun _ _ _ h => h) (yieldsIf_load_mid (by rfl) _ _ rfl _ _ rfl A _ (fun w hSw => by (try dsimp only at hSw); go_split_ands; assumption) Tryd.underlying61 rfl IA.out) (by assumption) ?_
    (try simp only [List.getElem_toArray, List.getElem_cons_succ, List.getElem_cons_zero, Act.put, List.setIfInBounds_toArray, List.set_cons_succ, List.set_cons_zero])
    refine wpAnyH_take (i := 5) (v := ?_) rfl (by kernel_rfl) (by kernel_rfl) (by kernel_rfl) (fun _ _ _ h => h) (Or.inl ⟨by rfl, ?_⟩) (by assumption) ?_
    rotate_left 1
    · intro w hSw; (try dsimp only at hSw); simp only [List.getElem_toArray, List.getElem_cons_succ, List.getElem_cons_zero]; go_simp; try (with_reducible rfl)
    (try simp only [List.getElem_toArray, List.getElem_cons_succ, List.getElem_cons_zero, Act.put, List.setIfInBounds_toArray, List.set_cons_succ, List.set_cons_zero])
    refine wpAnyH_ready (rs := [2]) (by kernel_rfl) (by simp) ?_
    refine AllReadyH.cons rfl (fun K hK => ?_) AllReadyH.nil
    (try simp only [List.getElem_toArray, List.getElem_cons_succ, List.getElem_cons_zero])
    go_simp
    go_at_call 56; refine (CS.out _).mono ?_; rintro e' v5 ⟨rfl, d5⟩
    (try (go_wp2_with fail))
    refine hK.out _ _ ?_ (fun hHeld => ?_)
    · exact K0.out _ (show Still w2 _ by ((repeat (first | with_reducible exact Still.refl _ | with_reducible assumption | with_reducible apply Still.alloc | with_reducible apply Still.drew | with_reducible refine Still.step ?_ (by assumption) | with_reducible refine Still.trans ?_ (by assumption)))))
    clear hK K
    (try simp only [Act.put, List.setIfInBounds_toArray, List.set_cons_succ, List.set_cons_zero])
    refine wpAnyH_ready (rs := [4]) (by kernel_rfl) (by simp) ?_
    refine AllReadyH.cons rfl (fun K hK => ?_) AllReadyH.nil
    (try simp only [List.getElem_toArray, List.getElem_cons_succ, List.getElem_cons_zero])
    go_simp
    go_at_call 57; refine (CL.out _).mono ?_; rintro e' v6 ⟨rfl, d6⟩
    (try (go_wp2_with fail))
    refine hK.out _ _ ?_ (fun hHeld => ?_)
    · exact K0.out _ (show Still w2 _ by ((repeat (first | with_reducible exact Still.refl _ | with_reducible assumption | with_reducible apply Still.alloc | with_reducible apply Still.drew | with_reducible refine Still.step ?_ (by assumption) | with_reducible refine Still.trans ?_ (by assumption)))))
    clear hK K
    (try simp only [Act.put, List.setIfInBounds_toArray, List.set_cons_succ, List.set_cons_zero])
    refine wpAnyH_take (i := 6) (v := ?_) rfl (by kernel_rfl) (by kernel_rfl) (by kernel_rfl) (fun _ _ _ h => h) (Or.inl ⟨by rfl, ?_⟩) (by assumption) ?_
    rotate_left 1
    · intro w hSw; (try dsimp only at hSw); simp only [List.getElem_toArray, List.getElem_cons_succ, List.getElem_cons_zero]; go_simp; try (with_reducible rfl)
    (try simp only [List.getElem_toArray, List.getElem_cons_succ, List.getElem_cons_zero, Act.put, List.setIfInBounds_toArray, List.set_cons_succ, List.set_cons_zero])
    refine wpAnyH_take (i := 7) (v := ?_) rfl (by kernel_rfl) (by kernel_rfl) (by kernel_rfl) (fun _ _ _ h => h) (Or.inl ⟨by rfl, ?_⟩) (by assumption) ?_
    rotate_left 1
    · intro w hSw; (try dsimp only at hSw); simp only [List.getElem_toArray, List.getElem_cons_succ, List.getElem_cons_zero]; go_simp; try (with_reducible rfl)
    (try simp only [List.getElem_toArray, List.getElem_cons_succ, List.getElem_cons_zero, Act.put, List.setIfInBounds_toArray, List.set_cons_succ, List.set_cons_zero])
    refine wpAnyH_ready (rs := [8]) (by kernel_rfl) (by simp) ?_
    refine AllReadyH.cons rfl (fun K hK => ?_) AllReadyH.nil
    (try simp only [List.getElem_toArray, List.getElem_cons_succ, List.getElem_cons_zero])
    refine Eq.mpr (if_pos (by rfl)) ?_
    refine wp_store_blk 61 (.tmp 2) (.tmp 26) rfl (w.heap.size) zerosW V 61 rfl rfl (Blk.stepS kZ (show Still w2 v6 by ((repeat (first | with_reducible exact Still.refl _ | with_reducible assumption | with_reducible apply Still.alloc | with_reducible apply Still.drew | with_reducible refine Still.step ?_ (by assumption) | with_reducible refine Still.trans ?_ (by assumption)))))) LV.out IV.out OV.out ?_
    intro w9 hb9 ho9
    refine hK.out _ _ ?_ (fun hHeld => ?_)
    · exact ⟨(ho9.blk (Blk.stepS hbw2 (show Still w2 v6 by ((repeat (first | with_reducible exact Still.refl _ | with_reducible assumption | with_reducible apply Still.alloc | with_reducible apply Still.drew | with_reducible refine Still.step ?_ (by assumption) | with_reducible refine Still.trans ?_ (by assumption)))))) (by have := HLT.out; omega)).range, True.intro⟩
    clear hK K
    (try simp only [Act.put, List.setIfInBounds_toArray, List.set_cons_succ, List.set_cons_zero])
    refine wpAnyH_take (i := 9) (v := ?_) rfl (by kernel_rfl) (by kernel_rfl) (by kernel_rfl) (fun _ _ _ h => h) (Or.inl ⟨by rfl, ?_⟩) (by assumption) ?_
    rotate_left 1
    · intro w hSw; (try dsimp only at hSw); simp only [List.getElem_toArray, List.getElem_cons_succ, List.getElem_cons_zero]; go_simp; try (with_reducible rfl)
    (try simp only [List.getElem_toArray, List.getElem_cons_succ, List.getElem_cons_zero, Act.put, List.setIfInBounds_toArray, List.set_cons_succ, List.set_cons_zero])
    refine wpAnyH_done (by kernel_rfl) ?_ _
    go_wp2_with fail
    refine bodyPost_ret (v := .tuple #[.agg V.toArray, .bool F]) ?_ rfl ⟨rfl, Below.trans (show Still w v6 from HB2.out.trans (show Still w2 v6 by ((repeat (first | with_reducible exact Still.refl _ | with_reducible assumption | with_reducible apply Still.alloc | with_reducible apply Still.drew | with_reducible refine Still.step ?_ (by assumption) | with_reducible refine Still.trans ?_ (by assumption)))))) (ho9.below (by omega))⟩
    exact results_row_tmp Tryd.results42 _ _ (w.heap.size) 61 _ (0, 0) _ _ (by rfl) (by rfl) hb9 Tryd.underlying61 rfl IV.out
end Go.Proofs.YthpigninbeommaaDoor
