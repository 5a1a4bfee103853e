/- Merged texts: CmpT HdrD. -/
import Derived.Test.YthpigninbeommaaDoorMbs
import Derived.Deep.RegionHeld3
import Derived.Deep.CutRange
import Derived.Deep.DeepCutAuto
import Derived.Test.YthpigninbeommaaDoorMbd
import Derived.Test.YthpigninbeommaaDoorMbf
import Derived.Test.YthpigninbeommaaDoorMbp
/- The contract of compact.Target. -/
namespace Go.Proofs.YthpigninbeommaaDoor
open Go.RowKit
set_option linter.unusedVariables false
set_option linter.unusedSimpArgs false

set_option maxRecDepth 100000 in
set_option maxHeartbeats 4000000 in
theorem ctarget_yes (c : Nat) (w : World) (hc : c < 2 ^ 32) (ht : tgt c = true) : Calls Tryd.prog 29 #[.int .u32 (c : Int)] w (Ret w (.tuple #[.agg (cellsW (wd (valC c))).toArray, .int .i64 0])) := by
  rw [tgt_is] at ht
  simp only [Bool.and_eq_true, Bool.not_eq_true', decide_eq_true_eq] at ht
  obtain ⟨⟨hs, hF⟩, h0⟩ := ht
  have gU := guardU
  obtain ⟨v, hv⟩ : ∃ v, v = valC c := ⟨_, rfl⟩
  obtain ⟨V, hV⟩ : ∃ X, X = cellsW (wd v) := ⟨_, rfl⟩
  have IV : Hid ((Tryd.prog.info? 61).map (·.size) = some V.length) := Lib.hid (by rw [hV]; exact sizeW _)
  have LV : Hid (zerosW.length = V.length) := Lib.hid (by rw [hV]; rfl)
  have OV : Hid (∀ v ∈ V, v.oneCell' = true) := Lib.hid (by rw [hV]; exact cellsW_one _)
  have CV : Hid (∀ W, Calls Tryd.prog 42 #[.int .u32 (c : Int)] W (Ret W (.tuple #[.agg V.toArray, .bool true]))) := Lib.hid fun W => by
    have h := cvalue_calls c W hc
    rw [hF, ← hv, ← hV] at h
    exact h
  have g1 : bits .and .u32 (c : Int) 8388608 = 0 := by
    have hs2 := hs
    unfold sgnC at hs2
    simp only [decide_eq_false_iff_not] at hs2
    rw [u32_and_bit c hc]; omega
  have HB : Hid (Still w (w.alloc (.cells #[.int .u64 0, .int .u64 0, .int .u64 0, .int .u64 0] 61))) := Lib.hid (Still.alloc (Still.refl w) _)
  have kZ0 : Blk (w.alloc (.cells #[.int .u64 0, .int .u64 0, .int .u64 0, .int .u64 0] 61)) w.heap.size zerosW 61 := Blk.new w _ _
  obtain ⟨w0, hw0⟩ : ∃ w0, w0 = w.alloc (.cells #[.int .u64 0, .int .u64 0, .int .u64 0, .int .u64 0] 61) := ⟨_, rfl⟩
  rw [← hw0] at HB kZ0
  have heq : ∀ W, (Op.equalIn 10000 61 (.agg V.toArray) (.agg #[.int .u64 0, .int .u64 0, .int .u64 0, .int .u64 0])).run Tryd.prog W = .ok false W := fun W => by
    have h := u_equal v 0 (by rw [hv]; exact fit_lt hF) (by decide) W
    rw [decide_eq_false (by rw [hv]; exact h0)] at h
    rw [hV]
    exact h
  rw [← hv, ← hV]
  clear hV hv hs hF hc h0
  go_enter Tryd.func29, Tryd.ntmps29
  go_upto_region 1 with fail
  rw [← hw0]
  clear hw0
  go_wp2_with (first
    | (go_at_call 42; refine (CV.out _).mono ?_; rintro e' v1 ⟨rfl, d1⟩)
    | ((with_reducible refine at_store 61 (.tmp 4) (.tmp 9) ?_); refine wpList_store_blk rfl 61 (.tmp 4) (.tmp 9) rfl v1.heap.size zerosW V _ rfl rfl (Blk.new v1 _ _) LV.out IV.out OV.out ?_; intro w2 hbw2 how2; have dw2 := Only.still how2; clear how2)
    | ((with_reducible refine at_loadg 61 (.tmp 4) ?_); refine wpList_load_midg ?_ 61 (.tmp 4) rfl (v1.heap.size) 0 rfl V _ (Blk.range (t := 61) (by ((repeat (first | with_reducible assumption | with_reducible apply Blk.alloc | with_reducible apply Blk.drew | with_reducible refine Blk.step ?_ (by assumption) | with_reducible refine Blk.stepS ?_ (by assumption)))))) Tryd.underlying61 rfl IV.out ?_; (focus (simp [Region.wanted, yielded, Act.put]; done)))
    | ((with_reducible refine at_load 61 (.tmp 4) ?_); refine wpList_load_mid rfl 61 (.tmp 4) rfl (v1.heap.size) 0 rfl V _ (Blk.range (t := 61) (by ((repeat (first | with_reducible assumption | with_reducible apply Blk.alloc | with_reducible apply Blk.drew | with_reducible refine Blk.step ?_ (by assumption) | with_reducible refine Blk.stepS ?_ (by assumption)))))) Tryd.underlying61 rfl IV.out ?_)
    | ((with_reducible refine at_store 61 (.tmp 2) (.tmp 24) ?_); refine wpList_store_blk rfl 61 (.tmp 2) (.tmp 24) rfl (w.heap.size) zerosW V 61 rfl rfl (by ((repeat (first | with_reducible assumption | with_reducible apply Blk.alloc | with_reducible apply Blk.drew | with_reducible refine Blk.step ?_ (by assumption) | with_reducible refine Blk.stepS ?_ (by assumption))))) LV.out IV.out OV.out ?_; intro w9 hbw9 how9))
  refine bodyPost_ret (v := .tuple #[.agg V.toArray, .int .i64 0]) ?_ rfl ⟨rfl, Below.trans (show Still w w2 from HB.out.trans (show Still w0 w2 by ((repeat (first | with_reducible exact Still.refl _ | with_reducible assumption | with_reducible apply Still.alloc | with_reducible apply Still.drew | with_reducible refine Still.step ?_ (by assumption) | with_reducible refine Still.trans ?_ (by assumption)))))) (how9.below (by omega))⟩
  exact results_row_tmp Tryd.results29 _ _ (w.heap.size) 61 _ (0, 0) _ _ (by rfl) (by rfl) hbw9 Tryd.underlying61 rfl IV.out
set_option maxRecDepth 100000 in
set_option maxHeartbeats 4000000 in
theorem ctarget_n1 (c : Nat) (w : World) (hc : c < 2 ^ 32) (hs : sgnC c = true) (F : Bool) (hF : fitC c = F) : Calls Tryd.prog 29 #[.int .u32 (c : Int)] w (Ret w (.tuple #[.agg (cellsW (wd 0)).toArray, .int .i64 5])) := by
  have gU := guardU
  obtain ⟨v, hv⟩ : ∃ v, v = valC c := ⟨_, rfl⟩
  obtain ⟨V, hV⟩ : ∃ X, X = cellsW (wd v) := ⟨_, rfl⟩
  have IV : Hid ((Tryd.prog.info? 61).map (·.size) = some V.length) := Lib.hid (by rw [hV]; exact sizeW _)
  have LV : Hid (zerosW.length = V.length) := Lib.hid (by rw [hV]; rfl)
  have OV : Hid (∀ v ∈ V, v.oneCell' = true) := Lib.hid (by rw [hV]; exact cellsW_one _)
  have CV : Hid (∀ W, Calls Tryd.prog 42 #[.int .u32 (c : Int)] W (Ret W (.tuple #[.agg V.toArray, .bool F]))) := Lib.hid fun W => by
    have h := cvalue_calls c W hc
    rw [hF, ← hv, ← hV] at h
    exact h
  have g1 : bits .and .u32 (c : Int) 8388608 = 8388608 := by
    have hs2 := hs
    unfold sgnC at hs2
    simp only [decide_eq_true_eq] at hs2
    rw [u32_and_bit c hc]; omega
  have HB : Hid (Still w (w.alloc (.cells #[.int .u64 0, .int .u64 0, .int .u64 0, .int .u64 0] 61))) := Lib.hid (Still.alloc (Still.refl w) _)
  have kZ0 : Blk (w.alloc (.cells #[.int .u64 0, .int .u64 0, .int .u64 0, .int .u64 0] 61)) w.heap.size zerosW 61 := Blk.new w _ _
  obtain ⟨w0, hw0⟩ : ∃ w0, w0 = w.alloc (.cells #[.int .u64 0, .int .u64 0, .int .u64 0, .int .u64 0] 61) := ⟨_, rfl⟩
  rw [← hw0] at HB kZ0
  obtain ⟨Z, hZ⟩ : ∃ Z, Z = cellsW (wd 0) := ⟨_, rfl⟩
  rw [← hZ]
  have hZ0 : zerosW = Z := hZ.symm
  have LZ : Hid (zerosW.length = Z.length) := Lib.hid (by rw [hZ]; rfl)
  have IZ : Hid ((Tryd.prog.info? 61).map (·.size) = some Z.length) := Lib.hid (by rw [hZ]; exact sizeW _)
  have HZ := Lib.hid hZ0
  clear hV hv hZ hZ0 hs hF hc
  go_enter Tryd.func29, Tryd.ntmps29
  go_upto_region 1 with fail
  rw [← hw0]
  clear hw0
  go_wp2_with (first
    | (go_at_call 42; refine (CV.out _).mono ?_; rintro e' v1 ⟨rfl, d1⟩)
    | ((with_reducible refine at_store 61 (.tmp 4) (.tmp 9) ?_); refine wpList_store_blk rfl 61 (.tmp 4) (.tmp 9) rfl v1.heap.size zerosW V _ rfl rfl (Blk.new v1 _ _) LV.out IV.out OV.out ?_; intro w2 hbw2 how2; have dw2 := Only.still how2; clear how2)
    | ((with_reducible refine at_loadg 61 (.tmp 4) ?_); refine wpList_load_midg ?_ 61 (.tmp 4) rfl (v1.heap.size) 0 rfl V _ (Blk.range (t := 61) (by ((repeat (first | with_reducible assumption | with_reducible apply Blk.alloc | with_reducible apply Blk.drew | with_reducible refine Blk.step ?_ (by assumption) | with_reducible refine Blk.stepS ?_ (by assumption)))))) Tryd.underlying61 rfl IV.out ?_; (focus (simp [Region.wanted, yielded, Act.put]; done)))
    | ((with_reducible refine at_store 61 (.tmp 2) (.tmp 23) ?_); refine wpList_store_blk rfl 61 (.tmp 2) (.tmp 23) rfl (w.heap.size) zerosW zerosW 61 rfl rfl (by ((repeat (first | with_reducible assumption | with_reducible apply Blk.alloc | with_reducible apply Blk.drew | with_reducible refine Blk.step ?_ (by assumption) | with_reducible refine Blk.stepS ?_ (by assumption))))) rfl (sizeW (fun _ => 0)) (cellsW_one (fun _ => 0)) ?_; intro w9 hbw9 how9))
  refine bodyPost_ret (v := .tuple #[.agg Z.toArray, .int .i64 5]) ?_ rfl ⟨rfl, Below.trans (show Still w w2 from HB.out.trans (show Still w0 w2 by ((repeat (first | with_reducible exact Still.refl _ | with_reducible assumption | with_reducible apply Still.alloc | with_reducible apply Still.drew | with_reducible refine Still.step ?_ (by assumption) | with_reducible refine Still.trans ?_ (by assumption)))))) (how9.below (by omega))⟩
  rw [HZ.out] at hbw9
  exact results_row_tmp Tryd.results29 _ _ (w.heap.size) 61 _ (0, 0) _ _ (by rfl) (by rfl) hbw9 Tryd.underlying61 rfl IZ.out
set_option maxRecDepth 100000 in
set_option maxHeartbeats 4000000 in
theorem ctarget_n2 (c : Nat) (w : World) (hc : c < 2 ^ 32) (hs : sgnC c = false) (hF : fitC c = false) : Calls Tryd.prog 29 #[.int .u32 (c : Int)] w (Ret w (.tuple #[.agg (cellsW (wd 0)).toArray, .int .i64 5])) := by
  have gU := guardU
  obtain ⟨v, hv⟩ : ∃ v, v = valC c := ⟨_, rfl⟩
  obtain ⟨V, hV⟩ : ∃ X, X = cellsW (wd v) := ⟨_, rfl⟩
  have IV : Hid ((Tryd.prog.info? 61).map (·.size) = some V.length) := Lib.hid (by rw [hV]; exact sizeW _)
  have LV : Hid (zerosW.length = V.length) := Lib.hid (by rw [hV]; rfl)
  have OV : Hid (∀ v ∈ V, v.oneCell' = true) := Lib.hid (by rw [hV]; exact cellsW_one _)
  have CV : Hid (∀ W, Calls Tryd.prog 42 #[.int .u32 (c : Int)] W (Ret W (.tuple #[.agg V.toArray, .bool false]))) := Lib.hid fun W => by
    have h := cvalue_calls c W hc
    rw [hF, ← hv, ← hV] at h
    exact h
  have g1 : bits .and .u32 (c : Int) 8388608 = 0 := by
    have hs2 := hs
    unfold sgnC at hs2
    simp only [decide_eq_false_iff_not] at hs2
    rw [u32_and_bit c hc]; omega
  have HB : Hid (Still w (w.alloc (.cells #[.int .u64 0, .int .u64 0, .int .u64 0, .int .u64 0] 61))) := Lib.hid (Still.alloc (Still.refl w) _)
  have kZ0 : Blk (w.alloc (.cells #[.int .u64 0, .int .u64 0, .int .u64 0, .int .u64 0] 61)) w.heap.size zerosW 61 := Blk.new w _ _
  obtain ⟨w0, hw0⟩ : ∃ w0, w0 = w.alloc (.cells #[.int .u64 0, .int .u64 0, .int .u64 0, .int .u64 0] 61) := ⟨_, rfl⟩
  rw [← hw0] at HB kZ0
  obtain ⟨Z, hZ⟩ : ∃ Z, Z = cellsW (wd 0) := ⟨_, rfl⟩
  rw [← hZ]
  have hZ0 : zerosW = Z := hZ.symm
  have LZ : Hid (zerosW.length = Z.length) := Lib.hid (by rw [hZ]; rfl)
  have IZ : Hid ((Tryd.prog.info? 61).map (·.size) = some Z.length) := Lib.hid (by rw [hZ]; exact sizeW _)
  have HZ := Lib.hid hZ0
  clear hV hv hZ hZ0 hs hF hc
  go_enter Tryd.func29, Tryd.ntmps29
  go_upto_region 1 with fail
  rw [← hw0]
  clear hw0
  go_wp2_with (first
    | (go_at_call 42; refine (CV.out _).mono ?_; rintro e' v1 ⟨rfl, d1⟩)
    | ((with_reducible refine at_store 61 (.tmp 4) (.tmp 9) ?_); refine wpList_store_blk rfl 61 (.tmp 4) (.tmp 9) rfl v1.heap.size zerosW V _ rfl rfl (Blk.new v1 _ _) LV.out IV.out OV.out ?_; intro w2 hbw2 how2; have dw2 := Only.still how2; clear how2)
    | ((with_reducible refine at_loadg 61 (.tmp 4) ?_); refine wpList_load_midg ?_ 61 (.tmp 4) rfl (v1.heap.size) 0 rfl V _ (Blk.range (t := 61) (by ((repeat (first | with_reducible assumption | with_reducible apply Blk.alloc | with_reducible apply Blk.drew | with_reducible refine Blk.step ?_ (by assumption) | with_reducible refine Blk.stepS ?_ (by assumption)))))) Tryd.underlying61 rfl IV.out ?_; (focus (simp [Region.wanted, yielded, Act.put]; done)))
    | ((with_reducible refine at_store 61 (.tmp 2) (.tmp 23) ?_); refine wpList_store_blk rfl 61 (.tmp 2) (.tmp 23) rfl (w.heap.size) zerosW zerosW 61 rfl rfl (by ((repeat (first | with_reducible assumption | with_reducible apply Blk.alloc | with_reducible apply Blk.drew | with_reducible refine Blk.step ?_ (by assumption) | with_reducible refine Blk.stepS ?_ (by assumption))))) rfl (sizeW (fun _ => 0)) (cellsW_one (fun _ => 0)) ?_; intro w9 hbw9 how9))
  refine bodyPost_ret (v := .tuple #[.agg Z.toArray, .int .i64 5]) ?_ rfl ⟨rfl, Below.trans (show Still w w2 from HB.out.trans (show Still w0 w2 by ((repeat (first | with_reducible exact Still.refl _ | with_reducible assumption | with_reducible apply Still.alloc | with_reducible apply Still.drew | with_reducible refine Still.step ?_ (by assumption) | with_reducible refine Still.trans ?_ (by assumption)))))) (how9.below (by omega))⟩
  rw [HZ.out] at hbw9
  exact results_row_tmp Tryd.results29 _ _ (w.heap.size) 61 _ (0, 0) _ _ (by rfl) (by rfl) hbw9 Tryd.underlying61 rfl IZ.out
set_option maxRecDepth 100000 in
set_option maxHeartbeats 4000000 in
theorem ctarget_n3 (c : Nat) (w : World) (hc : c < 2 ^ 32) (hs : sgnC c = false) (hF : fitC c = true) (h0 : valC c = 0) : Calls Tryd.prog 29 #[.int .u32 (c : Int)] w (Ret w (.tuple #[.agg (cellsW (wd 0)).toArray, .int .i64 5])) := by
  have gU := guardU
  obtain ⟨v, hv⟩ : ∃ v, v = valC c := ⟨_, rfl⟩
  obtain ⟨V, hV⟩ : ∃ X, X = cellsW (wd v) := ⟨_, rfl⟩
  have IV : Hid ((Tryd.prog.info? 61).map (·.size) = some V.length) := Lib.hid (by rw [hV]; exact sizeW _)
  have LV : Hid (zerosW.length = V.length) := Lib.hid (by rw [hV]; rfl)
  have OV : Hid (∀ v ∈ V, v.oneCell' = true) := Lib.hid (by rw [hV]; exact cellsW_one _)
  have CV : Hid (∀ W, Calls Tryd.prog 42 #[.int .u32 (c : Int)] W (Ret W (.tuple #[.agg V.toArray, .bool true]))) := Lib.hid fun W => by
    have h := cvalue_calls c W hc
    rw [hF, ← hv, ← hV] at h
    exact h
  have g1 : bits .and .u32 (c : Int) 8388608 = 0 := by
    have hs2 := hs
    unfold sgnC at hs2
    simp only [decide_eq_false_iff_not] at hs2
    rw [u32_and_bit c hc]; omega
  have HB : Hid (Still w (w.alloc (.cells #[.int .u64 0, .int .u64 0, .int .u64 0, .int .u64 0] 61))) := Lib.hid (Still.alloc (Still.refl w) _)
  have kZ0 : Blk (w.alloc (.cells #[.int .u64 0, .int .u64 0, .int .u64 0, .int .u64 0] 61)) w.heap.size zerosW 61 := Blk.new w _ _
  obtain ⟨w0, hw0⟩ : ∃ w0, w0 = w.alloc (.cells #[.int .u64 0, .int .u64 0, .int .u64 0, .int .u64 0] 61) := ⟨_, rfl⟩
  rw [← hw0] at HB kZ0
  have heq : ∀ W, (Op.equalIn 10000 61 (.agg V.toArray) (.agg #[.int .u64 0, .int .u64 0, .int .u64 0, .int .u64 0])).run Tryd.prog W = .ok true W := fun W => by
    have h := u_equal v 0 (by rw [hv]; exact fit_lt hF) (by decide) W
    rw [decide_eq_true (by rw [hv]; exact h0)] at h
    rw [hV]
    exact h
  obtain ⟨Z, hZ⟩ : ∃ Z, Z = cellsW (wd 0) := ⟨_, rfl⟩
  rw [← hZ]
  have hZ0 : zerosW = Z := hZ.symm
  have LZ : Hid (zerosW.length = Z.length) := Lib.hid (by rw [hZ]; rfl)
  have IZ : Hid ((Tryd.prog.info? 61).map (·.size) = some Z.length) := Lib.hid (by rw [hZ]; exact sizeW _)
  have HZ := Lib.hid hZ0
  clear hV hv hZ hZ0 hs hF hc h0
  go_enter Tryd.func29, Tryd.ntmps29
  go_upto_region 1 with fail
  rw [← hw0]
  clear hw0
  go_wp2_with (first
    | (go_at_call 42; refine (CV.out _).mono ?_; rintro e' v1 ⟨rfl, d1⟩)
    | ((with_reducible refine at_store 61 (.tmp 4) (.tmp 9) ?_); refine wpList_store_blk rfl 61 (.tmp 4) (.tmp 9) rfl v1.heap.size zerosW V _ rfl rfl (Blk.new v1 _ _) LV.out IV.out OV.out ?_; intro w2 hbw2 how2; have dw2 := Only.still how2; clear how2)
    | ((with_reducible refine at_loadg 61 (.tmp 4) ?_); refine wpList_load_midg ?_ 61 (.tmp 4) rfl (v1.heap.size) 0 rfl V _ (Blk.range (t := 61) (by ((repeat (first | with_reducible assumption | with_reducible apply Blk.alloc | with_reducible apply Blk.drew | with_reducible refine Blk.step ?_ (by assumption) | with_reducible refine Blk.stepS ?_ (by assumption)))))) Tryd.underlying61 rfl IV.out ?_; (focus (simp [Region.wanted, yielded, Act.put]; done)))
    | ((with_reducible refine at_store 61 (.tmp 2) (.tmp 23) ?_); refine wpList_store_blk rfl 61 (.tmp 2) (.tmp 23) rfl (w.heap.size) zerosW zerosW 61 rfl rfl (by ((repeat (first | with_reducible assumption | with_reducible apply Blk.alloc | with_reducible apply Blk.drew | with_reducible refine Blk.step ?_ (by assumption) | with_reducible refine Blk.stepS ?_ (by assumption))))) rfl (sizeW (fun _ => 0)) (cellsW_one (fun _ => 0)) ?_; intro w9 hbw9 how9))
  refine bodyPost_ret (v := .tuple #[.agg Z.toArray, .int .i64 5]) ?_ rfl ⟨rfl, Below.trans (show Still w w2 from HB.out.trans (show Still w0 w2 by ((repeat (first | with_reducible exact Still.refl _ | with_reducible assumption | with_reducible apply Still.alloc | with_reducible apply Still.drew | with_reducible refine Still.step ?_ (by assumption) | with_reducible refine Still.trans ?_ (by assumption)))))) (how9.below (by omega))⟩
  rw [HZ.out] at hbw9
  exact results_row_tmp Tryd.results29 _ _ (w.heap.size) 61 _ (0, 0) _ _ (by rfl) (by rfl) hbw9 Tryd.underlying61 rfl IZ.out
set_option maxRecDepth 100000 in
theorem ctarget_no (c : Nat) (w : World) (hc : c < 2 ^ 32) (ht : tgt c = false) : Calls Tryd.prog 29 #[.int .u32 (c : Int)] w (Ret w (.tuple #[.agg (cellsW (wd 0)).toArray, .int .i64 5])) := by
  cases hs : sgnC c
  · cases hF : fitC c
    · exact ctarget_n2 c w hc hs hF
    · refine ctarget_n3 c w hc hs hF ?_
      rw [tgt_is, hs, hF] at ht
      simpa using ht
  · exact ctarget_n1 c w hc hs _ rfl
end Go.Proofs.YthpigninbeommaaDoor

/- The contract of the document's own Number of layer 7: a hash as a number. -/
namespace Go.Proofs.YthpigninbeommaaDoor
open Go.RowKit
set_option linter.unusedVariables false
set_option linter.unusedSimpArgs false

/-- The word j of the bytes from t on. -/
def pw (l : List UInt8) (t j : Nat) : Nat := numL ((l.take (8 * j + 8)).drop (max t (8 * j)))
set_option maxRecDepth 100000 in
theorem pw_start (l : List UInt8) (t j : Nat) (h : 8 * j + 8 ≤ t) : pw l t j = 0 := by
  unfold pw
  rw [List.drop_of_length_le (by rw [List.length_take]; omega)]
  rfl
set_option maxRecDepth 100000 in
theorem pw_lt (l : List UInt8) (t j : Nat) : pw l t j < 18446744073709551616 := by
  unfold pw
  have h1 := numL_lt ((l.take (8 * j + 8)).drop (max t (8 * j)))
  have h2 : ((l.take (8 * j + 8)).drop (max t (8 * j))).length ≤ 8 := by rw [List.length_drop, List.length_take]; omega
  have h3 := Nat.pow_le_pow_right (n := 256) (by omega) h2
  have h4 : 256 ^ 8 = 18446744073709551616 := by decide
  omega
set_option maxRecDepth 100000 in
theorem pw_step (l : List UInt8) (i : Nat) (h : i < l.length) : pw l i (i / 8) = l[i].toNat + 256 * pw l (i + 1) (i / 8) := by
  unfold pw
  have e1 : max i (8 * (i / 8)) = i := by omega
  have e2 : max (i + 1) (8 * (i / 8)) = i + 1 := by omega
  rw [e1, e2]
  have hl : i < (l.take (8 * (i / 8) + 8)).length := by rw [List.length_take]; omega
  rw [List.drop_eq_getElem_cons hl, List.getElem_take]
  rfl
set_option maxRecDepth 100000 in
theorem pw_other (l : List UInt8) (i j : Nat) (h : j ≠ i / 8) : pw l i j = pw l (i + 1) j := by
  rcases Nat.lt_or_ge j (i / 8) with h1 | h1
  · rw [pw_start l i j (by omega), pw_start l (i + 1) j (by omega)]
  · unfold pw
    rw [show max i (8 * j) = max (i + 1) (8 * j) from by omega]
set_option maxRecDepth 100000 in
theorem pw_small (l : List UInt8) (i : Nat) (h : i < l.length) : pw l (i + 1) (i / 8) < 72057594037927936 := by
  unfold pw
  have h1 := numL_lt ((l.take (8 * (i / 8) + 8)).drop (max (i + 1) (8 * (i / 8))))
  have h2 : ((l.take (8 * (i / 8) + 8)).drop (max (i + 1) (8 * (i / 8)))).length ≤ 7 := by rw [List.length_drop, List.length_take]; omega
  have h3 := Nat.pow_le_pow_right (n := 256) (by omega) h2
  have h4 : 256 ^ 7 = 72057594037927936 := by decide
  omega
set_option maxRecDepth 100000 in
theorem pw_end (l : List UInt8) (j : Nat) : pw l 0 j = wd (numL l) j := by
  rw [wd_num]
  unfold pw
  rw [show max 0 (8 * j) = 8 * j from by omega, List.drop_take, show 8 * j + 8 - 8 * j = 8 from by omega]
end Go.Proofs.YthpigninbeommaaDoor
