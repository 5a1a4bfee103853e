/- Proved: for every wide number the work is what the document's digits say, for 0 too, and the argument reads as it did. No condition. -/
import Derived.Test.YtdgfgehjnfadnaaRows
import Derived.Test.YtdgfgehjnfadnaaCmpA
import Derived.Test.YtdgfgehjnfadnaaCmpA
import Derived.Test.YtdgfgehjnfadnaaArrW
import Derived.ProofKit
import Derived.Deep.RegionHeld3
import Derived.Deep.CutRange
import Derived.Deep.DeepCutAuto
import Derived.OpenShut
import Derived.ShutString
import Derived.ChangeOld
import Derived.Test.YtdgfgehjnfadnaaOpen
namespace Go.Proofs.Ytdgfgehjnfadnaa.compactWorks
open Go.ChangeShapes Go.WideShapes Go.ChangeAt Go.RowKit
open Go.ChangeMaps (open_string shut_string)
set_option linter.unusedVariables false
set_option linter.unusedSimpArgs false

theorem own : ownKnob Try.prog.godebug = none := by kernel_rfl
theorem laidOut : laidOutB Try.prog = true := by kernel_rfl

set_option maxRecDepth 100000 in
set_option maxHeartbeats 4000000 in
theorem walk0 (x : Nat) (bx : x < 2 ^ 256) (h0 : x = 0) (w : World) : Calls Try.prog 7 #[.agg (cellsW (wd x)).toArray] w (Ret w (.bool true)) := by
  have gU := guardU
  obtain ⟨v, hv⟩ : ∃ v, v = workN x := ⟨_, rfl⟩
  have bv : v < 2 ^ 256 := by rw [hv]; exact work_lt x
  obtain ⟨X, hX⟩ : ∃ X, X = cellsW (wd x) := ⟨_, rfl⟩
  have IX : Hid ((Try.prog.info? 25).map (·.size) = some X.length) := Lib.hid (by rw [hX]; exact sizeW _)
  have LX : Hid (zerosW.length = X.length) := Lib.hid (by rw [hX]; rfl)
  have OX : Hid (∀ v ∈ X, v.oneCell' = true) := Lib.hid (by rw [hX]; exact cellsW_one _)
  obtain ⟨V, hV⟩ : ∃ X, X = cellsW (wd v) := ⟨_, rfl⟩
  have IV : Hid ((Try.prog.info? 25).map (·.size) = some V.length) := Lib.hid (by rw [hV]; exact sizeW _)
  have LV : Hid (zerosW.length = V.length) := Lib.hid (by rw [hV]; rfl)
  have OV : Hid (∀ v ∈ V, v.oneCell' = true) := Lib.hid (by rw [hV]; exact cellsW_one _)
  have CW : Hid (∀ W, Calls Try.prog 21 #[.agg X.toArray] W (Ret W (.agg V.toArray))) := Lib.hid fun W => by rw [hX, hV, hv]; exact work_calls x W bx
  have heq0 : ∀ W, (Op.equalIn 10000 25 (.agg X.toArray) (.agg #[.int .u64 0, .int .u64 0, .int .u64 0, .int .u64 0])).run Try.prog W = .ok true W := fun W => by rw [hX, h0]; exact u_same 0 W
  have heqV : ∀ W, (Op.equalIn 10000 25 (.agg V.toArray) (.agg V.toArray)).run Try.prog W = .ok true W := fun W => by rw [hV]; exact u_same v W
  have CM : Hid (∀ W, Calls Try.prog 22 #[] W (Ret W (.agg V.toArray))) := Lib.hid fun W => by rw [hV, hv, h0]; exact max_calls W
  rw [← hX]
  obtain ⟨w0, hw0⟩ : ∃ w0, w0 = (w.alloc (.cells X.toArray 25)) := ⟨_, rfl⟩
  have hbX : Blk w0 (w.heap.size) X 25 := by rw [hw0]; exact Blk.new' w X.toArray 25 (w.heap.size) (by simp)
  have HB : Hid (Still w w0) := Lib.hid (by rw [hw0]; exact Still.alloc (Still.refl w) _)
  clear hX hV hv bv bx h0
  go_enter Try.func7, Try.ntmps7
  go_upto_region 1 with fail
  rw [← hw0]
  clear hw0
  go_upto_region 3 with (first
    | ((with_reducible refine at_load 25 (.tmp 1) ?_); refine wpList_load_mid rfl 25 (.tmp 1) rfl (w.heap.size) 0 rfl X _ (Blk.range (t := 25) (by ((repeat (first | with_reducible assumption | with_reducible apply Blk.alloc | with_reducible apply Blk.drew | with_reducible refine Blk.step ?_ (by assumption) | with_reducible refine Blk.stepS ?_ (by assumption)))))) Try.underlying25 rfl IX.out ?_)
    | (go_at_call 21; refine (CW.out _).mono ?_; rintro e' v1 ⟨rfl, d1⟩)
    | ((with_reducible refine at_store 25 (.tmp 3) (.tmp 5) ?_); refine wpList_store_blk rfl 25 (.tmp 3) (.tmp 5) rfl v1.heap.size zerosW V _ rfl rfl (Blk.new v1 _ _) LV.out IV.out OV.out ?_; intro w2 hbw2 how2; have dw2 := Only.still how2; clear how2))
  have kX : Blk w2 w.heap.size X 25 := by ((repeat (first | with_reducible assumption | with_reducible apply Blk.alloc | with_reducible apply Blk.drew | with_reducible refine Blk.step ?_ (by assumption) | with_reducible refine Blk.stepS ?_ (by assumption))))
  have K0 : Hid (∀ W, Still w2 W → (W.rangeAt v1.heap.size 0 V ∧ W.rangeAt w.heap.size 0 X ∧ Still w2 W)) := Lib.hid fun W h => ⟨(Blk.stepS hbw2 h).range, (Blk.stepS kX h).range, h⟩
  have HB2 : Hid (Still w w2) := Lib.hid (HB.out.trans (show Still w0 w2 by ((repeat (first | with_reducible exact Still.refl _ | with_reducible assumption | with_reducible apply Still.alloc | with_reducible apply Still.drew | with_reducible refine Still.step ?_ (by assumption) | with_reducible refine Still.trans ?_ (by assumption))))))
  clear hbw2 kX hbX d1 dw2 HB
  refine wp_region_held_drew (S := fun W => W.rangeAt v1.heap.size 0 V ∧ W.rangeAt w.heap.size 0 X ∧ Still w2 W) (by kernel_rfl) ?_ (fun hHeld => ?_)
  · exact K0.out _ (by ((repeat (first | with_reducible exact Still.refl _ | with_reducible assumption | with_reducible apply Still.alloc | with_reducible apply Still.drew | with_reducible refine Still.step ?_ (by assumption) | with_reducible refine Still.trans ?_ (by assumption)))))
  refine wpAnyH_take (i := 0) rfl (by kernel_rfl) (by kernel_rfl) (by kernel_rfl) (fun _ _ _ h => h) (yieldsIf_load_mid (by rfl) _ _ rfl _ _ rfl V _ (fun w hSw => by (try dsimp only at hSw); go_split_ands; assumption) Try.underlying25 rfl IV.out) (by assumption) ?_
  (try simp only [List.getElem_toArray, List.getElem_cons_succ, List.getElem_cons_zero, Act.put, List.setIfInBounds_toArray, List.set_cons_succ, List.set_cons_zero])
  refine wpAnyH_ready (rs := [1]) (by kernel_rfl) (by simp) ?_
  refine AllReadyH.cons rfl (fun K hK => ?_) AllReadyH.nil
  (try simp only [List.getElem_toArray, List.getElem_cons_succ, List.getElem_cons_zero])
  go_simp
  go_at_call 22; refine (CM.out _).mono ?_; rintro e' v3 ⟨rfl, d3⟩
  (try (go_wp2_with fail))
  refine hK.out _ _ ?_ (fun hHeld => ?_)
  · exact K0.out _ (by ((repeat (first | with_reducible exact Still.refl _ | with_reducible assumption | with_reducible apply Still.alloc | with_reducible apply Still.drew | with_reducible refine Still.step ?_ (by assumption) | with_reducible refine Still.trans ?_ (by assumption)))))
  clear hK K
  (try simp only [Act.put, List.setIfInBounds_toArray, List.set_cons_succ, List.set_cons_zero])
  refine wpAnyH_take (i := 2) (v := ?_) rfl (by kernel_rfl) (by kernel_rfl) (by kernel_rfl) (fun _ _ _ h => h) (Or.inl ⟨by rfl, ?_⟩) (by assumption) ?_
  rotate_left 1
  · intro w hSw; (try dsimp only at hSw); simp only [List.getElem_toArray, List.getElem_cons_succ, List.getElem_cons_zero]; go_simp; try (with_reducible rfl)
  (try simp only [List.getElem_toArray, List.getElem_cons_succ, List.getElem_cons_zero, Act.put, List.setIfInBounds_toArray, List.set_cons_succ, List.set_cons_zero])
  refine wpAnyH_take (i := 3) (v := ?_) rfl (by kernel_rfl) (by kernel_rfl) (by kernel_rfl) (fun _ _ _ h => h) (Or.inl ⟨by rfl, ?_⟩) (by assumption) ?_
  rotate_left 1
  · intro w hSw; (try dsimp only at hSw); simp only [List.getElem_toArray, List.getElem_cons_succ, List.getElem_cons_zero]; go_simp; try (with_reducible rfl)
  (try simp only [List.getElem_toArray, List.getElem_cons_succ, List.getElem_cons_zero, Act.put, List.setIfInBounds_toArray, List.set_cons_succ, List.set_cons_zero])
  refine wpAnyH_ready (rs := [4]) (by kernel_rfl) (by simp) ?_
  refine AllReadyH.cons rfl (fun K hK => ?_) AllReadyH.nil
  (try simp only [List.getElem_toArray, List.getElem_cons_succ, List.getElem_cons_zero])
  go_simp
  go_at_call 13; refine (awake5_calls _).mono ?_; rintro e' va ⟨rfl, da⟩
  (try (go_wp2_with fail))
  refine hK.out _ _ ?_ (fun hHeld => ?_)
  · exact K0.out _ (by ((repeat (first | with_reducible exact Still.refl _ | with_reducible assumption | with_reducible apply Still.alloc | with_reducible apply Still.drew | with_reducible refine Still.step ?_ (by assumption) | with_reducible refine Still.trans ?_ (by assumption)))))
  clear hK K
  (try simp only [Act.put, List.setIfInBounds_toArray, List.set_cons_succ, List.set_cons_zero])
  refine wpAnyH_take (i := 5) (v := ?_) rfl (by kernel_rfl) (by kernel_rfl) (by kernel_rfl) (fun _ _ _ h => h) (Or.inl ⟨by rfl, ?_⟩) (by assumption) ?_
  rotate_left 1
  · intro w hSw; (try dsimp only at hSw); simp only [List.getElem_toArray, List.getElem_cons_succ, List.getElem_cons_zero]; go_simp; try (with_reducible rfl)
  (try simp only [List.getElem_toArray, List.getElem_cons_succ, List.getElem_cons_zero, Act.put, List.setIfInBounds_toArray, List.set_cons_succ, List.set_cons_zero])
  refine wpAnyH_take (i := 6) (v := ?_) rfl (by kernel_rfl) (by kernel_rfl) (by kernel_rfl) (fun _ _ _ h => h) (Or.inl ⟨by rfl, ?_⟩) (by assumption) ?_
  rotate_left 1
  · intro w hSw; (try dsimp only at hSw); simp only [List.getElem_toArray, List.getElem_cons_succ, List.getElem_cons_zero]; go_simp; try (with_reducible rfl)
  (try simp only [List.getElem_toArray, List.getElem_cons_succ, List.getElem_cons_zero, Act.put, List.setIfInBounds_toArray, List.set_cons_succ, List.set_cons_zero])
  refine wpAnyH_done (by kernel_rfl) ?_ _
  go_wp2_with fail
  go_ret
  exact ⟨rfl, HB2.out.trans (show Still w2 va by ((repeat (first | with_reducible exact Still.refl _ | with_reducible assumption | with_reducible apply Still.alloc | with_reducible apply Still.drew | with_reducible refine Still.step ?_ (by assumption) | with_reducible refine Still.trans ?_ (by assumption)))))⟩
set_option maxRecDepth 100000 in
set_option maxHeartbeats 4000000 in
theorem walkN (x : Nat) (bx : x < 2 ^ 256) (h0 : x ≠ 0) (w : World) : Calls Try.prog 7 #[.agg (cellsW (wd x)).toArray] w (Ret w (.bool true)) := by
  have gU := guardU
  obtain ⟨v, hv⟩ : ∃ v, v = workN x := ⟨_, rfl⟩
  have bv : v < 2 ^ 256 := by rw [hv]; exact work_lt x
  obtain ⟨X, hX⟩ : ∃ X, X = cellsW (wd x) := ⟨_, rfl⟩
  have IX : Hid ((Try.prog.info? 25).map (·.size) = some X.length) := Lib.hid (by rw [hX]; exact sizeW _)
  have LX : Hid (zerosW.length = X.length) := Lib.hid (by rw [hX]; rfl)
  have OX : Hid (∀ v ∈ X, v.oneCell' = true) := Lib.hid (by rw [hX]; exact cellsW_one _)
  obtain ⟨V, hV⟩ : ∃ X, X = cellsW (wd v) := ⟨_, rfl⟩
  have IV : Hid ((Try.prog.info? 25).map (·.size) = some V.length) := Lib.hid (by rw [hV]; exact sizeW _)
  have LV : Hid (zerosW.length = V.length) := Lib.hid (by rw [hV]; rfl)
  have OV : Hid (∀ v ∈ V, v.oneCell' = true) := Lib.hid (by rw [hV]; exact cellsW_one _)
  have CW : Hid (∀ W, Calls Try.prog 21 #[.agg X.toArray] W (Ret W (.agg V.toArray))) := Lib.hid fun W => by rw [hX, hV, hv]; exact work_calls x W bx
  have heq0 : ∀ W, (Op.equalIn 10000 25 (.agg X.toArray) (.agg #[.int .u64 0, .int .u64 0, .int .u64 0, .int .u64 0])).run Try.prog W = .ok false W := fun W => by
    have h := u_equal x 0 bx (by decide) W
    rw [decide_eq_false h0] at h
    rw [hX]
    exact h
  have CBX : Hid (∀ W, Calls Try.prog 17 #[.agg X.toArray] W (MkB W x)) := Lib.hid fun W => bigV ⟨bx, hX⟩ W
  have CBV : Hid (∀ W, Calls Try.prog 17 #[.agg V.toArray] W (MkB W v)) := Lib.hid fun W => bigV ⟨bv, hV⟩ W
  have hw := work_is h0
  rw [← hv] at hw
  have CWK : Hid (∀ W A1 n1 c1 A2 n2 c2, RdI W A1 n1 (digs v) → RdI W A2 n2 (digs x) → Calls Try.prog 23 #[.slice A1 n1 c1, .slice A2 n2 c2] W (Ret W (.bool true))) := Lib.hid fun W A1 n1 c1 A2 n2 c2 h1 h2 => works_calls A1 n1 c1 A2 n2 c2 v x W bv bx h1 h2 hw.1 hw.2
  clear hw
  rw [← hX]
  obtain ⟨w0, hw0⟩ : ∃ w0, w0 = (w.alloc (.cells X.toArray 25)) := ⟨_, rfl⟩
  have hbX : Blk w0 (w.heap.size) X 25 := by rw [hw0]; exact Blk.new' w X.toArray 25 (w.heap.size) (by simp)
  have HB : Hid (Still w w0) := Lib.hid (by rw [hw0]; exact Still.alloc (Still.refl w) _)
  clear hX hV hv bv bx h0
  go_enter Try.func7, Try.ntmps7
  go_upto_region 1 with fail
  rw [← hw0]
  clear hw0
  go_upto_region 4 with (first
    | ((with_reducible refine at_load 25 (.tmp 1) ?_); refine wpList_load_mid rfl 25 (.tmp 1) rfl (w.heap.size) 0 rfl X _ (Blk.range (t := 25) (by ((repeat (first | with_reducible assumption | with_reducible apply Blk.alloc | with_reducible apply Blk.drew | with_reducible refine Blk.step ?_ (by assumption) | with_reducible refine Blk.stepS ?_ (by assumption)))))) Try.underlying25 rfl IX.out ?_)
    | (go_at_call 21; refine (CW.out _).mono ?_; rintro e' v1 ⟨rfl, d1⟩)
    | ((with_reducible refine at_store 25 (.tmp 3) (.tmp 5) ?_); refine wpList_store_blk rfl 25 (.tmp 3) (.tmp 5) rfl v1.heap.size zerosW V _ rfl rfl (Blk.new v1 _ _) LV.out IV.out OV.out ?_; intro w2 hbw2 how2; have dw2 := Only.still how2; clear how2))
  have kX : Blk w2 w.heap.size X 25 := by ((repeat (first | with_reducible assumption | with_reducible apply Blk.alloc | with_reducible apply Blk.drew | with_reducible refine Blk.step ?_ (by assumption) | with_reducible refine Blk.stepS ?_ (by assumption))))
  have K0 : Hid (∀ W, Still w2 W → (W.rangeAt v1.heap.size 0 V ∧ W.rangeAt w.heap.size 0 X ∧ Still w2 W)) := Lib.hid fun W h => ⟨(Blk.stepS hbw2 h).range, (Blk.stepS kX h).range, h⟩
  have HB2 : Hid (Still w w2) := Lib.hid (HB.out.trans (show Still w0 w2 by ((repeat (first | with_reducible exact Still.refl _ | with_reducible assumption | with_reducible apply Still.alloc | with_reducible apply Still.drew | with_reducible refine Still.step ?_ (by assumption) | with_reducible refine Still.trans ?_ (by assumption))))))
  clear hbw2 kX hbX d1 dw2 HB
  refine wp_region_held_drew (S := fun W => W.rangeAt v1.heap.size 0 V ∧ W.rangeAt w.heap.size 0 X ∧ Still w2 W) (by kernel_rfl) ?_ (fun hHeld => ?_)
  · exact K0.out _ (by ((repeat (first | with_reducible exact Still.refl _ | with_reducible assumption | with_reducible apply Still.alloc | with_reducible apply Still.drew | with_reducible refine Still.step ?_ (by assumption) | with_reducible refine Still.trans ?_ (by assumption)))))
  refine wpAnyH_take (i := 0) rfl (by kernel_rfl) (by kernel_rfl) (by kernel_rfl) (fun _ _ _ h => h) (yieldsIf_load_mid (by rfl) _ _ rfl _ _ rfl V _ (fun w hSw => by (try dsimp only at hSw); go_split_ands; assumption) Try.underlying25 rfl IV.out) (by assumption) ?_
  (try simp only [List.getElem_toArray, List.getElem_cons_succ, List.getElem_cons_zero, Act.put, List.setIfInBounds_toArray, List.set_cons_succ, List.set_cons_zero])
  refine wpAnyH_take (i := 2) rfl (by kernel_rfl) (by kernel_rfl) (by kernel_rfl) (fun _ _ _ h => h) (yieldsIf_load_mid (by rfl) _ _ rfl _ _ rfl X _ (fun w hSw => by (try dsimp only at hSw); go_split_ands; assumption) Try.underlying25 rfl IX.out) (by assumption) ?_
  (try simp only [List.getElem_toArray, List.getElem_cons_succ, List.getElem_cons_zero, Act.put, List.setIfInBounds_toArray, List.set_cons_succ, List.set_cons_zero])
  refine wpAnyH_ready (rs := [1]) (by kernel_rfl) (by simp) ?_
  refine AllReadyH.cons rfl (fun K hK => ?_) AllReadyH.nil
  (try simp only [List.getElem_toArray, List.getElem_cons_succ, List.getElem_cons_zero])
  go_simp
  go_at_call 17; refine (CBV.out _).mono ?_; rintro e' v3 ⟨A3, n3, c3, rfl, h3, h3c, h3m, d3⟩
  (try (go_wp2_with fail))
  refine hK.out _ _ ?_ (fun hHeld => ?_)
  · exact K0.out _ (by ((repeat (first | with_reducible exact Still.refl _ | with_reducible assumption | with_reducible apply Still.alloc | with_reducible apply Still.drew | with_reducible refine Still.step ?_ (by assumption) | with_reducible refine Still.trans ?_ (by assumption)))))
  clear hK K
  (try simp only [Act.put, List.setIfInBounds_toArray, List.set_cons_succ, List.set_cons_zero])
  refine wpAnyH_ready (rs := [3]) (by kernel_rfl) (by simp) ?_
  refine AllReadyH.cons rfl (fun K hK => ?_) AllReadyH.nil
  (try simp only [List.getElem_toArray, List.getElem_cons_succ, List.getElem_cons_zero])
  go_simp
  go_at_call 17; refine (CBX.out _).mono ?_; rintro e' v4 ⟨A4, n4, c4, rfl, h4, h4c, h4m, d4⟩
  (try (go_wp2_with fail))
  refine hK.out _ _ ?_ (fun hHeld => ?_)
  · exact K0.out _ (by ((repeat (first | with_reducible exact Still.refl _ | with_reducible assumption | with_reducible apply Still.alloc | with_reducible apply Still.drew | with_reducible refine Still.step ?_ (by assumption) | with_reducible refine Still.trans ?_ (by assumption)))))
  clear hK K
  (try simp only [Act.put, List.setIfInBounds_toArray, List.set_cons_succ, List.set_cons_zero])
  refine wpAnyH_ready (rs := [4]) (by kernel_rfl) (by simp) ?_
  refine AllReadyH.cons rfl (fun K hK => ?_) AllReadyH.nil
  (try simp only [List.getElem_toArray, List.getElem_cons_succ, List.getElem_cons_zero])
  go_simp
  go_at_call 23; refine (CWK.out _ _ _ _ _ _ _ (h3.still (by ((repeat (first | with_reducible exact Still.refl _ | with_reducible assumption | with_reducible apply Still.alloc | with_reducible apply Still.drew | with_reducible refine Still.step ?_ (by assumption) | with_reducible refine Still.trans ?_ (by assumption)))))) h4).mono ?_; rintro e' v5 ⟨rfl, d5⟩
  (try (go_wp2_with fail))
  refine hK.out _ _ ?_ (fun hHeld => ?_)
  · exact K0.out _ (by ((repeat (first | with_reducible exact Still.refl _ | with_reducible assumption | with_reducible apply Still.alloc | with_reducible apply Still.drew | with_reducible refine Still.step ?_ (by assumption) | with_reducible refine Still.trans ?_ (by assumption)))))
  clear hK K
  (try simp only [Act.put, List.setIfInBounds_toArray, List.set_cons_succ, List.set_cons_zero])
  refine wpAnyH_take (i := 5) (v := ?_) rfl (by kernel_rfl) (by kernel_rfl) (by kernel_rfl) (fun _ _ _ h => h) (Or.inl ⟨by rfl, ?_⟩) (by assumption) ?_
  rotate_left 1
  · intro w hSw; (try dsimp only at hSw); simp only [List.getElem_toArray, List.getElem_cons_succ, List.getElem_cons_zero]; go_simp; try (with_reducible rfl)
  (try simp only [List.getElem_toArray, List.getElem_cons_succ, List.getElem_cons_zero, Act.put, List.setIfInBounds_toArray, List.set_cons_succ, List.set_cons_zero])
  refine wpAnyH_ready (rs := [6]) (by kernel_rfl) (by simp) ?_
  refine AllReadyH.cons rfl (fun K hK => ?_) AllReadyH.nil
  (try simp only [List.getElem_toArray, List.getElem_cons_succ, List.getElem_cons_zero])
  go_simp
  go_at_call 13; refine (awake5_calls _).mono ?_; rintro e' va ⟨rfl, da⟩
  (try (go_wp2_with fail))
  refine hK.out _ _ ?_ (fun hHeld => ?_)
  · exact K0.out _ (by ((repeat (first | with_reducible exact Still.refl _ | with_reducible assumption | with_reducible apply Still.alloc | with_reducible apply Still.drew | with_reducible refine Still.step ?_ (by assumption) | with_reducible refine Still.trans ?_ (by assumption)))))
  clear hK K
  (try simp only [Act.put, List.setIfInBounds_toArray, List.set_cons_succ, List.set_cons_zero])
  refine wpAnyH_take (i := 7) (v := ?_) rfl (by kernel_rfl) (by kernel_rfl) (by kernel_rfl) (fun _ _ _ h => h) (Or.inl ⟨by rfl, ?_⟩) (by assumption) ?_
  rotate_left 1
  · intro w hSw; (try dsimp only at hSw); simp only [List.getElem_toArray, List.getElem_cons_succ, List.getElem_cons_zero]; go_simp; try (with_reducible rfl)
  (try simp only [List.getElem_toArray, List.getElem_cons_succ, List.getElem_cons_zero, Act.put, List.setIfInBounds_toArray, List.set_cons_succ, List.set_cons_zero])
  refine wpAnyH_take (i := 8) (v := ?_) rfl (by kernel_rfl) (by kernel_rfl) (by kernel_rfl) (fun _ _ _ h => h) (Or.inl ⟨by rfl, ?_⟩) (by assumption) ?_
  rotate_left 1
  · intro w hSw; (try dsimp only at hSw); simp only [List.getElem_toArray, List.getElem_cons_succ, List.getElem_cons_zero]; go_simp; try (with_reducible rfl)
  (try simp only [List.getElem_toArray, List.getElem_cons_succ, List.getElem_cons_zero, Act.put, List.setIfInBounds_toArray, List.set_cons_succ, List.set_cons_zero])
  refine wpAnyH_done (by kernel_rfl) ?_ _
  go_wp2_with fail
  go_ret
  exact ⟨rfl, HB2.out.trans (show Still w2 va by ((repeat (first | with_reducible exact Still.refl _ | with_reducible assumption | with_reducible apply Still.alloc | with_reducible apply Still.drew | with_reducible refine Still.step ?_ (by assumption) | with_reducible refine Still.trans ?_ (by assumption)))))⟩
theorem walk (u : U4) (w : World) (hu : u.ok) : Calls Try.prog 7 #[.agg u.arr] w (Ret w (.bool true)) := by
  rw [u.uA hu]
  by_cases h0 : u.val = 0
  · exact walk0 u.val (u.val_lt hu) h0 w
  · exact walkN u.val (u.val_lt hu) h0 w

set_option maxRecDepth 100000 in
theorem lifted (os : Os) (started : os.Started) (H : Type) (enc : TypeId × Value → H) :
    ReturnsInHanded {} Try.checked os 7 .any (Rows.compactWorksSpec.pre6 enc Try.prog Try.f7 Rows.compactWorksRow.domain false) (Rows.compactWorksSpec.post enc Try.prog Try.f7 false true false false) := by
  refine returnsInHanded_of_change (C := Try.checked) own started (by kernel_rfl) Try.func7
    (ChangeSpec.witness6 (enc := enc) (C := Try.checked) false ⟨#[], #[.agg #[.int .u64 0, .int .u64 0, .int .u64 0, .int .u64 0]], []⟩ 8 (by kernel_rfl) (by kernel_rfl) (by kernel_rfl) (by kernel_rfl)) ?_
  intro W base args ds gs before hval0 hW hcnd _
  have hval : ∀ (j : Nat) t v, Try.f7.params[j]? = some t → args[j]? = some v → Value.okWide Try.prog W .any base t v := hval0
  have hW' := hW
  obtain ⟨p, q, hA0, hV, rfl, hfz, hnd⟩ := hW
  have hA : DataW.TrodAll enc Try.prog W 0 (fun _ => true) true Try.f7.params.toList args.toList ds p := hA0
  rw [Try.params7] at hA hval
  obtain ⟨v0, vs0, d0, ds0, p0, q0, hargs, rfl, rfl, h0, r0⟩ := trodAll_cons hA
  obtain ⟨rfl, rfl, rfl⟩ := trodAll_nil r0
  obtain rfl : args = #[v0] := by cases args; simp_all
  obtain ⟨rfl, rfl⟩ := trodVars_none hV
  have k0 := h0
  have lt0 : ∀ x ∈ p0, x.block < W.heap.size := by obtain ⟨m, hm⟩ := k0; exact DataW.trod_lt m _ _ _ hm
  obtain ⟨a0, rfl, w0⟩ := arrW (hval 0 25 v0 rfl rfl) h0
  clear hA0 hval0
  refine (walk a0 W w0).mono fun e W' ⟨he, bel⟩ => ?_
  subst he
  exact ⟨_, rfl, _, _, _, [], _, [], hW', trodAll_mk1 (shut_bool Try.underlying4 _), (trodAll_cons_mk (Below.trod laidOut (by kernel_rfl) (of_decide_eq_true (by kernel_rfl)) k0 bel lt0) trodAll_mk0), rfl, bel.frame _, fun h => by cases h⟩

theorem over : Rows.compactWorksRow.holds Try.pinned (OpenSpec.ofChange Rows.compactWorksSpec) :=
  OpenClaim.holds_of_wide 7 Try.f7 rfl rfl rfl rfl rfl rfl rfl ⟨rfl, rfl, rfl, rfl, rfl⟩ rfl rfl rfl rfl rfl (by kernel_rfl) Try.func7 (by kernel_rfl)
    (of_decide_eq_true (by kernel_rfl)) (by unfold Func.isWrapper; first | (rw [if_pos (by decide +kernel)]; kernel_rfl) | (rw [if_neg (by decide +kernel)]; exact ⟨rfl, rfl⟩))
    (fun os started H enc _ => lifted os started H enc)

theorem proved : Rows.CompactWorksSaid := over
end Go.Proofs.Ytdgfgehjnfadnaa.compactWorks
