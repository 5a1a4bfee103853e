/- The contract of the laws' awake of layer 5. -/
import Derived.Test.YtdgfgehjnfadnaaCmpI
import Derived.Deep.RegionHeld3
import Derived.Deep.CutRange
import Derived.Deep.DeepCutAuto
namespace Go.Proofs.Ytdgfgehjnfadnaa
open Go.RowKit
set_option linter.unusedVariables false
set_option linter.unusedSimpArgs false

set_option maxRecDepth 100000 in
set_option maxHeartbeats 4000000 in
theorem awake5_calls (w : World) : Calls Try.prog 13 #[] w (Ret w (.bool true)) := by
  have gU := guardU
  obtain ⟨x, hx⟩ : ∃ x, x = 65535 * 2 ^ 208 := ⟨_, rfl⟩
  have bx : x < 2 ^ 256 := by rw [hx]; decide
  obtain ⟨X, hX⟩ : ∃ X, X = cellsW (wd x) := ⟨_, rfl⟩
  have IX : Hid ((Try.prog.info? 25).map (·.size) = some X.length) := Lib.hid (by rw [hX]; exact sizeW _)
  have LX : Hid (zerosW.length = X.length) := Lib.hid (by rw [hX]; rfl)
  have OX : Hid (∀ v ∈ X, v.oneCell' = true) := Lib.hid (by rw [hX]; exact cellsW_one _)
  obtain ⟨K1, hK1⟩ : ∃ X, X = cellsW (wd 65535) := ⟨_, rfl⟩
  have IK1 : Hid ((Try.prog.info? 25).map (·.size) = some K1.length) := Lib.hid (by rw [hK1]; exact sizeW _)
  have LK1 : Hid (zerosW.length = K1.length) := Lib.hid (by rw [hK1]; rfl)
  have OK1 : Hid (∀ v ∈ K1, v.oneCell' = true) := Lib.hid (by rw [hK1]; exact cellsW_one _)
  obtain ⟨K2, hK2⟩ : ∃ X, X = cellsW (wd 4295032833) := ⟨_, rfl⟩
  have IK2 : Hid ((Try.prog.info? 25).map (·.size) = some K2.length) := Lib.hid (by rw [hK2]; exact sizeW _)
  have LK2 : Hid (zerosW.length = K2.length) := Lib.hid (by rw [hK2]; rfl)
  have OK2 : Hid (∀ v ∈ K2, v.oneCell' = true) := Lib.hid (by rw [hK2]; exact cellsW_one _)
  obtain ⟨K3, hK3⟩ : ∃ X, X = cellsW (wd 128) := ⟨_, rfl⟩
  have IK3 : Hid ((Try.prog.info? 25).map (·.size) = some K3.length) := Lib.hid (by rw [hK3]; exact sizeW _)
  have LK3 : Hid (zerosW.length = K3.length) := Lib.hid (by rw [hK3]; rfl)
  have OK3 : Hid (∀ v ∈ K3, v.oneCell' = true) := Lib.hid (by rw [hK3]; exact cellsW_one _)
  have CT : Hid (∀ W, Calls Try.prog 10 #[.int .u32 486604799] W (Ret W (.tuple #[.agg X.toArray, .int .i64 0]))) := Lib.hid fun W => by
    have h := ctarget_yes 486604799 W (by decide) ex_tgt
    rw [ex_val, ← hx, ← hX] at h
    exact h
  have CO1 : Hid (∀ W, Calls Try.prog 24 #[.int .u64 65535] W (Ret W (.agg K1.toArray))) := Lib.hid fun W => by rw [hK1]; exact wof_calls 65535 W (by decide)
  have CO2 : Hid (∀ W, Calls Try.prog 24 #[.int .u64 4295032833] W (Ret W (.agg K2.toArray))) := Lib.hid fun W => by rw [hK2]; exact wof_calls 4295032833 W (by decide)
  have CO3 : Hid (∀ W, Calls Try.prog 24 #[.int .u64 128] W (Ret W (.agg K3.toArray))) := Lib.hid fun W => by rw [hK3]; exact wof_calls 128 W (by decide)
  have CS : Hid (∀ W, Calls Try.prog 28 #[.agg K1.toArray, .int .i64 208] W (Ret W (.agg X.toArray))) := Lib.hid fun W => by
    have h := shl_calls 65535 208 208 W (by decide) (by decide) (by decide)
    rw [← hx] at h
    rw [hK1, hX]
    exact h
  have CW : Hid (∀ W, Calls Try.prog 21 #[.agg X.toArray] W (Ret W (.agg K2.toArray))) := Lib.hid fun W => by
    have h := work_calls x W bx
    rw [show workN x = 4295032833 from by rw [hx]; exact ex_work, ← hX, ← hK2] at h
    exact h
  have CB : Hid (∀ W, Calls Try.prog 16 #[.agg K3.toArray] W (Ret W (.int .u32 33587200))) := Lib.hid fun W => by
    have h := cbits_calls 128 W (by decide)
    rw [ex_bits, ← hK3] at h
    exact h
  have CC : Hid (∀ W, Calls Try.prog 12 #[.int .u32 545259519] W (Ret W (.bool true))) := Lib.hid fun W => by
    have h := canon_calls 545259519 W (by decide)
    rw [ex_canon] at h
    exact h
  have heq1 : ∀ W, (Op.equalIn 10000 25 (.agg X.toArray) (.agg X.toArray)).run Try.prog W = .ok true W := fun W => by rw [hX]; exact u_same x W
  have heq2 : ∀ W, (Op.equalIn 10000 25 (.agg K2.toArray) (.agg K2.toArray)).run Try.prog W = .ok true W := fun W => by rw [hK2]; exact u_same 4295032833 W
  clear hX hK1 hK2 hK3 hx bx
  go_enter Try.func13, Try.ntmps13
  go_upto_region 2 with (first
    | (go_at_call 10; refine (CT.out _).mono ?_; rintro e' v1 ⟨rfl, d1⟩)
    | ((with_reducible refine at_store 25 (.tmp 1) (.tmp 5) ?_); refine wpList_store_blk rfl 25 (.tmp 1) (.tmp 5) rfl v1.heap.size zerosW X _ rfl rfl (Blk.new v1 _ _) LX.out IX.out OX.out ?_; intro w2 hbw2 how2; have dw2 := Only.still how2; clear how2))
  have K0 : Hid (∀ W, Still w2 W → (W.rangeAt v1.heap.size 0 X ∧ Still w2 W)) := Lib.hid fun W h => ⟨(Blk.stepS hbw2 h).range, h⟩
  have HB : Hid (Still w w2) := Lib.hid (by ((repeat (first | with_reducible exact Still.refl _ | with_reducible assumption | with_reducible apply Still.alloc | with_reducible apply Still.drew | with_reducible refine Still.step ?_ (by assumption) | with_reducible refine Still.trans ?_ (by assumption)))))
  clear hbw2 d1 dw2
  refine wp_region_held_drew (S := fun W => W.rangeAt v1.heap.size 0 X ∧ Still w2 W) (by kernel_rfl) ?_ (fun hHeld => ?_)
  · exact K0.out _ (by ((repeat (first | with_reducible exact Still.refl _ | with_reducible assumption | with_reducible apply Still.alloc | with_reducible apply Still.drew | with_reducible refine Still.step ?_ (by assumption) | with_reducible refine Still.trans ?_ (by assumption)))))
  refine wpAnyH_take (i := 0) (v := ?_) rfl (by kernel_rfl) (by kernel_rfl) (by kernel_rfl) (fun _ _ _ h => h) (Or.inl ⟨by rfl, ?_⟩) (by assumption) ?_
  rotate_left 1
  · intro w hSw; (try dsimp only at hSw); simp only [List.getElem_toArray, List.getElem_cons_succ, List.getElem_cons_zero]; go_simp; try (with_reducible rfl)
  (try simp only [List.getElem_toArray, List.getElem_cons_succ, List.getElem_cons_zero, Act.put, List.setIfInBounds_toArray, List.set_cons_succ, List.set_cons_zero])
  refine wpAnyH_take (i := 1) (v := ?_) rfl (by kernel_rfl) (by kernel_rfl) (by kernel_rfl) (fun _ _ _ h => h) (Or.inl ⟨by rfl, ?_⟩) (by assumption) ?_
  rotate_left 1
  · intro w hSw; (try dsimp only at hSw); simp only [List.getElem_toArray, List.getElem_cons_succ, List.getElem_cons_zero]; go_simp; try (with_reducible rfl)
  (try simp only [List.getElem_toArray, List.getElem_cons_succ, List.getElem_cons_zero, Act.put, List.setIfInBounds_toArray, List.set_cons_succ, List.set_cons_zero])
  refine wpAnyH_take (i := 2) (v := ?_) rfl (by kernel_rfl) (by kernel_rfl) (by kernel_rfl) (fun _ _ _ h => h) (Or.inl ⟨by rfl, ?_⟩) (by assumption) ?_
  rotate_left 1
  · intro w hSw; (try dsimp only at hSw); simp only [List.getElem_toArray, List.getElem_cons_succ, List.getElem_cons_zero]; go_simp; try (with_reducible rfl)
  (try simp only [List.getElem_toArray, List.getElem_cons_succ, List.getElem_cons_zero, Act.put, List.setIfInBounds_toArray, List.set_cons_succ, List.set_cons_zero])
  refine wpAnyH_take (i := 3) rfl (by kernel_rfl) (by kernel_rfl) (by kernel_rfl) (fun _ _ _ h => h) (yieldsIf_load_mid (by rfl) _ _ rfl _ _ rfl X _ (fun w hSw => by (try dsimp only at hSw); go_split_ands; assumption) Try.underlying25 rfl IX.out) (by assumption) ?_
  (try simp only [List.getElem_toArray, List.getElem_cons_succ, List.getElem_cons_zero, Act.put, List.setIfInBounds_toArray, List.set_cons_succ, List.set_cons_zero])
  refine wpAnyH_ready (rs := [4]) (by kernel_rfl) (by simp) ?_
  refine AllReadyH.cons rfl (fun K hK => ?_) AllReadyH.nil
  (try simp only [List.getElem_toArray, List.getElem_cons_succ, List.getElem_cons_zero])
  go_simp
  go_at_call 24; refine (CO1.out _).mono ?_; rintro e' v4 ⟨rfl, dv4⟩
  (try (go_wp2_with fail))
  refine hK.out _ _ ?_ (fun hHeld => ?_)
  · exact K0.out _ (by ((repeat (first | with_reducible exact Still.refl _ | with_reducible assumption | with_reducible apply Still.alloc | with_reducible apply Still.drew | with_reducible refine Still.step ?_ (by assumption) | with_reducible refine Still.trans ?_ (by assumption)))))
  clear hK K
  (try simp only [Act.put, List.setIfInBounds_toArray, List.set_cons_succ, List.set_cons_zero])
  refine wpAnyH_ready (rs := [5]) (by kernel_rfl) (by simp) ?_
  refine AllReadyH.cons rfl (fun K hK => ?_) AllReadyH.nil
  (try simp only [List.getElem_toArray, List.getElem_cons_succ, List.getElem_cons_zero])
  go_simp
  go_at_call 28; refine (CS.out _).mono ?_; rintro e' v5 ⟨rfl, dv5⟩
  (try (go_wp2_with fail))
  refine hK.out _ _ ?_ (fun hHeld => ?_)
  · exact K0.out _ (by ((repeat (first | with_reducible exact Still.refl _ | with_reducible assumption | with_reducible apply Still.alloc | with_reducible apply Still.drew | with_reducible refine Still.step ?_ (by assumption) | with_reducible refine Still.trans ?_ (by assumption)))))
  clear hK K
  (try simp only [Act.put, List.setIfInBounds_toArray, List.set_cons_succ, List.set_cons_zero])
  refine wpAnyH_take (i := 6) (v := ?_) rfl (by kernel_rfl) (by kernel_rfl) (by kernel_rfl) (fun _ _ _ h => h) (Or.inl ⟨by rfl, ?_⟩) (by assumption) ?_
  rotate_left 1
  · intro w hSw; (try dsimp only at hSw); simp only [List.getElem_toArray, List.getElem_cons_succ, List.getElem_cons_zero]; go_simp; try (with_reducible rfl)
  (try simp only [List.getElem_toArray, List.getElem_cons_succ, List.getElem_cons_zero, Act.put, List.setIfInBounds_toArray, List.set_cons_succ, List.set_cons_zero])
  refine wpAnyH_take (i := 7) (v := ?_) rfl (by kernel_rfl) (by kernel_rfl) (by kernel_rfl) (fun _ _ _ h => h) (Or.inl ⟨by rfl, ?_⟩) (by assumption) ?_
  rotate_left 1
  · intro w hSw; (try dsimp only at hSw); simp only [List.getElem_toArray, List.getElem_cons_succ, List.getElem_cons_zero]; go_simp; try (with_reducible rfl)
  (try simp only [List.getElem_toArray, List.getElem_cons_succ, List.getElem_cons_zero, Act.put, List.setIfInBounds_toArray, List.set_cons_succ, List.set_cons_zero])
  refine wpAnyH_take (i := 8) (v := ?_) rfl (by kernel_rfl) (by kernel_rfl) (by kernel_rfl) (fun _ _ _ h => h) (Or.inl ⟨by rfl, ?_⟩) (by assumption) ?_
  rotate_left 1
  · intro w hSw; (try dsimp only at hSw); simp only [List.getElem_toArray, List.getElem_cons_succ, List.getElem_cons_zero]; go_simp; try (with_reducible rfl)
  (try simp only [List.getElem_toArray, List.getElem_cons_succ, List.getElem_cons_zero, Act.put, List.setIfInBounds_toArray, List.set_cons_succ, List.set_cons_zero])
  refine wpAnyH_take (i := 9) rfl (by kernel_rfl) (by kernel_rfl) (by kernel_rfl) (fun _ _ _ h => h) (yieldsIf_load_mid (by rfl) _ _ rfl _ _ rfl X _ (fun w hSw => by (try dsimp only at hSw); go_split_ands; assumption) Try.underlying25 rfl IX.out) (by assumption) ?_
  (try simp only [List.getElem_toArray, List.getElem_cons_succ, List.getElem_cons_zero, Act.put, List.setIfInBounds_toArray, List.set_cons_succ, List.set_cons_zero])
  refine wpAnyH_ready (rs := [10]) (by kernel_rfl) (by simp) ?_
  refine AllReadyH.cons rfl (fun K hK => ?_) AllReadyH.nil
  (try simp only [List.getElem_toArray, List.getElem_cons_succ, List.getElem_cons_zero])
  go_simp
  go_at_call 21; refine (CW.out _).mono ?_; rintro e' v10 ⟨rfl, dv10⟩
  (try (go_wp2_with fail))
  refine hK.out _ _ ?_ (fun hHeld => ?_)
  · exact K0.out _ (by ((repeat (first | with_reducible exact Still.refl _ | with_reducible assumption | with_reducible apply Still.alloc | with_reducible apply Still.drew | with_reducible refine Still.step ?_ (by assumption) | with_reducible refine Still.trans ?_ (by assumption)))))
  clear hK K
  (try simp only [Act.put, List.setIfInBounds_toArray, List.set_cons_succ, List.set_cons_zero])
  refine wpAnyH_ready (rs := [11]) (by kernel_rfl) (by simp) ?_
  refine AllReadyH.cons rfl (fun K hK => ?_) AllReadyH.nil
  (try simp only [List.getElem_toArray, List.getElem_cons_succ, List.getElem_cons_zero])
  go_simp
  go_at_call 24; refine (CO2.out _).mono ?_; rintro e' v11 ⟨rfl, dv11⟩
  (try (go_wp2_with fail))
  refine hK.out _ _ ?_ (fun hHeld => ?_)
  · exact K0.out _ (by ((repeat (first | with_reducible exact Still.refl _ | with_reducible assumption | with_reducible apply Still.alloc | with_reducible apply Still.drew | with_reducible refine Still.step ?_ (by assumption) | with_reducible refine Still.trans ?_ (by assumption)))))
  clear hK K
  (try simp only [Act.put, List.setIfInBounds_toArray, List.set_cons_succ, List.set_cons_zero])
  refine wpAnyH_take (i := 12) (v := ?_) rfl (by kernel_rfl) (by kernel_rfl) (by kernel_rfl) (fun _ _ _ h => h) (Or.inl ⟨by rfl, ?_⟩) (by assumption) ?_
  rotate_left 1
  · intro w hSw; (try dsimp only at hSw); simp only [List.getElem_toArray, List.getElem_cons_succ, List.getElem_cons_zero]; go_simp; try (with_reducible rfl)
  (try simp only [List.getElem_toArray, List.getElem_cons_succ, List.getElem_cons_zero, Act.put, List.setIfInBounds_toArray, List.set_cons_succ, List.set_cons_zero])
  refine wpAnyH_take (i := 13) (v := ?_) rfl (by kernel_rfl) (by kernel_rfl) (by kernel_rfl) (fun _ _ _ h => h) (Or.inl ⟨by rfl, ?_⟩) (by assumption) ?_
  rotate_left 1
  · intro w hSw; (try dsimp only at hSw); simp only [List.getElem_toArray, List.getElem_cons_succ, List.getElem_cons_zero]; go_simp; try (with_reducible rfl)
  (try simp only [List.getElem_toArray, List.getElem_cons_succ, List.getElem_cons_zero, Act.put, List.setIfInBounds_toArray, List.set_cons_succ, List.set_cons_zero])
  refine wpAnyH_take (i := 14) (v := ?_) rfl (by kernel_rfl) (by kernel_rfl) (by kernel_rfl) (fun _ _ _ h => h) (Or.inl ⟨by rfl, ?_⟩) (by assumption) ?_
  rotate_left 1
  · intro w hSw; (try dsimp only at hSw); simp only [List.getElem_toArray, List.getElem_cons_succ, List.getElem_cons_zero]; go_simp; try (with_reducible rfl)
  (try simp only [List.getElem_toArray, List.getElem_cons_succ, List.getElem_cons_zero, Act.put, List.setIfInBounds_toArray, List.set_cons_succ, List.set_cons_zero])
  refine wpAnyH_ready (rs := [15]) (by kernel_rfl) (by simp) ?_
  refine AllReadyH.cons rfl (fun K hK => ?_) AllReadyH.nil
  (try simp only [List.getElem_toArray, List.getElem_cons_succ, List.getElem_cons_zero])
  go_simp
  go_at_call 24; refine (CO3.out _).mono ?_; rintro e' v15 ⟨rfl, dv15⟩
  (try (go_wp2_with fail))
  refine hK.out _ _ ?_ (fun hHeld => ?_)
  · exact K0.out _ (by ((repeat (first | with_reducible exact Still.refl _ | with_reducible assumption | with_reducible apply Still.alloc | with_reducible apply Still.drew | with_reducible refine Still.step ?_ (by assumption) | with_reducible refine Still.trans ?_ (by assumption)))))
  clear hK K
  (try simp only [Act.put, List.setIfInBounds_toArray, List.set_cons_succ, List.set_cons_zero])
  refine wpAnyH_ready (rs := [16]) (by kernel_rfl) (by simp) ?_
  refine AllReadyH.cons rfl (fun K hK => ?_) AllReadyH.nil
  (try simp only [List.getElem_toArray, List.getElem_cons_succ, List.getElem_cons_zero])
  go_simp
  go_at_call 16; refine (CB.out _).mono ?_; rintro e' v16 ⟨rfl, dv16⟩
  (try (go_wp2_with fail))
  refine hK.out _ _ ?_ (fun hHeld => ?_)
  · exact K0.out _ (by ((repeat (first | with_reducible exact Still.refl _ | with_reducible assumption | with_reducible apply Still.alloc | with_reducible apply Still.drew | with_reducible refine Still.step ?_ (by assumption) | with_reducible refine Still.trans ?_ (by assumption)))))
  clear hK K
  (try simp only [Act.put, List.setIfInBounds_toArray, List.set_cons_succ, List.set_cons_zero])
  refine wpAnyH_take (i := 17) (v := ?_) rfl (by kernel_rfl) (by kernel_rfl) (by kernel_rfl) (fun _ _ _ h => h) (Or.inl ⟨by rfl, ?_⟩) (by assumption) ?_
  rotate_left 1
  · intro w hSw; (try dsimp only at hSw); simp only [List.getElem_toArray, List.getElem_cons_succ, List.getElem_cons_zero]; go_simp; try (with_reducible rfl)
  (try simp only [List.getElem_toArray, List.getElem_cons_succ, List.getElem_cons_zero, Act.put, List.setIfInBounds_toArray, List.set_cons_succ, List.set_cons_zero])
  refine wpAnyH_take (i := 18) (v := ?_) rfl (by kernel_rfl) (by kernel_rfl) (by kernel_rfl) (fun _ _ _ h => h) (Or.inl ⟨by rfl, ?_⟩) (by assumption) ?_
  rotate_left 1
  · intro w hSw; (try dsimp only at hSw); simp only [List.getElem_toArray, List.getElem_cons_succ, List.getElem_cons_zero]; go_simp; try (with_reducible rfl)
  (try simp only [List.getElem_toArray, List.getElem_cons_succ, List.getElem_cons_zero, Act.put, List.setIfInBounds_toArray, List.set_cons_succ, List.set_cons_zero])
  refine wpAnyH_take (i := 19) (v := ?_) rfl (by kernel_rfl) (by kernel_rfl) (by kernel_rfl) (fun _ _ _ h => h) (Or.inl ⟨by rfl, ?_⟩) (by assumption) ?_
  rotate_left 1
  · intro w hSw; (try dsimp only at hSw); simp only [List.getElem_toArray, List.getElem_cons_succ, List.getElem_cons_zero]; go_simp; try (with_reducible rfl)
  (try simp only [List.getElem_toArray, List.getElem_cons_succ, List.getElem_cons_zero, Act.put, List.setIfInBounds_toArray, List.set_cons_succ, List.set_cons_zero])
  refine wpAnyH_ready (rs := [20]) (by kernel_rfl) (by simp) ?_
  refine AllReadyH.cons rfl (fun K hK => ?_) AllReadyH.nil
  (try simp only [List.getElem_toArray, List.getElem_cons_succ, List.getElem_cons_zero])
  go_simp
  go_at_call 12; refine (CC.out _).mono ?_; rintro e' v20 ⟨rfl, dv20⟩
  (try (go_wp2_with fail))
  refine hK.out _ _ ?_ (fun hHeld => ?_)
  · exact K0.out _ (by ((repeat (first | with_reducible exact Still.refl _ | with_reducible assumption | with_reducible apply Still.alloc | with_reducible apply Still.drew | with_reducible refine Still.step ?_ (by assumption) | with_reducible refine Still.trans ?_ (by assumption)))))
  clear hK K
  (try simp only [Act.put, List.setIfInBounds_toArray, List.set_cons_succ, List.set_cons_zero])
  refine wpAnyH_take (i := 21) (v := ?_) rfl (by kernel_rfl) (by kernel_rfl) (by kernel_rfl) (fun _ _ _ h => h) (Or.inl ⟨by rfl, ?_⟩) (by assumption) ?_
  rotate_left 1
  · intro w hSw; (try dsimp only at hSw); simp only [List.getElem_toArray, List.getElem_cons_succ, List.getElem_cons_zero]; go_simp; try (with_reducible rfl)
  (try simp only [List.getElem_toArray, List.getElem_cons_succ, List.getElem_cons_zero, Act.put, List.setIfInBounds_toArray, List.set_cons_succ, List.set_cons_zero])
  refine wpAnyH_take (i := 22) (v := ?_) rfl (by kernel_rfl) (by kernel_rfl) (by kernel_rfl) (fun _ _ _ h => h) (Or.inl ⟨by rfl, ?_⟩) (by assumption) ?_
  rotate_left 1
  · intro w hSw; (try dsimp only at hSw); simp only [List.getElem_toArray, List.getElem_cons_succ, List.getElem_cons_zero]; go_simp; try (with_reducible rfl)
  (try simp only [List.getElem_toArray, List.getElem_cons_succ, List.getElem_cons_zero, Act.put, List.setIfInBounds_toArray, List.set_cons_succ, List.set_cons_zero])
  refine wpAnyH_done (by kernel_rfl) ?_ _
  go_wp2_with fail
  go_ret
  exact ⟨rfl, HB.out.trans (show Still w2 v20 by ((repeat (first | with_reducible exact Still.refl _ | with_reducible assumption | with_reducible apply Still.alloc | with_reducible apply Still.drew | with_reducible refine Still.step ?_ (by assumption) | with_reducible refine Still.trans ?_ (by assumption)))))⟩
end Go.Proofs.Ytdgfgehjnfadnaa
