/- Merged texts: BrnW. -/
import Derived.Test.YtnfcnjboeocnmaaDoorMbm
import Derived.Deep.RegionHeld3
/- The contract of layer 9's awake. -/
namespace Go.Proofs.YtnfcnjboeocnmaaDoor
open Go.RowKit
set_option linter.unusedVariables false
set_option linter.unusedSimpArgs false

set_option maxRecDepth 100000 in
set_option maxHeartbeats 4000000 in
theorem awake9_calls (w : World) (hT : Tab w) : Calls Tryd.prog 8 #[] w (Ret w (.bool true)) := by
  obtain ⟨VA, hVA⟩ : ∃ V, V = h1a.map B8 := ⟨_, rfl⟩
  have lVA : VA.length = 32 := by rw [hVA]; rfl
  have LVA := Lib.hid lVA
  have D1 : Hid (∀ W, (Instr.build 35 #[(0, .int .u8 1)]).run Tryd.prog W = .ok (.agg VA.toArray) W) := Lib.hid fun W => by rw [hVA]; exact run_build W _ _ _ (by kernel_rfl)
  obtain ⟨VB, hVB⟩ : ∃ V, V = h2a.map B8 := ⟨_, rfl⟩
  have lVB : VB.length = 32 := by rw [hVB]; rfl
  have LVB := Lib.hid lVB
  have D2 : Hid (∀ W, (Instr.build 35 #[(0, .int .u8 2)]).run Tryd.prog W = .ok (.agg VB.toArray) W) := Lib.hid fun W => by rw [hVB]; exact run_build W _ _ _ (by kernel_rfl)
  obtain ⟨VC, hVC⟩ : ∃ V, V = h3a.map B8 := ⟨_, rfl⟩
  have lVC : VC.length = 32 := by rw [hVC]; rfl
  have LVC := Lib.hid lVC
  have D3 : Hid (∀ W, (Instr.build 35 #[(0, .int .u8 3)]).run Tryd.prog W = .ok (.agg VC.toArray) W) := Lib.hid fun W => by rw [hVC]; exact run_build W _ _ _ (by kernel_rfl)
  obtain ⟨RT, hRT⟩ : ∃ V, V = (rootH [h1a, h2a, h3a]).map B8 := ⟨_, rfl⟩
  have lr : (rootH [h1a, h2a, h3a]).length = 32 := rootH_len _ (fun h hh => by simp at hh; rcases hh with rfl | rfl | rfl <;> rfl)
  have IC : Hid ((Tryd.prog.info? 35).map (·.size) = some VC.length) := Lib.hid (by rw [lVC]; kernel_rfl)
  have HRD : Hid (∀ (W : World) (g : Nat), Blk W g (VA ++ VB ++ VC) 35 → RdH W (some ⟨g, 0, none⟩) 3 [h1a, h2a, h3a]) := Lib.hid fun W g h => by rw [hVA, hVB, hVC] at h; exact RdH.three rfl rfl rfl h
  have HVCR : Hid (∀ (W : World) (g : Nat), Blk W g (VA ++ VB ++ VC) 35 → W.rangeAt g (0 + 2 * 32) VC) := Lib.hid fun W g h j v hv => by
    rw [h.cell, List.getElem?_append_right (by rw [List.length_append]; omega), List.length_append, lVA, lVB, show 0 + 2 * 32 + j - (32 + 32) = j from by omega]
    exact hv
  have CM : Hid (∀ (W : World) (g : Nat), Below w.heap.size w W → Blk W g (VA ++ VB ++ VC) 35 → Calls Tryd.prog 9 #[.slice (some ⟨g, 0, none⟩) 3 3, .int .i64 2] W fun e w' => ∃ pb po c', e = .returned (.tuple #[.agg #[.int .i64 3, .int .i64 2, .slice (some ⟨pb, po, none⟩) 2 c'], .int .i64 0]) ∧ RdH w' (some ⟨pb, po, none⟩) 2 [h3a, pr h1a h2a] ∧ w'.rangeAt pb (po + 0 * 32) VC ∧ pb < w'.heap.size ∧ Below W.heap.size W w') := Lib.hid fun W g h1 h2 => by
    have := bmake_calls (some ⟨g, 0, none⟩) 3 3 2 [h1a, h2a, h3a] W (HRD.out W g h2) (hT.all h1) (by omega) (by omega) (by omega) (by unfold maxLen; omega)
    rw [depth3, pth3] at this
    refine this.mono ?_
    rintro e w' ⟨A', c', rfl, hr, _, _, hb⟩
    obtain ⟨pb, po, rfl, hlt, hga⟩ := hr.at_ (k := 0) (by omega)
    refine ⟨pb, po, c', rfl, hr, ?_, hlt, hb⟩
    rw [hVC]
    exact hga
  have CR' : Hid (∀ (W : World) (g : Nat), Below w.heap.size w W → Blk W g (VA ++ VB ++ VC) 35 → Calls Tryd.prog 20 #[.slice (some ⟨g, 0, none⟩) 3 3] W (Ret W (.agg RT.toArray))) := Lib.hid fun W g h1 h2 => by
    rw [hRT]
    exact groot_calls (some ⟨g, 0, none⟩) 3 3 _ W (HRD.out W g h2) (hT.all h1) (by omega) (by omega) (by unfold maxLen; omega)
  have CK' : Hid (∀ (W : World) (A : Option Addr) (c : Nat), Below w.heap.size w W → RdH W A 2 [h3a, pr h1a h2a] → Calls Tryd.prog 13 #[.agg #[.int .i64 3, .int .i64 2, .slice A 2 c], .agg RT.toArray, .agg VC.toArray] W (Ret W (.int .i64 0))) := Lib.hid fun W A c h1 h2 => by
    have := bcheck_calls 3 2 A 2 c [h3a, pr h1a h2a] (rootH [h1a, h2a, h3a]) h3a W h2 (hT.all h1) rfl lr
    have h0 := chk_made [h1a, h2a, h3a] 2 (by decide) (by decide) dbl3
    rw [show ([h1a, h2a, h3a] : List (List UInt8)).length = 3 from rfl, depth3, pth3] at h0
    have h0' : chk 3 2 [h3a, pr h1a h2a] (rootH [h1a, h2a, h3a]) h3a = 0 := h0
    rw [h0'] at this
    rw [hRT, hVC]
    exact this
  have heq : ∀ W, (Op.equalIn 10000 35 (.agg VC.toArray) (.agg VC.toArray)).run Tryd.prog W = .ok true W := fun W => by rw [hVC]; exact eqG32 _ _ rfl rfl true (by simp) W
  clear hVA hVB hVC lVA lVB lVC hRT lr HRD hT
  go_enter Tryd.func8, Tryd.ntmps8
  go_upto_region 2 with (first
    | ((with_reducible refine at_bldP 35 #[(0, .const (.int .u8 1))] ?_); refine wpList_bld rfl 35 _ rfl _ _ (by simp [Act.eval]) D1.out ?_)
    | ((with_reducible refine at_bldP 35 #[(0, .const (.int .u8 2))] ?_); refine wpList_bld rfl 35 _ rfl _ _ (by simp [Act.eval]) D2.out ?_)
    | ((with_reducible refine at_bldP 35 #[(0, .const (.int .u8 3))] ?_); refine wpList_bld rfl 35 _ rfl _ _ (by simp [Act.eval]) D3.out ?_)
    | ((with_reducible refine at_bsP 22 3 #[(0, .tmp 4), (1, .tmp 5), (2, .tmp 6)] ?_); refine wpList_bs3 rfl (.tmp 4) (.tmp 5) (.tmp 6) rfl VA VB VC (by first | rfl | simp [Act.eval]) (by first | rfl | simp [Act.eval]) (by first | rfl | simp [Act.eval]) LVA.out LVB.out LVC.out ?_; intro g1 x1 hb1 hg1 hB1))
  go_upto_region 3 with (first
    | (go_at_call 9; refine (CM.out _ g1 hB1 hb1).mono ?_; rintro e' x2 ⟨pb, po, c', rfl, hr2, hp2, hl2, d2⟩)
    | ((with_reducible refine at_alloc 25 ?_); refine wpList_allocT rfl 25 [.int .i64 0, .int .i64 0, .slice none 0 0] Z3b rfl w.heap.size w (below_more hB1 d2) (Nat.le_refl _) ?_; intro g2 x4 hb4 hg4 hl4 hf4 hB4)
    | ((with_reducible refine at_store 25 (.tmp 2) (.tmp 11) ?_); refine wpList_store_blk rfl 25 (.tmp 2) (.tmp 11) rfl g2 [.int .i64 0, .int .i64 0, .slice none 0 0] [.int .i64 3, .int .i64 2, .slice (some ⟨pb, po, none⟩) 2 c'] 25 rfl rfl hb4 rfl I3b (by simp [Value.oneCell']) ?_; intro x3 hb3 ho3))
  have hd2 := d2.size
  have hb1l := hb1.lt
  have hB3 : Below w.heap.size w x3 := hB4.trans (ho3.below (by have := hB1.size; omega))
  have hg13 := ho3.blk ((hb1.up d2).stepF hf4) (by omega)
  have hp3 : Below x2.heap.size x2 x3 := (hf4.below (Nat.le_refl _) (fun _ h => h.elim)).trans (ho3.below (by omega))
  have hr3 := hr2.below hp3
  have hpr3 := range_below hp2 hp3 hl2
  have K0 : Hid (∀ W, Below x3.heap.size x3 W → W.cell? ⟨g2, 0, none⟩ = some (.int .i64 3) ∧ W.cell? ⟨g2, 1, none⟩ = some (.int .i64 2) ∧ W.cell? ⟨g2, 2, none⟩ = some (.slice (some ⟨pb, po, none⟩) 2 c') ∧ W.rangeAt g2 0 [.int .i64 3, .int .i64 2, .slice (some ⟨pb, po, none⟩) 2 c'] ∧ W.rangeAt pb (po + 0 * 32) VC ∧ W.rangeAt g1 (0 + 2 * 32) VC) := Lib.hid fun W h => ⟨(hb3.up h).cell 0, (hb3.up h).cell 1, (hb3.up h).cell 2, (hb3.up h).range, range_below hpr3 h (Nat.lt_of_lt_of_le hl2 hp3.size), HVCR.out W g1 (hg13.up h)⟩
  have CR : Hid (∀ (W : World), Below x3.heap.size x3 W → Calls Tryd.prog 20 #[.slice (some ⟨g1, 0, none⟩) 3 3] W (Ret W (.agg RT.toArray))) := Lib.hid fun W h => CR'.out W g1 (below_more hB3 h) (hg13.up h)
  have CK : Hid (∀ (W : World), Below x3.heap.size x3 W → Calls Tryd.prog 13 #[.agg #[.int .i64 3, .int .i64 2, .slice (some ⟨pb, po, none⟩) 2 c'], .agg RT.toArray, .agg VC.toArray] W (Ret W (.int .i64 0))) := Lib.hid fun W h => CK'.out W _ c' (below_more hB3 h) (hr3.below h)
  clear hb1 hb3 hb4 hf4 hB4 ho3 hr2 hp2 d2 hr3 hpr3 hp3 hg13 CR' CK' CM HVCR D1 D2 D3 hB1
  refine wp_region_held_drew (S := fun W => W.cell? ⟨g2, 0, none⟩ = some (.int .i64 3) ∧ W.cell? ⟨g2, 1, none⟩ = some (.int .i64 2) ∧ W.cell? ⟨g2, 2, none⟩ = some (.slice (some ⟨pb, po, none⟩) 2 c') ∧ W.rangeAt g2 0 [.int .i64 3, .int .i64 2, .slice (some ⟨pb, po, none⟩) 2 c'] ∧ W.rangeAt pb (po + 0 * 32) VC ∧ W.rangeAt g1 (0 + 2 * 32) VC) (by kernel_rfl) ?_ (fun hHeld => ?_)
  · exact K0.out _ (by ((repeat (first | with_reducible assumption | with_reducible exact Below.refl _ _ | with_reducible apply below_al | with_reducible apply below_dr | with_reducible refine below_more ?_ (by assumption)))))
  refine wpAnyH_take (i := 0) (v := ?_) rfl (by kernel_rfl) (by kernel_rfl) (by kernel_rfl) (fun _ _ _ h => h) (Or.inl ⟨by rfl, ?_⟩) (by assumption) ?_
  rotate_left 1
  · intro w hSw; (try dsimp only at hSw); simp only [List.getElem_toArray, List.getElem_cons_succ, List.getElem_cons_zero]; go_simp; try (with_reducible rfl)
  (try simp only [List.getElem_toArray, List.getElem_cons_succ, List.getElem_cons_zero, Act.put, List.setIfInBounds_toArray, List.set_cons_succ, List.set_cons_zero])
  refine wpAnyH_take (i := 1) (v := ?_) rfl (by kernel_rfl) (by kernel_rfl) (by kernel_rfl) (fun _ _ _ h => h) (Or.inl ⟨by rfl, ?_⟩) (by assumption) ?_
  rotate_left 1
  · intro w hSw; (try dsimp only at hSw); simp only [List.getElem_toArray, List.getElem_cons_succ, List.getElem_cons_zero]; go_simp; try (with_reducible rfl)
  (try simp only [List.getElem_toArray, List.getElem_cons_succ, List.getElem_cons_zero, Act.put, List.setIfInBounds_toArray, List.set_cons_succ, List.set_cons_zero])
  refine wpAnyH_take (i := 2) (v := ?_) rfl (by kernel_rfl) (by kernel_rfl) (by kernel_rfl) (fun _ _ _ h => h) (Or.inl ⟨by rfl, ?_⟩) (by assumption) ?_
  rotate_left 1
  · intro w hSw; (try dsimp only at hSw); simp only [List.getElem_toArray, List.getElem_cons_succ, List.getElem_cons_zero]; go_simp; try (with_reducible rfl)
  (try simp only [List.getElem_toArray, List.getElem_cons_succ, List.getElem_cons_zero, Act.put, List.setIfInBounds_toArray, List.set_cons_succ, List.set_cons_zero])
  refine wpAnyH_take (i := 3) (v := ?_) rfl (by kernel_rfl) (by kernel_rfl) (by kernel_rfl) (fun _ _ _ h => h) (Or.inl ⟨by rfl, ?_⟩) (by assumption) ?_
  rotate_left 1
  · intro w hSw; (try dsimp only at hSw); simp only [List.getElem_toArray, List.getElem_cons_succ, List.getElem_cons_zero]; go_simp; try (with_reducible rfl)
  (try simp only [List.getElem_toArray, List.getElem_cons_succ, List.getElem_cons_zero, Act.put, List.setIfInBounds_toArray, List.set_cons_succ, List.set_cons_zero])
  refine wpAnyH_take (i := 4) (v := ?_) rfl (by kernel_rfl) (by kernel_rfl) (by kernel_rfl) (fun _ _ _ h => h) (Or.inl ⟨by rfl, ?_⟩) (by assumption) ?_
  rotate_left 1
  · intro w hSw; (try dsimp only at hSw); simp only [List.getElem_toArray, List.getElem_cons_succ, List.getElem_cons_zero]; go_simp; try (with_reducible rfl)
  (try simp only [List.getElem_toArray, List.getElem_cons_succ, List.getElem_cons_zero, Act.put, List.setIfInBounds_toArray, List.set_cons_succ, List.set_cons_zero])
  refine wpAnyH_take (i := 5) (v := ?_) rfl (by kernel_rfl) (by kernel_rfl) (by kernel_rfl) (fun _ _ _ h => h) (Or.inl ⟨by rfl, ?_⟩) (by assumption) ?_
  rotate_left 1
  · intro w hSw; (try dsimp only at hSw); simp only [List.getElem_toArray, List.getElem_cons_succ, List.getElem_cons_zero]; go_simp; try (with_reducible rfl)
  (try simp only [List.getElem_toArray, List.getElem_cons_succ, List.getElem_cons_zero, Act.put, List.setIfInBounds_toArray, List.set_cons_succ, List.set_cons_zero])
  refine wpAnyH_take (i := 6) (v := ?_) rfl (by kernel_rfl) (by kernel_rfl) (by kernel_rfl) (fun _ _ _ h => h) (Or.inl ⟨by rfl, ?_⟩) (by assumption) ?_
  rotate_left 1
  · intro w hSw; (try dsimp only at hSw); simp only [List.getElem_toArray, List.getElem_cons_succ, List.getElem_cons_zero]; go_simp; try (with_reducible rfl)
  (try simp only [List.getElem_toArray, List.getElem_cons_succ, List.getElem_cons_zero, Act.put, List.setIfInBounds_toArray, List.set_cons_succ, List.set_cons_zero])
  refine wpAnyH_take (i := 7) (v := ?_) rfl (by kernel_rfl) (by kernel_rfl) (by kernel_rfl) (fun _ _ _ h => h) (Or.inl ⟨by rfl, ?_⟩) (by assumption) ?_
  rotate_left 1
  · intro w hSw; (try dsimp only at hSw); simp only [List.getElem_toArray, List.getElem_cons_succ, List.getElem_cons_zero]; go_simp; try (with_reducible rfl)
  (try simp only [List.getElem_toArray, List.getElem_cons_succ, List.getElem_cons_zero, Act.put, List.setIfInBounds_toArray, List.set_cons_succ, List.set_cons_zero])
  refine wpAnyH_take (i := 8) (v := ?_) rfl (by kernel_rfl) (by kernel_rfl) (by kernel_rfl) (fun _ _ _ h => h) (Or.inl ⟨by rfl, ?_⟩) (by assumption) ?_
  rotate_left 1
  · intro w hSw; (try dsimp only at hSw); simp only [List.getElem_toArray, List.getElem_cons_succ, List.getElem_cons_zero]; go_simp; try (with_reducible rfl)
  (try simp only [List.getElem_toArray, List.getElem_cons_succ, List.getElem_cons_zero, Act.put, List.setIfInBounds_toArray, List.set_cons_succ, List.set_cons_zero])
  refine wpAnyH_take (i := 9) (v := ?_) rfl (by kernel_rfl) (by kernel_rfl) (by kernel_rfl) (fun _ _ _ h => h) (Or.inl ⟨by rfl, ?_⟩) (by assumption) ?_
  rotate_left 1
  · intro w hSw; (try dsimp only at hSw); simp only [List.getElem_toArray, List.getElem_cons_succ, List.getElem_cons_zero]; go_simp; try (with_reducible rfl)
  (try simp only [List.getElem_toArray, List.getElem_cons_succ, List.getElem_cons_zero, Act.put, List.setIfInBounds_toArray, List.set_cons_succ, List.set_cons_zero])
  refine wpAnyH_take (i := 10) (v := ?_) rfl (by kernel_rfl) (by kernel_rfl) (by kernel_rfl) (fun _ _ _ h => h) (Or.inl ⟨by rfl, ?_⟩) (by assumption) ?_
  rotate_left 1
  · intro w hSw; (try dsimp only at hSw); simp only [List.getElem_toArray, List.getElem_cons_succ, List.getElem_cons_zero]; go_simp; try (with_reducible rfl)
  (try simp only [List.getElem_toArray, List.getElem_cons_succ, List.getElem_cons_zero, Act.put, List.setIfInBounds_toArray, List.set_cons_succ, List.set_cons_zero])
  refine wpAnyH_take (i := 11) (v := ?_) rfl (by kernel_rfl) (by kernel_rfl) (by kernel_rfl) (fun _ _ _ h => h) (Or.inl ⟨by rfl, ?_⟩) (by assumption) ?_
  rotate_left 1
  · intro w hSw; (try dsimp only at hSw); simp only [List.getElem_toArray, List.getElem_cons_succ, List.getElem_cons_zero]; go_simp; try (with_reducible rfl)
  (try simp only [List.getElem_toArray, List.getElem_cons_succ, List.getElem_cons_zero, Act.put, List.setIfInBounds_toArray, List.set_cons_succ, List.set_cons_zero])
  refine wpAnyH_take (i := 12) (v := ?_) rfl (by kernel_rfl) (by kernel_rfl) (by kernel_rfl) (fun _ _ _ h => h) (Or.inl ⟨by rfl, ?_⟩) (by assumption) ?_
  rotate_left 1
  · intro w hSw; (try dsimp only at hSw); simp only [List.getElem_toArray, List.getElem_cons_succ, List.getElem_cons_zero]; go_simp; try (with_reducible rfl)
  (try simp only [List.getElem_toArray, List.getElem_cons_succ, List.getElem_cons_zero, Act.put, List.setIfInBounds_toArray, List.set_cons_succ, List.set_cons_zero])
  refine wpAnyH_take (i := 13) (v := ?_) rfl (by kernel_rfl) (by kernel_rfl) (by kernel_rfl) (fun _ _ _ h => h) (Or.inl ⟨by rfl, ?_⟩) (by assumption) ?_
  rotate_left 1
  · intro w hSw; (try dsimp only at hSw); simp only [List.getElem_toArray, List.getElem_cons_succ, List.getElem_cons_zero]; go_simp; try (with_reducible rfl)
  (try simp only [List.getElem_toArray, List.getElem_cons_succ, List.getElem_cons_zero, Act.put, List.setIfInBounds_toArray, List.set_cons_succ, List.set_cons_zero])
  refine wpAnyH_take (i := 14) (v := ?_) rfl (by kernel_rfl) (by kernel_rfl) (by kernel_rfl) (fun _ _ _ h => h) (Or.inl ⟨by rfl, ?_⟩) (by assumption) ?_
  rotate_left 1
  · intro w hSw; (try dsimp only at hSw); simp only [List.getElem_toArray, List.getElem_cons_succ, List.getElem_cons_zero]; go_simp; try (with_reducible rfl)
  (try simp only [List.getElem_toArray, List.getElem_cons_succ, List.getElem_cons_zero, Act.put, List.setIfInBounds_toArray, List.set_cons_succ, List.set_cons_zero])
  refine wpAnyH_take (i := 15) (v := ?_) rfl (by kernel_rfl) (by kernel_rfl) (by kernel_rfl) (fun _ _ _ h => h) (Or.inl ⟨by rfl, ?_⟩) (by assumption) ?_
  rotate_left 1
  · intro w hSw; (try dsimp only at hSw); simp only [List.getElem_toArray, List.getElem_cons_succ, List.getElem_cons_zero]; go_simp; try (with_reducible rfl)
  (try simp only [List.getElem_toArray, List.getElem_cons_succ, List.getElem_cons_zero, Act.put, List.setIfInBounds_toArray, List.set_cons_succ, List.set_cons_zero])
  refine wpAnyH_take (i := 16) (v := ?_) rfl (by kernel_rfl) (by kernel_rfl) (by kernel_rfl) (fun _ _ _ h => h) (Or.inl ⟨by rfl, ?_⟩) (by assumption) ?_
  rotate_left 1
  · intro w hSw; (try dsimp only at hSw); simp only [List.getElem_toArray, List.getElem_cons_succ, List.getElem_cons_zero]; go_simp; try (with_reducible rfl)
  (try simp only [List.getElem_toArray, List.getElem_cons_succ, List.getElem_cons_zero, Act.put, List.setIfInBounds_toArray, List.set_cons_succ, List.set_cons_zero])
  refine wpAnyH_take (i := 17) (v := ?_) rfl (by kernel_rfl) (by kernel_rfl) (by kernel_rfl) (fun _ _ _ h => h) (Or.inl ⟨by rfl, ?_⟩) (by assumption) ?_
  rotate_left 1
  · intro w hSw; (try dsimp only at hSw); simp only [List.getElem_toArray, List.getElem_cons_succ, List.getElem_cons_zero]; go_simp; try (with_reducible rfl)
  (try simp only [List.getElem_toArray, List.getElem_cons_succ, List.getElem_cons_zero, Act.put, List.setIfInBounds_toArray, List.set_cons_succ, List.set_cons_zero])
  refine wpAnyH_take (i := 18) (v := ?_) rfl (by kernel_rfl) (by kernel_rfl) (by kernel_rfl) (fun _ _ _ h => h) (Or.inl ⟨by rfl, ?_⟩) (by assumption) ?_
  rotate_left 1
  · intro w hSw; (try dsimp only at hSw); simp only [List.getElem_toArray, List.getElem_cons_succ, List.getElem_cons_zero]; go_simp; try (with_reducible rfl)
  (try simp only [List.getElem_toArray, List.getElem_cons_succ, List.getElem_cons_zero, Act.put, List.setIfInBounds_toArray, List.set_cons_succ, List.set_cons_zero])
  refine wpAnyH_take (i := 19) (v := ?_) rfl (by kernel_rfl) (by kernel_rfl) (by kernel_rfl) (fun _ _ _ h => h) (Or.inl ⟨by rfl, ?_⟩) (by assumption) ?_
  rotate_left 1
  · intro w hSw; (try dsimp only at hSw); simp only [List.getElem_toArray, List.getElem_cons_succ, List.getElem_cons_zero]; go_simp; try (with_reducible rfl)
  (try simp only [List.getElem_toArray, List.getElem_cons_succ, List.getElem_cons_zero, Act.put, List.setIfInBounds_toArray, List.set_cons_succ, List.set_cons_zero])
  refine wpAnyH_take (i := 20) (v := ?_) rfl (by kernel_rfl) (by kernel_rfl) (by kernel_rfl) (fun _ _ _ h => h) (Or.inl ⟨by rfl, ?_⟩) (by assumption) ?_
  rotate_left 1
  · intro w hSw; (try dsimp only at hSw); simp only [List.getElem_toArray, List.getElem_cons_succ, List.getElem_cons_zero]; go_simp; try (with_reducible rfl)
  (try simp only [List.getElem_toArray, List.getElem_cons_succ, List.getElem_cons_zero, Act.put, List.setIfInBounds_toArray, List.set_cons_succ, List.set_cons_zero])
  refine wpAnyH_take (i := 21) (v := ?_) rfl (by kernel_rfl) (by kernel_rfl) (by kernel_rfl) (fun _ _ _ h => h) (Or.inl ⟨by rfl, ?_⟩) (by assumption) ?_
  rotate_left 1
  · intro w hSw; (try dsimp only at hSw); simp only [List.getElem_toArray, List.getElem_cons_succ, List.getElem_cons_zero]; go_simp; try (with_reducible rfl)
  (try simp only [List.getElem_toArray, List.getElem_cons_succ, List.getElem_cons_zero, Act.put, List.setIfInBounds_toArray, List.set_cons_succ, List.set_cons_zero])
  refine wpAnyH_take (i := 22) rfl (by kernel_rfl) (by kernel_rfl) (by kernel_rfl) (fun _ _ _ h => h) (yieldsIf_load_mid (by rfl) _ _ rfl _ _ rfl VC _ (fun w hSw => by (try dsimp only at hSw); go_split_ands; assumption) Tryd.underlying35 rfl IC.out) (by assumption) ?_
  (try simp only [List.getElem_toArray, List.getElem_cons_succ, List.getElem_cons_zero, Act.put, List.setIfInBounds_toArray, List.set_cons_succ, List.set_cons_zero])
  refine wpAnyH_take (i := 23) (v := ?_) rfl (by kernel_rfl) (by kernel_rfl) (by kernel_rfl) (fun _ _ _ h => h) (Or.inl ⟨by rfl, ?_⟩) (by assumption) ?_
  rotate_left 1
  · intro w hSw; (try dsimp only at hSw); simp only [List.getElem_toArray, List.getElem_cons_succ, List.getElem_cons_zero]; go_simp; try (with_reducible rfl)
  (try simp only [List.getElem_toArray, List.getElem_cons_succ, List.getElem_cons_zero, Act.put, List.setIfInBounds_toArray, List.set_cons_succ, List.set_cons_zero])
  refine wpAnyH_take (i := 24) (v := ?_) rfl (by kernel_rfl) (by kernel_rfl) (by kernel_rfl) (fun _ _ _ h => h) (Or.inl ⟨by rfl, ?_⟩) (by assumption) ?_
  rotate_left 1
  · intro w hSw; (try dsimp only at hSw); simp only [List.getElem_toArray, List.getElem_cons_succ, List.getElem_cons_zero]; go_simp; try (with_reducible rfl)
  (try simp only [List.getElem_toArray, List.getElem_cons_succ, List.getElem_cons_zero, Act.put, List.setIfInBounds_toArray, List.set_cons_succ, List.set_cons_zero])
  refine wpAnyH_take (i := 25) rfl (by kernel_rfl) (by kernel_rfl) (by kernel_rfl) (fun _ _ _ h => h) (yieldsIf_load_mid (by rfl) _ _ rfl _ _ rfl VC _ (fun w hSw => by (try dsimp only at hSw); go_split_ands; assumption) Tryd.underlying35 rfl IC.out) (by assumption) ?_
  (try simp only [List.getElem_toArray, List.getElem_cons_succ, List.getElem_cons_zero, Act.put, List.setIfInBounds_toArray, List.set_cons_succ, List.set_cons_zero])
  refine wpAnyH_take (i := 26) (v := ?_) rfl (by kernel_rfl) (by kernel_rfl) (by kernel_rfl) (fun _ _ _ h => h) (Or.inl ⟨by rfl, ?_⟩) (by assumption) ?_
  rotate_left 1
  · intro w hSw; (try dsimp only at hSw); simp only [List.getElem_toArray, List.getElem_cons_succ, List.getElem_cons_zero]; go_simp; try (with_reducible rfl)
  (try simp only [List.getElem_toArray, List.getElem_cons_succ, List.getElem_cons_zero, Act.put, List.setIfInBounds_toArray, List.set_cons_succ, List.set_cons_zero])
  refine wpAnyH_take (i := 27) (v := ?_) rfl (by kernel_rfl) (by kernel_rfl) (by kernel_rfl) (fun _ _ _ h => h) (Or.inl ⟨by rfl, ?_⟩) (by assumption) ?_
  rotate_left 1
  · intro w hSw; (try dsimp only at hSw); simp only [List.getElem_toArray, List.getElem_cons_succ, List.getElem_cons_zero]; go_simp; try (with_reducible rfl)
  (try simp only [List.getElem_toArray, List.getElem_cons_succ, List.getElem_cons_zero, Act.put, List.setIfInBounds_toArray, List.set_cons_succ, List.set_cons_zero])
  refine wpAnyH_take (i := 28) (v := ?_) rfl (by kernel_rfl) (by kernel_rfl) (by kernel_rfl) (fun _ _ _ h => h) (Or.inl ⟨by rfl, ?_⟩) (by assumption) ?_
  rotate_left 1
  · intro w hSw; (try dsimp only at hSw); simp only [List.getElem_toArray, List.getElem_cons_succ, List.getElem_cons_zero]; go_simp; try (with_reducible rfl)
  (try simp only [List.getElem_toArray, List.getElem_cons_succ, List.getElem_cons_zero, Act.put, List.setIfInBounds_toArray, List.set_cons_succ, List.set_cons_zero])
  refine wpAnyH_take (i := 29) rfl (by kernel_rfl) (by kernel_rfl) (by kernel_rfl) (fun _ _ _ h => h) (yieldsIf_load_mid (by rfl) _ _ rfl _ _ rfl [.int .i64 3, .int .i64 2, .slice (some ⟨pb, po, none⟩) 2 c'] _ (fun w hSw => by (try dsimp only at hSw); go_split_ands; assumption) Tryd.underlying25 rfl (by kernel_rfl)) (by assumption) ?_
  (try simp only [List.getElem_toArray, List.getElem_cons_succ, List.getElem_cons_zero, Act.put, List.setIfInBounds_toArray, List.set_cons_succ, List.set_cons_zero])
  refine wpAnyH_take (i := 30) (v := ?_) rfl (by kernel_rfl) (by kernel_rfl) (by kernel_rfl) (fun _ _ _ h => h) (Or.inl ⟨by rfl, ?_⟩) (by assumption) ?_
  rotate_left 1
  · intro w hSw; (try dsimp only at hSw); simp only [List.getElem_toArray, List.getElem_cons_succ, List.getElem_cons_zero]; go_simp; try (with_reducible rfl)
  (try simp only [List.getElem_toArray, List.getElem_cons_succ, List.getElem_cons_zero, Act.put, List.setIfInBounds_toArray, List.set_cons_succ, List.set_cons_zero])
  refine wpAnyH_take (i := 32) (v := ?_) rfl (by kernel_rfl) (by kernel_rfl) (by kernel_rfl) (fun _ _ _ h => h) (Or.inl ⟨by rfl, ?_⟩) (by assumption) ?_
  rotate_left 1
  · intro w hSw; (try dsimp only at hSw); simp only [List.getElem_toArray, List.getElem_cons_succ, List.getElem_cons_zero]; go_simp; try (with_reducible rfl)
  (try simp only [List.getElem_toArray, List.getElem_cons_succ, List.getElem_cons_zero, Act.put, List.setIfInBounds_toArray, List.set_cons_succ, List.set_cons_zero])
  refine wpAnyH_take (i := 33) (v := ?_) rfl (by kernel_rfl) (by kernel_rfl) (by kernel_rfl) (fun _ _ _ h => h) (Or.inl ⟨by rfl, ?_⟩) (by assumption) ?_
  rotate_left 1
  · intro w hSw; (try dsimp only at hSw); simp only [List.getElem_toArray, List.getElem_cons_succ, List.getElem_cons_zero]; go_simp; try (with_reducible rfl)
  (try simp only [List.getElem_toArray, List.getElem_cons_succ, List.getElem_cons_zero, Act.put, List.setIfInBounds_toArray, List.set_cons_succ, List.set_cons_zero])
  refine wpAnyH_take (i := 34) rfl (by kernel_rfl) (by kernel_rfl) (by kernel_rfl) (fun _ _ _ h => h) (yieldsIf_load_mid (by rfl) _ _ rfl _ _ rfl VC _ (fun w hSw => by (try dsimp only at hSw); go_split_ands; assumption) Tryd.underlying35 rfl IC.out) (by assumption) ?_
  (try simp only [List.getElem_toArray, List.getElem_cons_succ, List.getElem_cons_zero, Act.put, List.setIfInBounds_toArray, List.set_cons_succ, List.set_cons_zero])
  refine wpAnyH_ready (rs := [31]) (by kernel_rfl) (by simp) ?_
  refine AllReadyH.cons rfl (fun K hK => ?_) AllReadyH.nil
  (try simp only [List.getElem_toArray, List.getElem_cons_succ, List.getElem_cons_zero])
  go_simp
  go_at_call 20; refine (CR.out _ (by ((repeat (first | with_reducible assumption | with_reducible exact Below.refl _ _ | with_reducible apply below_al | with_reducible apply below_dr | with_reducible refine below_more ?_ (by assumption)))))).mono ?_; rintro e' y31 ⟨rfl, d31⟩
  (try (go_wp2_with fail))
  refine hK.out _ _ ?_ (fun hHeld => ?_)
  · exact K0.out _ (by ((repeat (first | with_reducible assumption | with_reducible exact Below.refl _ _ | with_reducible apply below_al | with_reducible apply below_dr | with_reducible refine below_more ?_ (by assumption)))))
  clear hK K
  (try simp only [Act.put, List.setIfInBounds_toArray, List.set_cons_succ, List.set_cons_zero])
  refine wpAnyH_ready (rs := [35]) (by kernel_rfl) (by simp) ?_
  refine AllReadyH.cons rfl (fun K hK => ?_) AllReadyH.nil
  (try simp only [List.getElem_toArray, List.getElem_cons_succ, List.getElem_cons_zero])
  go_simp
  go_at_call 13; refine (CK.out _ (by ((repeat (first | with_reducible assumption | with_reducible exact Below.refl _ _ | with_reducible apply below_al | with_reducible apply below_dr | with_reducible refine below_more ?_ (by assumption)))))).mono ?_; rintro e' y35 ⟨rfl, d35⟩
  (try (go_wp2_with fail))
  refine hK.out _ _ ?_ (fun hHeld => ?_)
  · exact K0.out _ (by ((repeat (first | with_reducible assumption | with_reducible exact Below.refl _ _ | with_reducible apply below_al | with_reducible apply below_dr | with_reducible refine below_more ?_ (by assumption)))))
  clear hK K
  (try simp only [Act.put, List.setIfInBounds_toArray, List.set_cons_succ, List.set_cons_zero])
  refine wpAnyH_take (i := 36) (v := ?_) rfl (by kernel_rfl) (by kernel_rfl) (by kernel_rfl) (fun _ _ _ h => h) (Or.inl ⟨by rfl, ?_⟩) (by assumption) ?_
  rotate_left 1
  · intro w hSw; (try dsimp only at hSw); simp only [List.getElem_toArray, List.getElem_cons_succ, List.getElem_cons_zero]; go_simp; try (with_reducible rfl)
  (try simp only [List.getElem_toArray, List.getElem_cons_succ, List.getElem_cons_zero, Act.put, List.setIfInBounds_toArray, List.set_cons_succ, List.set_cons_zero])
  refine wpAnyH_take (i := 37) (v := ?_) rfl (by kernel_rfl) (by kernel_rfl) (by kernel_rfl) (fun _ _ _ h => h) (Or.inl ⟨by rfl, ?_⟩) (by assumption) ?_
  rotate_left 1
  · intro w hSw; (try dsimp only at hSw); simp only [List.getElem_toArray, List.getElem_cons_succ, List.getElem_cons_zero]; go_simp; try (with_reducible rfl)
  (try simp only [List.getElem_toArray, List.getElem_cons_succ, List.getElem_cons_zero, Act.put, List.setIfInBounds_toArray, List.set_cons_succ, List.set_cons_zero])
  refine wpAnyH_take (i := 38) (v := ?_) rfl (by kernel_rfl) (by kernel_rfl) (by kernel_rfl) (fun _ _ _ h => h) (Or.inl ⟨by rfl, ?_⟩) (by assumption) ?_
  rotate_left 1
  · intro w hSw; (try dsimp only at hSw); simp only [List.getElem_toArray, List.getElem_cons_succ, List.getElem_cons_zero]; go_simp; try (with_reducible rfl)
  (try simp only [List.getElem_toArray, List.getElem_cons_succ, List.getElem_cons_zero, Act.put, List.setIfInBounds_toArray, List.set_cons_succ, List.set_cons_zero])
  refine wpAnyH_done (by kernel_rfl) ?_ _
  go_wp2
  go_ret
  exact ⟨rfl, below_more hB3 (show Below x3.heap.size x3 y35 by ((repeat (first | with_reducible assumption | with_reducible exact Below.refl _ _ | with_reducible apply below_al | with_reducible apply below_dr | with_reducible refine below_more ?_ (by assumption)))))⟩
end Go.Proofs.YtnfcnjboeocnmaaDoor
