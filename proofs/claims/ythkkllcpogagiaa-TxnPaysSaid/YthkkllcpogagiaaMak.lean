/- Merged texts: CodB. -/
import Derived.Test.YthkkllcpogagiaaMaj
/- Contracts of the document's own Number, Count, Words of layer 6. -/
namespace Go.Proofs.Ythkkllcpogagiaa
open Go.RowKit
set_option linter.unusedVariables false
set_option linter.unusedSimpArgs false

set_option maxRecDepth 100000 in
set_option maxHeartbeats 4000000 in
theorem dnumber_calls (l : List UInt8) (e : Nat) (k : Int) (m : Nat) (hm : cw k = m) (w : World) :
    Calls Try.prog 23 #[.agg (inC l e).toArray, .int .i64 k] w (Ret w (.tuple #[.agg (inC (tkL l e m) (tkE l e m)).toArray, .int .u64 (numL (tkV l e m) : Int)])) := by
  have hm8 : m ≤ 8 := by have := cw_bd k; omega
  have HM := Lib.hid hm
  obtain ⟨U, hU⟩ : ∃ U, U = tkV l e m := ⟨_, rfl⟩
  have hUl : U.length ≤ 8 := by rw [hU]; exact Nat.le_trans (tkV_len l e m) hm8
  obtain ⟨vv, hvv⟩ : ∃ vv, vv = numL U := ⟨_, rfl⟩
  obtain ⟨us, hus⟩ : ∃ us : ByteArray, us = ⟨U.toArray⟩ := ⟨_, rfl⟩
  obtain ⟨X, hX⟩ : ∃ X, X = inC (l) (e) := ⟨_, rfl⟩
  have IX : Hid ((Try.prog.info? 62).map (·.size) = some X.length) := Lib.hid (by rw [hX]; exact inC_size _ _)
  have LX : Hid (zerosI.length = X.length) := Lib.hid (by rw [hX]; rfl)
  have OX : Hid (∀ v ∈ X, v.oneCell' = true) := Lib.hid (by rw [hX]; exact inC_one _ _)
  obtain ⟨Y, hY⟩ : ∃ X, X = inC (tkL l e m) (tkE l e m) := ⟨_, rfl⟩
  have IY : Hid ((Try.prog.info? 62).map (·.size) = some Y.length) := Lib.hid (by rw [hY]; exact inC_size _ _)
  have LY : Hid (zerosI.length = Y.length) := Lib.hid (by rw [hY]; rfl)
  have OY : Hid (∀ v ∈ Y, v.oneCell' = true) := Lib.hid (by rw [hY]; exact inC_one _ _)
  have CT : Hid (∀ W, Calls Try.prog 39 #[.agg X.toArray, .int .i64 (m : Int)] W (Ret W (.tuple #[.agg Y.toArray, .string us]))) := Lib.hid fun W => by rw [hX, hY, hus, hU]; exact dtake_in l e m m (by simp) W
  have HCT : Hid (∀ W, ∃ A c w', (convert 9 22 (.string us)).run Try.prog W = .ok (.slice A U.length c) w' ∧ Rd w' A U.length U ∧ Below W.heap.size W w') := Lib.hid fun W => by rw [hus]; exact conv_text W U (by omega)
  have CVL : Hid (∀ W A c, Rd W A U.length U → Calls Try.prog 41 #[.slice A U.length c] W fun e w' => e = .returned (.int .u64 (vv : Int)) ∧ W = w') := Lib.hid fun W A c h => by
    have hc := value_calls A U.length c U W (by omega) h
    rw [List.take_of_length_le hUl, ← hvv] at hc
    exact hc
  rw [← hU, ← hvv, ← hX, ← hY]
  have hb0 : Blk ((w.alloc (.cells X.toArray 62)).alloc (.cells #[.string ⟨#[]⟩, .int .i64 0] 62)) w.heap.size X 62 := Blk.alloc (Blk.new w X.toArray 62) _
  have hb1 : Blk ((w.alloc (.cells X.toArray 62)).alloc (.cells #[.string ⟨#[]⟩, .int .i64 0] 62)) (w.heap.size + 1) zerosI 62 := Blk.new' _ _ _ _ (by simp)
  have HB := Lib.hid (below2 w (.cells X.toArray 62) (.cells #[.string ⟨#[]⟩, .int .i64 0] 62))
  have hs0 : w.heap.size + 1 < ((w.alloc (.cells X.toArray 62)).alloc (.cells #[.string ⟨#[]⟩, .int .i64 0] 62)).heap.size := by simp
  obtain ⟨w0, hw0⟩ : ∃ w0, w0 = (w.alloc (.cells X.toArray 62)).alloc (.cells #[.string ⟨#[]⟩, .int .i64 0] 62) := ⟨_, rfl⟩
  rw [← hw0] at hb0 hb1 HB hs0
  have K0 : Hid (∀ W, Below w0.heap.size w0 W → W.rangeAt w.heap.size 0 X ∧ Below w0.heap.size w0 W) := Lib.hid fun W h => ⟨(hb0.up h).range, h⟩
  clear hX hY hus hvv hU hm
  go_enter Try.func23, Try.ntmps23
  go_upto_region 1 with fail
  rw [← hw0]
  clear hw0
  refine wp_region_held_drew (S := fun W => W.rangeAt w.heap.size 0 X ∧ Below w0.heap.size w0 W) (by kernel_rfl) ?_ (fun hHeld => ?_)
  · (first | exact K0.out _ hB6 | exact K0.out _ (by ((repeat (first | with_reducible assumption | with_reducible exact Below.refl _ _ | with_reducible apply below_al | with_reducible apply below_dr | with_reducible refine below_more ?_ (by assumption))))))
  refine wpAnyH_take (i := 0) rfl (by kernel_rfl) (by kernel_rfl) (by kernel_rfl) (fun _ _ _ h => h) (yieldsIf_load_mid (by rfl) _ _ rfl _ _ rfl X _ (fun w hSw => by (try dsimp only at hSw); go_split_ands; assumption) Try.underlying62 rfl IX.out) (by assumption) ?_
  (try simp only [List.getElem_toArray, List.getElem_cons_succ, List.getElem_cons_zero, Act.put, List.setIfInBounds_toArray, List.set_cons_succ, List.set_cons_zero])
  refine wpAnyH_take (i := 1) (v := ?_) rfl (by kernel_rfl) (by kernel_rfl) (by kernel_rfl) (fun _ _ _ h => h) (Or.inl ⟨by rfl, ?_⟩) (by assumption) ?_
  rotate_left 1
  · intro w hSw; (try dsimp only at hSw); simp only [List.getElem_toArray, List.getElem_cons_succ, List.getElem_cons_zero]; go_simp; try (with_reducible rfl)
  (try simp only [List.getElem_toArray, List.getElem_cons_succ, List.getElem_cons_zero, Act.put, List.setIfInBounds_toArray, List.set_cons_succ, List.set_cons_zero])
  refine wpAnyH_ready (rs := [2, 7]) (by kernel_rfl) (by simp) ?_
  refine AllReadyH.cons rfl (fun K hK => ?_) ?_
  · (try simp only [List.getElem_toArray, List.getElem_cons_succ, List.getElem_cons_zero])
    go_simp
    go_at_call 40; refine (held_nat _ _ HM.out _).mono ?_; rintro e' x' ⟨rfl, rfl⟩
    (try (go_wp2_with fail))
    refine hK.out _ _ ?_ (fun hHeld => ?_)
    · (first | exact K0.out _ hB6 | exact K0.out _ (by ((repeat (first | with_reducible assumption | with_reducible exact Below.refl _ _ | with_reducible apply below_al | with_reducible apply below_dr | with_reducible refine below_more ?_ (by assumption))))))
    clear hK K
    (try simp only [Act.put, List.setIfInBounds_toArray, List.set_cons_succ, List.set_cons_zero])
    refine wpAnyH_ready (rs := [3, 7]) (by kernel_rfl) (by simp) ?_
    refine AllReadyH.cons rfl (fun K hK => ?_) ?_
    · (try simp only [List.getElem_toArray, List.getElem_cons_succ, List.getElem_cons_zero])
      go_simp
      go_at_call 39; refine (CT.out _).mono ?_; rintro e' v1 ⟨rfl, d1⟩
      (try (go_wp2_with fail))
      refine hK.out _ _ ?_ (fun hHeld => ?_)
      · (first | exact K0.out _ hB6 | exact K0.out _ (by ((repeat (first | with_reducible assumption | with_reducible exact Below.refl _ _ | with_reducible apply below_al | with_reducible apply below_dr | with_reducible refine below_more ?_ (by assumption))))))
      clear hK K
      (try simp only [Act.put, List.setIfInBounds_toArray, List.set_cons_succ, List.set_cons_zero])
      refine wpAnyH_take (i := 4) (v := ?_) rfl (by kernel_rfl) (by kernel_rfl) (by kernel_rfl) (fun _ _ _ h => h) (Or.inl ⟨by rfl, ?_⟩) (by assumption) ?_
      rotate_left 1
      · intro w hSw; (try dsimp only at hSw); simp only [List.getElem_toArray, List.getElem_cons_succ, List.getElem_cons_zero]; go_simp; try (with_reducible rfl)
      (try simp only [List.getElem_toArray, List.getElem_cons_succ, List.getElem_cons_zero, Act.put, List.setIfInBounds_toArray, List.set_cons_succ, List.set_cons_zero])
      refine wpAnyH_take (i := 5) (v := ?_) rfl (by kernel_rfl) (by kernel_rfl) (by kernel_rfl) (fun _ _ _ h => h) (Or.inl ⟨by rfl, ?_⟩) (by assumption) ?_
      rotate_left 1
      · intro w hSw; (try dsimp only at hSw); simp only [List.getElem_toArray, List.getElem_cons_succ, List.getElem_cons_zero]; go_simp; try (with_reducible rfl)
      (try simp only [List.getElem_toArray, List.getElem_cons_succ, List.getElem_cons_zero, Act.put, List.setIfInBounds_toArray, List.set_cons_succ, List.set_cons_zero])
      refine wpAnyH_take (i := 6) (v := ?_) rfl (by kernel_rfl) (by kernel_rfl) (by kernel_rfl) (fun _ _ _ h => h) (Or.inl ⟨by rfl, ?_⟩) (by assumption) ?_
      rotate_left 1
      · intro w hSw; (try dsimp only at hSw); simp only [List.getElem_toArray, List.getElem_cons_succ, List.getElem_cons_zero]; go_simp; try (with_reducible rfl)
      (try simp only [List.getElem_toArray, List.getElem_cons_succ, List.getElem_cons_zero, Act.put, List.setIfInBounds_toArray, List.set_cons_succ, List.set_cons_zero])
      refine wpAnyH_ready (rs := [7]) (by kernel_rfl) (by simp) ?_
      refine AllReadyH.cons rfl (fun K hK => ?_) AllReadyH.nil
      (try simp only [List.getElem_toArray, List.getElem_cons_succ, List.getElem_cons_zero])
      go_simp
      have hz7 : Blk (v1.alloc (.cells #[.string ⟨#[]⟩, .int .i64 0] 62)) v1.heap.size zerosI 62 := Blk.new _ _ _
      refine hK.out _ _ ?_ (fun hHeld => ?_)
      · (first | exact K0.out _ hB6 | exact K0.out _ (by ((repeat (first | with_reducible assumption | with_reducible exact Below.refl _ _ | with_reducible apply below_al | with_reducible apply below_dr | with_reducible refine below_more ?_ (by assumption))))))
      clear hK K
      (try simp only [Act.put, List.setIfInBounds_toArray, List.set_cons_succ, List.set_cons_zero])
      refine wpAnyH_ready (rs := [8]) (by kernel_rfl) (by simp) ?_
      refine AllReadyH.cons rfl (fun K hK => ?_) AllReadyH.nil
      (try simp only [List.getElem_toArray, List.getElem_cons_succ, List.getElem_cons_zero])
      have d1b : Below w0.heap.size w0 v1 := below_more (below_dr (Below.refl _ w0)) d1
      refine Eq.mpr (if_pos (by rfl)) ?_
      refine wp_store_in 62 (.tmp 6) (.tmp 13) rfl (v1.heap.size) zerosI Y 62 rfl rfl (hz7) LY.out IY.out OY.out ?_
      intro w6 hb6 ho6
      have hB6 : Below w0.heap.size w0 w6 := below_only (below_al d1b _) ho6 (d1b.size)
      refine hK.out _ _ ?_ (fun hHeld => ?_)
      · (first | exact K0.out _ hB6 | exact K0.out _ (by ((repeat (first | with_reducible assumption | with_reducible exact Below.refl _ _ | with_reducible apply below_al | with_reducible apply below_dr | with_reducible refine below_more ?_ (by assumption))))))
      clear hK K
      (try simp only [Act.put, List.setIfInBounds_toArray, List.set_cons_succ, List.set_cons_zero])
      refine wpAnyH_take (i := 9) (v := ?_) rfl (by kernel_rfl) (by kernel_rfl) (by kernel_rfl) (fun _ _ _ h => h) (Or.inl ⟨by rfl, ?_⟩) (by assumption) ?_
      rotate_left 1
      · intro w hSw; (try dsimp only at hSw); simp only [List.getElem_toArray, List.getElem_cons_succ, List.getElem_cons_zero]; go_simp; try (with_reducible rfl)
      (try simp only [List.getElem_toArray, List.getElem_cons_succ, List.getElem_cons_zero, Act.put, List.setIfInBounds_toArray, List.set_cons_succ, List.set_cons_zero])
      refine wpAnyH_done (by kernel_rfl) ?_ _
      have hgn : w.heap.size + 1 < v1.heap.size := Nat.lt_of_lt_of_le hs0 d1b.size
      have hz6 := hb1.up hB6
      obtain ⟨A9, c9, w9, hcv9, hr9, h9b⟩ := HCT.out w6.drew
      have HV9 := Lib.hid (CVL.out w9 A9 c9 hr9)
      go_wp2_with fail
      refine wp_region_held_drew (S := fun W => W.rangeAt (v1.heap.size) 0 Y ∧ w6.heap.size ≤ W.heap.size) (by kernel_rfl) ?_ (fun hHeld => ?_)
      · (first | exact ⟨hb6.range, Nat.le_refl _⟩ | exact ⟨(hb6.dr.up h9b).range, h9b.size⟩)
      refine wpAnyH_take (i := 0) rfl (by kernel_rfl) (by kernel_rfl) (by kernel_rfl) (fun _ _ _ h => h) (yieldsIf_load_mid (by rfl) _ _ rfl _ _ rfl Y _ (fun w hSw => by (try dsimp only at hSw); go_split_ands; assumption) Try.underlying62 rfl IY.out) (by assumption) ?_
      (try simp only [List.getElem_toArray, List.getElem_cons_succ, List.getElem_cons_zero, Act.put, List.setIfInBounds_toArray, List.set_cons_succ, List.set_cons_zero])
      refine wpAnyH_take (i := 1) (v := ?_) rfl (by kernel_rfl) (by kernel_rfl) (by kernel_rfl) (fun _ _ _ h => h) (Or.inl ⟨by rfl, ?_⟩) (by assumption) ?_
      rotate_left 1
      · intro w hSw; (try dsimp only at hSw); simp only [List.getElem_toArray, List.getElem_cons_succ, List.getElem_cons_zero]; go_simp; try (with_reducible rfl)
      (try simp only [List.getElem_toArray, List.getElem_cons_succ, List.getElem_cons_zero, Act.put, List.setIfInBounds_toArray, List.set_cons_succ, List.set_cons_zero])
      refine wpAnyH_ready (rs := [2]) (by kernel_rfl) (by simp) ?_
      refine AllReadyH.cons rfl (fun K hK => ?_) AllReadyH.nil
      (try simp only [List.getElem_toArray, List.getElem_cons_succ, List.getElem_cons_zero])
      go_simp
      skip
      (try (go_wp2_with fail))
      refine hK.out _ _ ?_ (fun hHeld => ?_)
      · (first | exact ⟨hb6.range, Nat.le_refl _⟩ | exact ⟨(hb6.dr.up h9b).range, h9b.size⟩)
      clear hK K
      (try simp only [Act.put, List.setIfInBounds_toArray, List.set_cons_succ, List.set_cons_zero])
      refine wpAnyH_ready (rs := [3]) (by kernel_rfl) (by simp) ?_
      refine AllReadyH.cons rfl (fun K hK => ?_) AllReadyH.nil
      (try simp only [List.getElem_toArray, List.getElem_cons_succ, List.getElem_cons_zero])
      go_simp
      go_at_call 41; refine HV9.out.mono ?_; rintro e' x' ⟨rfl, rfl⟩
      (try (go_wp2_with fail))
      refine hK.out _ _ ?_ (fun hHeld => ?_)
      · (first | exact ⟨hb6.range, Nat.le_refl _⟩ | exact ⟨(hb6.dr.up h9b).range, h9b.size⟩)
      clear hK K
      (try simp only [Act.put, List.setIfInBounds_toArray, List.set_cons_succ, List.set_cons_zero])
      refine wpAnyH_ready (rs := [4]) (by kernel_rfl) (by simp) ?_
      refine AllReadyH.cons rfl (fun K hK => ?_) AllReadyH.nil
      (try simp only [List.getElem_toArray, List.getElem_cons_succ, List.getElem_cons_zero])
      refine Eq.mpr (if_pos (by rfl)) ?_
      refine wp_store_in 62 (.tmp 4) (.tmp 15) rfl (w.heap.size + 1) zerosI Y 62 rfl rfl ((hz6.up (below_dr (Below.refl _ w6))).up h9b) LY.out IY.out OY.out ?_
      intro w8 hb8 ho8
      refine hK.out _ _ ?_ (fun hHeld => ?_)
      · exact ⟨(ho8.blk (hb6.dr.up h9b) (by omega)).range, by rw [ho8.size]; exact h9b.size⟩
      clear hK K
      (try simp only [Act.put, List.setIfInBounds_toArray, List.set_cons_succ, List.set_cons_zero])
      refine wpAnyH_take (i := 5) (v := ?_) rfl (by kernel_rfl) (by kernel_rfl) (by kernel_rfl) (fun _ _ _ h => h) (Or.inl ⟨by rfl, ?_⟩) (by assumption) ?_
      rotate_left 1
      · intro w hSw; (try dsimp only at hSw); simp only [List.getElem_toArray, List.getElem_cons_succ, List.getElem_cons_zero]; go_simp; try (with_reducible rfl)
      (try simp only [List.getElem_toArray, List.getElem_cons_succ, List.getElem_cons_zero, Act.put, List.setIfInBounds_toArray, List.set_cons_succ, List.set_cons_zero])
      refine wpAnyH_done (by kernel_rfl) ?_ _
      go_wp2
      refine bodyPost_ret (v := .tuple #[.agg Y.toArray, .int .u64 (vv : Int)]) ?_ rfl ⟨rfl, below_only (below_more (below_more HB.out hB6) (below_more (below_dr (Below.refl _ w6)) h9b)) ho8 (by omega)⟩
      exact results_in Try.results23 _ _ (w.heap.size + 1) 62 _ (0, 0) _ _ (by rfl) (by rfl) hb8 Try.underlying62 rfl IY.out
    refine AllReadyH.cons rfl (fun K hK => ?_) AllReadyH.nil
    (try simp only [List.getElem_toArray, List.getElem_cons_succ, List.getElem_cons_zero])
    go_simp
    have hz7 : Blk (w0.drew.alloc (.cells #[.string ⟨#[]⟩, .int .i64 0] 62)) w0.drew.heap.size zerosI 62 := Blk.new _ _ _
    refine hK.out _ _ ?_ (fun hHeld => ?_)
    · (first | exact K0.out _ hB6 | exact K0.out _ (by ((repeat (first | with_reducible assumption | with_reducible exact Below.refl _ _ | with_reducible apply below_al | with_reducible apply below_dr | with_reducible refine below_more ?_ (by assumption))))))
    clear hK K
    (try simp only [Act.put, List.setIfInBounds_toArray, List.set_cons_succ, List.set_cons_zero])
    refine wpAnyH_ready (rs := [3]) (by kernel_rfl) (by simp) ?_
    refine AllReadyH.cons rfl (fun K hK => ?_) AllReadyH.nil
    (try simp only [List.getElem_toArray, List.getElem_cons_succ, List.getElem_cons_zero])
    go_simp
    go_at_call 39; refine (CT.out _).mono ?_; rintro e' v1 ⟨rfl, d1⟩
    (try (go_wp2_with fail))
    refine hK.out _ _ ?_ (fun hHeld => ?_)
    · (first | exact K0.out _ hB6 | exact K0.out _ (by ((repeat (first | with_reducible assumption | with_reducible exact Below.refl _ _ | with_reducible apply below_al | with_reducible apply below_dr | with_reducible refine below_more ?_ (by assumption))))))
    clear hK K
    (try simp only [Act.put, List.setIfInBounds_toArray, List.set_cons_succ, List.set_cons_zero])
    refine wpAnyH_take (i := 4) (v := ?_) rfl (by kernel_rfl) (by kernel_rfl) (by kernel_rfl) (fun _ _ _ h => h) (Or.inl ⟨by rfl, ?_⟩) (by assumption) ?_
    rotate_left 1
    · intro w hSw; (try dsimp only at hSw); simp only [List.getElem_toArray, List.getElem_cons_succ, List.getElem_cons_zero]; go_simp; try (with_reducible rfl)
    (try simp only [List.getElem_toArray, List.getElem_cons_succ, List.getElem_cons_zero, Act.put, List.setIfInBounds_toArray, List.set_cons_succ, List.set_cons_zero])
    refine wpAnyH_take (i := 5) (v := ?_) rfl (by kernel_rfl) (by kernel_rfl) (by kernel_rfl) (fun _ _ _ h => h) (Or.inl ⟨by rfl, ?_⟩) (by assumption) ?_
    rotate_left 1
    · intro w hSw; (try dsimp only at hSw); simp only [List.getElem_toArray, List.getElem_cons_succ, List.getElem_cons_zero]; go_simp; try (with_reducible rfl)
    (try simp only [List.getElem_toArray, List.getElem_cons_succ, List.getElem_cons_zero, Act.put, List.setIfInBounds_toArray, List.set_cons_succ, List.set_cons_zero])
    refine wpAnyH_take (i := 6) (v := ?_) rfl (by kernel_rfl) (by kernel_rfl) (by kernel_rfl) (fun _ _ _ h => h) (Or.inl ⟨by rfl, ?_⟩) (by assumption) ?_
    rotate_left 1
    · intro w hSw; (try dsimp only at hSw); simp only [List.getElem_toArray, List.getElem_cons_succ, List.getElem_cons_zero]; go_simp; try (with_reducible rfl)
    (try simp only [List.getElem_toArray, List.getElem_cons_succ, List.getElem_cons_zero, Act.put, List.setIfInBounds_toArray, List.set_cons_succ, List.set_cons_zero])
    refine wpAnyH_ready (rs := [8]) (by kernel_rfl) (by simp) ?_
    refine AllReadyH.cons rfl (fun K hK => ?_) AllReadyH.nil
    (try simp only [List.getElem_toArray, List.getElem_cons_succ, List.getElem_cons_zero])
    have d1b : Below w0.heap.size w0 v1 := below_more (below_al (below_dr (Below.refl _ w0)) _) d1
    refine Eq.mpr (if_pos (by rfl)) ?_
    refine wp_store_in 62 (.tmp 6) (.tmp 13) rfl (w0.heap.size) zerosI Y 62 rfl rfl (hz7.up d1) LY.out IY.out OY.out ?_
    intro w6 hb6 ho6
    have hB6 : Below w0.heap.size w0 w6 := below_only (d1b) ho6 (Nat.le_refl _)
    refine hK.out _ _ ?_ (fun hHeld => ?_)
    · (first | exact K0.out _ hB6 | exact K0.out _ (by ((repeat (first | with_reducible assumption | with_reducible exact Below.refl _ _ | with_reducible apply below_al | with_reducible apply below_dr | with_reducible refine below_more ?_ (by assumption))))))
    clear hK K
    (try simp only [Act.put, List.setIfInBounds_toArray, List.set_cons_succ, List.set_cons_zero])
    refine wpAnyH_take (i := 9) (v := ?_) rfl (by kernel_rfl) (by kernel_rfl) (by kernel_rfl) (fun _ _ _ h => h) (Or.inl ⟨by rfl, ?_⟩) (by assumption) ?_
    rotate_left 1
    · intro w hSw; (try dsimp only at hSw); simp only [List.getElem_toArray, List.getElem_cons_succ, List.getElem_cons_zero]; go_simp; try (with_reducible rfl)
    (try simp only [List.getElem_toArray, List.getElem_cons_succ, List.getElem_cons_zero, Act.put, List.setIfInBounds_toArray, List.set_cons_succ, List.set_cons_zero])
    refine wpAnyH_done (by kernel_rfl) ?_ _
    have hgn : w.heap.size + 1 < w0.heap.size := hs0
    have hz6 := hb1.up hB6
    obtain ⟨A9, c9, w9, hcv9, hr9, h9b⟩ := HCT.out w6.drew
    have HV9 := Lib.hid (CVL.out w9 A9 c9 hr9)
    go_wp2_with fail
    refine wp_region_held_drew (S := fun W => W.rangeAt (w0.heap.size) 0 Y ∧ w6.heap.size ≤ W.heap.size) (by kernel_rfl) ?_ (fun hHeld => ?_)
    · (first | exact ⟨hb6.range, Nat.le_refl _⟩ | exact ⟨(hb6.dr.up h9b).range, h9b.size⟩)
    refine wpAnyH_take (i := 0) rfl (by kernel_rfl) (by kernel_rfl) (by kernel_rfl) (fun _ _ _ h => h) (yieldsIf_load_mid (by rfl) _ _ rfl _ _ rfl Y _ (fun w hSw => by (try dsimp only at hSw); go_split_ands; assumption) Try.underlying62 rfl IY.out) (by assumption) ?_
    (try simp only [List.getElem_toArray, List.getElem_cons_succ, List.getElem_cons_zero, Act.put, List.setIfInBounds_toArray, List.set_cons_succ, List.set_cons_zero])
    refine wpAnyH_take (i := 1) (v := ?_) rfl (by kernel_rfl) (by kernel_rfl) (by kernel_rfl) (fun _ _ _ h => h) (Or.inl ⟨by rfl, ?_⟩) (by assumption) ?_
    rotate_left 1
    · intro w hSw; (try dsimp only at hSw); simp only [List.getElem_toArray, List.getElem_cons_succ, List.getElem_cons_zero]; go_simp; try (with_reducible rfl)
    (try simp only [List.getElem_toArray, List.getElem_cons_succ, List.getElem_cons_zero, Act.put, List.setIfInBounds_toArray, List.set_cons_succ, List.set_cons_zero])
    refine wpAnyH_ready (rs := [2]) (by kernel_rfl) (by simp) ?_
    refine AllReadyH.cons rfl (fun K hK => ?_) AllReadyH.nil
    (try simp only [List.getElem_toArray, List.getElem_cons_succ, List.getElem_cons_zero])
    go_simp
    skip
    (try (go_wp2_with fail))
    refine hK.out _ _ ?_ (fun hHeld => ?_)
    · (first | exact ⟨hb6.range, Nat.le_refl _⟩ | exact ⟨(hb6.dr.up h9b).range, h9b.size⟩)
    clear hK K
    (try simp only [Act.put, List.setIfInBounds_toArray, List.set_cons_succ, List.set_cons_zero])
    refine wpAnyH_ready (rs := [3]) (by kernel_rfl) (by simp) ?_
    refine AllReadyH.cons rfl (fun K hK => ?_) AllReadyH.nil
    (try simp only [List.getElem_toArray, List.getElem_cons_succ, List.getElem_cons_zero])
    go_simp
    go_at_call 41; refine HV9.out.mono ?_; rintro e' x' ⟨rfl, rfl⟩
    (try (go_wp2_with fail))
    refine hK.out _ _ ?_ (fun hHeld => ?_)
    · (first | exact ⟨hb6.range, Nat.le_refl _⟩ | exact ⟨(hb6.dr.up h9b).range, h9b.size⟩)
    clear hK K
    (try simp only [Act.put, List.setIfInBounds_toArray, List.set_cons_succ, List.set_cons_zero])
    refine wpAnyH_ready (rs := [4]) (by kernel_rfl) (by simp) ?_
    refine AllReadyH.cons rfl (fun K hK => ?_) AllReadyH.nil
    (try simp only [List.getElem_toArray, List.getElem_cons_succ, List.getElem_cons_zero])
    refine Eq.mpr (if_pos (by rfl)) ?_
    refine wp_store_in 62 (.tmp 4) (.tmp 15) rfl (w.heap.size + 1) zerosI Y 62 rfl rfl ((hz6.up (below_dr (Below.refl _ w6))).up h9b) LY.out IY.out OY.out ?_
    intro w8 hb8 ho8
    refine hK.out _ _ ?_ (fun hHeld => ?_)
    · exact ⟨(ho8.blk (hb6.dr.up h9b) (by omega)).range, by rw [ho8.size]; exact h9b.size⟩
    clear hK K
    (try simp only [Act.put, List.setIfInBounds_toArray, List.set_cons_succ, List.set_cons_zero])
    refine wpAnyH_take (i := 5) (v := ?_) rfl (by kernel_rfl) (by kernel_rfl) (by kernel_rfl) (fun _ _ _ h => h) (Or.inl ⟨by rfl, ?_⟩) (by assumption) ?_
    rotate_left 1
    · intro w hSw; (try dsimp only at hSw); simp only [List.getElem_toArray, List.getElem_cons_succ, List.getElem_cons_zero]; go_simp; try (with_reducible rfl)
    (try simp only [List.getElem_toArray, List.getElem_cons_succ, List.getElem_cons_zero, Act.put, List.setIfInBounds_toArray, List.set_cons_succ, List.set_cons_zero])
    refine wpAnyH_done (by kernel_rfl) ?_ _
    go_wp2
    refine bodyPost_ret (v := .tuple #[.agg Y.toArray, .int .u64 (vv : Int)]) ?_ rfl ⟨rfl, below_only (below_more (below_more HB.out hB6) (below_more (below_dr (Below.refl _ w6)) h9b)) ho8 (by omega)⟩
    exact results_in Try.results23 _ _ (w.heap.size + 1) 62 _ (0, 0) _ _ (by rfl) (by rfl) hb8 Try.underlying62 rfl IY.out
  refine AllReadyH.cons rfl (fun K hK => ?_) AllReadyH.nil
  (try simp only [List.getElem_toArray, List.getElem_cons_succ, List.getElem_cons_zero])
  go_simp
  have hz7 : Blk (w0.drew.alloc (.cells #[.string ⟨#[]⟩, .int .i64 0] 62)) w0.drew.heap.size zerosI 62 := Blk.new _ _ _
  refine hK.out _ _ ?_ (fun hHeld => ?_)
  · (first | exact K0.out _ hB6 | exact K0.out _ (by ((repeat (first | with_reducible assumption | with_reducible exact Below.refl _ _ | with_reducible apply below_al | with_reducible apply below_dr | with_reducible refine below_more ?_ (by assumption))))))
  clear hK K
  (try simp only [Act.put, List.setIfInBounds_toArray, List.set_cons_succ, List.set_cons_zero])
  refine wpAnyH_ready (rs := [2]) (by kernel_rfl) (by simp) ?_
  refine AllReadyH.cons rfl (fun K hK => ?_) AllReadyH.nil
  (try simp only [List.getElem_toArray, List.getElem_cons_succ, List.getElem_cons_zero])
  go_simp
  go_at_call 40; refine (held_nat _ _ HM.out _).mono ?_; rintro e' x' ⟨rfl, rfl⟩
  (try (go_wp2_with fail))
  refine hK.out _ _ ?_ (fun hHeld => ?_)
  · (first | exact K0.out _ hB6 | exact K0.out _ (by ((repeat (first | with_reducible assumption | with_reducible exact Below.refl _ _ | with_reducible apply below_al | with_reducible apply below_dr | with_reducible refine below_more ?_ (by assumption))))))
  clear hK K
  (try simp only [Act.put, List.setIfInBounds_toArray, List.set_cons_succ, List.set_cons_zero])
  refine wpAnyH_ready (rs := [3]) (by kernel_rfl) (by simp) ?_
  refine AllReadyH.cons rfl (fun K hK => ?_) AllReadyH.nil
  (try simp only [List.getElem_toArray, List.getElem_cons_succ, List.getElem_cons_zero])
  go_simp
  go_at_call 39; refine (CT.out _).mono ?_; rintro e' v1 ⟨rfl, d1⟩
  (try (go_wp2_with fail))
  refine hK.out _ _ ?_ (fun hHeld => ?_)
  · (first | exact K0.out _ hB6 | exact K0.out _ (by ((repeat (first | with_reducible assumption | with_reducible exact Below.refl _ _ | with_reducible apply below_al | with_reducible apply below_dr | with_reducible refine below_more ?_ (by assumption))))))
  clear hK K
  (try simp only [Act.put, List.setIfInBounds_toArray, List.set_cons_succ, List.set_cons_zero])
  refine wpAnyH_take (i := 4) (v := ?_) rfl (by kernel_rfl) (by kernel_rfl) (by kernel_rfl) (fun _ _ _ h => h) (Or.inl ⟨by rfl, ?_⟩) (by assumption) ?_
  rotate_left 1
  · intro w hSw; (try dsimp only at hSw); simp only [List.getElem_toArray, List.getElem_cons_succ, List.getElem_cons_zero]; go_simp; try (with_reducible rfl)
  (try simp only [List.getElem_toArray, List.getElem_cons_succ, List.getElem_cons_zero, Act.put, List.setIfInBounds_toArray, List.set_cons_succ, List.set_cons_zero])
  refine wpAnyH_take (i := 5) (v := ?_) rfl (by kernel_rfl) (by kernel_rfl) (by kernel_rfl) (fun _ _ _ h => h) (Or.inl ⟨by rfl, ?_⟩) (by assumption) ?_
  rotate_left 1
  · intro w hSw; (try dsimp only at hSw); simp only [List.getElem_toArray, List.getElem_cons_succ, List.getElem_cons_zero]; go_simp; try (with_reducible rfl)
  (try simp only [List.getElem_toArray, List.getElem_cons_succ, List.getElem_cons_zero, Act.put, List.setIfInBounds_toArray, List.set_cons_succ, List.set_cons_zero])
  refine wpAnyH_take (i := 6) (v := ?_) rfl (by kernel_rfl) (by kernel_rfl) (by kernel_rfl) (fun _ _ _ h => h) (Or.inl ⟨by rfl, ?_⟩) (by assumption) ?_
  rotate_left 1
  · intro w hSw; (try dsimp only at hSw); simp only [List.getElem_toArray, List.getElem_cons_succ, List.getElem_cons_zero]; go_simp; try (with_reducible rfl)
  (try simp only [List.getElem_toArray, List.getElem_cons_succ, List.getElem_cons_zero, Act.put, List.setIfInBounds_toArray, List.set_cons_succ, List.set_cons_zero])
  refine wpAnyH_ready (rs := [8]) (by kernel_rfl) (by simp) ?_
  refine AllReadyH.cons rfl (fun K hK => ?_) AllReadyH.nil
  (try simp only [List.getElem_toArray, List.getElem_cons_succ, List.getElem_cons_zero])
  have d1b : Below w0.heap.size w0 v1 := below_more (below_al (below_dr (Below.refl _ w0)) _) d1
  refine Eq.mpr (if_pos (by rfl)) ?_
  refine wp_store_in 62 (.tmp 6) (.tmp 13) rfl (w0.heap.size) zerosI Y 62 rfl rfl (hz7.up d1) LY.out IY.out OY.out ?_
  intro w6 hb6 ho6
  have hB6 : Below w0.heap.size w0 w6 := below_only (d1b) ho6 (Nat.le_refl _)
  refine hK.out _ _ ?_ (fun hHeld => ?_)
  · (first | exact K0.out _ hB6 | exact K0.out _ (by ((repeat (first | with_reducible assumption | with_reducible exact Below.refl _ _ | with_reducible apply below_al | with_reducible apply below_dr | with_reducible refine below_more ?_ (by assumption))))))
  clear hK K
  (try simp only [Act.put, List.setIfInBounds_toArray, List.set_cons_succ, List.set_cons_zero])
  refine wpAnyH_take (i := 9) (v := ?_) rfl (by kernel_rfl) (by kernel_rfl) (by kernel_rfl) (fun _ _ _ h => h) (Or.inl ⟨by rfl, ?_⟩) (by assumption) ?_
  rotate_left 1
  · intro w hSw; (try dsimp only at hSw); simp only [List.getElem_toArray, List.getElem_cons_succ, List.getElem_cons_zero]; go_simp; try (with_reducible rfl)
  (try simp only [List.getElem_toArray, List.getElem_cons_succ, List.getElem_cons_zero, Act.put, List.setIfInBounds_toArray, List.set_cons_succ, List.set_cons_zero])
  refine wpAnyH_done (by kernel_rfl) ?_ _
  have hgn : w.heap.size + 1 < w0.heap.size := hs0
  have hz6 := hb1.up hB6
  obtain ⟨A9, c9, w9, hcv9, hr9, h9b⟩ := HCT.out w6.drew
  have HV9 := Lib.hid (CVL.out w9 A9 c9 hr9)
  go_wp2_with fail
  refine wp_region_held_drew (S := fun W => W.rangeAt (w0.heap.size) 0 Y ∧ w6.heap.size ≤ W.heap.size) (by kernel_rfl) ?_ (fun hHeld => ?_)
  · (first | exact ⟨hb6.range, Nat.le_refl _⟩ | exact ⟨(hb6.dr.up h9b).range, h9b.size⟩)
  refine wpAnyH_take (i := 0) rfl (by kernel_rfl) (by kernel_rfl) (by kernel_rfl) (fun _ _ _ h => h) (yieldsIf_load_mid (by rfl) _ _ rfl _ _ rfl Y _ (fun w hSw => by (try dsimp only at hSw); go_split_ands; assumption) Try.underlying62 rfl IY.out) (by assumption) ?_
  (try simp only [List.getElem_toArray, List.getElem_cons_succ, List.getElem_cons_zero, Act.put, List.setIfInBounds_toArray, List.set_cons_succ, List.set_cons_zero])
  refine wpAnyH_take (i := 1) (v := ?_) rfl (by kernel_rfl) (by kernel_rfl) (by kernel_rfl) (fun _ _ _ h => h) (Or.inl ⟨by rfl, ?_⟩) (by assumption) ?_
  rotate_left 1
  · intro w hSw; (try dsimp only at hSw); simp only [List.getElem_toArray, List.getElem_cons_succ, List.getElem_cons_zero]; go_simp; try (with_reducible rfl)
  (try simp only [List.getElem_toArray, List.getElem_cons_succ, List.getElem_cons_zero, Act.put, List.setIfInBounds_toArray, List.set_cons_succ, List.set_cons_zero])
  refine wpAnyH_ready (rs := [2]) (by kernel_rfl) (by simp) ?_
  refine AllReadyH.cons rfl (fun K hK => ?_) AllReadyH.nil
  (try simp only [List.getElem_toArray, List.getElem_cons_succ, List.getElem_cons_zero])
  go_simp
  skip
  (try (go_wp2_with fail))
  refine hK.out _ _ ?_ (fun hHeld => ?_)
  · (first | exact ⟨hb6.range, Nat.le_refl _⟩ | exact ⟨(hb6.dr.up h9b).range, h9b.size⟩)
  clear hK K
  (try simp only [Act.put, List.setIfInBounds_toArray, List.set_cons_succ, List.set_cons_zero])
  refine wpAnyH_ready (rs := [3]) (by kernel_rfl) (by simp) ?_
  refine AllReadyH.cons rfl (fun K hK => ?_) AllReadyH.nil
  (try simp only [List.getElem_toArray, List.getElem_cons_succ, List.getElem_cons_zero])
  go_simp
  go_at_call 41; refine HV9.out.mono ?_; rintro e' x' ⟨rfl, rfl⟩
  (try (go_wp2_with fail))
  refine hK.out _ _ ?_ (fun hHeld => ?_)
  · (first | exact ⟨hb6.range, Nat.le_refl _⟩ | exact ⟨(hb6.dr.up h9b).range, h9b.size⟩)
  clear hK K
  (try simp only [Act.put, List.setIfInBounds_toArray, List.set_cons_succ, List.set_cons_zero])
  refine wpAnyH_ready (rs := [4]) (by kernel_rfl) (by simp) ?_
  refine AllReadyH.cons rfl (fun K hK => ?_) AllReadyH.nil
  (try simp only [List.getElem_toArray, List.getElem_cons_succ, List.getElem_cons_zero])
  refine Eq.mpr (if_pos (by rfl)) ?_
  refine wp_store_in 62 (.tmp 4) (.tmp 15) rfl (w.heap.size + 1) zerosI Y 62 rfl rfl ((hz6.up (below_dr (Below.refl _ w6))).up h9b) LY.out IY.out OY.out ?_
  intro w8 hb8 ho8
  refine hK.out _ _ ?_ (fun hHeld => ?_)
  · exact ⟨(ho8.blk (hb6.dr.up h9b) (by omega)).range, by rw [ho8.size]; exact h9b.size⟩
  clear hK K
  (try simp only [Act.put, List.setIfInBounds_toArray, List.set_cons_succ, List.set_cons_zero])
  refine wpAnyH_take (i := 5) (v := ?_) rfl (by kernel_rfl) (by kernel_rfl) (by kernel_rfl) (fun _ _ _ h => h) (Or.inl ⟨by rfl, ?_⟩) (by assumption) ?_
  rotate_left 1
  · intro w hSw; (try dsimp only at hSw); simp only [List.getElem_toArray, List.getElem_cons_succ, List.getElem_cons_zero]; go_simp; try (with_reducible rfl)
  (try simp only [List.getElem_toArray, List.getElem_cons_succ, List.getElem_cons_zero, Act.put, List.setIfInBounds_toArray, List.set_cons_succ, List.set_cons_zero])
  refine wpAnyH_done (by kernel_rfl) ?_ _
  go_wp2
  refine bodyPost_ret (v := .tuple #[.agg Y.toArray, .int .u64 (vv : Int)]) ?_ rfl ⟨rfl, below_only (below_more (below_more HB.out hB6) (below_more (below_dr (Below.refl _ w6)) h9b)) ho8 (by omega)⟩
  exact results_in Try.results23 _ _ (w.heap.size + 1) 62 _ (0, 0) _ _ (by rfl) (by rfl) hb8 Try.underlying62 rfl IY.out
end Go.Proofs.Ythkkllcpogagiaa
