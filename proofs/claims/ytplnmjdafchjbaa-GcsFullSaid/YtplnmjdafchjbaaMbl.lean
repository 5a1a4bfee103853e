/- Merged texts: GcsP. -/
import Derived.Test.YtplnmjdafchjbaaMbk
import Derived.Deep.RegionHeld3
import Derived.Deep.CutRange
import Derived.Deep.DeepCutAuto
/- The walk of GcsBuilds, over what package gcs is to answer. -/
namespace Go.Proofs.Ytplnmjdafchjbaa
open Go.RowKit
set_option linter.unusedVariables false
set_option linter.unusedSimpArgs false
set_option maxRecDepth 100000 in
theorem blk_upG {w W : World} {g : Nat} {cs : List Value} {t : TypeId} (h : Blk w g cs t) (hb : Below w.heap.size w W) : Blk W g cs t := h.below hb h.lt
set_option maxRecDepth 100000 in
theorem wp_cvG {o : Oper} {a : Act} {W : World} {K : Act → World → Prop} {Q : Exit → Act → World → Prop} {s d : TypeId} {v u : Value} (x : Operand) (ho : o.op = .convert s d x) (hx : a.eval x = v) (h : (convert s d v).run Try.prog W = .ok u W) (hK : K (a.put o.dst u) W) : o.wp Try.prog a W K Q := by
  unfold Oper.wp execOp
  simp only [ho, hx, Sem.run_bind, h, Result.andThen_ok]
  exact hK
set_option maxRecDepth 100000 in
set_option maxHeartbeats 4000000 in
theorem gcsBuilds_walk (K : GcsOk) (k l : Nat) (hk64 : k < 2 ^ 64) (hl64 : l < 2 ^ 64) (A : Option Addr) (n c : Nat) (L : List (List UInt8)) (w : World) (w1 : RdM w A n L ∧ n ≤ c ∧ c ≤ maxLen) : Calls Try.prog 3 #[.agg #[.int .u64 (k : Int), .int .u64 (l : Int)], .slice A n c] w (Ret w (.bool true)) := by
  obtain ⟨hr, hnc, hcm⟩ := w1
  have hln := hr.len
  have HCM := Lib.hid hcm
  have hk0 : Blk (w.alloc (.cells #[.int .u64 (k : Int), .int .u64 (l : Int)] 23)) w.heap.size [.int .u64 (k : Int), .int .u64 (l : Int)] 23 := Blk.new w _ _
  obtain ⟨w0, hw0⟩ : ∃ z, z = w.alloc (.cells #[.int .u64 (k : Int), .int .u64 (l : Int)] 23) := ⟨_, rfl⟩
  have hB0 : Below w.heap.size w w0 := by rw [hw0]; exact below_al (Below.refl _ w) _
  have hs0 : w0.heap.size = w.heap.size + 1 := by rw [hw0]; simp
  rw [← hw0] at hk0
  have HW0 := Lib.hid hw0
  have HB0 := Lib.hid hB0
  have hr0 : RdM w0 A n L := hr.below hB0
  have CS : Hid (∀ W, Below w0.heap.size w0 W → Calls Try.prog 9 #[.slice A n c] W (Ret W (.bool (sml L)))) := Lib.hid fun W hb => gsmall_calls A n c L W (hr0.below hb) (by omega)
  have CA : Hid (∀ W, Calls Try.prog 10 #[] W (Ret W (.bool true))) := Lib.hid fun W => awake13_calls K W
  by_cases hs : sml L = false
  · rw [hs] at CS
    clear hr hr0 hk0 hw0 hB0
    go_enter Try.func3, Try.ntmps3
    go_upto_region 1 with fail
    rw [← HW0.out]
    go_wp2_with (first
      | (go_at_call 9; refine (CS.out _ (Below.refl _ _)).mono ?_; rintro e' x1 ⟨rfl, hB1⟩)
      | (go_at_call 10; refine (CA.out _).mono ?_; rintro e' x2 ⟨rfl, hB2⟩))
    go_ret
    exact ⟨rfl, below_more HB0.out (below_more hB1 hB2)⟩
  have hs : sml L = true := by simpa using hs
  obtain ⟨h20, h100⟩ := sml_yes hs
  have hn20 : n ≤ 20 := by omega
  have ho : (once L).length ≤ 1000 := by have := once_len L; omega
  rw [hs] at CS
  obtain ⟨V, hV⟩ : ∃ z, z = filt k l L := ⟨_, rfl⟩
  obtain ⟨s, hs'⟩ : ∃ z : ByteArray, z = ⟨V.toArray⟩ := ⟨_, rfl⟩
  have HS := Lib.hid hs'
  have CG : Hid (∀ W, Below w0.heap.size w0 W → Calls Try.prog 11 #[.agg #[.int .u64 (k : Int), .int .u64 (l : Int)], .slice A n c] W fun e w' => ∃ A' n' c', e = .returned (.tuple #[.slice A' n' c', .int .i64 0]) ∧ Rd w' A' n' V ∧ n' ≤ c' ∧ c' ≤ maxLen ∧ Below W.heap.size W w') := Lib.hid fun W hb => by
    rw [hV]
    exact K.buildR W k l A n c L hk64 hl64 (hr0.below hb) hnc hcm (by omega) (fun t ht => by have := h100 t ht; omega) ho
  have CT : Hid (∀ W, Below w0.heap.size w0 W → Calls Try.prog 13 #[.slice A n c] W fun e w' => ∃ A' c', e = .returned (.slice A' n c') ∧ OwnR w' W.heap.size 9 A' n c' (L.map VT) ∧ Below W.heap.size W w') := Lib.hid fun W hb => gtexts_calls A n c L W (hr0.below hb) (by omega)
  have CB : Hid (∀ W A' c', RdR W A' n (L.map VT) → Calls Try.prog 12 #[.agg #[.int .u64 (k : Int), .int .u64 (l : Int)], .slice A' n c'] W (Ret W (.string s))) := Lib.hid fun W A' c' h => by
    rw [hs', hV]
    exact gbuild_calls k l A' n c' L W hk64 hl64 h (by omega) (fun t ht => by have := h100 t ht; omega)
  clear hr hr0 hB0 hs hV hs' h20 h100 ho K hln hw0
  go_enter Try.func3, Try.ntmps3
  go_upto_region 1 with fail
  rw [← HW0.out]
  go_upto_region 3 with (first
    | (go_at_call 9; refine (CS.out _ (Below.refl _ _)).mono ?_; rintro e' x1 ⟨rfl, hB1⟩))
  have hk := blk_upG hk0 hB1
  go_upto_region 4 with (first
    | ((with_reducible refine at_load 23 (.tmp 2) ?_); refine wpList_load_mid rfl 23 (.tmp 2) rfl w.heap.size 0 (by first | rfl | (simp [Act.eval]; done)) [.int .u64 (k : Int), .int .u64 (l : Int)] _ (Blk.range hk) Try.underlying23 rfl (by kernel_rfl) ?_)
    | (go_at_call 11; refine (CG.out _ hB1).mono ?_; rintro e' x2 ⟨A5, n5, c5, rfl, hR5, hn5, hc5, hB2⟩))
  have hk := (blk_upG hk hB2).drew
  have hR5 : Rd x2.drew A5 n5 V := hR5
  have hB := (below_more hB1 hB2).drew
  unfold maxLen at hc5
  clear hB1 hB2 hk0 CS CG
  refine wp_region_held_drew (S := fun W => Blk W w.heap.size [.int .u64 (k : Int), .int .u64 (l : Int)] 23) (by kernel_rfl) ?_ (fun hHeld => ?_)
  · exact hk
  refine wpAnyH_take (i := 0) (v := ?_) rfl (by kernel_rfl) (by kernel_rfl) (by kernel_rfl) (fun _ _ _ h => h) (Or.inl ⟨by rfl, ?_⟩) (by assumption) ?_
  rotate_left 1
  · intro w hSw; (try dsimp only at hSw); simp only [List.getElem_toArray, List.getElem_cons_succ, List.getElem_cons_zero]; go_simp; try (with_reducible rfl)
  (try simp only [List.getElem_toArray, List.getElem_cons_succ, List.getElem_cons_zero, Act.put, List.setIfInBounds_toArray, List.set_cons_succ, List.set_cons_zero])
  refine wpAnyH_take (i := 1) (v := .bool true) rfl (by kernel_rfl) (by kernel_rfl) (by kernel_rfl) (fun _ _ _ h => h) (Or.inl ⟨by rfl, ?_⟩) (by assumption) ?_
  · intro w hSw; (try dsimp only at hSw); simp only [List.getElem_toArray, List.getElem_cons_succ, List.getElem_cons_zero]; first | (go_simp; done) | (simp [execOp, Act.eval]; done)
  (try simp only [List.getElem_toArray, List.getElem_cons_succ, List.getElem_cons_zero, Act.put, List.setIfInBounds_toArray, List.set_cons_succ, List.set_cons_zero])
  refine wpAnyH_take (i := 2) (v := ?_) rfl (by kernel_rfl) (by kernel_rfl) (by kernel_rfl) (fun _ _ _ h => h) (Or.inl ⟨by rfl, ?_⟩) (by assumption) ?_
  rotate_left 1
  · intro w hSw; (try dsimp only at hSw); simp only [List.getElem_toArray, List.getElem_cons_succ, List.getElem_cons_zero]; go_simp; try (with_reducible rfl)
  (try simp only [List.getElem_toArray, List.getElem_cons_succ, List.getElem_cons_zero, Act.put, List.setIfInBounds_toArray, List.set_cons_succ, List.set_cons_zero])
  refine wpAnyH_take (i := 3) (v := ?_) rfl (by kernel_rfl) (by kernel_rfl) (by kernel_rfl) (fun _ _ _ h => h) (Or.inl ⟨by rfl, ?_⟩) (by assumption) ?_
  rotate_left 1
  · intro w hSw; (try dsimp only at hSw); simp only [List.getElem_toArray, List.getElem_cons_succ, List.getElem_cons_zero]; go_simp; try (with_reducible rfl)
  (try simp only [List.getElem_toArray, List.getElem_cons_succ, List.getElem_cons_zero, Act.put, List.setIfInBounds_toArray, List.set_cons_succ, List.set_cons_zero])
  refine wpAnyH_take (i := 5) rfl (by kernel_rfl) (by kernel_rfl) (by kernel_rfl) (fun _ _ _ h => h) (yieldsIf_load_mid (by rfl) _ _ rfl _ _ rfl [.int .u64 (k : Int), .int .u64 (l : Int)] _ (fun w hSw => Blk.range hSw) Try.underlying23 rfl (by kernel_rfl)) (by assumption) ?_
  (try simp only [List.getElem_toArray, List.getElem_cons_succ, List.getElem_cons_zero, Act.put, List.setIfInBounds_toArray, List.set_cons_succ, List.set_cons_zero])
  refine wpAnyH_take (i := 6) (v := ?_) rfl (by kernel_rfl) (by kernel_rfl) (by kernel_rfl) (fun _ _ _ h => h) (Or.inl ⟨by rfl, ?_⟩) (by assumption) ?_
  rotate_left 1
  · intro w hSw; (try dsimp only at hSw); simp only [List.getElem_toArray, List.getElem_cons_succ, List.getElem_cons_zero]; go_simp; try (with_reducible rfl)
  (try simp only [List.getElem_toArray, List.getElem_cons_succ, List.getElem_cons_zero, Act.put, List.setIfInBounds_toArray, List.set_cons_succ, List.set_cons_zero])
  refine wpAnyH_ready (rs := [4, 7]) (by kernel_rfl) (by simp) ?_
  refine AllReadyH.cons rfl (fun K hK => ?_) ?_
  · (try simp only [List.getElem_toArray, List.getElem_cons_succ, List.getElem_cons_zero])
    refine Eq.mpr (if_pos (by first | rfl | simp [Region.wanted, yielded, Act.put])) ?_
    refine wp_cvG (u := .string s) _ rfl (by first | rfl | (simp [Act.eval]; done)) (by rw [HS.out]; exact conv8 _ A5 n5 c5 _ hR5) ?_
    refine hK.out _ _ ?_ (fun hHeld => ?_)
    · exact hk
    clear hK K
    (try simp only [Act.put, List.setIfInBounds_toArray, List.set_cons_succ, List.set_cons_zero])
    refine wpAnyH_ready (rs := [7]) (by kernel_rfl) (by simp) ?_
    refine AllReadyH.cons rfl (fun K hK => ?_) AllReadyH.nil
    (try simp only [List.getElem_toArray, List.getElem_cons_succ, List.getElem_cons_zero])
    go_simp
    go_at_call 13; refine (CT.out _ hB).mono ?_; rintro e' x3 ⟨A6, c6, rfl, hO6, hB6⟩
    (try (go_wp2_with fail))
    refine hK.out _ _ ?_ (fun hHeld => ?_)
    · exact blk_upG hk hB6
    clear hK K
    (try simp only [Act.put, List.setIfInBounds_toArray, List.set_cons_succ, List.set_cons_zero])
    have hk := blk_upG hk hB6
    have hR5 := hR5.below hB6
    have hB := below_more hB hB6
    refine wpAnyH_ready (rs := [8]) (by kernel_rfl) (by simp) ?_
    refine AllReadyH.cons rfl (fun K hK => ?_) AllReadyH.nil
    (try simp only [List.getElem_toArray, List.getElem_cons_succ, List.getElem_cons_zero])
    go_simp
    go_at_call 12; refine (CB.out _ A6 c6 hO6.rd).mono ?_; rintro e' x4 ⟨rfl, hB7⟩
    (try (go_wp2_with fail))
    refine hK.out _ _ ?_ (fun hHeld => ?_)
    · exact blk_upG hk hB7
    clear hK K
    (try simp only [Act.put, List.setIfInBounds_toArray, List.set_cons_succ, List.set_cons_zero])
    have hk := blk_upG hk hB7
    have hR5 := hR5.below hB7
    have hB := below_more hB hB7
    refine wpAnyH_take (i := 9) (v := .bool true) rfl (by kernel_rfl) (by kernel_rfl) (by kernel_rfl) (fun _ _ _ h => h) (Or.inl ⟨by rfl, ?_⟩) (by assumption) ?_
    · intro w hSw; (try dsimp only at hSw); simp only [List.getElem_toArray, List.getElem_cons_succ, List.getElem_cons_zero]; first | (go_simp; done) | (simp [execOp, Act.eval]; done)
    (try simp only [List.getElem_toArray, List.getElem_cons_succ, List.getElem_cons_zero, Act.put, List.setIfInBounds_toArray, List.set_cons_succ, List.set_cons_zero])
    refine wpAnyH_take (i := 10) (v := ?_) rfl (by kernel_rfl) (by kernel_rfl) (by kernel_rfl) (fun _ _ _ h => h) (Or.inl ⟨by rfl, ?_⟩) (by assumption) ?_
    rotate_left 1
    · intro w hSw; (try dsimp only at hSw); simp only [List.getElem_toArray, List.getElem_cons_succ, List.getElem_cons_zero]; go_simp; try (with_reducible rfl)
    (try simp only [List.getElem_toArray, List.getElem_cons_succ, List.getElem_cons_zero, Act.put, List.setIfInBounds_toArray, List.set_cons_succ, List.set_cons_zero])
    refine wpAnyH_take (i := 11) (v := ?_) rfl (by kernel_rfl) (by kernel_rfl) (by kernel_rfl) (fun _ _ _ h => h) (Or.inl ⟨by rfl, ?_⟩) (by assumption) ?_
    rotate_left 1
    · intro w hSw; (try dsimp only at hSw); simp only [List.getElem_toArray, List.getElem_cons_succ, List.getElem_cons_zero]; go_simp; try (with_reducible rfl)
    (try simp only [List.getElem_toArray, List.getElem_cons_succ, List.getElem_cons_zero, Act.put, List.setIfInBounds_toArray, List.set_cons_succ, List.set_cons_zero])
    refine wpAnyH_ready (rs := [12]) (by kernel_rfl) (by simp) ?_
    refine AllReadyH.cons rfl (fun K hK => ?_) AllReadyH.nil
    (try simp only [List.getElem_toArray, List.getElem_cons_succ, List.getElem_cons_zero])
    go_simp
    go_at_call 10; refine (CA.out _).mono ?_; rintro e' x5 ⟨rfl, hB8⟩
    (try (go_wp2_with fail))
    refine hK.out _ _ ?_ (fun hHeld => ?_)
    · exact blk_upG hk hB8
    clear hK K
    (try simp only [Act.put, List.setIfInBounds_toArray, List.set_cons_succ, List.set_cons_zero])
    refine wpAnyH_take (i := 13) (v := ?_) rfl (by kernel_rfl) (by kernel_rfl) (by kernel_rfl) (fun _ _ _ h => h) (Or.inl ⟨by rfl, ?_⟩) (by assumption) ?_
    rotate_left 1
    · intro w hSw; (try dsimp only at hSw); simp only [List.getElem_toArray, List.getElem_cons_succ, List.getElem_cons_zero]; go_simp; try (with_reducible rfl)
    (try simp only [List.getElem_toArray, List.getElem_cons_succ, List.getElem_cons_zero, Act.put, List.setIfInBounds_toArray, List.set_cons_succ, List.set_cons_zero])
    refine wpAnyH_take (i := 14) (v := ?_) rfl (by kernel_rfl) (by kernel_rfl) (by kernel_rfl) (fun _ _ _ h => h) (Or.inl ⟨by rfl, ?_⟩) (by assumption) ?_
    rotate_left 1
    · intro w hSw; (try dsimp only at hSw); simp only [List.getElem_toArray, List.getElem_cons_succ, List.getElem_cons_zero]; go_simp; try (with_reducible rfl)
    (try simp only [List.getElem_toArray, List.getElem_cons_succ, List.getElem_cons_zero, Act.put, List.setIfInBounds_toArray, List.set_cons_succ, List.set_cons_zero])
    refine wpAnyH_done (by kernel_rfl) ?_ _
    go_wp2
    go_ret
    exact ⟨rfl, HB0.out.trans ((below_more hB hB8).mono (by omega))⟩
  refine AllReadyH.cons rfl (fun K hK => ?_) AllReadyH.nil
  (try simp only [List.getElem_toArray, List.getElem_cons_succ, List.getElem_cons_zero])
  go_simp
  go_at_call 13; refine (CT.out _ hB).mono ?_; rintro e' x3 ⟨A6, c6, rfl, hO6, hB6⟩
  (try (go_wp2_with fail))
  refine hK.out _ _ ?_ (fun hHeld => ?_)
  · exact blk_upG hk hB6
  clear hK K
  (try simp only [Act.put, List.setIfInBounds_toArray, List.set_cons_succ, List.set_cons_zero])
  have hk := blk_upG hk hB6
  have hR5 := hR5.below hB6
  have hB := below_more hB hB6
  refine wpAnyH_ready (rs := [4, 8]) (by kernel_rfl) (by simp) ?_
  refine AllReadyH.cons rfl (fun K hK => ?_) ?_
  · (try simp only [List.getElem_toArray, List.getElem_cons_succ, List.getElem_cons_zero])
    refine Eq.mpr (if_pos (by first | rfl | simp [Region.wanted, yielded, Act.put])) ?_
    refine wp_cvG (u := .string s) _ rfl (by first | rfl | (simp [Act.eval]; done)) (by rw [HS.out]; exact conv8 _ A5 n5 c5 _ hR5) ?_
    refine hK.out _ _ ?_ (fun hHeld => ?_)
    · exact hk
    clear hK K
    (try simp only [Act.put, List.setIfInBounds_toArray, List.set_cons_succ, List.set_cons_zero])
    refine wpAnyH_ready (rs := [8]) (by kernel_rfl) (by simp) ?_
    refine AllReadyH.cons rfl (fun K hK => ?_) AllReadyH.nil
    (try simp only [List.getElem_toArray, List.getElem_cons_succ, List.getElem_cons_zero])
    go_simp
    go_at_call 12; refine (CB.out _ A6 c6 hO6.rd).mono ?_; rintro e' x4 ⟨rfl, hB7⟩
    (try (go_wp2_with fail))
    refine hK.out _ _ ?_ (fun hHeld => ?_)
    · exact blk_upG hk hB7
    clear hK K
    (try simp only [Act.put, List.setIfInBounds_toArray, List.set_cons_succ, List.set_cons_zero])
    have hk := blk_upG hk hB7
    have hR5 := hR5.below hB7
    have hB := below_more hB hB7
    refine wpAnyH_take (i := 9) (v := .bool true) rfl (by kernel_rfl) (by kernel_rfl) (by kernel_rfl) (fun _ _ _ h => h) (Or.inl ⟨by rfl, ?_⟩) (by assumption) ?_
    · intro w hSw; (try dsimp only at hSw); simp only [List.getElem_toArray, List.getElem_cons_succ, List.getElem_cons_zero]; first | (go_simp; done) | (simp [execOp, Act.eval]; done)
    (try simp only [List.getElem_toArray, List.getElem_cons_succ, List.getElem_cons_zero, Act.put, List.setIfInBounds_toArray, List.set_cons_succ, List.set_cons_zero])
    refine wpAnyH_take (i := 10) (v := ?_) rfl (by kernel_rfl) (by kernel_rfl) (by kernel_rfl) (fun _ _ _ h => h) (Or.inl ⟨by rfl, ?_⟩) (by assumption) ?_
    rotate_left 1
    · intro w hSw; (try dsimp only at hSw); simp only [List.getElem_toArray, List.getElem_cons_succ, List.getElem_cons_zero]; go_simp; try (with_reducible rfl)
    (try simp only [List.getElem_toArray, List.getElem_cons_succ, List.getElem_cons_zero, Act.put, List.setIfInBounds_toArray, List.set_cons_succ, List.set_cons_zero])
    refine wpAnyH_take (i := 11) (v := ?_) rfl (by kernel_rfl) (by kernel_rfl) (by kernel_rfl) (fun _ _ _ h => h) (Or.inl ⟨by rfl, ?_⟩) (by assumption) ?_
    rotate_left 1
    · intro w hSw; (try dsimp only at hSw); simp only [List.getElem_toArray, List.getElem_cons_succ, List.getElem_cons_zero]; go_simp; try (with_reducible rfl)
    (try simp only [List.getElem_toArray, List.getElem_cons_succ, List.getElem_cons_zero, Act.put, List.setIfInBounds_toArray, List.set_cons_succ, List.set_cons_zero])
    refine wpAnyH_ready (rs := [12]) (by kernel_rfl) (by simp) ?_
    refine AllReadyH.cons rfl (fun K hK => ?_) AllReadyH.nil
    (try simp only [List.getElem_toArray, List.getElem_cons_succ, List.getElem_cons_zero])
    go_simp
    go_at_call 10; refine (CA.out _).mono ?_; rintro e' x5 ⟨rfl, hB8⟩
    (try (go_wp2_with fail))
    refine hK.out _ _ ?_ (fun hHeld => ?_)
    · exact blk_upG hk hB8
    clear hK K
    (try simp only [Act.put, List.setIfInBounds_toArray, List.set_cons_succ, List.set_cons_zero])
    refine wpAnyH_take (i := 13) (v := ?_) rfl (by kernel_rfl) (by kernel_rfl) (by kernel_rfl) (fun _ _ _ h => h) (Or.inl ⟨by rfl, ?_⟩) (by assumption) ?_
    rotate_left 1
    · intro w hSw; (try dsimp only at hSw); simp only [List.getElem_toArray, List.getElem_cons_succ, List.getElem_cons_zero]; go_simp; try (with_reducible rfl)
    (try simp only [List.getElem_toArray, List.getElem_cons_succ, List.getElem_cons_zero, Act.put, List.setIfInBounds_toArray, List.set_cons_succ, List.set_cons_zero])
    refine wpAnyH_take (i := 14) (v := ?_) rfl (by kernel_rfl) (by kernel_rfl) (by kernel_rfl) (fun _ _ _ h => h) (Or.inl ⟨by rfl, ?_⟩) (by assumption) ?_
    rotate_left 1
    · intro w hSw; (try dsimp only at hSw); simp only [List.getElem_toArray, List.getElem_cons_succ, List.getElem_cons_zero]; go_simp; try (with_reducible rfl)
    (try simp only [List.getElem_toArray, List.getElem_cons_succ, List.getElem_cons_zero, Act.put, List.setIfInBounds_toArray, List.set_cons_succ, List.set_cons_zero])
    refine wpAnyH_done (by kernel_rfl) ?_ _
    go_wp2
    go_ret
    exact ⟨rfl, HB0.out.trans ((below_more hB hB8).mono (by omega))⟩
  refine AllReadyH.cons rfl (fun K hK => ?_) AllReadyH.nil
  (try simp only [List.getElem_toArray, List.getElem_cons_succ, List.getElem_cons_zero])
  go_simp
  go_at_call 12; refine (CB.out _ A6 c6 hO6.rd).mono ?_; rintro e' x4 ⟨rfl, hB7⟩
  (try (go_wp2_with fail))
  refine hK.out _ _ ?_ (fun hHeld => ?_)
  · exact blk_upG hk hB7
  clear hK K
  (try simp only [Act.put, List.setIfInBounds_toArray, List.set_cons_succ, List.set_cons_zero])
  have hk := blk_upG hk hB7
  have hR5 := hR5.below hB7
  have hB := below_more hB hB7
  refine wpAnyH_ready (rs := [4]) (by kernel_rfl) (by simp) ?_
  refine AllReadyH.cons rfl (fun K hK => ?_) AllReadyH.nil
  (try simp only [List.getElem_toArray, List.getElem_cons_succ, List.getElem_cons_zero])
  refine Eq.mpr (if_pos (by first | rfl | simp [Region.wanted, yielded, Act.put])) ?_
  refine wp_cvG (u := .string s) _ rfl (by first | rfl | (simp [Act.eval]; done)) (by rw [HS.out]; exact conv8 _ A5 n5 c5 _ hR5) ?_
  refine hK.out _ _ ?_ (fun hHeld => ?_)
  · exact hk
  clear hK K
  (try simp only [Act.put, List.setIfInBounds_toArray, List.set_cons_succ, List.set_cons_zero])
  refine wpAnyH_take (i := 9) (v := .bool true) rfl (by kernel_rfl) (by kernel_rfl) (by kernel_rfl) (fun _ _ _ h => h) (Or.inl ⟨by rfl, ?_⟩) (by assumption) ?_
  · intro w hSw; (try dsimp only at hSw); simp only [List.getElem_toArray, List.getElem_cons_succ, List.getElem_cons_zero]; first | (go_simp; done) | (simp [execOp, Act.eval]; done)
  (try simp only [List.getElem_toArray, List.getElem_cons_succ, List.getElem_cons_zero, Act.put, List.setIfInBounds_toArray, List.set_cons_succ, List.set_cons_zero])
  refine wpAnyH_take (i := 10) (v := ?_) rfl (by kernel_rfl) (by kernel_rfl) (by kernel_rfl) (fun _ _ _ h => h) (Or.inl ⟨by rfl, ?_⟩) (by assumption) ?_
  rotate_left 1
  · intro w hSw; (try dsimp only at hSw); simp only [List.getElem_toArray, List.getElem_cons_succ, List.getElem_cons_zero]; go_simp; try (with_reducible rfl)
  (try simp only [List.getElem_toArray, List.getElem_cons_succ, List.getElem_cons_zero, Act.put, List.setIfInBounds_toArray, List.set_cons_succ, List.set_cons_zero])
  refine wpAnyH_take (i := 11) (v := ?_) rfl (by kernel_rfl) (by kernel_rfl) (by kernel_rfl) (fun _ _ _ h => h) (Or.inl ⟨by rfl, ?_⟩) (by assumption) ?_
  rotate_left 1
  · intro w hSw; (try dsimp only at hSw); simp only [List.getElem_toArray, List.getElem_cons_succ, List.getElem_cons_zero]; go_simp; try (with_reducible rfl)
  (try simp only [List.getElem_toArray, List.getElem_cons_succ, List.getElem_cons_zero, Act.put, List.setIfInBounds_toArray, List.set_cons_succ, List.set_cons_zero])
  refine wpAnyH_ready (rs := [12]) (by kernel_rfl) (by simp) ?_
  refine AllReadyH.cons rfl (fun K hK => ?_) AllReadyH.nil
  (try simp only [List.getElem_toArray, List.getElem_cons_succ, List.getElem_cons_zero])
  go_simp
  go_at_call 10; refine (CA.out _).mono ?_; rintro e' x5 ⟨rfl, hB8⟩
  (try (go_wp2_with fail))
  refine hK.out _ _ ?_ (fun hHeld => ?_)
  · exact blk_upG hk hB8
  clear hK K
  (try simp only [Act.put, List.setIfInBounds_toArray, List.set_cons_succ, List.set_cons_zero])
  refine wpAnyH_take (i := 13) (v := ?_) rfl (by kernel_rfl) (by kernel_rfl) (by kernel_rfl) (fun _ _ _ h => h) (Or.inl ⟨by rfl, ?_⟩) (by assumption) ?_
  rotate_left 1
  · intro w hSw; (try dsimp only at hSw); simp only [List.getElem_toArray, List.getElem_cons_succ, List.getElem_cons_zero]; go_simp; try (with_reducible rfl)
  (try simp only [List.getElem_toArray, List.getElem_cons_succ, List.getElem_cons_zero, Act.put, List.setIfInBounds_toArray, List.set_cons_succ, List.set_cons_zero])
  refine wpAnyH_take (i := 14) (v := ?_) rfl (by kernel_rfl) (by kernel_rfl) (by kernel_rfl) (fun _ _ _ h => h) (Or.inl ⟨by rfl, ?_⟩) (by assumption) ?_
  rotate_left 1
  · intro w hSw; (try dsimp only at hSw); simp only [List.getElem_toArray, List.getElem_cons_succ, List.getElem_cons_zero]; go_simp; try (with_reducible rfl)
  (try simp only [List.getElem_toArray, List.getElem_cons_succ, List.getElem_cons_zero, Act.put, List.setIfInBounds_toArray, List.set_cons_succ, List.set_cons_zero])
  refine wpAnyH_done (by kernel_rfl) ?_ _
  go_wp2
  go_ret
  exact ⟨rfl, HB0.out.trans ((below_more hB hB8).mono (by omega))⟩
end Go.Proofs.Ytplnmjdafchjbaa
