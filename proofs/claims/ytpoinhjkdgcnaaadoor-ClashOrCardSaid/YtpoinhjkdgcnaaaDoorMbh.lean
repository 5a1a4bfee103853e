/- Merged texts: ClaU. -/
import Derived.Test.YtpoinhjkdgcnaaaDoorMbg
import Derived.Test.YtpoinhjkdgcnaaaDoorMan
/- The walks of ClashFinds and ClashIs over what package clash is to answer. -/
namespace Go.Proofs.YtpoinhjkdgcnaaaDoor
open Go.RowKit
set_option linter.unusedVariables false
set_option linter.unusedSimpArgs false

set_option maxRecDepth 100000 in
set_option maxHeartbeats 4000000 in
theorem clashFinds_asleep (AL AT AP : Option Addr) (n cL k cT m cP : Nat) (c i : Int) (w : World) (CA : Hid (∀ W, Below w.heap.size w W → Calls Tryd.prog 9 #[] W (Ret W (.bool true)))) (CS : Hid (∀ W, Below w.heap.size w W → Calls Tryd.prog 8 #[.agg #[.slice AL n cL, .slice AT k cT, .int .i64 c, .int .i64 i, .slice AP m cP]] W (Ret W (.bool false)))) : Calls Tryd.prog 4 #[.agg #[.slice AL n cL, .slice AT k cT, .int .i64 c, .int .i64 i, .slice AP m cP]] w (Ret w (.bool true)) := by
  obtain ⟨w0, hw0⟩ : ∃ x, x = w.alloc (.cells #[.slice AL n cL, .slice AT k cT, .int .i64 c, .int .i64 i, .slice AP m cP] 28) := ⟨_, rfl⟩
  have hB0 : Below w.heap.size w w0 := by rw [hw0]; exact below_al (Below.refl _ _) _
  have hk0 : Blk w0 w.heap.size [.slice AL n cL, .slice AT k cT, .int .i64 c, .int .i64 i, .slice AP m cP] 28 := by rw [hw0]; exact Blk.new w _ _
  have hw1 : w.alloc (.cells #[.slice AL n cL, .slice AT k cT, .int .i64 c, .int .i64 i, .slice AP m cP] 28) = w0 := hw0.symm
  clear hw0
  go_enter Tryd.func4, Tryd.ntmps4
  go_upto_region 1 with fail
  try rw [hw1]
  clear hw1
  go_wp2_with (first
    | ((with_reducible refine at_load 28 (.tmp 1) ?_); refine wpList_load_mid rfl 28 (.tmp 1) rfl (w.heap.size) 0 (by first | rfl | simp [Act.eval]) [.slice AL n cL, .slice AT k cT, .int .i64 c, .int .i64 i, .slice AP m cP] _ (Blk.range hk0) Tryd.underlying28 rfl (by kernel_rfl) ?_)
    | (go_at_call 8; refine (CS.out _ hB0).mono ?_; rintro e' x1 ⟨rfl, d1⟩)
    | (go_at_call 9; refine (CA.out _ (below_more hB0 d1)).mono ?_; rintro e' v9 ⟨rfl, d9⟩))
  go_ret
  exact ⟨rfl, below_more (below_more hB0 d1) d9⟩
set_option maxRecDepth 100000 in
set_option maxHeartbeats 4000000 in
theorem clashFinds_walk (AL AT AP : Option Addr) (n cL k cT m cP : Nat) (c i : Int) (T P : List (List UInt8)) (x a b : List UInt8) (ok : Bool) (w : World) (CA : Hid (∀ W, Below w.heap.size w W → Calls Tryd.prog 9 #[] W (Ret W (.bool true)))) (CS : Hid (∀ W, Below w.heap.size w W → Calls Tryd.prog 8 #[.agg #[.slice AL n cL, .slice AT k cT, .int .i64 c, .int .i64 i, .slice AP m cP]] W (Ret W (.bool true)))) (GE : Hid (∀ W, Below w.heap.size w W → Calls Tryd.prog 17 #[.slice AL n cL, .slice AT k cT, .agg #[.int .i64 c, .int .i64 i, .slice AP m cP]] W fun e w' => ∃ A1 n1 c1 A2 n2 c2, e = .returned (.tuple #[.slice A1 n1 c1, .slice A2 n2 c2, .bool ok]) ∧ (Rd w' A1 n1 a ∧ n1 ≤ c1 ∧ c1 ≤ maxLen) ∧ (Rd w' A2 n2 b ∧ n2 ≤ c2 ∧ c2 ≤ maxLen) ∧ Below W.heap.size W w')) (LT : Hid (∀ W, Below w.heap.size w W → Calls Tryd.prog 13 #[.slice AL n cL] W fun e w' => ∃ A' c', e = .returned (.slice A' n c') ∧ RdS w' A' n T ∧ Below W.heap.size W w')) (RF : Hid (∀ W, Below w.heap.size w W → Calls Tryd.prog 16 #[.agg #[.int .i64 c, .int .i64 i, .slice AP m cP]] W fun e w' => ∃ A5 c5, e = .returned (.agg #[.int .i64 c, .int .i64 i, .slice A5 m c5]) ∧ RdH w' A5 m P ∧ Below W.heap.size W w')) (DE : Hid (∀ (W : World) (A3 : Option Addr) (c3 : Nat) (A5 : Option Addr) (c5 : Nat), RdS W A3 n T → RdH W A5 m P → Calls Tryd.prog 18 #[.slice A3 n c3, .string ⟨x.toArray⟩, .agg #[.int .i64 c, .int .i64 i, .slice A5 m c5]] W (Ret W (.tuple #[.string ⟨a.toArray⟩, .string ⟨b.toArray⟩, .bool ok])))) (HX : Hid (Rd w AT k x)) :
    Calls Tryd.prog 4 #[.agg #[.slice AL n cL, .slice AT k cT, .int .i64 c, .int .i64 i, .slice AP m cP]] w (Ret w (.bool true)) := by
  obtain ⟨w0, hw0⟩ : ∃ x, x = w.alloc (.cells #[.slice AL n cL, .slice AT k cT, .int .i64 c, .int .i64 i, .slice AP m cP] 28) := ⟨_, rfl⟩
  have hB0 : Below w.heap.size w w0 := by rw [hw0]; exact below_al (Below.refl _ _) _
  have hk0 : Blk w0 w.heap.size [.slice AL n cL, .slice AT k cT, .int .i64 c, .int .i64 i, .slice AP m cP] 28 := by rw [hw0]; exact Blk.new w _ _
  have hw1 : w.alloc (.cells #[.slice AL n cL, .slice AT k cT, .int .i64 c, .int .i64 i, .slice AP m cP] 28) = w0 := hw0.symm
  clear hw0
  go_enter Tryd.func4, Tryd.ntmps4
  go_upto_region 1 with fail
  try rw [hw1]
  clear hw1
  go_upto_region 3 with (first
    | ((with_reducible refine at_load 28 (.tmp 1) ?_); refine wpList_load_mid rfl 28 (.tmp 1) rfl (w.heap.size) 0 (by first | rfl | simp [Act.eval]) [.slice AL n cL, .slice AT k cT, .int .i64 c, .int .i64 i, .slice AP m cP] _ (Blk.range hk0) Tryd.underlying28 rfl (by kernel_rfl) ?_)
    | (go_at_call 8; refine (CS.out _ hB0).mono ?_; rintro e' x1 ⟨rfl, d1⟩))
  have hBx := below_more hB0 d1
  have hk1 := hk0.up d1
  have s0 : x1.cell? ⟨w.heap.size, 0, none⟩ = some (.slice AL n cL) := hk1.cell 0
  have s1 : x1.cell? ⟨w.heap.size, 1, none⟩ = some (.slice AT k cT) := hk1.cell 1
  clear hk0 d1 hB0 CS
  go_upto_region 4 with (first
    | ((with_reducible refine at_load 26 (.tmp 18) ?_); refine wpList_load_mid rfl 26 (.tmp 18) rfl (w.heap.size) (0 + 2) (by first | rfl | simp [Act.eval]) [.int .i64 c, .int .i64 i, .slice AP m cP] _ (case_mid hk1) Tryd.underlying26 rfl (by kernel_rfl) ?_)
    | (go_at_call 17; refine (GE.out _ hBx).mono ?_; rintro e' y3 ⟨A1, n1, c1, A2, n2, c2, rfl, ha, hb, e3⟩))
  have hB3 := below_more hBx e3
  have hk3 := hk1.up e3
  have K4 : Hid (∀ W, Below y3.heap.size y3 W → W.cell? ⟨w.heap.size, 0, none⟩ = some (.slice AL n cL) ∧ W.cell? ⟨w.heap.size, 1, none⟩ = some (.slice AT k cT) ∧ W.rangeAt (w.heap.size) (0 + 2) [.int .i64 c, .int .i64 i, .slice AP m cP] ∧ (convert 23 9 (.slice AT k cT)).run Tryd.prog W = .ok (.string ⟨x.toArray⟩) W) := Lib.hid fun W h => ⟨(hk3.up h).cell 0, (hk3.up h).cell 1, case_mid (hk3.up h), conv8 W AT k cT x (HX.out.below (below_more hB3 h))⟩
  clear hk1 s0 s1 e3
  refine wp_region_held_drew (S := fun W => W.cell? ⟨w.heap.size, 0, none⟩ = some (.slice AL n cL) ∧ W.cell? ⟨w.heap.size, 1, none⟩ = some (.slice AT k cT) ∧ W.rangeAt (w.heap.size) (0 + 2) [.int .i64 c, .int .i64 i, .slice AP m cP] ∧ (convert 23 9 (.slice AT k cT)).run Tryd.prog W = .ok (.string ⟨x.toArray⟩) W) (by kernel_rfl) ?_ (fun hHeld => ?_)
  · exact K4.out _ (by ((repeat (first | with_reducible assumption | with_reducible exact Below.refl _ _ | with_reducible apply below_al | with_reducible apply below_dr | with_reducible refine below_more ?_ (by assumption)))))
  refine wpAnyH_take (i := 0) (v := ?_) rfl (by kernel_rfl) (by kernel_rfl) (by kernel_rfl) (fun _ _ _ h => h) (Or.inl ⟨by rfl, ?_⟩) (by assumption) ?_
  rotate_left 1
  · intro w hSw; (try dsimp only at hSw); simp only [List.getElem_toArray, List.getElem_cons_succ, List.getElem_cons_zero]; go_simp; try (with_reducible rfl)
  (try simp only [List.getElem_toArray, List.getElem_cons_succ, List.getElem_cons_zero, Act.put, List.setIfInBounds_toArray, List.set_cons_succ, List.set_cons_zero])
  refine wpAnyH_take (i := 1) (v := ?_) rfl (by kernel_rfl) (by kernel_rfl) (by kernel_rfl) (fun _ _ _ h => h) (Or.inl ⟨by rfl, ?_⟩) (by assumption) ?_
  rotate_left 1
  · intro w hSw; (try dsimp only at hSw); simp only [List.getElem_toArray, List.getElem_cons_succ, List.getElem_cons_zero]; go_simp; try (with_reducible rfl)
  (try simp only [List.getElem_toArray, List.getElem_cons_succ, List.getElem_cons_zero, Act.put, List.setIfInBounds_toArray, List.set_cons_succ, List.set_cons_zero])
  refine wpAnyH_take (i := 3) (v := ?_) rfl (by kernel_rfl) (by kernel_rfl) (by kernel_rfl) (fun _ _ _ h => h) (Or.inl ⟨by rfl, ?_⟩) (by assumption) ?_
  rotate_left 1
  · intro w hSw; (try dsimp only at hSw); simp only [List.getElem_toArray, List.getElem_cons_succ, List.getElem_cons_zero]; go_simp; try (with_reducible rfl)
  (try simp only [List.getElem_toArray, List.getElem_cons_succ, List.getElem_cons_zero, Act.put, List.setIfInBounds_toArray, List.set_cons_succ, List.set_cons_zero])
  refine wpAnyH_take (i := 4) (v := ?_) rfl (by kernel_rfl) (by kernel_rfl) (by kernel_rfl) (fun _ _ _ h => h) (Or.inl ⟨by rfl, ?_⟩) (by assumption) ?_
  rotate_left 1
  · intro w hSw; (try dsimp only at hSw); simp only [List.getElem_toArray, List.getElem_cons_succ, List.getElem_cons_zero]; go_simp; try (with_reducible rfl)
  (try simp only [List.getElem_toArray, List.getElem_cons_succ, List.getElem_cons_zero, Act.put, List.setIfInBounds_toArray, List.set_cons_succ, List.set_cons_zero])
  refine wpAnyH_take (i := 5) (v := .string ⟨x.toArray⟩) rfl (by kernel_rfl) (by kernel_rfl) (by kernel_rfl) (fun _ _ _ h => h) (Or.inl ⟨by rfl, ?_⟩) (by assumption) ?_
  · intro w hSw; (try dsimp only at hSw); simp only [List.getElem_toArray, List.getElem_cons_succ, List.getElem_cons_zero]; have hc := hSw.2.2.2; first | (simp [execOp, Act.eval, hc]; done) | (go_simp; done)
  (try simp only [List.getElem_toArray, List.getElem_cons_succ, List.getElem_cons_zero, Act.put, List.setIfInBounds_toArray, List.set_cons_succ, List.set_cons_zero])
  refine wpAnyH_take (i := 6) (v := ?_) rfl (by kernel_rfl) (by kernel_rfl) (by kernel_rfl) (fun _ _ _ h => h) (Or.inl ⟨by rfl, ?_⟩) (by assumption) ?_
  rotate_left 1
  · intro w hSw; (try dsimp only at hSw); simp only [List.getElem_toArray, List.getElem_cons_succ, List.getElem_cons_zero]; go_simp; try (with_reducible rfl)
  (try simp only [List.getElem_toArray, List.getElem_cons_succ, List.getElem_cons_zero, Act.put, List.setIfInBounds_toArray, List.set_cons_succ, List.set_cons_zero])
  refine wpAnyH_take (i := 7) rfl (by kernel_rfl) (by kernel_rfl) (by kernel_rfl) (fun _ _ _ h => h) (yieldsIf_load_mid (by rfl) _ _ rfl _ _ rfl [.int .i64 c, .int .i64 i, .slice AP m cP] _ (fun w hSw => by (try dsimp only at hSw); go_split_ands; assumption) Tryd.underlying26 rfl (by kernel_rfl)) (by assumption) ?_
  (try simp only [List.getElem_toArray, List.getElem_cons_succ, List.getElem_cons_zero, Act.put, List.setIfInBounds_toArray, List.set_cons_succ, List.set_cons_zero])
  refine wpAnyH_ready (rs := [2]) (by kernel_rfl) (by simp) ?_
  refine AllReadyH.cons rfl (fun K hK => ?_) AllReadyH.nil
  (try simp only [List.getElem_toArray, List.getElem_cons_succ, List.getElem_cons_zero])
  go_simp
  go_at_call 13; refine (LT.out _ (below_more hB3 (by ((repeat (first | with_reducible assumption | with_reducible exact Below.refl _ _ | with_reducible apply below_al | with_reducible apply below_dr | with_reducible refine below_more ?_ (by assumption))))))).mono ?_; rintro e' u2 ⟨A3, c3, rfl, hr3, f2⟩
  (try (go_wp2_with fail))
  refine hK.out _ _ ?_ (fun hHeld => ?_)
  · exact K4.out _ (by ((repeat (first | with_reducible assumption | with_reducible exact Below.refl _ _ | with_reducible apply below_al | with_reducible apply below_dr | with_reducible refine below_more ?_ (by assumption)))))
  clear hK K
  (try simp only [Act.put, List.setIfInBounds_toArray, List.set_cons_succ, List.set_cons_zero])
  refine wpAnyH_ready (rs := [8]) (by kernel_rfl) (by simp) ?_
  refine AllReadyH.cons rfl (fun K hK => ?_) AllReadyH.nil
  (try simp only [List.getElem_toArray, List.getElem_cons_succ, List.getElem_cons_zero])
  go_simp
  go_at_call 16; refine (RF.out _ (below_more hB3 (by ((repeat (first | with_reducible assumption | with_reducible exact Below.refl _ _ | with_reducible apply below_al | with_reducible apply below_dr | with_reducible refine below_more ?_ (by assumption))))))).mono ?_; rintro e' u8 ⟨A5, c5, rfl, hr5, f8⟩
  (try (go_wp2_with fail))
  refine hK.out _ _ ?_ (fun hHeld => ?_)
  · exact K4.out _ (by ((repeat (first | with_reducible assumption | with_reducible exact Below.refl _ _ | with_reducible apply below_al | with_reducible apply below_dr | with_reducible refine below_more ?_ (by assumption)))))
  clear hK K
  (try simp only [Act.put, List.setIfInBounds_toArray, List.set_cons_succ, List.set_cons_zero])
  refine wpAnyH_ready (rs := [9]) (by kernel_rfl) (by simp) ?_
  refine AllReadyH.cons rfl (fun K hK => ?_) AllReadyH.nil
  (try simp only [List.getElem_toArray, List.getElem_cons_succ, List.getElem_cons_zero])
  go_simp
  go_at_call 18; refine (DE.out _ A3 c3 A5 c5 (hr3.below (by ((repeat (first | with_reducible assumption | with_reducible exact Below.refl _ _ | with_reducible apply below_al | with_reducible apply below_dr | with_reducible refine below_more ?_ (by assumption)))))) hr5).mono ?_; rintro e' u9 ⟨rfl, f9⟩
  (try (go_wp2_with fail))
  refine hK.out _ _ ?_ (fun hHeld => ?_)
  · exact K4.out _ (by ((repeat (first | with_reducible assumption | with_reducible exact Below.refl _ _ | with_reducible apply below_al | with_reducible apply below_dr | with_reducible refine below_more ?_ (by assumption)))))
  clear hK K
  (try simp only [Act.put, List.setIfInBounds_toArray, List.set_cons_succ, List.set_cons_zero])
  refine wpAnyH_take (i := 10) (v := ?_) rfl (by kernel_rfl) (by kernel_rfl) (by kernel_rfl) (fun _ _ _ h => h) (Or.inl ⟨by rfl, ?_⟩) (by assumption) ?_
  rotate_left 1
  · intro w hSw; (try dsimp only at hSw); simp only [List.getElem_toArray, List.getElem_cons_succ, List.getElem_cons_zero]; go_simp; try (with_reducible rfl)
  (try simp only [List.getElem_toArray, List.getElem_cons_succ, List.getElem_cons_zero, Act.put, List.setIfInBounds_toArray, List.set_cons_succ, List.set_cons_zero])
  refine wpAnyH_take (i := 11) (v := ?_) rfl (by kernel_rfl) (by kernel_rfl) (by kernel_rfl) (fun _ _ _ h => h) (Or.inl ⟨by rfl, ?_⟩) (by assumption) ?_
  rotate_left 1
  · intro w hSw; (try dsimp only at hSw); simp only [List.getElem_toArray, List.getElem_cons_succ, List.getElem_cons_zero]; go_simp; try (with_reducible rfl)
  (try simp only [List.getElem_toArray, List.getElem_cons_succ, List.getElem_cons_zero, Act.put, List.setIfInBounds_toArray, List.set_cons_succ, List.set_cons_zero])
  refine wpAnyH_take (i := 12) (v := ?_) rfl (by kernel_rfl) (by kernel_rfl) (by kernel_rfl) (fun _ _ _ h => h) (Or.inl ⟨by rfl, ?_⟩) (by assumption) ?_
  rotate_left 1
  · intro w hSw; (try dsimp only at hSw); simp only [List.getElem_toArray, List.getElem_cons_succ, List.getElem_cons_zero]; go_simp; try (with_reducible rfl)
  (try simp only [List.getElem_toArray, List.getElem_cons_succ, List.getElem_cons_zero, Act.put, List.setIfInBounds_toArray, List.set_cons_succ, List.set_cons_zero])
  refine wpAnyH_take (i := 13) (v := ?_) rfl (by kernel_rfl) (by kernel_rfl) (by kernel_rfl) (fun _ _ _ h => h) (Or.inl ⟨by rfl, ?_⟩) (by assumption) ?_
  rotate_left 1
  · intro w hSw; (try dsimp only at hSw); simp only [List.getElem_toArray, List.getElem_cons_succ, List.getElem_cons_zero]; go_simp; try (with_reducible rfl)
  (try simp only [List.getElem_toArray, List.getElem_cons_succ, List.getElem_cons_zero, Act.put, List.setIfInBounds_toArray, List.set_cons_succ, List.set_cons_zero])
  refine wpAnyH_take (i := 14) (v := ?_) rfl (by kernel_rfl) (by kernel_rfl) (by kernel_rfl) (fun _ _ _ h => h) (Or.inl ⟨by rfl, ?_⟩) (by assumption) ?_
  rotate_left 1
  · intro w hSw; (try dsimp only at hSw); simp only [List.getElem_toArray, List.getElem_cons_succ, List.getElem_cons_zero]; go_simp; try (with_reducible rfl)
  (try simp only [List.getElem_toArray, List.getElem_cons_succ, List.getElem_cons_zero, Act.put, List.setIfInBounds_toArray, List.set_cons_succ, List.set_cons_zero])
  refine wpAnyH_take (i := 15) (v := ?_) rfl (by kernel_rfl) (by kernel_rfl) (by kernel_rfl) (fun _ _ _ h => h) (Or.inl ⟨by rfl, ?_⟩) (by assumption) ?_
  rotate_left 1
  · intro w hSw; (try dsimp only at hSw); simp only [List.getElem_toArray, List.getElem_cons_succ, List.getElem_cons_zero]; go_simp; try (with_reducible rfl)
  (try simp only [List.getElem_toArray, List.getElem_cons_succ, List.getElem_cons_zero, Act.put, List.setIfInBounds_toArray, List.set_cons_succ, List.set_cons_zero])
  refine wpAnyH_take (i := 16) (v := ?_) rfl (by kernel_rfl) (by kernel_rfl) (by kernel_rfl) (fun _ _ _ h => h) (Or.inl ⟨by rfl, ?_⟩) (by assumption) ?_
  rotate_left 1
  · intro w hSw; (try dsimp only at hSw); simp only [List.getElem_toArray, List.getElem_cons_succ, List.getElem_cons_zero]; go_simp; try (with_reducible rfl)
  (try simp only [List.getElem_toArray, List.getElem_cons_succ, List.getElem_cons_zero, Act.put, List.setIfInBounds_toArray, List.set_cons_succ, List.set_cons_zero])
  refine wpAnyH_done (by kernel_rfl) ?_ _
  have hu9 : Below y3.heap.size y3 u9 := by ((repeat (first | with_reducible assumption | with_reducible exact Below.refl _ _ | with_reducible apply below_al | with_reducible apply below_dr | with_reducible refine below_more ?_ (by assumption))))
  have hB9 := below_more hB3 hu9
  have hcv1 := conv8 u9 A1 n1 c1 a (ha.1.below hu9)
  have hcv2 := conv8 u9 A2 n2 c2 b (hb.1.below hu9)
  clear f2 f8 f9 hr3 hr5 K4 hu9
  cases hok : ok
  · go_wp2_with (go_at_call 9; refine (CA.out _ hB9).mono ?_; rintro e' v9 ⟨rfl, d9⟩)
    go_ret
    exact ⟨rfl, below_more hB9 d9⟩
  · go_wp2_with (go_at_call 9; refine (CA.out _ hB9).mono ?_; rintro e' v9 ⟨rfl, d9⟩)
    go_ret
    exact ⟨rfl, below_more hB9 d9⟩
set_option maxRecDepth 100000 in
set_option maxHeartbeats 4000000 in
theorem clashIs_asleep (AL AT AP : Option Addr) (n cL k cT m cP : Nat) (c i : Int) (w : World) (CA : Hid (∀ W, Below w.heap.size w W → Calls Tryd.prog 9 #[] W (Ret W (.bool true)))) (CS : Hid (∀ W, Below w.heap.size w W → Calls Tryd.prog 8 #[.agg #[.slice AL n cL, .slice AT k cT, .int .i64 c, .int .i64 i, .slice AP m cP]] W (Ret W (.bool false)))) : Calls Tryd.prog 5 #[.agg #[.slice AL n cL, .slice AT k cT, .int .i64 c, .int .i64 i, .slice AP m cP]] w (Ret w (.bool true)) := by
  obtain ⟨w0, hw0⟩ : ∃ x, x = w.alloc (.cells #[.slice AL n cL, .slice AT k cT, .int .i64 c, .int .i64 i, .slice AP m cP] 28) := ⟨_, rfl⟩
  have hB0 : Below w.heap.size w w0 := by rw [hw0]; exact below_al (Below.refl _ _) _
  have hk0 : Blk w0 w.heap.size [.slice AL n cL, .slice AT k cT, .int .i64 c, .int .i64 i, .slice AP m cP] 28 := by rw [hw0]; exact Blk.new w _ _
  have hw1 : w.alloc (.cells #[.slice AL n cL, .slice AT k cT, .int .i64 c, .int .i64 i, .slice AP m cP] 28) = w0 := hw0.symm
  clear hw0
  go_enter Tryd.func5, Tryd.ntmps5
  go_upto_region 1 with fail
  try rw [hw1]
  clear hw1
  go_wp2_with (first
    | ((with_reducible refine at_load 28 (.tmp 1) ?_); refine wpList_load_mid rfl 28 (.tmp 1) rfl (w.heap.size) 0 (by first | rfl | simp [Act.eval]) [.slice AL n cL, .slice AT k cT, .int .i64 c, .int .i64 i, .slice AP m cP] _ (Blk.range hk0) Tryd.underlying28 rfl (by kernel_rfl) ?_)
    | (go_at_call 8; refine (CS.out _ hB0).mono ?_; rintro e' x1 ⟨rfl, d1⟩)
    | (go_at_call 9; refine (CA.out _ (below_more hB0 d1)).mono ?_; rintro e' v9 ⟨rfl, d9⟩))
  go_ret
  exact ⟨rfl, below_more (below_more hB0 d1) d9⟩
set_option maxRecDepth 100000 in
set_option maxHeartbeats 4000000 in
theorem clashIs_walk (AL AT AP : Option Addr) (n cL k cT m cP : Nat) (c i : Int) (a b : List UInt8) (ok : Bool) (w : World) (CA : Hid (∀ W, Below w.heap.size w W → Calls Tryd.prog 9 #[] W (Ret W (.bool true)))) (CS : Hid (∀ W, Below w.heap.size w W → Calls Tryd.prog 8 #[.agg #[.slice AL n cL, .slice AT k cT, .int .i64 c, .int .i64 i, .slice AP m cP]] W (Ret W (.bool true)))) (GE : Hid (∀ W, Below w.heap.size w W → Calls Tryd.prog 17 #[.slice AL n cL, .slice AT k cT, .agg #[.int .i64 c, .int .i64 i, .slice AP m cP]] W fun e w' => ∃ A1 n1 c1 A2 n2 c2, e = .returned (.tuple #[.slice A1 n1 c1, .slice A2 n2 c2, .bool ok]) ∧ (Rd w' A1 n1 a ∧ n1 ≤ c1 ∧ c1 ≤ maxLen) ∧ (Rd w' A2 n2 b ∧ n2 ≤ c2 ∧ c2 ≤ maxLen) ∧ Below W.heap.size W w')) (CT : Hid (∀ (W : World) (A1 : Option Addr) (n1 c1 : Nat) (z : List UInt8), Below w.heap.size w W → Rd W A1 n1 z → n1 ≤ c1 → c1 ≤ maxLen → z.length ≤ 100000 → Calls Tryd.prog 19 #[.slice (some ⟨W.heap.size, 0, none⟩) 1 1] (W.alloc (.cells #[.slice A1 n1 c1] 23)) (Ret (W.alloc (.cells #[.slice A1 n1 c1] 23)) (.agg ((ds z).map B8).toArray)))) (HOK : Hid (if ok then a ≠ b ∧ ds a = ds b ∧ a.length ≤ 100000 ∧ b.length ≤ 100000 else a = [] ∧ b = [])) :
    Calls Tryd.prog 5 #[.agg #[.slice AL n cL, .slice AT k cT, .int .i64 c, .int .i64 i, .slice AP m cP]] w (Ret w (.bool true)) := by
  obtain ⟨w0, hw0⟩ : ∃ x, x = w.alloc (.cells #[.slice AL n cL, .slice AT k cT, .int .i64 c, .int .i64 i, .slice AP m cP] 28) := ⟨_, rfl⟩
  have hB0 : Below w.heap.size w w0 := by rw [hw0]; exact below_al (Below.refl _ _) _
  have hk0 : Blk w0 w.heap.size [.slice AL n cL, .slice AT k cT, .int .i64 c, .int .i64 i, .slice AP m cP] 28 := by rw [hw0]; exact Blk.new w _ _
  have hw1 : w.alloc (.cells #[.slice AL n cL, .slice AT k cT, .int .i64 c, .int .i64 i, .slice AP m cP] 28) = w0 := hw0.symm
  clear hw0
  go_enter Tryd.func5, Tryd.ntmps5
  go_upto_region 1 with fail
  try rw [hw1]
  clear hw1
  go_upto_region 3 with (first
    | ((with_reducible refine at_load 28 (.tmp 1) ?_); refine wpList_load_mid rfl 28 (.tmp 1) rfl (w.heap.size) 0 (by first | rfl | simp [Act.eval]) [.slice AL n cL, .slice AT k cT, .int .i64 c, .int .i64 i, .slice AP m cP] _ (Blk.range hk0) Tryd.underlying28 rfl (by kernel_rfl) ?_)
    | (go_at_call 8; refine (CS.out _ hB0).mono ?_; rintro e' x1 ⟨rfl, d1⟩))
  have hBx := below_more hB0 d1
  have hk1 := hk0.up d1
  have s0 : x1.cell? ⟨w.heap.size, 0, none⟩ = some (.slice AL n cL) := hk1.cell 0
  have s1 : x1.cell? ⟨w.heap.size, 1, none⟩ = some (.slice AT k cT) := hk1.cell 1
  clear hk0 d1 hB0 CS
  go_upto_region 4 with (first
    | ((with_reducible refine at_load 26 (.tmp 15) ?_); refine wpList_load_mid rfl 26 (.tmp 15) rfl (w.heap.size) (0 + 2) (by first | rfl | simp [Act.eval]) [.int .i64 c, .int .i64 i, .slice AP m cP] _ (case_mid hk1) Tryd.underlying26 rfl (by kernel_rfl) ?_)
    | (go_at_call 17; refine (GE.out _ hBx).mono ?_; rintro e' y3 ⟨A1, n1, c1, A2, n2, c2, rfl, ha, hb, e3⟩))
  have hB3 := below_more hBx e3
  clear hk1 s0 s1 e3
  cases hok : ok
  · rw [hok] at HOK
    have hn := HOK.out
    simp only [Bool.false_eq_true, if_false] at hn
    have h1 : n1 = 0 := by have := ha.1.1; rw [hn.1] at this; exact this.symm
    have h2 : n2 = 0 := by have := hb.1.1; rw [hn.2] at this; exact this.symm
    subst h1 h2
    clear hn
    go_wp2_with (go_at_call 9; refine (CA.out _ hB3).mono ?_; rintro e' v9 ⟨rfl, d9⟩)
    go_ret
    exact ⟨rfl, below_more hB3 d9⟩
  · rw [hok] at HOK
    have hn := HOK.out
    simp only [if_true] at hn
    obtain ⟨hne, hds, hla, hlb⟩ := hn
    have hab : (a == b) = false := by simpa using hne
    have hcv1 := conv8 y3 A1 n1 c1 a ha.1
    have hcv2 := conv8 y3 A2 n2 c2 b hb.1
    obtain ⟨V, hV⟩ : ∃ V, V = (ds a).map B8 := ⟨_, rfl⟩
    have C1 : Hid (Calls Tryd.prog 19 #[.slice (some ⟨y3.heap.size, 0, none⟩) 1 1] (y3.alloc (.cells #[.slice A1 n1 c1] 23)) (Ret (y3.alloc (.cells #[.slice A1 n1 c1] 23)) (.agg V.toArray))) := Lib.hid (by rw [hV]; exact CT.out y3 A1 n1 c1 a hB3 ha.1 ha.2.1 ha.2.2 hla)
    have C2 : Hid (∀ W, Below y3.heap.size y3 W → Calls Tryd.prog 19 #[.slice (some ⟨W.heap.size, 0, none⟩) 1 1] (W.alloc (.cells #[.slice A2 n2 c2] 23)) (Ret (W.alloc (.cells #[.slice A2 n2 c2] 23)) (.agg V.toArray))) := Lib.hid fun W h => by rw [hV, hds]; exact CT.out W A2 n2 c2 b (below_more hB3 h) (hb.1.below h) hb.2.1 hb.2.2 hlb
    have heq : ∀ W, (Op.equalIn 10000 47 (.agg V.toArray) (.agg V.toArray)).run Tryd.prog W = .ok true W := fun W => by rw [hV]; exact eqG32 _ _ (ds_len _) (ds_len _) true (by simp) W
    clear hV hds CT
    go_wp2_with (first
      | (go_at_call 19; first | ((with_reducible refine C1.out.mono ?_); rintro e' y4 ⟨rfl, e4⟩; have hy4 : Below y3.heap.size y3 y4 := below_more (below_al (Below.refl _ _) _) e4) | ((with_reducible refine (C2.out y4 hy4).mono ?_); rintro e' y5 ⟨rfl, e5⟩; have hB5 := below_more hB3 (below_more (below_al hy4 _) e5)))
      | (go_at_call 9; refine (CA.out _ hB5).mono ?_; rintro e' v9 ⟨rfl, d9⟩))
    go_ret
    exact ⟨by first | rfl | simp [hab], below_more hB5 d9⟩
end Go.Proofs.YtpoinhjkdgcnaaaDoor
