/- Merged texts: BrnD. -/
import Derived.Test.YtpoinhjkdgcnaaaDoorMaw
import Derived.Test.YtpoinhjkdgcnaaaDoorMaq
/- The contract of the law's own Ref of layer 9. -/
namespace Go.Proofs.YtpoinhjkdgcnaaaDoor
open Go.RowKit
set_option linter.unusedVariables false
set_option linter.unusedSimpArgs false

set_option maxRecDepth 100000 in
set_option maxHeartbeats 4000000 in
theorem ref_calls (c i : Int) (A : Option Addr) (m cap : Nat) (P : List (List UInt8)) (w : World) (hr : RdH w A m P) (hm : m ≤ 1000) :
    Calls Tryd.prog 16 #[.agg #[.int .i64 c, .int .i64 i, .slice A m cap]] w fun e w' => ∃ A' c', e = .returned (.agg #[.int .i64 c, .int .i64 i, .slice A' m c']) ∧ RdH w' A' m P ∧ Below w.heap.size w w' := by
  have BR : ∀ (A' : Option Addr) (c' : Nat) (W : World), (Instr.build 40 #[(0, .int .i64 c), (1, .int .i64 i), (2, .slice A' m c')]).run Tryd.prog W = .ok (.agg #[.int .i64 c, .int .i64 i, .slice A' m c']) W := fun A' c' W => run_build W _ _ _ (by kernel_rfl)
  obtain ⟨w0, hw0⟩ : ∃ x, x = (w.alloc (.cells #[.int .i64 c, .int .i64 i, .slice A m cap] 26)).alloc (.cells #[.int .i64 0, .int .i64 0, .slice none 0 0] 40) := ⟨_, rfl⟩
  have hs0 : w0.heap.size = w.heap.size + 2 := by rw [hw0]; simp
  have hB0 : Below w.heap.size w w0 := by rw [hw0]; exact below_al (below_al (Below.refl _ _) _) _
  have hk0 : Blk w0 w.heap.size [.int .i64 c, .int .i64 i, .slice A m cap] 26 := by rw [hw0]; exact Blk.alloc (Blk.new w _ _) _
  have hk1 : Blk w0 (w.heap.size + 1) [.int .i64 0, .int .i64 0, .slice none 0 0] 40 := by rw [hw0]; exact Blk.new' _ _ _ _ (by simp)
  have CF : Hid (∀ W : World, Below w0.heap.size w0 W → Calls Tryd.prog 33 #[.slice A m cap] W fun e w' => ∃ A' c', e = .returned (.slice A' m c') ∧ OwnH w' W.heap.size 46 A' m c' P ∧ Below W.heap.size W w') := Lib.hid fun W h => refsO_calls A m cap P W (hr.below (below_more hB0 h)) hm
  have K0b : Hid (∀ W : World, Blk W w.heap.size [.int .i64 c, .int .i64 i, .slice A m cap] 26 → W.cell? ⟨w.heap.size, 0, none⟩ = some (.int .i64 c) ∧ W.cell? ⟨w.heap.size, 1, none⟩ = some (.int .i64 i) ∧ W.cell? ⟨w.heap.size, 2, none⟩ = some (.slice A m cap)) := Lib.hid fun W h => ⟨h.cell 0, h.cell 1, h.cell 2⟩
  have hw1 : (w.alloc (.cells #[.int .i64 c, .int .i64 i, .slice A m cap] 26)).alloc (.cells #[.int .i64 0, .int .i64 0, .slice none 0 0] 40) = w0 := hw0.symm
  clear hw0 hr hm
  go_enter Tryd.func16, Tryd.ntmps16
  go_upto_region 1 with fail
  try rw [hw1]
  clear hw1
  refine wp_region_held_drew (S := fun W => W.cell? ⟨w.heap.size, 0, none⟩ = some (.int .i64 c) ∧ W.cell? ⟨w.heap.size, 1, none⟩ = some (.int .i64 i) ∧ W.cell? ⟨w.heap.size, 2, none⟩ = some (.slice A m cap)) (by kernel_rfl) ?_ (fun hHeld => ?_)
  · exact K0b.out _ (by first | exact hk0.drew | exact (hk0.drew).up d6)
  refine wpAnyH_take (i := 0) (v := ?_) rfl (by kernel_rfl) (by kernel_rfl) (by kernel_rfl) (fun _ _ _ h => h) (Or.inl ⟨by rfl, ?_⟩) (by assumption) ?_
  rotate_left 1
  · intro w hSw; (try dsimp only at hSw); simp only [List.getElem_toArray, List.getElem_cons_succ, List.getElem_cons_zero]; go_simp; try (with_reducible rfl)
  (try simp only [List.getElem_toArray, List.getElem_cons_succ, List.getElem_cons_zero, Act.put, List.setIfInBounds_toArray, List.set_cons_succ, List.set_cons_zero])
  refine wpAnyH_take (i := 1) (v := ?_) rfl (by kernel_rfl) (by kernel_rfl) (by kernel_rfl) (fun _ _ _ h => h) (Or.inl ⟨by rfl, ?_⟩) (by assumption) ?_
  rotate_left 1
  · intro w hSw; (try dsimp only at hSw); simp only [List.getElem_toArray, List.getElem_cons_succ, List.getElem_cons_zero]; go_simp; try (with_reducible rfl)
  (try simp only [List.getElem_toArray, List.getElem_cons_succ, List.getElem_cons_zero, Act.put, List.setIfInBounds_toArray, List.set_cons_succ, List.set_cons_zero])
  refine wpAnyH_take (i := 2) (v := ?_) rfl (by kernel_rfl) (by kernel_rfl) (by kernel_rfl) (fun _ _ _ h => h) (Or.inl ⟨by rfl, ?_⟩) (by assumption) ?_
  rotate_left 1
  · intro w hSw; (try dsimp only at hSw); simp only [List.getElem_toArray, List.getElem_cons_succ, List.getElem_cons_zero]; go_simp; try (with_reducible rfl)
  (try simp only [List.getElem_toArray, List.getElem_cons_succ, List.getElem_cons_zero, Act.put, List.setIfInBounds_toArray, List.set_cons_succ, List.set_cons_zero])
  refine wpAnyH_take (i := 3) (v := ?_) rfl (by kernel_rfl) (by kernel_rfl) (by kernel_rfl) (fun _ _ _ h => h) (Or.inl ⟨by rfl, ?_⟩) (by assumption) ?_
  rotate_left 1
  · intro w hSw; (try dsimp only at hSw); simp only [List.getElem_toArray, List.getElem_cons_succ, List.getElem_cons_zero]; go_simp; try (with_reducible rfl)
  (try simp only [List.getElem_toArray, List.getElem_cons_succ, List.getElem_cons_zero, Act.put, List.setIfInBounds_toArray, List.set_cons_succ, List.set_cons_zero])
  refine wpAnyH_take (i := 4) (v := ?_) rfl (by kernel_rfl) (by kernel_rfl) (by kernel_rfl) (fun _ _ _ h => h) (Or.inl ⟨by rfl, ?_⟩) (by assumption) ?_
  rotate_left 1
  · intro w hSw; (try dsimp only at hSw); simp only [List.getElem_toArray, List.getElem_cons_succ, List.getElem_cons_zero]; go_simp; try (with_reducible rfl)
  (try simp only [List.getElem_toArray, List.getElem_cons_succ, List.getElem_cons_zero, Act.put, List.setIfInBounds_toArray, List.set_cons_succ, List.set_cons_zero])
  refine wpAnyH_take (i := 5) (v := ?_) rfl (by kernel_rfl) (by kernel_rfl) (by kernel_rfl) (fun _ _ _ h => h) (Or.inl ⟨by rfl, ?_⟩) (by assumption) ?_
  rotate_left 1
  · intro w hSw; (try dsimp only at hSw); simp only [List.getElem_toArray, List.getElem_cons_succ, List.getElem_cons_zero]; go_simp; try (with_reducible rfl)
  (try simp only [List.getElem_toArray, List.getElem_cons_succ, List.getElem_cons_zero, Act.put, List.setIfInBounds_toArray, List.set_cons_succ, List.set_cons_zero])
  refine wpAnyH_ready (rs := [6]) (by kernel_rfl) (by simp) ?_
  refine AllReadyH.cons rfl (fun K hK => ?_) AllReadyH.nil
  (try simp only [List.getElem_toArray, List.getElem_cons_succ, List.getElem_cons_zero])
  go_simp
  go_at_call 33; refine (CF.out _ (by ((repeat (first | with_reducible assumption | with_reducible exact Below.refl _ _ | with_reducible apply below_al | with_reducible apply below_dr | with_reducible refine below_more ?_ (by assumption)))))).mono ?_; rintro e' x6 ⟨A6, c6, rfl, hr6, d6⟩; have HR6 := Lib.hid hr6; clear hr6
  (try (go_wp2_with fail))
  refine hK.out _ _ ?_ (fun hHeld => ?_)
  · exact K0b.out _ (by first | exact hk0.drew | exact (hk0.drew).up d6)
  clear hK K
  (try simp only [Act.put, List.setIfInBounds_toArray, List.set_cons_succ, List.set_cons_zero])
  refine wpAnyH_ready (rs := [7]) (by kernel_rfl) (by simp) ?_
  refine AllReadyH.cons rfl (fun K hK => ?_) AllReadyH.nil
  (try simp only [List.getElem_toArray, List.getElem_cons_succ, List.getElem_cons_zero])
  refine Eq.mpr (if_pos (by first | rfl | simp [Region.wanted, yielded, Act.put])) ?_
  refine wp_bld 40 #[(0, .tmp 4), (1, .tmp 6), (2, .tmp 9)] rfl #[(0, .int .i64 c), (1, .int .i64 i), (2, .slice A6 m c6)] (.agg #[.int .i64 c, .int .i64 i, .slice A6 m c6]) (by first | rfl | simp [Act.eval]) (BR A6 c6) ?_
  refine hK.out _ _ ?_ (fun hHeld => ?_)
  · exact K0b.out _ (by first | exact hk0.drew | exact (hk0.drew).up d6)
  clear hK K
  (try simp only [Act.put, List.setIfInBounds_toArray, List.set_cons_succ, List.set_cons_zero])
  refine wpAnyH_ready (rs := [8]) (by kernel_rfl) (by simp) ?_
  refine AllReadyH.cons rfl (fun K hK => ?_) AllReadyH.nil
  (try simp only [List.getElem_toArray, List.getElem_cons_succ, List.getElem_cons_zero])
  refine Eq.mpr (if_pos (by first | rfl | simp [Region.wanted, yielded, Act.put])) ?_
  refine wp_store_in 40 (.tmp 2) (.tmp 10) rfl (w.heap.size + 1) [.int .i64 0, .int .i64 0, .slice none 0 0] [.int .i64 c, .int .i64 i, .slice A6 m c6] 40 rfl rfl ((hk1.drew).up d6) rfl I3o (by simp [Value.oneCell']) ?_
  intro x8 hb8 ho8
  refine hK.out _ _ ?_ (fun hHeld => ?_)
  · exact K0b.out _ (ho8.blk ((hk0.drew).up d6) (by omega))
  clear hK K
  (try simp only [Act.put, List.setIfInBounds_toArray, List.set_cons_succ, List.set_cons_zero])
  refine wpAnyH_done (by kernel_rfl) ?_ _
  go_wp2
  refine bodyPost_ret (v := .agg #[.int .i64 c, .int .i64 i, .slice A6 m c6]) ?_ rfl ?_
  · exact results_one Tryd.results16 _ _ (w.heap.size + 1) 40 _ (0, 0) _ (by rfl) hb8 Tryd.underlying40 rfl I3o
  · exact ⟨A6, c6, rfl, (HR6.out.only ho8 (by have : w0.drew.heap.size = w0.heap.size := rfl; omega)).rd, (below_more (below_dr hB0) d6).trans (ho8.below (by omega))⟩
end Go.Proofs.YtpoinhjkdgcnaaaDoor
