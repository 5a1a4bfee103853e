/- Merged texts: BrnD BrnO. -/
import Derived.Test.YtnfcnjboeocnmaaDoorMbi
import Derived.Test.YtnfcnjboeocnmaaDoorMax
import Derived.Test.YtnfcnjboeocnmaaDoorMaz
import Derived.Deep.Strs
import Derived.Lib.SmallJoins
/- The contract of the law's own Ref of layer 9. -/
namespace Go.Proofs.YtnfcnjboeocnmaaDoor
open Go.RowKit
set_option linter.unusedVariables false
set_option linter.unusedSimpArgs false

set_option maxRecDepth 100000 in
set_option maxHeartbeats 4000000 in
theorem ref_calls (c i : Int) (A : Option Addr) (m cap : Nat) (P : List (List UInt8)) (w : World) (hr : RdH w A m P) (hm : m ≤ 1000) :
    Calls Tryd.prog 17 #[.agg #[.int .i64 c, .int .i64 i, .slice A m cap]] w fun e w' => ∃ A' c', e = .returned (.agg #[.int .i64 c, .int .i64 i, .slice A' m c']) ∧ RdH w' A' m P ∧ Below w.heap.size w w' := by
  have BR : ∀ (A' : Option Addr) (c' : Nat) (W : World), (Instr.build 31 #[(0, .int .i64 c), (1, .int .i64 i), (2, .slice A' m c')]).run Tryd.prog W = .ok (.agg #[.int .i64 c, .int .i64 i, .slice A' m c']) W := fun A' c' W => run_build W _ _ _ (by kernel_rfl)
  obtain ⟨w0, hw0⟩ : ∃ x, x = (w.alloc (.cells #[.int .i64 c, .int .i64 i, .slice A m cap] 25)).alloc (.cells #[.int .i64 0, .int .i64 0, .slice none 0 0] 31) := ⟨_, rfl⟩
  have hs0 : w0.heap.size = w.heap.size + 2 := by rw [hw0]; simp
  have hB0 : Below w.heap.size w w0 := by rw [hw0]; exact below_al (below_al (Below.refl _ _) _) _
  have hk0 : Blk w0 w.heap.size [.int .i64 c, .int .i64 i, .slice A m cap] 25 := by rw [hw0]; exact Blk.alloc (Blk.new w _ _) _
  have hk1 : Blk w0 (w.heap.size + 1) [.int .i64 0, .int .i64 0, .slice none 0 0] 31 := by rw [hw0]; exact Blk.new' _ _ _ _ (by simp)
  have CF : Hid (∀ W : World, Below w0.heap.size w0 W → Calls Tryd.prog 11 #[.slice A m cap] W fun e w' => ∃ A' c', e = .returned (.slice A' m c') ∧ OwnH w' W.heap.size 34 A' m c' P ∧ Below W.heap.size W w') := Lib.hid fun W h => refsO_calls A m cap P W (hr.below (below_more hB0 h)) hm
  have K0b : Hid (∀ W : World, Blk W w.heap.size [.int .i64 c, .int .i64 i, .slice A m cap] 25 → W.cell? ⟨w.heap.size, 0, none⟩ = some (.int .i64 c) ∧ W.cell? ⟨w.heap.size, 1, none⟩ = some (.int .i64 i) ∧ W.cell? ⟨w.heap.size, 2, none⟩ = some (.slice A m cap)) := Lib.hid fun W h => ⟨h.cell 0, h.cell 1, h.cell 2⟩
  have hw1 : (w.alloc (.cells #[.int .i64 c, .int .i64 i, .slice A m cap] 25)).alloc (.cells #[.int .i64 0, .int .i64 0, .slice none 0 0] 31) = w0 := hw0.symm
  clear hw0 hr hm
  go_enter Tryd.func17, Tryd.ntmps17
  go_upto_region 1 with fail
  try rw [hw1]
  clear hw1
  refine wp_region_held_drew (S := fun W => W.cell? ⟨w.heap.size, 0, none⟩ = some (.int .i64 c) ∧ W.cell? ⟨w.heap.size, 1, none⟩ = some (.int .i64 i) ∧ W.cell? ⟨w.heap.size, 2, none⟩ = some (.slice A m cap)) (by kernel_rfl) ?_ (fun hHeld => ?_)
  · exact K0b.out _ (by first | exact hk0.drew | exact (hk0.drew).up d6)
  refine wpAnyH_take (i := 0) (v := ?_) rfl (by kernel_rfl) (by kernel_rfl) (by kernel_rfl) (fun _ _ _ h => h) (Or.inl ⟨by rfl, ?_⟩) (by assumption) ?_
  rotate_left 1
  · intro w hSw; (try dsimp only at hSw); simp only [List.getElem_toArray, List.getElem_cons_succ, List.getElem_cons_zero]; go_simp; try (with_reducible rfl)
  (try simp only [List.getElem_toArray, List.getElem_cons_succ, List.getElem_cons_zero, Act.put, List.setIfInBounds_toArray, List.set_cons_succ, List.set_cons_zero])
  refine wpAnyH_take (i := 1) (v := ?_) rfl (by kernel_rfl) (by kernel_rfl) (by kernel_rfl) (fun _ _ _ h => h) (Or.inl ⟨by rfl, ?_⟩) (by assumption) ?_
  rotate_left 1
  · intro w hSw; (try dsimp only at hSw); simp only [List.getElem_toArray, List.getElem_cons_succ, List.getElem_cons_zero]; go_simp; try (with_reducible rfl)
  (try simp only [List.getElem_toArray, List.getElem_cons_succ, List.getElem_cons_zero, Act.put, List.setIfInBounds_toArray, List.set_cons_succ, List.set_cons_zero])
  refine wpAnyH_take (i := 2) (v := ?_) rfl (by kernel_rfl) (by kernel_rfl) (by kernel_rfl) (fun _ _ _ h => h) (Or.inl ⟨by rfl, ?_⟩) (by assumption) ?_
  rotate_left 1
  · intro w hSw; (try dsimp only at hSw); simp only [List.getElem_toArray, List.getElem_cons_succ, List.getElem_cons_zero]; go_simp; try (with_reducible rfl)
  (try simp only [List.getElem_toArray, List.getElem_cons_succ, List.getElem_cons_zero, Act.put, List.setIfInBounds_toArray, List.set_cons_succ, List.set_cons_zero])
  refine wpAnyH_take (i := 3) (v := ?_) rfl (by kernel_rfl) (by kernel_rfl) (by kernel_rfl) (fun _ _ _ h => h) (Or.inl ⟨by rfl, ?_⟩) (by assumption) ?_
  rotate_left 1
  · intro w hSw; (try dsimp only at hSw); simp only [List.getElem_toArray, List.getElem_cons_succ, List.getElem_cons_zero]; go_simp; try (with_reducible rfl)
  (try simp only [List.getElem_toArray, List.getElem_cons_succ, List.getElem_cons_zero, Act.put, List.setIfInBounds_toArray, List.set_cons_succ, List.set_cons_zero])
  refine wpAnyH_take (i := 4) (v := ?_) rfl (by kernel_rfl) (by kernel_rfl) (by kernel_rfl) (fun _ _ _ h => h) (Or.inl ⟨by rfl, ?_⟩) (by assumption) ?_
  rotate_left 1
  · intro w hSw; (try dsimp only at hSw); simp only [List.getElem_toArray, List.getElem_cons_succ, List.getElem_cons_zero]; go_simp; try (with_reducible rfl)
  (try simp only [List.getElem_toArray, List.getElem_cons_succ, List.getElem_cons_zero, Act.put, List.setIfInBounds_toArray, List.set_cons_succ, List.set_cons_zero])
  refine wpAnyH_take (i := 5) (v := ?_) rfl (by kernel_rfl) (by kernel_rfl) (by kernel_rfl) (fun _ _ _ h => h) (Or.inl ⟨by rfl, ?_⟩) (by assumption) ?_
  rotate_left 1
  · intro w hSw; (try dsimp only at hSw); simp only [List.getElem_toArray, List.getElem_cons_succ, List.getElem_cons_zero]; go_simp; try (with_reducible rfl)
  (try simp only [List.getElem_toArray, List.getElem_cons_succ, List.getElem_cons_zero, Act.put, List.setIfInBounds_toArray, List.set_cons_succ, List.set_cons_zero])
  refine wpAnyH_ready (rs := [6]) (by kernel_rfl) (by simp) ?_
  refine AllReadyH.cons rfl (fun K hK => ?_) AllReadyH.nil
  (try simp only [List.getElem_toArray, List.getElem_cons_succ, List.getElem_cons_zero])
  go_simp
  go_at_call 11; refine (CF.out _ (by ((repeat (first | with_reducible assumption | with_reducible exact Below.refl _ _ | with_reducible apply below_al | with_reducible apply below_dr | with_reducible refine below_more ?_ (by assumption)))))).mono ?_; rintro e' x6 ⟨A6, c6, rfl, hr6, d6⟩; have HR6 := Lib.hid hr6; clear hr6
  (try (go_wp2_with fail))
  refine hK.out _ _ ?_ (fun hHeld => ?_)
  · exact K0b.out _ (by first | exact hk0.drew | exact (hk0.drew).up d6)
  clear hK K
  (try simp only [Act.put, List.setIfInBounds_toArray, List.set_cons_succ, List.set_cons_zero])
  refine wpAnyH_ready (rs := [7]) (by kernel_rfl) (by simp) ?_
  refine AllReadyH.cons rfl (fun K hK => ?_) AllReadyH.nil
  (try simp only [List.getElem_toArray, List.getElem_cons_succ, List.getElem_cons_zero])
  refine Eq.mpr (if_pos (by first | rfl | simp [Region.wanted, yielded, Act.put])) ?_
  refine wp_bld 31 #[(0, .tmp 4), (1, .tmp 6), (2, .tmp 9)] rfl #[(0, .int .i64 c), (1, .int .i64 i), (2, .slice A6 m c6)] (.agg #[.int .i64 c, .int .i64 i, .slice A6 m c6]) (by first | rfl | simp [Act.eval]) (BR A6 c6) ?_
  refine hK.out _ _ ?_ (fun hHeld => ?_)
  · exact K0b.out _ (by first | exact hk0.drew | exact (hk0.drew).up d6)
  clear hK K
  (try simp only [Act.put, List.setIfInBounds_toArray, List.set_cons_succ, List.set_cons_zero])
  refine wpAnyH_ready (rs := [8]) (by kernel_rfl) (by simp) ?_
  refine AllReadyH.cons rfl (fun K hK => ?_) AllReadyH.nil
  (try simp only [List.getElem_toArray, List.getElem_cons_succ, List.getElem_cons_zero])
  refine Eq.mpr (if_pos (by first | rfl | simp [Region.wanted, yielded, Act.put])) ?_
  refine wp_store_in 31 (.tmp 2) (.tmp 10) rfl (w.heap.size + 1) [.int .i64 0, .int .i64 0, .slice none 0 0] [.int .i64 c, .int .i64 i, .slice A6 m c6] 31 rfl rfl ((hk1.drew).up d6) rfl I3o (by simp [Value.oneCell']) ?_
  intro x8 hb8 ho8
  refine hK.out _ _ ?_ (fun hHeld => ?_)
  · exact K0b.out _ (ho8.blk ((hk0.drew).up d6) (by omega))
  clear hK K
  (try simp only [Act.put, List.setIfInBounds_toArray, List.set_cons_succ, List.set_cons_zero])
  refine wpAnyH_done (by kernel_rfl) ?_ _
  go_wp2
  refine bodyPost_ret (v := .agg #[.int .i64 c, .int .i64 i, .slice A6 m c6]) ?_ rfl ?_
  · exact results_one Tryd.results17 _ _ (w.heap.size + 1) 31 _ (0, 0) _ (by rfl) hb8 Tryd.underlying31 rfl I3o
  · exact ⟨A6, c6, rfl, (HR6.out.only ho8 (by have : w0.drew.heap.size = w0.heap.size := rfl; omega)).rd, (below_more (below_dr hB0) d6).trans (ho8.below (by omega))⟩
end Go.Proofs.YtnfcnjboeocnmaaDoor

/- A branch that came in, as it is read off the row's data. -/
namespace Go.Proofs.YtnfcnjboeocnmaaDoor
open Go.RowKit Go.ChangeShapes Go.WideShapes Go.ChangeAt Go.Deep
set_option linter.unusedVariables false
set_option linter.unusedSimpArgs false

set_option maxRecDepth 100000 in
theorem list3 {α : Type} {l : List α} (h : l.length = 3) : ∃ a b c, l = [a, b, c] := by
  match l, h with
  | [a, b, c], _ => exact ⟨a, b, c, rfl⟩
section
variable {H : Type} {enc : TypeId × Value → H}
set_option maxRecDepth 100000 in
theorem cellsBI : Tryd.prog.cellsOf 3 = 1 := by kernel_rfl
set_option maxRecDepth 100000 in
theorem cellsBS : Tryd.prog.cellsOf 22 = 1 := by kernel_rfl
set_option maxRecDepth 100000 in
theorem cellsBB : Tryd.prog.cellsOf 25 = 3 := by kernel_rfl
set_option maxRecDepth 100000 in
theorem open_branch {W : World} {sp : Nat → Bool} {held : Bool} {r : Reach} {b0 : Nat} {v : Value} {d : DataW H} {ps : List MemPlace} (hv : Value.okWide Tryd.prog W r b0 25 v) (hd : DataW.Trod enc Tryd.prog W 0 sp held 25 v d ps) :
    ∃ (c i : Int) (A : Option Addr) (m cap : Nat), v = .agg #[.int .i64 c, .int .i64 i, .slice A m cap] ∧ ∃ L, (RdH W A m L ∧ m ≤ cap ∧ cap ≤ maxLen) ∧ (Lit.int .i64 c).wf = true ∧ (Lit.int .i64 i).wf = true := by
  simp only [Value.okWide, Tryd.underlying25] at hv
  obtain ⟨cs, rfl, hs, _⟩ := hv
  rw [cellsBB] at hs
  obtain ⟨fuel, hf⟩ := hd
  obtain ⟨c0, c1, c2, hl⟩ := list3 (show cs.toList.length = 3 by simpa using hs)
  have hcs : cs = #[c0, c1, c2] := by
    have := congrArg List.toArray hl
    simpa using this
  subst hcs
  obtain ⟨y0, y1, y2, n, _, _, t0, t1, t2⟩ := trod_struct3 Tryd.underlying25 hf
  simp only [cellsBI, cellsBS, Value.cells, List.drop, List.take] at t0 t1 t2
  obtain ⟨C, eC, _, wC⟩ := DataW.trod_int Tryd.underlying3 t0
  obtain ⟨I, eI, _, wI⟩ := DataW.trod_int Tryd.underlying3 t1
  injection eC with eC
  injection eI with eI
  subst eC eI
  obtain ⟨A, m, cap, rfl⟩ : ∃ A m cap, c2 = .slice A m cap := by
    rcases open_slice Tryd.underlying22 t2 with ⟨h, _⟩ | ⟨x, l, c, _, _, _, _, h, _⟩
    · injection h with h; exact ⟨_, _, _, h⟩
    · injection h with h; exact ⟨_, _, _, h⟩
  have hT : DataW.Trod enc Tryd.prog W 0 sp held 22 (.slice A m cap) y2.1 y2.2 := ⟨n, t2⟩
  obtain ⟨L, hL⟩ := open_hashes hT
  exact ⟨C, I, A, m, cap, rfl, L, hL, wC, wI⟩
set_option maxRecDepth 100000 in
theorem cellsBH : Tryd.prog.cellsOf 35 = 32 := by kernel_rfl
set_option maxRecDepth 100000 in
theorem cellsBD : Tryd.prog.cellsOf 49 = 35 := by kernel_rfl
set_option maxRecDepth 100000 in
theorem open_bend {W : World} {sp : Nat → Bool} {held : Bool} {r : Reach} {b0 : Nat} {v : Value} {d : DataW H} {ps : List MemPlace} (hv : Value.okWide Tryd.prog W r b0 49 v) (hd : DataW.Trod enc Tryd.prog W 0 sp held 49 v d ps) :
    ∃ (A : Option Addr) (m cap : Nat) (i k : Int) (h : List UInt8), v = .agg (Value.slice A m cap :: .int .i64 i :: .int .i64 k :: h.map B8).toArray ∧ ∃ L, (RdH W A m L ∧ m ≤ cap ∧ cap ≤ maxLen) ∧ (Lit.int .i64 i).wf = true ∧ (Lit.int .i64 k).wf = true ∧ h.length = 32 := by
  simp only [Value.okWide, Tryd.underlying49] at hv
  obtain ⟨cs, rfl, hs, _⟩ := hv
  rw [cellsBD] at hs
  obtain ⟨fuel, hf⟩ := hd
  obtain ⟨c0, c1, c2, R, hl, hR⟩ : ∃ c0 c1 c2 R, cs.toList = c0 :: c1 :: c2 :: R ∧ R.length = 32 := by
    have h35 : cs.toList.length = 35 := by simpa using hs
    match hcl : cs.toList, h35 with
    | a :: b :: c :: R, h35 => exact ⟨a, b, c, R, rfl, by simpa using h35⟩
  have hcs : cs = (c0 :: c1 :: c2 :: R).toArray := by rw [← hl]
  subst hcs
  obtain ⟨y0, y1, y2, y3, n, _, _, t0, t1, t2, t3⟩ := Go.Joins.trod_struct4 Tryd.underlying49 hf
  simp only [cellsBI, cellsBS, cellsBH, Value.cells, List.drop, List.take] at t0 t1 t2 t3
  obtain ⟨I, eI, _, wI⟩ := DataW.trod_int Tryd.underlying3 t1
  obtain ⟨K, eK, _, wK⟩ := DataW.trod_int Tryd.underlying3 t2
  injection eI with eI
  injection eK with eK
  subst eI eK
  obtain ⟨A, m, cap, rfl⟩ : ∃ A m cap, c0 = .slice A m cap := by
    rcases open_slice Tryd.underlying22 t0 with ⟨h, _⟩ | ⟨x, l, c, _, _, _, _, h, _⟩
    · injection h with h; exact ⟨_, _, _, h⟩
    · injection h with h; exact ⟨_, _, _, h⟩
  have hT : DataW.Trod enc Tryd.prog W 0 sp held 22 (.slice A m cap) y0.1 y0.2 := ⟨n, t0⟩
  obtain ⟨L, hL⟩ := open_hashes hT
  obtain ⟨h, hh, eh⟩ := trod_bytes Tryd.underlying35 Tryd.underlying5 (by kernel_rfl) (by kernel_rfl) t3 (by first | exact hR | (rw [List.length_take]; omega) | (simp; omega))
  refine ⟨A, m, cap, I, K, h, ?_, L, hL, wI, wK, hh⟩
  have : R = h.map B8 := by
    rw [← eh]
    first | rfl | (rw [List.take_of_length_le (by omega)]) | simp [hR]
  rw [this]
end
end Go.Proofs.YtnfcnjboeocnmaaDoor
