/- Merged texts: CodC. -/
import Derived.Test.YthkkllcpogagiaaMak
/- Contracts of the document's own Count of layer 6. -/
namespace Go.Proofs.Ythkkllcpogagiaa
open Go.RowKit
set_option linter.unusedVariables false
set_option linter.unusedSimpArgs false

set_option maxRecDepth 100000 in
set_option maxHeartbeats 4000000 in
theorem dcount_err (s : ByteArray) (e most : Nat) (he : ¬ e = 0) (w : World) :
    Calls Try.prog 24 #[.agg #[.string s, .int .i64 (e : Int)], .int .u64 (most : Int)] w (Ret w (.tuple #[.agg #[.string s, .int .i64 (e : Int)], .int .u64 0])) := by
  have hb0 : Blk ((w.alloc (.cells #[.string s, .int .i64 (e : Int)] 62)).alloc (.cells #[.string ⟨#[]⟩, .int .i64 0] 62)) w.heap.size [.string s, .int .i64 (e : Int)] 62 := Blk.alloc (Blk.new w #[.string s, .int .i64 (e : Int)] 62) _
  have hb1 : Blk ((w.alloc (.cells #[.string s, .int .i64 (e : Int)] 62)).alloc (.cells #[.string ⟨#[]⟩, .int .i64 0] 62)) (w.heap.size + 1) zerosI 62 := Blk.new' _ _ _ _ (by simp)
  have HB := Lib.hid (below2 w (.cells #[.string s, .int .i64 (e : Int)] 62) (.cells #[.string ⟨#[]⟩, .int .i64 0] 62))
  obtain ⟨w0, hw0⟩ : ∃ w0, w0 = (w.alloc (.cells #[.string s, .int .i64 (e : Int)] 62)).alloc (.cells #[.string ⟨#[]⟩, .int .i64 0] 62) := ⟨_, rfl⟩
  rw [← hw0] at hb0 hb1 HB
  have c00 : w0.cell? ⟨w.heap.size, 0, none⟩ = some (.string s) := hb0.cell 0
  have c01 : w0.cell? ⟨w.heap.size, 1, none⟩ = some (.int .i64 (e : Int)) := hb0.cell 1
  go_enter Try.func24, Try.ntmps24
  go_upto_region 1 with fail
  rw [← hw0]
  clear hw0
  go_wp2_with (first | ((with_reducible refine at_load 62 (.tmp 2) ?_); refine wpList_load_mid rfl 62 (.tmp 2) rfl w.heap.size 0 rfl [.string s, .int .i64 (e : Int)] _ hb0.range Try.underlying62 rfl (inC_size [] 0) ?_) | ((with_reducible refine at_store 62 (.tmp 4) (.tmp 12) ?_); refine wpList_store_blk rfl 62 (.tmp 4) (.tmp 12) rfl (w.heap.size + 1) zerosI [.string s, .int .i64 (e : Int)] 62 rfl rfl (hb1) rfl (inC_size [] 0) (by intro v hv; simp only [List.mem_cons, List.not_mem_nil, or_false] at hv; rcases hv with rfl | rfl <;> rfl) ?_; intro w8 hb8 ho8))
  refine bodyPost_ret (v := .tuple #[.agg ([.string s, .int .i64 (e : Int)]).toArray, .int .u64 0]) ?_ rfl ⟨rfl, below_only (HB.out) ho8 (by omega)⟩
  exact results_in Try.results24 _ _ (w.heap.size + 1) 62 _ (0, 0) _ _ (by rfl) (by rfl) hb8 Try.underlying62 rfl (inC_size [] 0)
set_option maxRecDepth 100000 in
set_option maxHeartbeats 4000000 in
theorem dcount_nil (s : ByteArray) (most : Nat) (hs : s.size = 0) (w : World) :
    Calls Try.prog 24 #[.agg #[.string s, .int .i64 0], .int .u64 (most : Int)] w (Ret w (.tuple #[.agg #[.string s, .int .i64 2], .int .u64 0])) := by
  have hb0 : Blk ((w.alloc (.cells #[.string s, .int .i64 0] 62)).alloc (.cells #[.string ⟨#[]⟩, .int .i64 0] 62)) w.heap.size [.string s, .int .i64 0] 62 := Blk.alloc (Blk.new w #[.string s, .int .i64 0] 62) _
  have hb1 : Blk ((w.alloc (.cells #[.string s, .int .i64 0] 62)).alloc (.cells #[.string ⟨#[]⟩, .int .i64 0] 62)) (w.heap.size + 1) zerosI 62 := Blk.new' _ _ _ _ (by simp)
  have HB := Lib.hid (below2 w (.cells #[.string s, .int .i64 0] 62) (.cells #[.string ⟨#[]⟩, .int .i64 0] 62))
  obtain ⟨w0, hw0⟩ : ∃ w0, w0 = (w.alloc (.cells #[.string s, .int .i64 0] 62)).alloc (.cells #[.string ⟨#[]⟩, .int .i64 0] 62) := ⟨_, rfl⟩
  rw [← hw0] at hb0 hb1 HB
  have c00 : w0.cell? ⟨w.heap.size, 0, none⟩ = some (.string s) := hb0.cell 0
  have c01 : w0.cell? ⟨w.heap.size, 1, none⟩ = some (.int .i64 0) := hb0.cell 1
  go_enter Try.func24, Try.ntmps24
  go_upto_region 1 with fail
  rw [← hw0]
  clear hw0
  go_wp2_with (((with_reducible refine at_store 62 (.tmp 4) (.tmp 34) ?_); refine wpList_store_blk rfl 62 (.tmp 4) (.tmp 34) rfl (w.heap.size + 1) zerosI [.string s, .int .i64 2] 62 rfl rfl (hb1) rfl (inC_size [] 0) (by intro v hv; simp only [List.mem_cons, List.not_mem_nil, or_false] at hv; rcases hv with rfl | rfl <;> rfl) ?_; intro w8 hb8 ho8))
  refine bodyPost_ret (v := .tuple #[.agg ([.string s, .int .i64 2]).toArray, .int .u64 0]) ?_ rfl ⟨rfl, below_only (HB.out) ho8 (by omega)⟩
  exact results_in Try.results24 _ _ (w.heap.size + 1) 62 _ (0, 0) _ _ (by rfl) (by rfl) hb8 Try.underlying62 rfl (inC_size [] 0)
set_option maxRecDepth 100000 in
set_option maxHeartbeats 4000000 in
theorem dcount_short253 (s : ByteArray) (most N : Nat) (c0 : UInt8) (hc : c0 = 253) (hidx : ∀ W, (Instr.index 9 (.string s) (.int .i64 0)).run Try.prog W = .ok (.int .u8 (c0.toNat : Int)) W) (hs : s.size = N) (h1 : 0 < N) (h2 : N < 3) (w : World) :
    Calls Try.prog 24 #[.agg #[.string s, .int .i64 0], .int .u64 (most : Int)] w (Ret w (.tuple #[.agg #[.string s, .int .i64 2], .int .u64 0])) := by
  subst hc
  have hb0 : Blk ((w.alloc (.cells #[.string s, .int .i64 0] 62)).alloc (.cells #[.string ⟨#[]⟩, .int .i64 0] 62)) w.heap.size [.string s, .int .i64 0] 62 := Blk.alloc (Blk.new w #[.string s, .int .i64 0] 62) _
  have hb1 : Blk ((w.alloc (.cells #[.string s, .int .i64 0] 62)).alloc (.cells #[.string ⟨#[]⟩, .int .i64 0] 62)) (w.heap.size + 1) zerosI 62 := Blk.new' _ _ _ _ (by simp)
  have HB := Lib.hid (below2 w (.cells #[.string s, .int .i64 0] 62) (.cells #[.string ⟨#[]⟩, .int .i64 0] 62))
  obtain ⟨w0, hw0⟩ : ∃ w0, w0 = (w.alloc (.cells #[.string s, .int .i64 0] 62)).alloc (.cells #[.string ⟨#[]⟩, .int .i64 0] 62) := ⟨_, rfl⟩
  rw [← hw0] at hb0 hb1 HB
  have c00 : w0.cell? ⟨w.heap.size, 0, none⟩ = some (.string s) := hb0.cell 0
  have c01 : w0.cell? ⟨w.heap.size, 1, none⟩ = some (.int .i64 0) := hb0.cell 1
  have i1 : (0 : Int) < (N : Int) := by omega
  have i2 : (N : Int) < 3 := by omega
  go_enter Try.func24, Try.ntmps24
  go_upto_region 1 with fail
  rw [← hw0]
  clear hw0
  go_wp2_with (((with_reducible refine at_store 62 (.tmp 4) (.tmp 34) ?_); refine wpList_store_blk rfl 62 (.tmp 4) (.tmp 34) rfl (w.heap.size + 1) zerosI [.string s, .int .i64 2] 62 rfl rfl (hb1) rfl (inC_size [] 0) (by intro v hv; simp only [List.mem_cons, List.not_mem_nil, or_false] at hv; rcases hv with rfl | rfl <;> rfl) ?_; intro w8 hb8 ho8))
  refine bodyPost_ret (v := .tuple #[.agg ([.string s, .int .i64 2]).toArray, .int .u64 0]) ?_ rfl ⟨rfl, below_only (HB.out) ho8 (by omega)⟩
  exact results_in Try.results24 _ _ (w.heap.size + 1) 62 _ (0, 0) _ _ (by rfl) (by rfl) hb8 Try.underlying62 rfl (inC_size [] 0)
set_option maxRecDepth 100000 in
set_option maxHeartbeats 4000000 in
theorem dcount_bad253 {u : List UInt8} (s : ByteArray) (most N v : Nat) (c0 : UInt8) (hc : c0 = 253) (hidx : ∀ W, (Instr.index 9 (.string s) (.int .i64 0)).run Try.prog W = .ok (.int .u8 (c0.toNat : Int)) W) (hs : s.size = N) (h2 : 3 ≤ N) (HCT : ∀ W, ∃ A c w', (convert 9 22 (.string (s.extract 1 3))).run Try.prog W = .ok (.slice A 2 c) w' ∧ Rd w' A 2 u ∧ Below W.heap.size W w') (CVL : ∀ W A c, Rd W A 2 u → Calls Try.prog 41 #[.slice A 2 c] W fun e w' => e = .returned (.int .u64 (v : Int)) ∧ W = w') (sv : ByteArray) (CV0 : ∀ W, Calls Try.prog 42 #[.int .u64 (v : Int)] W (Ret W (.string sv))) (hne : ¬ sv.toList = (s.extract 0 3).toList) (w : World) :
    Calls Try.prog 24 #[.agg #[.string s, .int .i64 0], .int .u64 (most : Int)] w (Ret w (.tuple #[.agg #[.string s, .int .i64 3], .int .u64 0])) := by
  subst hc
  have hb0 : Blk ((w.alloc (.cells #[.string s, .int .i64 0] 62)).alloc (.cells #[.string ⟨#[]⟩, .int .i64 0] 62)) w.heap.size [.string s, .int .i64 0] 62 := Blk.alloc (Blk.new w #[.string s, .int .i64 0] 62) _
  have hb1 : Blk ((w.alloc (.cells #[.string s, .int .i64 0] 62)).alloc (.cells #[.string ⟨#[]⟩, .int .i64 0] 62)) (w.heap.size + 1) zerosI 62 := Blk.new' _ _ _ _ (by simp)
  have HB := Lib.hid (below2 w (.cells #[.string s, .int .i64 0] 62) (.cells #[.string ⟨#[]⟩, .int .i64 0] 62))
  obtain ⟨w0, hw0⟩ : ∃ w0, w0 = (w.alloc (.cells #[.string s, .int .i64 0] 62)).alloc (.cells #[.string ⟨#[]⟩, .int .i64 0] 62) := ⟨_, rfl⟩
  rw [← hw0] at hb0 hb1 HB
  have c00 : w0.cell? ⟨w.heap.size, 0, none⟩ = some (.string s) := hb0.cell 0
  have c01 : w0.cell? ⟨w.heap.size, 1, none⟩ = some (.int .i64 0) := hb0.cell 1
  have i1 : (0 : Int) < (N : Int) := by omega
  have i2 : ¬ (N : Int) < 3 := by omega
  have i3 : (3 : Int) ≤ (N : Int) := by omega
  obtain ⟨A9, c9, w9, hcv9, hr9, h9b⟩ := HCT w0
  have HV9 := Lib.hid (CVL w9 A9 c9 hr9)
  have H9 := Lib.hid h9b
  have c90 : w9.cell? ⟨w.heap.size, 0, none⟩ = some (.string s) := (hb0.up h9b).cell 0
  have hb9 := hb1.up h9b
  have hb90 := hb0.up h9b
  have K9 : Hid (∀ W, Below w9.heap.size w9 W → W.cell? ⟨w.heap.size, 0, none⟩ = some (.string s) ∧ Below w9.heap.size w9 W) := Lib.hid fun W h => ⟨(hb90.up h).cell 0, h⟩
  have z9 : Below w9.heap.size w9 w9.drew := (Below.refl _ _).drew
  clear HCT CVL h9b
  have hw13 : IntKind.i64.wrap 3 = 3 := by rw [IntKind.wrap_i64]; omega
  have CV := Lib.hid CV0
  clear CV0
  go_enter Try.func24, Try.ntmps24
  go_upto_region 1 with fail
  rw [← hw0]
  clear hw0
  go_wp2_with (go_at_call 41; refine HV9.out.mono ?_; rintro e' x' ⟨rfl, rfl⟩)
  refine wp_region_held_drew (S := fun W => W.cell? ⟨w.heap.size, 0, none⟩ = some (.string s) ∧ Below w9.heap.size w9 W) (by kernel_rfl) ?_ (fun hHeld => ?_)
  · (first | exact K9.out _ z9 | exact K9.out _ hba' | exact K9.out _ (by first | assumption | exact And.right (by assumption)))
  refine wpAnyH_take (i := 0) (v := ?_) rfl (by kernel_rfl) (by kernel_rfl) (by kernel_rfl) (fun _ _ _ h => h) (Or.inl ⟨by rfl, ?_⟩) (by assumption) ?_
  rotate_left 1
  · intro w hSw; (try dsimp only at hSw); simp only [List.getElem_toArray, List.getElem_cons_succ, List.getElem_cons_zero]; go_simp; try (with_reducible rfl)
  (try simp only [List.getElem_toArray, List.getElem_cons_succ, List.getElem_cons_zero, Act.put, List.setIfInBounds_toArray, List.set_cons_succ, List.set_cons_zero])
  refine wpAnyH_take (i := 2) (v := ?_) rfl (by kernel_rfl) (by kernel_rfl) (by kernel_rfl) (fun _ _ _ h => h) (Or.inl ⟨by rfl, ?_⟩) (by assumption) ?_
  rotate_left 1
  · intro w hSw; (try dsimp only at hSw); simp only [List.getElem_toArray, List.getElem_cons_succ, List.getElem_cons_zero]; go_simp; try (with_reducible rfl)
  (try simp only [List.getElem_toArray, List.getElem_cons_succ, List.getElem_cons_zero, Act.put, List.setIfInBounds_toArray, List.set_cons_succ, List.set_cons_zero])
  refine wpAnyH_take (i := 3) (v := ?_) rfl (by kernel_rfl) (by kernel_rfl) (by kernel_rfl) (fun _ _ _ h => h) (Or.inl ⟨by rfl, ?_⟩) (by assumption) ?_
  rotate_left 1
  · intro w hSw; (try dsimp only at hSw); simp only [List.getElem_toArray, List.getElem_cons_succ, List.getElem_cons_zero]; go_simp; try (with_reducible rfl)
  (try simp only [List.getElem_toArray, List.getElem_cons_succ, List.getElem_cons_zero, Act.put, List.setIfInBounds_toArray, List.set_cons_succ, List.set_cons_zero])
  refine wpAnyH_take (i := 4) (v := ?_) rfl (by kernel_rfl) (by kernel_rfl) (by kernel_rfl) (fun _ _ _ h => h) (Or.inl ⟨by rfl, ?_⟩) (by assumption) ?_
  rotate_left 1
  · intro w hSw; (try dsimp only at hSw); simp only [List.getElem_toArray, List.getElem_cons_succ, List.getElem_cons_zero]; go_simp; try (with_reducible rfl)
  (try simp only [List.getElem_toArray, List.getElem_cons_succ, List.getElem_cons_zero, Act.put, List.setIfInBounds_toArray, List.set_cons_succ, List.set_cons_zero])
  refine wpAnyH_take (i := 5) (v := .int .i64 3) rfl (by kernel_rfl) (by kernel_rfl) (by kernel_rfl) (fun _ _ _ h => h) (Or.inl ⟨by rfl, ?_⟩) (by assumption) ?_
  · intro w hSw; (try dsimp only at hSw); simp only [List.getElem_toArray, List.getElem_cons_succ, List.getElem_cons_zero]; first | (go_simp; done) | (go_simp; rfl) | (go_simp; simp [hw13]; done)
  (try simp only [List.getElem_toArray, List.getElem_cons_succ, List.getElem_cons_zero, Act.put, List.setIfInBounds_toArray, List.set_cons_succ, List.set_cons_zero])
  refine wpAnyH_take (i := 6) (v := .string (s.extract 0 3)) rfl (by kernel_rfl) (by kernel_rfl) (by kernel_rfl) (fun _ _ _ h => h) (Or.inl ⟨by rfl, ?_⟩) (by assumption) ?_
  · intro w hSw; (try dsimp only at hSw); simp only [List.getElem_toArray, List.getElem_cons_succ, List.getElem_cons_zero]; first | (go_simp; done) | (go_simp; simp [i3]; done)
  (try simp only [List.getElem_toArray, List.getElem_cons_succ, List.getElem_cons_zero, Act.put, List.setIfInBounds_toArray, List.set_cons_succ, List.set_cons_zero])
  refine wpAnyH_ready (rs := [1]) (by kernel_rfl) (by simp) ?_
  refine AllReadyH.cons rfl (fun K hK => ?_) AllReadyH.nil
  (try simp only [List.getElem_toArray, List.getElem_cons_succ, List.getElem_cons_zero])
  go_simp
  go_at_call 42; refine (CV.out _).mono ?_; rintro e' wa ⟨rfl, hba⟩; have hba' := below_more z9 hba; have ca0 := (K9.out _ hba').1; have hbz := hb9.up hba'
  (try (go_wp2_with fail))
  refine hK.out _ _ ?_ (fun hHeld => ?_)
  · (first | exact K9.out _ z9 | exact K9.out _ hba' | exact K9.out _ (by first | assumption | exact And.right (by assumption)))
  clear hK K
  (try simp only [Act.put, List.setIfInBounds_toArray, List.set_cons_succ, List.set_cons_zero])
  refine wpAnyH_take (i := 7) (v := .bool true) rfl (by kernel_rfl) (by kernel_rfl) (by kernel_rfl) (fun _ _ _ h => h) (Or.inl ⟨by rfl, ?_⟩) (by assumption) ?_
  · intro w hSw; (try dsimp only at hSw); simp only [List.getElem_toArray, List.getElem_cons_succ, List.getElem_cons_zero]; first | (go_simp; simp [hne]; done) | (simp [execOp, Act.eval, go_sem, hne]; done) | (go_simp; done)
  (try simp only [List.getElem_toArray, List.getElem_cons_succ, List.getElem_cons_zero, Act.put, List.setIfInBounds_toArray, List.set_cons_succ, List.set_cons_zero])
  refine wpAnyH_done (by kernel_rfl) ?_ _
  go_wp2_with (((with_reducible refine at_store 62 (.tmp 4) (.tmp 58) ?_); refine wpList_store_blk rfl 62 (.tmp 4) (.tmp 58) rfl (w.heap.size + 1) zerosI [.string s, .int .i64 3] 62 rfl rfl (hbz) rfl (inC_size [] 0) (by intro v hv; simp only [List.mem_cons, List.not_mem_nil, or_false] at hv; rcases hv with rfl | rfl <;> rfl) ?_; intro w8 hb8 ho8))
  refine bodyPost_ret (v := .tuple #[.agg ([.string s, .int .i64 3]).toArray, .int .u64 0]) ?_ rfl ⟨rfl, below_only (below_more (below_more HB.out H9.out) hba') ho8 (by omega)⟩
  exact results_in Try.results24 _ _ (w.heap.size + 1) 62 _ (0, 0) _ _ (by rfl) (by rfl) hb8 Try.underlying62 rfl (inC_size [] 0)
set_option maxRecDepth 100000 in
set_option maxHeartbeats 4000000 in
theorem dcount_big253 {u : List UInt8} (s : ByteArray) (most N v : Nat) (c0 : UInt8) (hc : c0 = 253) (hidx : ∀ W, (Instr.index 9 (.string s) (.int .i64 0)).run Try.prog W = .ok (.int .u8 (c0.toNat : Int)) W) (hs : s.size = N) (h2 : 3 ≤ N) (HCT : ∀ W, ∃ A c w', (convert 9 22 (.string (s.extract 1 3))).run Try.prog W = .ok (.slice A 2 c) w' ∧ Rd w' A 2 u ∧ Below W.heap.size W w') (CVL : ∀ W A c, Rd W A 2 u → Calls Try.prog 41 #[.slice A 2 c] W fun e w' => e = .returned (.int .u64 (v : Int)) ∧ W = w') (CV0 : ∀ W, Calls Try.prog 42 #[.int .u64 (v : Int)] W (Ret W (.string (s.extract 0 3)))) (hmo : most < v) (w : World) :
    Calls Try.prog 24 #[.agg #[.string s, .int .i64 0], .int .u64 (most : Int)] w (Ret w (.tuple #[.agg #[.string s, .int .i64 4], .int .u64 0])) := by
  subst hc
  have hb0 : Blk ((w.alloc (.cells #[.string s, .int .i64 0] 62)).alloc (.cells #[.string ⟨#[]⟩, .int .i64 0] 62)) w.heap.size [.string s, .int .i64 0] 62 := Blk.alloc (Blk.new w #[.string s, .int .i64 0] 62) _
  have hb1 : Blk ((w.alloc (.cells #[.string s, .int .i64 0] 62)).alloc (.cells #[.string ⟨#[]⟩, .int .i64 0] 62)) (w.heap.size + 1) zerosI 62 := Blk.new' _ _ _ _ (by simp)
  have HB := Lib.hid (below2 w (.cells #[.string s, .int .i64 0] 62) (.cells #[.string ⟨#[]⟩, .int .i64 0] 62))
  obtain ⟨w0, hw0⟩ : ∃ w0, w0 = (w.alloc (.cells #[.string s, .int .i64 0] 62)).alloc (.cells #[.string ⟨#[]⟩, .int .i64 0] 62) := ⟨_, rfl⟩
  rw [← hw0] at hb0 hb1 HB
  have c00 : w0.cell? ⟨w.heap.size, 0, none⟩ = some (.string s) := hb0.cell 0
  have c01 : w0.cell? ⟨w.heap.size, 1, none⟩ = some (.int .i64 0) := hb0.cell 1
  have i1 : (0 : Int) < (N : Int) := by omega
  have i2 : ¬ (N : Int) < 3 := by omega
  have i3 : (3 : Int) ≤ (N : Int) := by omega
  obtain ⟨A9, c9, w9, hcv9, hr9, h9b⟩ := HCT w0
  have HV9 := Lib.hid (CVL w9 A9 c9 hr9)
  have H9 := Lib.hid h9b
  have c90 : w9.cell? ⟨w.heap.size, 0, none⟩ = some (.string s) := (hb0.up h9b).cell 0
  have hb9 := hb1.up h9b
  have hb90 := hb0.up h9b
  have K9 : Hid (∀ W, Below w9.heap.size w9 W → W.cell? ⟨w.heap.size, 0, none⟩ = some (.string s) ∧ Below w9.heap.size w9 W) := Lib.hid fun W h => ⟨(hb90.up h).cell 0, h⟩
  have z9 : Below w9.heap.size w9 w9.drew := (Below.refl _ _).drew
  clear HCT CVL h9b
  have hw13 : IntKind.i64.wrap 3 = 3 := by rw [IntKind.wrap_i64]; omega
  have CV := Lib.hid CV0
  clear CV0
  have i4 : (most : Int) < (v : Int) := by omega
  go_enter Try.func24, Try.ntmps24
  go_upto_region 1 with fail
  rw [← hw0]
  clear hw0
  go_wp2_with (go_at_call 41; refine HV9.out.mono ?_; rintro e' x' ⟨rfl, rfl⟩)
  refine wp_region_held_drew (S := fun W => W.cell? ⟨w.heap.size, 0, none⟩ = some (.string s) ∧ Below w9.heap.size w9 W) (by kernel_rfl) ?_ (fun hHeld => ?_)
  · (first | exact K9.out _ z9 | exact K9.out _ hba' | exact K9.out _ (by first | assumption | exact And.right (by assumption)))
  refine wpAnyH_take (i := 0) (v := ?_) rfl (by kernel_rfl) (by kernel_rfl) (by kernel_rfl) (fun _ _ _ h => h) (Or.inl ⟨by rfl, ?_⟩) (by assumption) ?_
  rotate_left 1
  · intro w hSw; (try dsimp only at hSw); simp only [List.getElem_toArray, List.getElem_cons_succ, List.getElem_cons_zero]; go_simp; try (with_reducible rfl)
  (try simp only [List.getElem_toArray, List.getElem_cons_succ, List.getElem_cons_zero, Act.put, List.setIfInBounds_toArray, List.set_cons_succ, List.set_cons_zero])
  refine wpAnyH_take (i := 2) (v := ?_) rfl (by kernel_rfl) (by kernel_rfl) (by kernel_rfl) (fun _ _ _ h => h) (Or.inl ⟨by rfl, ?_⟩) (by assumption) ?_
  rotate_left 1
  · intro w hSw; (try dsimp only at hSw); simp only [List.getElem_toArray, List.getElem_cons_succ, List.getElem_cons_zero]; go_simp; try (with_reducible rfl)
  (try simp only [List.getElem_toArray, List.getElem_cons_succ, List.getElem_cons_zero, Act.put, List.setIfInBounds_toArray, List.set_cons_succ, List.set_cons_zero])
  refine wpAnyH_take (i := 3) (v := ?_) rfl (by kernel_rfl) (by kernel_rfl) (by kernel_rfl) (fun _ _ _ h => h) (Or.inl ⟨by rfl, ?_⟩) (by assumption) ?_
  rotate_left 1
  · intro w hSw; (try dsimp only at hSw); simp only [List.getElem_toArray, List.getElem_cons_succ, List.getElem_cons_zero]; go_simp; try (with_reducible rfl)
  (try simp only [List.getElem_toArray, List.getElem_cons_succ, List.getElem_cons_zero, Act.put, List.setIfInBounds_toArray, List.set_cons_succ, List.set_cons_zero])
  refine wpAnyH_take (i := 4) (v := ?_) rfl (by kernel_rfl) (by kernel_rfl) (by kernel_rfl) (fun _ _ _ h => h) (Or.inl ⟨by rfl, ?_⟩) (by assumption) ?_
  rotate_left 1
  · intro w hSw; (try dsimp only at hSw); simp only [List.getElem_toArray, List.getElem_cons_succ, List.getElem_cons_zero]; go_simp; try (with_reducible rfl)
  (try simp only [List.getElem_toArray, List.getElem_cons_succ, List.getElem_cons_zero, Act.put, List.setIfInBounds_toArray, List.set_cons_succ, List.set_cons_zero])
  refine wpAnyH_take (i := 5) (v := .int .i64 3) rfl (by kernel_rfl) (by kernel_rfl) (by kernel_rfl) (fun _ _ _ h => h) (Or.inl ⟨by rfl, ?_⟩) (by assumption) ?_
  · intro w hSw; (try dsimp only at hSw); simp only [List.getElem_toArray, List.getElem_cons_succ, List.getElem_cons_zero]; first | (go_simp; done) | (go_simp; rfl) | (go_simp; simp [hw13]; done)
  (try simp only [List.getElem_toArray, List.getElem_cons_succ, List.getElem_cons_zero, Act.put, List.setIfInBounds_toArray, List.set_cons_succ, List.set_cons_zero])
  refine wpAnyH_take (i := 6) (v := .string (s.extract 0 3)) rfl (by kernel_rfl) (by kernel_rfl) (by kernel_rfl) (fun _ _ _ h => h) (Or.inl ⟨by rfl, ?_⟩) (by assumption) ?_
  · intro w hSw; (try dsimp only at hSw); simp only [List.getElem_toArray, List.getElem_cons_succ, List.getElem_cons_zero]; first | (go_simp; done) | (go_simp; simp [i3]; done)
  (try simp only [List.getElem_toArray, List.getElem_cons_succ, List.getElem_cons_zero, Act.put, List.setIfInBounds_toArray, List.set_cons_succ, List.set_cons_zero])
  refine wpAnyH_ready (rs := [1]) (by kernel_rfl) (by simp) ?_
  refine AllReadyH.cons rfl (fun K hK => ?_) AllReadyH.nil
  (try simp only [List.getElem_toArray, List.getElem_cons_succ, List.getElem_cons_zero])
  go_simp
  go_at_call 42; refine (CV.out _).mono ?_; rintro e' wa ⟨rfl, hba⟩; have hba' := below_more z9 hba; have ca0 := (K9.out _ hba').1; have hbz := hb9.up hba'
  (try (go_wp2_with fail))
  refine hK.out _ _ ?_ (fun hHeld => ?_)
  · (first | exact K9.out _ z9 | exact K9.out _ hba' | exact K9.out _ (by first | assumption | exact And.right (by assumption)))
  clear hK K
  (try simp only [Act.put, List.setIfInBounds_toArray, List.set_cons_succ, List.set_cons_zero])
  refine wpAnyH_take (i := 7) (v := ?_) rfl (by kernel_rfl) (by kernel_rfl) (by kernel_rfl) (fun _ _ _ h => h) (Or.inl ⟨by rfl, ?_⟩) (by assumption) ?_
  rotate_left 1
  · intro w hSw; (try dsimp only at hSw); simp only [List.getElem_toArray, List.getElem_cons_succ, List.getElem_cons_zero]; go_simp; try (with_reducible rfl)
  (try simp only [List.getElem_toArray, List.getElem_cons_succ, List.getElem_cons_zero, Act.put, List.setIfInBounds_toArray, List.set_cons_succ, List.set_cons_zero])
  refine wpAnyH_done (by kernel_rfl) ?_ _
  go_wp2_with (((with_reducible refine at_store 62 (.tmp 4) (.tmp 64) ?_); refine wpList_store_blk rfl 62 (.tmp 4) (.tmp 64) rfl (w.heap.size + 1) zerosI [.string s, .int .i64 4] 62 rfl rfl (hbz) rfl (inC_size [] 0) (by intro v hv; simp only [List.mem_cons, List.not_mem_nil, or_false] at hv; rcases hv with rfl | rfl <;> rfl) ?_; intro w8 hb8 ho8))
  refine bodyPost_ret (v := .tuple #[.agg ([.string s, .int .i64 4]).toArray, .int .u64 0]) ?_ rfl ⟨rfl, below_only (below_more (below_more HB.out H9.out) hba') ho8 (by omega)⟩
  exact results_in Try.results24 _ _ (w.heap.size + 1) 62 _ (0, 0) _ _ (by rfl) (by rfl) hb8 Try.underlying62 rfl (inC_size [] 0)
set_option maxRecDepth 100000 in
set_option maxHeartbeats 4000000 in
theorem dcount_ok253 {u : List UInt8} (s : ByteArray) (most N v : Nat) (c0 : UInt8) (hc : c0 = 253) (hidx : ∀ W, (Instr.index 9 (.string s) (.int .i64 0)).run Try.prog W = .ok (.int .u8 (c0.toNat : Int)) W) (hs : s.size = N) (h2 : 3 ≤ N) (HCT : ∀ W, ∃ A c w', (convert 9 22 (.string (s.extract 1 3))).run Try.prog W = .ok (.slice A 2 c) w' ∧ Rd w' A 2 u ∧ Below W.heap.size W w') (CVL : ∀ W A c, Rd W A 2 u → Calls Try.prog 41 #[.slice A 2 c] W fun e w' => e = .returned (.int .u64 (v : Int)) ∧ W = w') (t : ByteArray) (CV0 : ∀ W, Calls Try.prog 42 #[.int .u64 (v : Int)] W (Ret W (.string (s.extract 0 3)))) (hmo : ¬ most < v) (ht : s.extract 3 N = t) (w : World) :
    Calls Try.prog 24 #[.agg #[.string s, .int .i64 0], .int .u64 (most : Int)] w (Ret w (.tuple #[.agg #[.string t, .int .i64 0], .int .u64 (v : Int)])) := by
  subst hc
  have hb0 : Blk ((w.alloc (.cells #[.string s, .int .i64 0] 62)).alloc (.cells #[.string ⟨#[]⟩, .int .i64 0] 62)) w.heap.size [.string s, .int .i64 0] 62 := Blk.alloc (Blk.new w #[.string s, .int .i64 0] 62) _
  have hb1 : Blk ((w.alloc (.cells #[.string s, .int .i64 0] 62)).alloc (.cells #[.string ⟨#[]⟩, .int .i64 0] 62)) (w.heap.size + 1) zerosI 62 := Blk.new' _ _ _ _ (by simp)
  have HB := Lib.hid (below2 w (.cells #[.string s, .int .i64 0] 62) (.cells #[.string ⟨#[]⟩, .int .i64 0] 62))
  obtain ⟨w0, hw0⟩ : ∃ w0, w0 = (w.alloc (.cells #[.string s, .int .i64 0] 62)).alloc (.cells #[.string ⟨#[]⟩, .int .i64 0] 62) := ⟨_, rfl⟩
  rw [← hw0] at hb0 hb1 HB
  have c00 : w0.cell? ⟨w.heap.size, 0, none⟩ = some (.string s) := hb0.cell 0
  have c01 : w0.cell? ⟨w.heap.size, 1, none⟩ = some (.int .i64 0) := hb0.cell 1
  have i1 : (0 : Int) < (N : Int) := by omega
  have i2 : ¬ (N : Int) < 3 := by omega
  have i3 : (3 : Int) ≤ (N : Int) := by omega
  obtain ⟨A9, c9, w9, hcv9, hr9, h9b⟩ := HCT w0
  have HV9 := Lib.hid (CVL w9 A9 c9 hr9)
  have H9 := Lib.hid h9b
  have c90 : w9.cell? ⟨w.heap.size, 0, none⟩ = some (.string s) := (hb0.up h9b).cell 0
  have hb9 := hb1.up h9b
  have hb90 := hb0.up h9b
  have K9 : Hid (∀ W, Below w9.heap.size w9 W → W.cell? ⟨w.heap.size, 0, none⟩ = some (.string s) ∧ Below w9.heap.size w9 W) := Lib.hid fun W h => ⟨(hb90.up h).cell 0, h⟩
  have z9 : Below w9.heap.size w9 w9.drew := (Below.refl _ _).drew
  clear HCT CVL h9b
  have hw13 : IntKind.i64.wrap 3 = 3 := by rw [IntKind.wrap_i64]; omega
  have CV := Lib.hid CV0
  clear CV0
  have i4 : ¬ (most : Int) < (v : Int) := by omega
  have HT := Lib.hid ht
  clear ht
  go_enter Try.func24, Try.ntmps24
  go_upto_region 1 with fail
  rw [← hw0]
  clear hw0
  go_wp2_with (go_at_call 41; refine HV9.out.mono ?_; rintro e' x' ⟨rfl, rfl⟩)
  refine wp_region_held_drew (S := fun W => W.cell? ⟨w.heap.size, 0, none⟩ = some (.string s) ∧ Below w9.heap.size w9 W) (by kernel_rfl) ?_ (fun hHeld => ?_)
  · (first | exact K9.out _ z9 | exact K9.out _ hba' | exact K9.out _ (by first | assumption | exact And.right (by assumption)))
  refine wpAnyH_take (i := 0) (v := ?_) rfl (by kernel_rfl) (by kernel_rfl) (by kernel_rfl) (fun _ _ _ h => h) (Or.inl ⟨by rfl, ?_⟩) (by assumption) ?_
  rotate_left 1
  · intro w hSw; (try dsimp only at hSw); simp only [List.getElem_toArray, List.getElem_cons_succ, List.getElem_cons_zero]; go_simp; try (with_reducible rfl)
  (try simp only [List.getElem_toArray, List.getElem_cons_succ, List.getElem_cons_zero, Act.put, List.setIfInBounds_toArray, List.set_cons_succ, List.set_cons_zero])
  refine wpAnyH_take (i := 2) (v := ?_) rfl (by kernel_rfl) (by kernel_rfl) (by kernel_rfl) (fun _ _ _ h => h) (Or.inl ⟨by rfl, ?_⟩) (by assumption) ?_
  rotate_left 1
  · intro w hSw; (try dsimp only at hSw); simp only [List.getElem_toArray, List.getElem_cons_succ, List.getElem_cons_zero]; go_simp; try (with_reducible rfl)
  (try simp only [List.getElem_toArray, List.getElem_cons_succ, List.getElem_cons_zero, Act.put, List.setIfInBounds_toArray, List.set_cons_succ, List.set_cons_zero])
  refine wpAnyH_take (i := 3) (v := ?_) rfl (by kernel_rfl) (by kernel_rfl) (by kernel_rfl) (fun _ _ _ h => h) (Or.inl ⟨by rfl, ?_⟩) (by assumption) ?_
  rotate_left 1
  · intro w hSw; (try dsimp only at hSw); simp only [List.getElem_toArray, List.getElem_cons_succ, List.getElem_cons_zero]; go_simp; try (with_reducible rfl)
  (try simp only [List.getElem_toArray, List.getElem_cons_succ, List.getElem_cons_zero, Act.put, List.setIfInBounds_toArray, List.set_cons_succ, List.set_cons_zero])
  refine wpAnyH_take (i := 4) (v := ?_) rfl (by kernel_rfl) (by kernel_rfl) (by kernel_rfl) (fun _ _ _ h => h) (Or.inl ⟨by rfl, ?_⟩) (by assumption) ?_
  rotate_left 1
  · intro w hSw; (try dsimp only at hSw); simp only [List.getElem_toArray, List.getElem_cons_succ, List.getElem_cons_zero]; go_simp; try (with_reducible rfl)
  (try simp only [List.getElem_toArray, List.getElem_cons_succ, List.getElem_cons_zero, Act.put, List.setIfInBounds_toArray, List.set_cons_succ, List.set_cons_zero])
  refine wpAnyH_take (i := 5) (v := .int .i64 3) rfl (by kernel_rfl) (by kernel_rfl) (by kernel_rfl) (fun _ _ _ h => h) (Or.inl ⟨by rfl, ?_⟩) (by assumption) ?_
  · intro w hSw; (try dsimp only at hSw); simp only [List.getElem_toArray, List.getElem_cons_succ, List.getElem_cons_zero]; first | (go_simp; done) | (go_simp; rfl) | (go_simp; simp [hw13]; done)
  (try simp only [List.getElem_toArray, List.getElem_cons_succ, List.getElem_cons_zero, Act.put, List.setIfInBounds_toArray, List.set_cons_succ, List.set_cons_zero])
  refine wpAnyH_take (i := 6) (v := .string (s.extract 0 3)) rfl (by kernel_rfl) (by kernel_rfl) (by kernel_rfl) (fun _ _ _ h => h) (Or.inl ⟨by rfl, ?_⟩) (by assumption) ?_
  · intro w hSw; (try dsimp only at hSw); simp only [List.getElem_toArray, List.getElem_cons_succ, List.getElem_cons_zero]; first | (go_simp; done) | (go_simp; simp [i3]; done)
  (try simp only [List.getElem_toArray, List.getElem_cons_succ, List.getElem_cons_zero, Act.put, List.setIfInBounds_toArray, List.set_cons_succ, List.set_cons_zero])
  refine wpAnyH_ready (rs := [1]) (by kernel_rfl) (by simp) ?_
  refine AllReadyH.cons rfl (fun K hK => ?_) AllReadyH.nil
  (try simp only [List.getElem_toArray, List.getElem_cons_succ, List.getElem_cons_zero])
  go_simp
  go_at_call 42; refine (CV.out _).mono ?_; rintro e' wa ⟨rfl, hba⟩; have hba' := below_more z9 hba; have ca0 := (K9.out _ hba').1; have hbz := hb9.up hba'
  (try (go_wp2_with fail))
  refine hK.out _ _ ?_ (fun hHeld => ?_)
  · (first | exact K9.out _ z9 | exact K9.out _ hba' | exact K9.out _ (by first | assumption | exact And.right (by assumption)))
  clear hK K
  (try simp only [Act.put, List.setIfInBounds_toArray, List.set_cons_succ, List.set_cons_zero])
  refine wpAnyH_take (i := 7) (v := ?_) rfl (by kernel_rfl) (by kernel_rfl) (by kernel_rfl) (fun _ _ _ h => h) (Or.inl ⟨by rfl, ?_⟩) (by assumption) ?_
  rotate_left 1
  · intro w hSw; (try dsimp only at hSw); simp only [List.getElem_toArray, List.getElem_cons_succ, List.getElem_cons_zero]; go_simp; try (with_reducible rfl)
  (try simp only [List.getElem_toArray, List.getElem_cons_succ, List.getElem_cons_zero, Act.put, List.setIfInBounds_toArray, List.set_cons_succ, List.set_cons_zero])
  refine wpAnyH_done (by kernel_rfl) ?_ _
  go_wp2_with (((with_reducible refine at_store 62 (.tmp 4) (.tmp 70) ?_); refine wpList_store_blk rfl 62 (.tmp 4) (.tmp 70) rfl (w.heap.size + 1) zerosI [.string (s.extract 3 N), .int .i64 0] 62 rfl rfl (hbz) rfl (inC_size [] 0) (by intro v hv; simp only [List.mem_cons, List.not_mem_nil, or_false] at hv; rcases hv with rfl | rfl <;> rfl) ?_; intro w8 hb8 ho8))
  rw [HT.out] at hb8
  refine bodyPost_ret (v := .tuple #[.agg ([.string t, .int .i64 0]).toArray, .int .u64 (v : Int)]) ?_ rfl ⟨rfl, below_only (below_more (below_more HB.out H9.out) hba') ho8 (by omega)⟩
  exact results_in Try.results24 _ _ (w.heap.size + 1) 62 _ (0, 0) _ _ (by rfl) (by rfl) hb8 Try.underlying62 rfl (inC_size [] 0)
set_option maxRecDepth 100000 in
set_option maxHeartbeats 4000000 in
theorem dcount_short254 (s : ByteArray) (most N : Nat) (c0 : UInt8) (hc : c0 = 254) (hidx : ∀ W, (Instr.index 9 (.string s) (.int .i64 0)).run Try.prog W = .ok (.int .u8 (c0.toNat : Int)) W) (hs : s.size = N) (h1 : 0 < N) (h2 : N < 5) (w : World) :
    Calls Try.prog 24 #[.agg #[.string s, .int .i64 0], .int .u64 (most : Int)] w (Ret w (.tuple #[.agg #[.string s, .int .i64 2], .int .u64 0])) := by
  subst hc
  have hb0 : Blk ((w.alloc (.cells #[.string s, .int .i64 0] 62)).alloc (.cells #[.string ⟨#[]⟩, .int .i64 0] 62)) w.heap.size [.string s, .int .i64 0] 62 := Blk.alloc (Blk.new w #[.string s, .int .i64 0] 62) _
  have hb1 : Blk ((w.alloc (.cells #[.string s, .int .i64 0] 62)).alloc (.cells #[.string ⟨#[]⟩, .int .i64 0] 62)) (w.heap.size + 1) zerosI 62 := Blk.new' _ _ _ _ (by simp)
  have HB := Lib.hid (below2 w (.cells #[.string s, .int .i64 0] 62) (.cells #[.string ⟨#[]⟩, .int .i64 0] 62))
  obtain ⟨w0, hw0⟩ : ∃ w0, w0 = (w.alloc (.cells #[.string s, .int .i64 0] 62)).alloc (.cells #[.string ⟨#[]⟩, .int .i64 0] 62) := ⟨_, rfl⟩
  rw [← hw0] at hb0 hb1 HB
  have c00 : w0.cell? ⟨w.heap.size, 0, none⟩ = some (.string s) := hb0.cell 0
  have c01 : w0.cell? ⟨w.heap.size, 1, none⟩ = some (.int .i64 0) := hb0.cell 1
  have i1 : (0 : Int) < (N : Int) := by omega
  have i2 : (N : Int) < 5 := by omega
  go_enter Try.func24, Try.ntmps24
  go_upto_region 1 with fail
  rw [← hw0]
  clear hw0
  go_wp2_with (((with_reducible refine at_store 62 (.tmp 4) (.tmp 34) ?_); refine wpList_store_blk rfl 62 (.tmp 4) (.tmp 34) rfl (w.heap.size + 1) zerosI [.string s, .int .i64 2] 62 rfl rfl (hb1) rfl (inC_size [] 0) (by intro v hv; simp only [List.mem_cons, List.not_mem_nil, or_false] at hv; rcases hv with rfl | rfl <;> rfl) ?_; intro w8 hb8 ho8))
  refine bodyPost_ret (v := .tuple #[.agg ([.string s, .int .i64 2]).toArray, .int .u64 0]) ?_ rfl ⟨rfl, below_only (HB.out) ho8 (by omega)⟩
  exact results_in Try.results24 _ _ (w.heap.size + 1) 62 _ (0, 0) _ _ (by rfl) (by rfl) hb8 Try.underlying62 rfl (inC_size [] 0)
set_option maxRecDepth 100000 in
set_option maxHeartbeats 4000000 in
theorem dcount_bad254 {u : List UInt8} (s : ByteArray) (most N v : Nat) (c0 : UInt8) (hc : c0 = 254) (hidx : ∀ W, (Instr.index 9 (.string s) (.int .i64 0)).run Try.prog W = .ok (.int .u8 (c0.toNat : Int)) W) (hs : s.size = N) (h2 : 5 ≤ N) (HCT : ∀ W, ∃ A c w', (convert 9 22 (.string (s.extract 1 5))).run Try.prog W = .ok (.slice A 4 c) w' ∧ Rd w' A 4 u ∧ Below W.heap.size W w') (CVL : ∀ W A c, Rd W A 4 u → Calls Try.prog 41 #[.slice A 4 c] W fun e w' => e = .returned (.int .u64 (v : Int)) ∧ W = w') (sv : ByteArray) (CV0 : ∀ W, Calls Try.prog 42 #[.int .u64 (v : Int)] W (Ret W (.string sv))) (hne : ¬ sv.toList = (s.extract 0 5).toList) (w : World) :
    Calls Try.prog 24 #[.agg #[.string s, .int .i64 0], .int .u64 (most : Int)] w (Ret w (.tuple #[.agg #[.string s, .int .i64 3], .int .u64 0])) := by
  subst hc
  have hb0 : Blk ((w.alloc (.cells #[.string s, .int .i64 0] 62)).alloc (.cells #[.string ⟨#[]⟩, .int .i64 0] 62)) w.heap.size [.string s, .int .i64 0] 62 := Blk.alloc (Blk.new w #[.string s, .int .i64 0] 62) _
  have hb1 : Blk ((w.alloc (.cells #[.string s, .int .i64 0] 62)).alloc (.cells #[.string ⟨#[]⟩, .int .i64 0] 62)) (w.heap.size + 1) zerosI 62 := Blk.new' _ _ _ _ (by simp)
  have HB := Lib.hid (below2 w (.cells #[.string s, .int .i64 0] 62) (.cells #[.string ⟨#[]⟩, .int .i64 0] 62))
  obtain ⟨w0, hw0⟩ : ∃ w0, w0 = (w.alloc (.cells #[.string s, .int .i64 0] 62)).alloc (.cells #[.string ⟨#[]⟩, .int .i64 0] 62) := ⟨_, rfl⟩
  rw [← hw0] at hb0 hb1 HB
  have c00 : w0.cell? ⟨w.heap.size, 0, none⟩ = some (.string s) := hb0.cell 0
  have c01 : w0.cell? ⟨w.heap.size, 1, none⟩ = some (.int .i64 0) := hb0.cell 1
  have i1 : (0 : Int) < (N : Int) := by omega
  have i2 : ¬ (N : Int) < 5 := by omega
  have i3 : (5 : Int) ≤ (N : Int) := by omega
  obtain ⟨A9, c9, w9, hcv9, hr9, h9b⟩ := HCT w0
  have HV9 := Lib.hid (CVL w9 A9 c9 hr9)
  have H9 := Lib.hid h9b
  have c90 : w9.cell? ⟨w.heap.size, 0, none⟩ = some (.string s) := (hb0.up h9b).cell 0
  have hb9 := hb1.up h9b
  have hb90 := hb0.up h9b
  have K9 : Hid (∀ W, Below w9.heap.size w9 W → W.cell? ⟨w.heap.size, 0, none⟩ = some (.string s) ∧ Below w9.heap.size w9 W) := Lib.hid fun W h => ⟨(hb90.up h).cell 0, h⟩
  have z9 : Below w9.heap.size w9 w9.drew := (Below.refl _ _).drew
  clear HCT CVL h9b
  have hw13 : IntKind.i64.wrap 5 = 5 := by rw [IntKind.wrap_i64]; omega
  have CV := Lib.hid CV0
  clear CV0
  go_enter Try.func24, Try.ntmps24
  go_upto_region 1 with fail
  rw [← hw0]
  clear hw0
  go_wp2_with (go_at_call 41; refine HV9.out.mono ?_; rintro e' x' ⟨rfl, rfl⟩)
  refine wp_region_held_drew (S := fun W => W.cell? ⟨w.heap.size, 0, none⟩ = some (.string s) ∧ Below w9.heap.size w9 W) (by kernel_rfl) ?_ (fun hHeld => ?_)
  · (first | exact K9.out _ z9 | exact K9.out _ hba' | exact K9.out _ (by first | assumption | exact And.right (by assumption)))
  refine wpAnyH_take (i := 0) (v := ?_) rfl (by kernel_rfl) (by kernel_rfl) (by kernel_rfl) (fun _ _ _ h => h) (Or.inl ⟨by rfl, ?_⟩) (by assumption) ?_
  rotate_left 1
  · intro w hSw; (try dsimp only at hSw); simp only [List.getElem_toArray, List.getElem_cons_succ, List.getElem_cons_zero]; go_simp; try (with_reducible rfl)
  (try simp only [List.getElem_toArray, List.getElem_cons_succ, List.getElem_cons_zero, Act.put, List.setIfInBounds_toArray, List.set_cons_succ, List.set_cons_zero])
  refine wpAnyH_take (i := 2) (v := ?_) rfl (by kernel_rfl) (by kernel_rfl) (by kernel_rfl) (fun _ _ _ h => h) (Or.inl ⟨by rfl, ?_⟩) (by assumption) ?_
  rotate_left 1
  · intro w hSw; (try dsimp only at hSw); simp only [List.getElem_toArray, List.getElem_cons_succ, List.getElem_cons_zero]; go_simp; try (with_reducible rfl)
  (try simp only [List.getElem_toArray, List.getElem_cons_succ, List.getElem_cons_zero, Act.put, List.setIfInBounds_toArray, List.set_cons_succ, List.set_cons_zero])
  refine wpAnyH_take (i := 3) (v := ?_) rfl (by kernel_rfl) (by kernel_rfl) (by kernel_rfl) (fun _ _ _ h => h) (Or.inl ⟨by rfl, ?_⟩) (by assumption) ?_
  rotate_left 1
  · intro w hSw; (try dsimp only at hSw); simp only [List.getElem_toArray, List.getElem_cons_succ, List.getElem_cons_zero]; go_simp; try (with_reducible rfl)
  (try simp only [List.getElem_toArray, List.getElem_cons_succ, List.getElem_cons_zero, Act.put, List.setIfInBounds_toArray, List.set_cons_succ, List.set_cons_zero])
  refine wpAnyH_take (i := 4) (v := ?_) rfl (by kernel_rfl) (by kernel_rfl) (by kernel_rfl) (fun _ _ _ h => h) (Or.inl ⟨by rfl, ?_⟩) (by assumption) ?_
  rotate_left 1
  · intro w hSw; (try dsimp only at hSw); simp only [List.getElem_toArray, List.getElem_cons_succ, List.getElem_cons_zero]; go_simp; try (with_reducible rfl)
  (try simp only [List.getElem_toArray, List.getElem_cons_succ, List.getElem_cons_zero, Act.put, List.setIfInBounds_toArray, List.set_cons_succ, List.set_cons_zero])
  refine wpAnyH_take (i := 5) (v := .int .i64 5) rfl (by kernel_rfl) (by kernel_rfl) (by kernel_rfl) (fun _ _ _ h => h) (Or.inl ⟨by rfl, ?_⟩) (by assumption) ?_
  · intro w hSw; (try dsimp only at hSw); simp only [List.getElem_toArray, List.getElem_cons_succ, List.getElem_cons_zero]; first | (go_simp; done) | (go_simp; rfl) | (go_simp; simp [hw13]; done)
  (try simp only [List.getElem_toArray, List.getElem_cons_succ, List.getElem_cons_zero, Act.put, List.setIfInBounds_toArray, List.set_cons_succ, List.set_cons_zero])
  refine wpAnyH_take (i := 6) (v := .string (s.extract 0 5)) rfl (by kernel_rfl) (by kernel_rfl) (by kernel_rfl) (fun _ _ _ h => h) (Or.inl ⟨by rfl, ?_⟩) (by assumption) ?_
  · intro w hSw; (try dsimp only at hSw); simp only [List.getElem_toArray, List.getElem_cons_succ, List.getElem_cons_zero]; first | (go_simp; done) | (go_simp; simp [i3]; done)
  (try simp only [List.getElem_toArray, List.getElem_cons_succ, List.getElem_cons_zero, Act.put, List.setIfInBounds_toArray, List.set_cons_succ, List.set_cons_zero])
  refine wpAnyH_ready (rs := [1]) (by kernel_rfl) (by simp) ?_
  refine AllReadyH.cons rfl (fun K hK => ?_) AllReadyH.nil
  (try simp only [List.getElem_toArray, List.getElem_cons_succ, List.getElem_cons_zero])
  go_simp
  go_at_call 42; refine (CV.out _).mono ?_; rintro e' wa ⟨rfl, hba⟩; have hba' := below_more z9 hba; have ca0 := (K9.out _ hba').1; have hbz := hb9.up hba'
  (try (go_wp2_with fail))
  refine hK.out _ _ ?_ (fun hHeld => ?_)
  · (first | exact K9.out _ z9 | exact K9.out _ hba' | exact K9.out _ (by first | assumption | exact And.right (by assumption)))
  clear hK K
  (try simp only [Act.put, List.setIfInBounds_toArray, List.set_cons_succ, List.set_cons_zero])
  refine wpAnyH_take (i := 7) (v := .bool true) rfl (by kernel_rfl) (by kernel_rfl) (by kernel_rfl) (fun _ _ _ h => h) (Or.inl ⟨by rfl, ?_⟩) (by assumption) ?_
  · intro w hSw; (try dsimp only at hSw); simp only [List.getElem_toArray, List.getElem_cons_succ, List.getElem_cons_zero]; first | (go_simp; simp [hne]; done) | (simp [execOp, Act.eval, go_sem, hne]; done) | (go_simp; done)
  (try simp only [List.getElem_toArray, List.getElem_cons_succ, List.getElem_cons_zero, Act.put, List.setIfInBounds_toArray, List.set_cons_succ, List.set_cons_zero])
  refine wpAnyH_done (by kernel_rfl) ?_ _
  go_wp2_with (((with_reducible refine at_store 62 (.tmp 4) (.tmp 58) ?_); refine wpList_store_blk rfl 62 (.tmp 4) (.tmp 58) rfl (w.heap.size + 1) zerosI [.string s, .int .i64 3] 62 rfl rfl (hbz) rfl (inC_size [] 0) (by intro v hv; simp only [List.mem_cons, List.not_mem_nil, or_false] at hv; rcases hv with rfl | rfl <;> rfl) ?_; intro w8 hb8 ho8))
  refine bodyPost_ret (v := .tuple #[.agg ([.string s, .int .i64 3]).toArray, .int .u64 0]) ?_ rfl ⟨rfl, below_only (below_more (below_more HB.out H9.out) hba') ho8 (by omega)⟩
  exact results_in Try.results24 _ _ (w.heap.size + 1) 62 _ (0, 0) _ _ (by rfl) (by rfl) hb8 Try.underlying62 rfl (inC_size [] 0)
set_option maxRecDepth 100000 in
set_option maxHeartbeats 4000000 in
theorem dcount_big254 {u : List UInt8} (s : ByteArray) (most N v : Nat) (c0 : UInt8) (hc : c0 = 254) (hidx : ∀ W, (Instr.index 9 (.string s) (.int .i64 0)).run Try.prog W = .ok (.int .u8 (c0.toNat : Int)) W) (hs : s.size = N) (h2 : 5 ≤ N) (HCT : ∀ W, ∃ A c w', (convert 9 22 (.string (s.extract 1 5))).run Try.prog W = .ok (.slice A 4 c) w' ∧ Rd w' A 4 u ∧ Below W.heap.size W w') (CVL : ∀ W A c, Rd W A 4 u → Calls Try.prog 41 #[.slice A 4 c] W fun e w' => e = .returned (.int .u64 (v : Int)) ∧ W = w') (CV0 : ∀ W, Calls Try.prog 42 #[.int .u64 (v : Int)] W (Ret W (.string (s.extract 0 5)))) (hmo : most < v) (w : World) :
    Calls Try.prog 24 #[.agg #[.string s, .int .i64 0], .int .u64 (most : Int)] w (Ret w (.tuple #[.agg #[.string s, .int .i64 4], .int .u64 0])) := by
  subst hc
  have hb0 : Blk ((w.alloc (.cells #[.string s, .int .i64 0] 62)).alloc (.cells #[.string ⟨#[]⟩, .int .i64 0] 62)) w.heap.size [.string s, .int .i64 0] 62 := Blk.alloc (Blk.new w #[.string s, .int .i64 0] 62) _
  have hb1 : Blk ((w.alloc (.cells #[.string s, .int .i64 0] 62)).alloc (.cells #[.string ⟨#[]⟩, .int .i64 0] 62)) (w.heap.size + 1) zerosI 62 := Blk.new' _ _ _ _ (by simp)
  have HB := Lib.hid (below2 w (.cells #[.string s, .int .i64 0] 62) (.cells #[.string ⟨#[]⟩, .int .i64 0] 62))
  obtain ⟨w0, hw0⟩ : ∃ w0, w0 = (w.alloc (.cells #[.string s, .int .i64 0] 62)).alloc (.cells #[.string ⟨#[]⟩, .int .i64 0] 62) := ⟨_, rfl⟩
  rw [← hw0] at hb0 hb1 HB
  have c00 : w0.cell? ⟨w.heap.size, 0, none⟩ = some (.string s) := hb0.cell 0
  have c01 : w0.cell? ⟨w.heap.size, 1, none⟩ = some (.int .i64 0) := hb0.cell 1
  have i1 : (0 : Int) < (N : Int) := by omega
  have i2 : ¬ (N : Int) < 5 := by omega
  have i3 : (5 : Int) ≤ (N : Int) := by omega
  obtain ⟨A9, c9, w9, hcv9, hr9, h9b⟩ := HCT w0
  have HV9 := Lib.hid (CVL w9 A9 c9 hr9)
  have H9 := Lib.hid h9b
  have c90 : w9.cell? ⟨w.heap.size, 0, none⟩ = some (.string s) := (hb0.up h9b).cell 0
  have hb9 := hb1.up h9b
  have hb90 := hb0.up h9b
  have K9 : Hid (∀ W, Below w9.heap.size w9 W → W.cell? ⟨w.heap.size, 0, none⟩ = some (.string s) ∧ Below w9.heap.size w9 W) := Lib.hid fun W h => ⟨(hb90.up h).cell 0, h⟩
  have z9 : Below w9.heap.size w9 w9.drew := (Below.refl _ _).drew
  clear HCT CVL h9b
  have hw13 : IntKind.i64.wrap 5 = 5 := by rw [IntKind.wrap_i64]; omega
  have CV := Lib.hid CV0
  clear CV0
  have i4 : (most : Int) < (v : Int) := by omega
  go_enter Try.func24, Try.ntmps24
  go_upto_region 1 with fail
  rw [← hw0]
  clear hw0
  go_wp2_with (go_at_call 41; refine HV9.out.mono ?_; rintro e' x' ⟨rfl, rfl⟩)
  refine wp_region_held_drew (S := fun W => W.cell? ⟨w.heap.size, 0, none⟩ = some (.string s) ∧ Below w9.heap.size w9 W) (by kernel_rfl) ?_ (fun hHeld => ?_)
  · (first | exact K9.out _ z9 | exact K9.out _ hba' | exact K9.out _ (by first | assumption | exact And.right (by assumption)))
  refine wpAnyH_take (i := 0) (v := ?_) rfl (by kernel_rfl) (by kernel_rfl) (by kernel_rfl) (fun _ _ _ h => h) (Or.inl ⟨by rfl, ?_⟩) (by assumption) ?_
  rotate_left 1
  · intro w hSw; (try dsimp only at hSw); simp only [List.getElem_toArray, List.getElem_cons_succ, List.getElem_cons_zero]; go_simp; try (with_reducible rfl)
  (try simp only [List.getElem_toArray, List.getElem_cons_succ, List.getElem_cons_zero, Act.put, List.setIfInBounds_toArray, List.set_cons_succ, List.set_cons_zero])
  refine wpAnyH_take (i := 2) (v := ?_) rfl (by kernel_rfl) (by kernel_rfl) (by kernel_rfl) (fun _ _ _ h => h) (Or.inl ⟨by rfl, ?_⟩) (by assumption) ?_
  rotate_left 1
  · intro w hSw; (try dsimp only at hSw); simp only [List.getElem_toArray, List.getElem_cons_succ, List.getElem_cons_zero]; go_simp; try (with_reducible rfl)
  (try simp only [List.getElem_toArray, List.getElem_cons_succ, List.getElem_cons_zero, Act.put, List.setIfInBounds_toArray, List.set_cons_succ, List.set_cons_zero])
  refine wpAnyH_take (i := 3) (v := ?_) rfl (by kernel_rfl) (by kernel_rfl) (by kernel_rfl) (fun _ _ _ h => h) (Or.inl ⟨by rfl, ?_⟩) (by assumption) ?_
  rotate_left 1
  · intro w hSw; (try dsimp only at hSw); simp only [List.getElem_toArray, List.getElem_cons_succ, List.getElem_cons_zero]; go_simp; try (with_reducible rfl)
  (try simp only [List.getElem_toArray, List.getElem_cons_succ, List.getElem_cons_zero, Act.put, List.setIfInBounds_toArray, List.set_cons_succ, List.set_cons_zero])
  refine wpAnyH_take (i := 4) (v := ?_) rfl (by kernel_rfl) (by kernel_rfl) (by kernel_rfl) (fun _ _ _ h => h) (Or.inl ⟨by rfl, ?_⟩) (by assumption) ?_
  rotate_left 1
  · intro w hSw; (try dsimp only at hSw); simp only [List.getElem_toArray, List.getElem_cons_succ, List.getElem_cons_zero]; go_simp; try (with_reducible rfl)
  (try simp only [List.getElem_toArray, List.getElem_cons_succ, List.getElem_cons_zero, Act.put, List.setIfInBounds_toArray, List.set_cons_succ, List.set_cons_zero])
  refine wpAnyH_take (i := 5) (v := .int .i64 5) rfl (by kernel_rfl) (by kernel_rfl) (by kernel_rfl) (fun _ _ _ h => h) (Or.inl ⟨by rfl, ?_⟩) (by assumption) ?_
  · intro w hSw; (try dsimp only at hSw); simp only [List.getElem_toArray, List.getElem_cons_succ, List.getElem_cons_zero]; first | (go_simp; done) | (go_simp; rfl) | (go_simp; simp [hw13]; done)
  (try simp only [List.getElem_toArray, List.getElem_cons_succ, List.getElem_cons_zero, Act.put, List.setIfInBounds_toArray, List.set_cons_succ, List.set_cons_zero])
  refine wpAnyH_take (i := 6) (v := .string (s.extract 0 5)) rfl (by kernel_rfl) (by kernel_rfl) (by kernel_rfl) (fun _ _ _ h => h) (Or.inl ⟨by rfl, ?_⟩) (by assumption) ?_
  · intro w hSw; (try dsimp only at hSw); simp only [List.getElem_toArray, List.getElem_cons_succ, List.getElem_cons_zero]; first | (go_simp; done) | (go_simp; simp [i3]; done)
  (try simp only [List.getElem_toArray, List.getElem_cons_succ, List.getElem_cons_zero, Act.put, List.setIfInBounds_toArray, List.set_cons_succ, List.set_cons_zero])
  refine wpAnyH_ready (rs := [1]) (by kernel_rfl) (by simp) ?_
  refine AllReadyH.cons rfl (fun K hK => ?_) AllReadyH.nil
  (try simp only [List.getElem_toArray, List.getElem_cons_succ, List.getElem_cons_zero])
  go_simp
  go_at_call 42; refine (CV.out _).mono ?_; rintro e' wa ⟨rfl, hba⟩; have hba' := below_more z9 hba; have ca0 := (K9.out _ hba').1; have hbz := hb9.up hba'
  (try (go_wp2_with fail))
  refine hK.out _ _ ?_ (fun hHeld => ?_)
  · (first | exact K9.out _ z9 | exact K9.out _ hba' | exact K9.out _ (by first | assumption | exact And.right (by assumption)))
  clear hK K
  (try simp only [Act.put, List.setIfInBounds_toArray, List.set_cons_succ, List.set_cons_zero])
  refine wpAnyH_take (i := 7) (v := ?_) rfl (by kernel_rfl) (by kernel_rfl) (by kernel_rfl) (fun _ _ _ h => h) (Or.inl ⟨by rfl, ?_⟩) (by assumption) ?_
  rotate_left 1
  · intro w hSw; (try dsimp only at hSw); simp only [List.getElem_toArray, List.getElem_cons_succ, List.getElem_cons_zero]; go_simp; try (with_reducible rfl)
  (try simp only [List.getElem_toArray, List.getElem_cons_succ, List.getElem_cons_zero, Act.put, List.setIfInBounds_toArray, List.set_cons_succ, List.set_cons_zero])
  refine wpAnyH_done (by kernel_rfl) ?_ _
  go_wp2_with (((with_reducible refine at_store 62 (.tmp 4) (.tmp 64) ?_); refine wpList_store_blk rfl 62 (.tmp 4) (.tmp 64) rfl (w.heap.size + 1) zerosI [.string s, .int .i64 4] 62 rfl rfl (hbz) rfl (inC_size [] 0) (by intro v hv; simp only [List.mem_cons, List.not_mem_nil, or_false] at hv; rcases hv with rfl | rfl <;> rfl) ?_; intro w8 hb8 ho8))
  refine bodyPost_ret (v := .tuple #[.agg ([.string s, .int .i64 4]).toArray, .int .u64 0]) ?_ rfl ⟨rfl, below_only (below_more (below_more HB.out H9.out) hba') ho8 (by omega)⟩
  exact results_in Try.results24 _ _ (w.heap.size + 1) 62 _ (0, 0) _ _ (by rfl) (by rfl) hb8 Try.underlying62 rfl (inC_size [] 0)
set_option maxRecDepth 100000 in
set_option maxHeartbeats 4000000 in
theorem dcount_ok254 {u : List UInt8} (s : ByteArray) (most N v : Nat) (c0 : UInt8) (hc : c0 = 254) (hidx : ∀ W, (Instr.index 9 (.string s) (.int .i64 0)).run Try.prog W = .ok (.int .u8 (c0.toNat : Int)) W) (hs : s.size = N) (h2 : 5 ≤ N) (HCT : ∀ W, ∃ A c w', (convert 9 22 (.string (s.extract 1 5))).run Try.prog W = .ok (.slice A 4 c) w' ∧ Rd w' A 4 u ∧ Below W.heap.size W w') (CVL : ∀ W A c, Rd W A 4 u → Calls Try.prog 41 #[.slice A 4 c] W fun e w' => e = .returned (.int .u64 (v : Int)) ∧ W = w') (t : ByteArray) (CV0 : ∀ W, Calls Try.prog 42 #[.int .u64 (v : Int)] W (Ret W (.string (s.extract 0 5)))) (hmo : ¬ most < v) (ht : s.extract 5 N = t) (w : World) :
    Calls Try.prog 24 #[.agg #[.string s, .int .i64 0], .int .u64 (most : Int)] w (Ret w (.tuple #[.agg #[.string t, .int .i64 0], .int .u64 (v : Int)])) := by
  subst hc
  have hb0 : Blk ((w.alloc (.cells #[.string s, .int .i64 0] 62)).alloc (.cells #[.string ⟨#[]⟩, .int .i64 0] 62)) w.heap.size [.string s, .int .i64 0] 62 := Blk.alloc (Blk.new w #[.string s, .int .i64 0] 62) _
  have hb1 : Blk ((w.alloc (.cells #[.string s, .int .i64 0] 62)).alloc (.cells #[.string ⟨#[]⟩, .int .i64 0] 62)) (w.heap.size + 1) zerosI 62 := Blk.new' _ _ _ _ (by simp)
  have HB := Lib.hid (below2 w (.cells #[.string s, .int .i64 0] 62) (.cells #[.string ⟨#[]⟩, .int .i64 0] 62))
  obtain ⟨w0, hw0⟩ : ∃ w0, w0 = (w.alloc (.cells #[.string s, .int .i64 0] 62)).alloc (.cells #[.string ⟨#[]⟩, .int .i64 0] 62) := ⟨_, rfl⟩
  rw [← hw0] at hb0 hb1 HB
  have c00 : w0.cell? ⟨w.heap.size, 0, none⟩ = some (.string s) := hb0.cell 0
  have c01 : w0.cell? ⟨w.heap.size, 1, none⟩ = some (.int .i64 0) := hb0.cell 1
  have i1 : (0 : Int) < (N : Int) := by omega
  have i2 : ¬ (N : Int) < 5 := by omega
  have i3 : (5 : Int) ≤ (N : Int) := by omega
  obtain ⟨A9, c9, w9, hcv9, hr9, h9b⟩ := HCT w0
  have HV9 := Lib.hid (CVL w9 A9 c9 hr9)
  have H9 := Lib.hid h9b
  have c90 : w9.cell? ⟨w.heap.size, 0, none⟩ = some (.string s) := (hb0.up h9b).cell 0
  have hb9 := hb1.up h9b
  have hb90 := hb0.up h9b
  have K9 : Hid (∀ W, Below w9.heap.size w9 W → W.cell? ⟨w.heap.size, 0, none⟩ = some (.string s) ∧ Below w9.heap.size w9 W) := Lib.hid fun W h => ⟨(hb90.up h).cell 0, h⟩
  have z9 : Below w9.heap.size w9 w9.drew := (Below.refl _ _).drew
  clear HCT CVL h9b
  have hw13 : IntKind.i64.wrap 5 = 5 := by rw [IntKind.wrap_i64]; omega
  have CV := Lib.hid CV0
  clear CV0
  have i4 : ¬ (most : Int) < (v : Int) := by omega
  have HT := Lib.hid ht
  clear ht
  go_enter Try.func24, Try.ntmps24
  go_upto_region 1 with fail
  rw [← hw0]
  clear hw0
  go_wp2_with (go_at_call 41; refine HV9.out.mono ?_; rintro e' x' ⟨rfl, rfl⟩)
  refine wp_region_held_drew (S := fun W => W.cell? ⟨w.heap.size, 0, none⟩ = some (.string s) ∧ Below w9.heap.size w9 W) (by kernel_rfl) ?_ (fun hHeld => ?_)
  · (first | exact K9.out _ z9 | exact K9.out _ hba' | exact K9.out _ (by first | assumption | exact And.right (by assumption)))
  refine wpAnyH_take (i := 0) (v := ?_) rfl (by kernel_rfl) (by kernel_rfl) (by kernel_rfl) (fun _ _ _ h => h) (Or.inl ⟨by rfl, ?_⟩) (by assumption) ?_
  rotate_left 1
  · intro w hSw; (try dsimp only at hSw); simp only [List.getElem_toArray, List.getElem_cons_succ, List.getElem_cons_zero]; go_simp; try (with_reducible rfl)
  (try simp only [List.getElem_toArray, List.getElem_cons_succ, List.getElem_cons_zero, Act.put, List.setIfInBounds_toArray, List.set_cons_succ, List.set_cons_zero])
  refine wpAnyH_take (i := 2) (v := ?_) rfl (by kernel_rfl) (by kernel_rfl) (by kernel_rfl) (fun _ _ _ h => h) (Or.inl ⟨by rfl, ?_⟩) (by assumption) ?_
  rotate_left 1
  · intro w hSw; (try dsimp only at hSw); simp only [List.getElem_toArray, List.getElem_cons_succ, List.getElem_cons_zero]; go_simp; try (with_reducible rfl)
  (try simp only [List.getElem_toArray, List.getElem_cons_succ, List.getElem_cons_zero, Act.put, List.setIfInBounds_toArray, List.set_cons_succ, List.set_cons_zero])
  refine wpAnyH_take (i := 3) (v := ?_) rfl (by kernel_rfl) (by kernel_rfl) (by kernel_rfl) (fun _ _ _ h => h) (Or.inl ⟨by rfl, ?_⟩) (by assumption) ?_
  rotate_left 1
  · intro w hSw; (try dsimp only at hSw); simp only [List.getElem_toArray, List.getElem_cons_succ, List.getElem_cons_zero]; go_simp; try (with_reducible rfl)
  (try simp only [List.getElem_toArray, List.getElem_cons_succ, List.getElem_cons_zero, Act.put, List.setIfInBounds_toArray, List.set_cons_succ, List.set_cons_zero])
  refine wpAnyH_take (i := 4) (v := ?_) rfl (by kernel_rfl) (by kernel_rfl) (by kernel_rfl) (fun _ _ _ h => h) (Or.inl ⟨by rfl, ?_⟩) (by assumption) ?_
  rotate_left 1
  · intro w hSw; (try dsimp only at hSw); simp only [List.getElem_toArray, List.getElem_cons_succ, List.getElem_cons_zero]; go_simp; try (with_reducible rfl)
  (try simp only [List.getElem_toArray, List.getElem_cons_succ, List.getElem_cons_zero, Act.put, List.setIfInBounds_toArray, List.set_cons_succ, List.set_cons_zero])
  refine wpAnyH_take (i := 5) (v := .int .i64 5) rfl (by kernel_rfl) (by kernel_rfl) (by kernel_rfl) (fun _ _ _ h => h) (Or.inl ⟨by rfl, ?_⟩) (by assumption) ?_
  · intro w hSw; (try dsimp only at hSw); simp only [List.getElem_toArray, List.getElem_cons_succ, List.getElem_cons_zero]; first | (go_simp; done) | (go_simp; rfl) | (go_simp; simp [hw13]; done)
  (try simp only [List.getElem_toArray, List.getElem_cons_succ, List.getElem_cons_zero, Act.put, List.setIfInBounds_toArray, List.set_cons_succ, List.set_cons_zero])
  refine wpAnyH_take (i := 6) (v := .string (s.extract 0 5)) rfl (by kernel_rfl) (by kernel_rfl) (by kernel_rfl) (fun _ _ _ h => h) (Or.inl ⟨by rfl, ?_⟩) (by assumption) ?_
  · intro w hSw; (try dsimp only at hSw); simp only [List.getElem_toArray, List.getElem_cons_succ, List.getElem_cons_zero]; first | (go_simp; done) | (go_simp; simp [i3]; done)
  (try simp only [List.getElem_toArray, List.getElem_cons_succ, List.getElem_cons_zero, Act.put, List.setIfInBounds_toArray, List.set_cons_succ, List.set_cons_zero])
  refine wpAnyH_ready (rs := [1]) (by kernel_rfl) (by simp) ?_
  refine AllReadyH.cons rfl (fun K hK => ?_) AllReadyH.nil
  (try simp only [List.getElem_toArray, List.getElem_cons_succ, List.getElem_cons_zero])
  go_simp
  go_at_call 42; refine (CV.out _).mono ?_; rintro e' wa ⟨rfl, hba⟩; have hba' := below_more z9 hba; have ca0 := (K9.out _ hba').1; have hbz := hb9.up hba'
  (try (go_wp2_with fail))
  refine hK.out _ _ ?_ (fun hHeld => ?_)
  · (first | exact K9.out _ z9 | exact K9.out _ hba' | exact K9.out _ (by first | assumption | exact And.right (by assumption)))
  clear hK K
  (try simp only [Act.put, List.setIfInBounds_toArray, List.set_cons_succ, List.set_cons_zero])
  refine wpAnyH_take (i := 7) (v := ?_) rfl (by kernel_rfl) (by kernel_rfl) (by kernel_rfl) (fun _ _ _ h => h) (Or.inl ⟨by rfl, ?_⟩) (by assumption) ?_
  rotate_left 1
  · intro w hSw; (try dsimp only at hSw); simp only [List.getElem_toArray, List.getElem_cons_succ, List.getElem_cons_zero]; go_simp; try (with_reducible rfl)
  (try simp only [List.getElem_toArray, List.getElem_cons_succ, List.getElem_cons_zero, Act.put, List.setIfInBounds_toArray, List.set_cons_succ, List.set_cons_zero])
  refine wpAnyH_done (by kernel_rfl) ?_ _
  go_wp2_with (((with_reducible refine at_store 62 (.tmp 4) (.tmp 70) ?_); refine wpList_store_blk rfl 62 (.tmp 4) (.tmp 70) rfl (w.heap.size + 1) zerosI [.string (s.extract 5 N), .int .i64 0] 62 rfl rfl (hbz) rfl (inC_size [] 0) (by intro v hv; simp only [List.mem_cons, List.not_mem_nil, or_false] at hv; rcases hv with rfl | rfl <;> rfl) ?_; intro w8 hb8 ho8))
  rw [HT.out] at hb8
  refine bodyPost_ret (v := .tuple #[.agg ([.string t, .int .i64 0]).toArray, .int .u64 (v : Int)]) ?_ rfl ⟨rfl, below_only (below_more (below_more HB.out H9.out) hba') ho8 (by omega)⟩
  exact results_in Try.results24 _ _ (w.heap.size + 1) 62 _ (0, 0) _ _ (by rfl) (by rfl) hb8 Try.underlying62 rfl (inC_size [] 0)
set_option maxRecDepth 100000 in
set_option maxHeartbeats 4000000 in
theorem dcount_short255 (s : ByteArray) (most N : Nat) (c0 : UInt8) (hc : c0 = 255) (hidx : ∀ W, (Instr.index 9 (.string s) (.int .i64 0)).run Try.prog W = .ok (.int .u8 (c0.toNat : Int)) W) (hs : s.size = N) (h1 : 0 < N) (h2 : N < 9) (w : World) :
    Calls Try.prog 24 #[.agg #[.string s, .int .i64 0], .int .u64 (most : Int)] w (Ret w (.tuple #[.agg #[.string s, .int .i64 2], .int .u64 0])) := by
  subst hc
  have hb0 : Blk ((w.alloc (.cells #[.string s, .int .i64 0] 62)).alloc (.cells #[.string ⟨#[]⟩, .int .i64 0] 62)) w.heap.size [.string s, .int .i64 0] 62 := Blk.alloc (Blk.new w #[.string s, .int .i64 0] 62) _
  have hb1 : Blk ((w.alloc (.cells #[.string s, .int .i64 0] 62)).alloc (.cells #[.string ⟨#[]⟩, .int .i64 0] 62)) (w.heap.size + 1) zerosI 62 := Blk.new' _ _ _ _ (by simp)
  have HB := Lib.hid (below2 w (.cells #[.string s, .int .i64 0] 62) (.cells #[.string ⟨#[]⟩, .int .i64 0] 62))
  obtain ⟨w0, hw0⟩ : ∃ w0, w0 = (w.alloc (.cells #[.string s, .int .i64 0] 62)).alloc (.cells #[.string ⟨#[]⟩, .int .i64 0] 62) := ⟨_, rfl⟩
  rw [← hw0] at hb0 hb1 HB
  have c00 : w0.cell? ⟨w.heap.size, 0, none⟩ = some (.string s) := hb0.cell 0
  have c01 : w0.cell? ⟨w.heap.size, 1, none⟩ = some (.int .i64 0) := hb0.cell 1
  have i1 : (0 : Int) < (N : Int) := by omega
  have i2 : (N : Int) < 9 := by omega
  go_enter Try.func24, Try.ntmps24
  go_upto_region 1 with fail
  rw [← hw0]
  clear hw0
  go_wp2_with (((with_reducible refine at_store 62 (.tmp 4) (.tmp 34) ?_); refine wpList_store_blk rfl 62 (.tmp 4) (.tmp 34) rfl (w.heap.size + 1) zerosI [.string s, .int .i64 2] 62 rfl rfl (hb1) rfl (inC_size [] 0) (by intro v hv; simp only [List.mem_cons, List.not_mem_nil, or_false] at hv; rcases hv with rfl | rfl <;> rfl) ?_; intro w8 hb8 ho8))
  refine bodyPost_ret (v := .tuple #[.agg ([.string s, .int .i64 2]).toArray, .int .u64 0]) ?_ rfl ⟨rfl, below_only (HB.out) ho8 (by omega)⟩
  exact results_in Try.results24 _ _ (w.heap.size + 1) 62 _ (0, 0) _ _ (by rfl) (by rfl) hb8 Try.underlying62 rfl (inC_size [] 0)
set_option maxRecDepth 100000 in
set_option maxHeartbeats 4000000 in
theorem dcount_bad255 {u : List UInt8} (s : ByteArray) (most N v : Nat) (c0 : UInt8) (hc : c0 = 255) (hidx : ∀ W, (Instr.index 9 (.string s) (.int .i64 0)).run Try.prog W = .ok (.int .u8 (c0.toNat : Int)) W) (hs : s.size = N) (h2 : 9 ≤ N) (HCT : ∀ W, ∃ A c w', (convert 9 22 (.string (s.extract 1 9))).run Try.prog W = .ok (.slice A 8 c) w' ∧ Rd w' A 8 u ∧ Below W.heap.size W w') (CVL : ∀ W A c, Rd W A 8 u → Calls Try.prog 41 #[.slice A 8 c] W fun e w' => e = .returned (.int .u64 (v : Int)) ∧ W = w') (sv : ByteArray) (CV0 : ∀ W, Calls Try.prog 42 #[.int .u64 (v : Int)] W (Ret W (.string sv))) (hne : ¬ sv.toList = (s.extract 0 9).toList) (w : World) :
    Calls Try.prog 24 #[.agg #[.string s, .int .i64 0], .int .u64 (most : Int)] w (Ret w (.tuple #[.agg #[.string s, .int .i64 3], .int .u64 0])) := by
  subst hc
  have hb0 : Blk ((w.alloc (.cells #[.string s, .int .i64 0] 62)).alloc (.cells #[.string ⟨#[]⟩, .int .i64 0] 62)) w.heap.size [.string s, .int .i64 0] 62 := Blk.alloc (Blk.new w #[.string s, .int .i64 0] 62) _
  have hb1 : Blk ((w.alloc (.cells #[.string s, .int .i64 0] 62)).alloc (.cells #[.string ⟨#[]⟩, .int .i64 0] 62)) (w.heap.size + 1) zerosI 62 := Blk.new' _ _ _ _ (by simp)
  have HB := Lib.hid (below2 w (.cells #[.string s, .int .i64 0] 62) (.cells #[.string ⟨#[]⟩, .int .i64 0] 62))
  obtain ⟨w0, hw0⟩ : ∃ w0, w0 = (w.alloc (.cells #[.string s, .int .i64 0] 62)).alloc (.cells #[.string ⟨#[]⟩, .int .i64 0] 62) := ⟨_, rfl⟩
  rw [← hw0] at hb0 hb1 HB
  have c00 : w0.cell? ⟨w.heap.size, 0, none⟩ = some (.string s) := hb0.cell 0
  have c01 : w0.cell? ⟨w.heap.size, 1, none⟩ = some (.int .i64 0) := hb0.cell 1
  have i1 : (0 : Int) < (N : Int) := by omega
  have i2 : ¬ (N : Int) < 9 := by omega
  have i3 : (9 : Int) ≤ (N : Int) := by omega
  obtain ⟨A9, c9, w9, hcv9, hr9, h9b⟩ := HCT w0
  have HV9 := Lib.hid (CVL w9 A9 c9 hr9)
  have H9 := Lib.hid h9b
  have c90 : w9.cell? ⟨w.heap.size, 0, none⟩ = some (.string s) := (hb0.up h9b).cell 0
  have hb9 := hb1.up h9b
  have hb90 := hb0.up h9b
  have K9 : Hid (∀ W, Below w9.heap.size w9 W → W.cell? ⟨w.heap.size, 0, none⟩ = some (.string s) ∧ Below w9.heap.size w9 W) := Lib.hid fun W h => ⟨(hb90.up h).cell 0, h⟩
  have z9 : Below w9.heap.size w9 w9.drew := (Below.refl _ _).drew
  clear HCT CVL h9b
  have hw13 : IntKind.i64.wrap 9 = 9 := by rw [IntKind.wrap_i64]; omega
  have CV := Lib.hid CV0
  clear CV0
  go_enter Try.func24, Try.ntmps24
  go_upto_region 1 with fail
  rw [← hw0]
  clear hw0
  go_wp2_with (go_at_call 41; refine HV9.out.mono ?_; rintro e' x' ⟨rfl, rfl⟩)
  refine wp_region_held_drew (S := fun W => W.cell? ⟨w.heap.size, 0, none⟩ = some (.string s) ∧ Below w9.heap.size w9 W) (by kernel_rfl) ?_ (fun hHeld => ?_)
  · (first | exact K9.out _ z9 | exact K9.out _ hba' | exact K9.out _ (by first | assumption | exact And.right (by assumption)))
  refine wpAnyH_take (i := 0) (v := ?_) rfl (by kernel_rfl) (by kernel_rfl) (by kernel_rfl) (fun _ _ _ h => h) (Or.inl ⟨by rfl, ?_⟩) (by assumption) ?_
  rotate_left 1
  · intro w hSw; (try dsimp only at hSw); simp only [List.getElem_toArray, List.getElem_cons_succ, List.getElem_cons_zero]; go_simp; try (with_reducible rfl)
  (try simp only [List.getElem_toArray, List.getElem_cons_succ, List.getElem_cons_zero, Act.put, List.setIfInBounds_toArray, List.set_cons_succ, List.set_cons_zero])
  refine wpAnyH_take (i := 2) (v := ?_) rfl (by kernel_rfl) (by kernel_rfl) (by kernel_rfl) (fun _ _ _ h => h) (Or.inl ⟨by rfl, ?_⟩) (by assumption) ?_
  rotate_left 1
  · intro w hSw; (try dsimp only at hSw); simp only [List.getElem_toArray, List.getElem_cons_succ, List.getElem_cons_zero]; go_simp; try (with_reducible rfl)
  (try simp only [List.getElem_toArray, List.getElem_cons_succ, List.getElem_cons_zero, Act.put, List.setIfInBounds_toArray, List.set_cons_succ, List.set_cons_zero])
  refine wpAnyH_take (i := 3) (v := ?_) rfl (by kernel_rfl) (by kernel_rfl) (by kernel_rfl) (fun _ _ _ h => h) (Or.inl ⟨by rfl, ?_⟩) (by assumption) ?_
  rotate_left 1
  · intro w hSw; (try dsimp only at hSw); simp only [List.getElem_toArray, List.getElem_cons_succ, List.getElem_cons_zero]; go_simp; try (with_reducible rfl)
  (try simp only [List.getElem_toArray, List.getElem_cons_succ, List.getElem_cons_zero, Act.put, List.setIfInBounds_toArray, List.set_cons_succ, List.set_cons_zero])
  refine wpAnyH_take (i := 4) (v := ?_) rfl (by kernel_rfl) (by kernel_rfl) (by kernel_rfl) (fun _ _ _ h => h) (Or.inl ⟨by rfl, ?_⟩) (by assumption) ?_
  rotate_left 1
  · intro w hSw; (try dsimp only at hSw); simp only [List.getElem_toArray, List.getElem_cons_succ, List.getElem_cons_zero]; go_simp; try (with_reducible rfl)
  (try simp only [List.getElem_toArray, List.getElem_cons_succ, List.getElem_cons_zero, Act.put, List.setIfInBounds_toArray, List.set_cons_succ, List.set_cons_zero])
  refine wpAnyH_take (i := 5) (v := .int .i64 9) rfl (by kernel_rfl) (by kernel_rfl) (by kernel_rfl) (fun _ _ _ h => h) (Or.inl ⟨by rfl, ?_⟩) (by assumption) ?_
  · intro w hSw; (try dsimp only at hSw); simp only [List.getElem_toArray, List.getElem_cons_succ, List.getElem_cons_zero]; first | (go_simp; done) | (go_simp; rfl) | (go_simp; simp [hw13]; done)
  (try simp only [List.getElem_toArray, List.getElem_cons_succ, List.getElem_cons_zero, Act.put, List.setIfInBounds_toArray, List.set_cons_succ, List.set_cons_zero])
  refine wpAnyH_take (i := 6) (v := .string (s.extract 0 9)) rfl (by kernel_rfl) (by kernel_rfl) (by kernel_rfl) (fun _ _ _ h => h) (Or.inl ⟨by rfl, ?_⟩) (by assumption) ?_
  · intro w hSw; (try dsimp only at hSw); simp only [List.getElem_toArray, List.getElem_cons_succ, List.getElem_cons_zero]; first | (go_simp; done) | (go_simp; simp [i3]; done)
  (try simp only [List.getElem_toArray, List.getElem_cons_succ, List.getElem_cons_zero, Act.put, List.setIfInBounds_toArray, List.set_cons_succ, List.set_cons_zero])
  refine wpAnyH_ready (rs := [1]) (by kernel_rfl) (by simp) ?_
  refine AllReadyH.cons rfl (fun K hK => ?_) AllReadyH.nil
  (try simp only [List.getElem_toArray, List.getElem_cons_succ, List.getElem_cons_zero])
  go_simp
  go_at_call 42; refine (CV.out _).mono ?_; rintro e' wa ⟨rfl, hba⟩; have hba' := below_more z9 hba; have ca0 := (K9.out _ hba').1; have hbz := hb9.up hba'
  (try (go_wp2_with fail))
  refine hK.out _ _ ?_ (fun hHeld => ?_)
  · (first | exact K9.out _ z9 | exact K9.out _ hba' | exact K9.out _ (by first | assumption | exact And.right (by assumption)))
  clear hK K
  (try simp only [Act.put, List.setIfInBounds_toArray, List.set_cons_succ, List.set_cons_zero])
  refine wpAnyH_take (i := 7) (v := .bool true) rfl (by kernel_rfl) (by kernel_rfl) (by kernel_rfl) (fun _ _ _ h => h) (Or.inl ⟨by rfl, ?_⟩) (by assumption) ?_
  · intro w hSw; (try dsimp only at hSw); simp only [List.getElem_toArray, List.getElem_cons_succ, List.getElem_cons_zero]; first | (go_simp; simp [hne]; done) | (simp [execOp, Act.eval, go_sem, hne]; done) | (go_simp; done)
  (try simp only [List.getElem_toArray, List.getElem_cons_succ, List.getElem_cons_zero, Act.put, List.setIfInBounds_toArray, List.set_cons_succ, List.set_cons_zero])
  refine wpAnyH_done (by kernel_rfl) ?_ _
  go_wp2_with (((with_reducible refine at_store 62 (.tmp 4) (.tmp 58) ?_); refine wpList_store_blk rfl 62 (.tmp 4) (.tmp 58) rfl (w.heap.size + 1) zerosI [.string s, .int .i64 3] 62 rfl rfl (hbz) rfl (inC_size [] 0) (by intro v hv; simp only [List.mem_cons, List.not_mem_nil, or_false] at hv; rcases hv with rfl | rfl <;> rfl) ?_; intro w8 hb8 ho8))
  refine bodyPost_ret (v := .tuple #[.agg ([.string s, .int .i64 3]).toArray, .int .u64 0]) ?_ rfl ⟨rfl, below_only (below_more (below_more HB.out H9.out) hba') ho8 (by omega)⟩
  exact results_in Try.results24 _ _ (w.heap.size + 1) 62 _ (0, 0) _ _ (by rfl) (by rfl) hb8 Try.underlying62 rfl (inC_size [] 0)
set_option maxRecDepth 100000 in
set_option maxHeartbeats 4000000 in
theorem dcount_big255 {u : List UInt8} (s : ByteArray) (most N v : Nat) (c0 : UInt8) (hc : c0 = 255) (hidx : ∀ W, (Instr.index 9 (.string s) (.int .i64 0)).run Try.prog W = .ok (.int .u8 (c0.toNat : Int)) W) (hs : s.size = N) (h2 : 9 ≤ N) (HCT : ∀ W, ∃ A c w', (convert 9 22 (.string (s.extract 1 9))).run Try.prog W = .ok (.slice A 8 c) w' ∧ Rd w' A 8 u ∧ Below W.heap.size W w') (CVL : ∀ W A c, Rd W A 8 u → Calls Try.prog 41 #[.slice A 8 c] W fun e w' => e = .returned (.int .u64 (v : Int)) ∧ W = w') (CV0 : ∀ W, Calls Try.prog 42 #[.int .u64 (v : Int)] W (Ret W (.string (s.extract 0 9)))) (hmo : most < v) (w : World) :
    Calls Try.prog 24 #[.agg #[.string s, .int .i64 0], .int .u64 (most : Int)] w (Ret w (.tuple #[.agg #[.string s, .int .i64 4], .int .u64 0])) := by
  subst hc
  have hb0 : Blk ((w.alloc (.cells #[.string s, .int .i64 0] 62)).alloc (.cells #[.string ⟨#[]⟩, .int .i64 0] 62)) w.heap.size [.string s, .int .i64 0] 62 := Blk.alloc (Blk.new w #[.string s, .int .i64 0] 62) _
  have hb1 : Blk ((w.alloc (.cells #[.string s, .int .i64 0] 62)).alloc (.cells #[.string ⟨#[]⟩, .int .i64 0] 62)) (w.heap.size + 1) zerosI 62 := Blk.new' _ _ _ _ (by simp)
  have HB := Lib.hid (below2 w (.cells #[.string s, .int .i64 0] 62) (.cells #[.string ⟨#[]⟩, .int .i64 0] 62))
  obtain ⟨w0, hw0⟩ : ∃ w0, w0 = (w.alloc (.cells #[.string s, .int .i64 0] 62)).alloc (.cells #[.string ⟨#[]⟩, .int .i64 0] 62) := ⟨_, rfl⟩
  rw [← hw0] at hb0 hb1 HB
  have c00 : w0.cell? ⟨w.heap.size, 0, none⟩ = some (.string s) := hb0.cell 0
  have c01 : w0.cell? ⟨w.heap.size, 1, none⟩ = some (.int .i64 0) := hb0.cell 1
  have i1 : (0 : Int) < (N : Int) := by omega
  have i2 : ¬ (N : Int) < 9 := by omega
  have i3 : (9 : Int) ≤ (N : Int) := by omega
  obtain ⟨A9, c9, w9, hcv9, hr9, h9b⟩ := HCT w0
  have HV9 := Lib.hid (CVL w9 A9 c9 hr9)
  have H9 := Lib.hid h9b
  have c90 : w9.cell? ⟨w.heap.size, 0, none⟩ = some (.string s) := (hb0.up h9b).cell 0
  have hb9 := hb1.up h9b
  have hb90 := hb0.up h9b
  have K9 : Hid (∀ W, Below w9.heap.size w9 W → W.cell? ⟨w.heap.size, 0, none⟩ = some (.string s) ∧ Below w9.heap.size w9 W) := Lib.hid fun W h => ⟨(hb90.up h).cell 0, h⟩
  have z9 : Below w9.heap.size w9 w9.drew := (Below.refl _ _).drew
  clear HCT CVL h9b
  have hw13 : IntKind.i64.wrap 9 = 9 := by rw [IntKind.wrap_i64]; omega
  have CV := Lib.hid CV0
  clear CV0
  have i4 : (most : Int) < (v : Int) := by omega
  go_enter Try.func24, Try.ntmps24
  go_upto_region 1 with fail
  rw [← hw0]
  clear hw0
  go_wp2_with (go_at_call 41; refine HV9.out.mono ?_; rintro e' x' ⟨rfl, rfl⟩)
  refine wp_region_held_drew (S := fun W => W.cell? ⟨w.heap.size, 0, none⟩ = some (.string s) ∧ Below w9.heap.size w9 W) (by kernel_rfl) ?_ (fun hHeld => ?_)
  · (first | exact K9.out _ z9 | exact K9.out _ hba' | exact K9.out _ (by first | assumption | exact And.right (by assumption)))
  refine wpAnyH_take (i := 0) (v := ?_) rfl (by kernel_rfl) (by kernel_rfl) (by kernel_rfl) (fun _ _ _ h => h) (Or.inl ⟨by rfl, ?_⟩) (by assumption) ?_
  rotate_left 1
  · intro w hSw; (try dsimp only at hSw); simp only [List.getElem_toArray, List.getElem_cons_succ, List.getElem_cons_zero]; go_simp; try (with_reducible rfl)
  (try simp only [List.getElem_toArray, List.getElem_cons_succ, List.getElem_cons_zero, Act.put, List.setIfInBounds_toArray, List.set_cons_succ, List.set_cons_zero])
  refine wpAnyH_take (i := 2) (v := ?_) rfl (by kernel_rfl) (by kernel_rfl) (by kernel_rfl) (fun _ _ _ h => h) (Or.inl ⟨by rfl, ?_⟩) (by assumption) ?_
  rotate_left 1
  · intro w hSw; (try dsimp only at hSw); simp only [List.getElem_toArray, List.getElem_cons_succ, List.getElem_cons_zero]; go_simp; try (with_reducible rfl)
  (try simp only [List.getElem_toArray, List.getElem_cons_succ, List.getElem_cons_zero, Act.put, List.setIfInBounds_toArray, List.set_cons_succ, List.set_cons_zero])
  refine wpAnyH_take (i := 3) (v := ?_) rfl (by kernel_rfl) (by kernel_rfl) (by kernel_rfl) (fun _ _ _ h => h) (Or.inl ⟨by rfl, ?_⟩) (by assumption) ?_
  rotate_left 1
  · intro w hSw; (try dsimp only at hSw); simp only [List.getElem_toArray, List.getElem_cons_succ, List.getElem_cons_zero]; go_simp; try (with_reducible rfl)
  (try simp only [List.getElem_toArray, List.getElem_cons_succ, List.getElem_cons_zero, Act.put, List.setIfInBounds_toArray, List.set_cons_succ, List.set_cons_zero])
  refine wpAnyH_take (i := 4) (v := ?_) rfl (by kernel_rfl) (by kernel_rfl) (by kernel_rfl) (fun _ _ _ h => h) (Or.inl ⟨by rfl, ?_⟩) (by assumption) ?_
  rotate_left 1
  · intro w hSw; (try dsimp only at hSw); simp only [List.getElem_toArray, List.getElem_cons_succ, List.getElem_cons_zero]; go_simp; try (with_reducible rfl)
  (try simp only [List.getElem_toArray, List.getElem_cons_succ, List.getElem_cons_zero, Act.put, List.setIfInBounds_toArray, List.set_cons_succ, List.set_cons_zero])
  refine wpAnyH_take (i := 5) (v := .int .i64 9) rfl (by kernel_rfl) (by kernel_rfl) (by kernel_rfl) (fun _ _ _ h => h) (Or.inl ⟨by rfl, ?_⟩) (by assumption) ?_
  · intro w hSw; (try dsimp only at hSw); simp only [List.getElem_toArray, List.getElem_cons_succ, List.getElem_cons_zero]; first | (go_simp; done) | (go_simp; rfl) | (go_simp; simp [hw13]; done)
  (try simp only [List.getElem_toArray, List.getElem_cons_succ, List.getElem_cons_zero, Act.put, List.setIfInBounds_toArray, List.set_cons_succ, List.set_cons_zero])
  refine wpAnyH_take (i := 6) (v := .string (s.extract 0 9)) rfl (by kernel_rfl) (by kernel_rfl) (by kernel_rfl) (fun _ _ _ h => h) (Or.inl ⟨by rfl, ?_⟩) (by assumption) ?_
  · intro w hSw; (try dsimp only at hSw); simp only [List.getElem_toArray, List.getElem_cons_succ, List.getElem_cons_zero]; first | (go_simp; done) | (go_simp; simp [i3]; done)
  (try simp only [List.getElem_toArray, List.getElem_cons_succ, List.getElem_cons_zero, Act.put, List.setIfInBounds_toArray, List.set_cons_succ, List.set_cons_zero])
  refine wpAnyH_ready (rs := [1]) (by kernel_rfl) (by simp) ?_
  refine AllReadyH.cons rfl (fun K hK => ?_) AllReadyH.nil
  (try simp only [List.getElem_toArray, List.getElem_cons_succ, List.getElem_cons_zero])
  go_simp
  go_at_call 42; refine (CV.out _).mono ?_; rintro e' wa ⟨rfl, hba⟩; have hba' := below_more z9 hba; have ca0 := (K9.out _ hba').1; have hbz := hb9.up hba'
  (try (go_wp2_with fail))
  refine hK.out _ _ ?_ (fun hHeld => ?_)
  · (first | exact K9.out _ z9 | exact K9.out _ hba' | exact K9.out _ (by first | assumption | exact And.right (by assumption)))
  clear hK K
  (try simp only [Act.put, List.setIfInBounds_toArray, List.set_cons_succ, List.set_cons_zero])
  refine wpAnyH_take (i := 7) (v := ?_) rfl (by kernel_rfl) (by kernel_rfl) (by kernel_rfl) (fun _ _ _ h => h) (Or.inl ⟨by rfl, ?_⟩) (by assumption) ?_
  rotate_left 1
  · intro w hSw; (try dsimp only at hSw); simp only [List.getElem_toArray, List.getElem_cons_succ, List.getElem_cons_zero]; go_simp; try (with_reducible rfl)
  (try simp only [List.getElem_toArray, List.getElem_cons_succ, List.getElem_cons_zero, Act.put, List.setIfInBounds_toArray, List.set_cons_succ, List.set_cons_zero])
  refine wpAnyH_done (by kernel_rfl) ?_ _
  go_wp2_with (((with_reducible refine at_store 62 (.tmp 4) (.tmp 64) ?_); refine wpList_store_blk rfl 62 (.tmp 4) (.tmp 64) rfl (w.heap.size + 1) zerosI [.string s, .int .i64 4] 62 rfl rfl (hbz) rfl (inC_size [] 0) (by intro v hv; simp only [List.mem_cons, List.not_mem_nil, or_false] at hv; rcases hv with rfl | rfl <;> rfl) ?_; intro w8 hb8 ho8))
  refine bodyPost_ret (v := .tuple #[.agg ([.string s, .int .i64 4]).toArray, .int .u64 0]) ?_ rfl ⟨rfl, below_only (below_more (below_more HB.out H9.out) hba') ho8 (by omega)⟩
  exact results_in Try.results24 _ _ (w.heap.size + 1) 62 _ (0, 0) _ _ (by rfl) (by rfl) hb8 Try.underlying62 rfl (inC_size [] 0)
set_option maxRecDepth 100000 in
set_option maxHeartbeats 4000000 in
theorem dcount_ok255 {u : List UInt8} (s : ByteArray) (most N v : Nat) (c0 : UInt8) (hc : c0 = 255) (hidx : ∀ W, (Instr.index 9 (.string s) (.int .i64 0)).run Try.prog W = .ok (.int .u8 (c0.toNat : Int)) W) (hs : s.size = N) (h2 : 9 ≤ N) (HCT : ∀ W, ∃ A c w', (convert 9 22 (.string (s.extract 1 9))).run Try.prog W = .ok (.slice A 8 c) w' ∧ Rd w' A 8 u ∧ Below W.heap.size W w') (CVL : ∀ W A c, Rd W A 8 u → Calls Try.prog 41 #[.slice A 8 c] W fun e w' => e = .returned (.int .u64 (v : Int)) ∧ W = w') (t : ByteArray) (CV0 : ∀ W, Calls Try.prog 42 #[.int .u64 (v : Int)] W (Ret W (.string (s.extract 0 9)))) (hmo : ¬ most < v) (ht : s.extract 9 N = t) (w : World) :
    Calls Try.prog 24 #[.agg #[.string s, .int .i64 0], .int .u64 (most : Int)] w (Ret w (.tuple #[.agg #[.string t, .int .i64 0], .int .u64 (v : Int)])) := by
  subst hc
  have hb0 : Blk ((w.alloc (.cells #[.string s, .int .i64 0] 62)).alloc (.cells #[.string ⟨#[]⟩, .int .i64 0] 62)) w.heap.size [.string s, .int .i64 0] 62 := Blk.alloc (Blk.new w #[.string s, .int .i64 0] 62) _
  have hb1 : Blk ((w.alloc (.cells #[.string s, .int .i64 0] 62)).alloc (.cells #[.string ⟨#[]⟩, .int .i64 0] 62)) (w.heap.size + 1) zerosI 62 := Blk.new' _ _ _ _ (by simp)
  have HB := Lib.hid (below2 w (.cells #[.string s, .int .i64 0] 62) (.cells #[.string ⟨#[]⟩, .int .i64 0] 62))
  obtain ⟨w0, hw0⟩ : ∃ w0, w0 = (w.alloc (.cells #[.string s, .int .i64 0] 62)).alloc (.cells #[.string ⟨#[]⟩, .int .i64 0] 62) := ⟨_, rfl⟩
  rw [← hw0] at hb0 hb1 HB
  have c00 : w0.cell? ⟨w.heap.size, 0, none⟩ = some (.string s) := hb0.cell 0
  have c01 : w0.cell? ⟨w.heap.size, 1, none⟩ = some (.int .i64 0) := hb0.cell 1
  have i1 : (0 : Int) < (N : Int) := by omega
  have i2 : ¬ (N : Int) < 9 := by omega
  have i3 : (9 : Int) ≤ (N : Int) := by omega
  obtain ⟨A9, c9, w9, hcv9, hr9, h9b⟩ := HCT w0
  have HV9 := Lib.hid (CVL w9 A9 c9 hr9)
  have H9 := Lib.hid h9b
  have c90 : w9.cell? ⟨w.heap.size, 0, none⟩ = some (.string s) := (hb0.up h9b).cell 0
  have hb9 := hb1.up h9b
  have hb90 := hb0.up h9b
  have K9 : Hid (∀ W, Below w9.heap.size w9 W → W.cell? ⟨w.heap.size, 0, none⟩ = some (.string s) ∧ Below w9.heap.size w9 W) := Lib.hid fun W h => ⟨(hb90.up h).cell 0, h⟩
  have z9 : Below w9.heap.size w9 w9.drew := (Below.refl _ _).drew
  clear HCT CVL h9b
  have hw13 : IntKind.i64.wrap 9 = 9 := by rw [IntKind.wrap_i64]; omega
  have CV := Lib.hid CV0
  clear CV0
  have i4 : ¬ (most : Int) < (v : Int) := by omega
  have HT := Lib.hid ht
  clear ht
  go_enter Try.func24, Try.ntmps24
  go_upto_region 1 with fail
  rw [← hw0]
  clear hw0
  go_wp2_with (go_at_call 41; refine HV9.out.mono ?_; rintro e' x' ⟨rfl, rfl⟩)
  refine wp_region_held_drew (S := fun W => W.cell? ⟨w.heap.size, 0, none⟩ = some (.string s) ∧ Below w9.heap.size w9 W) (by kernel_rfl) ?_ (fun hHeld => ?_)
  · (first | exact K9.out _ z9 | exact K9.out _ hba' | exact K9.out _ (by first | assumption | exact And.right (by assumption)))
  refine wpAnyH_take (i := 0) (v := ?_) rfl (by kernel_rfl) (by kernel_rfl) (by kernel_rfl) (fun _ _ _ h => h) (Or.inl ⟨by rfl, ?_⟩) (by assumption) ?_
  rotate_left 1
  · intro w hSw; (try dsimp only at hSw); simp only [List.getElem_toArray, List.getElem_cons_succ, List.getElem_cons_zero]; go_simp; try (with_reducible rfl)
  (try simp only [List.getElem_toArray, List.getElem_cons_succ, List.getElem_cons_zero, Act.put, List.setIfInBounds_toArray, List.set_cons_succ, List.set_cons_zero])
  refine wpAnyH_take (i := 2) (v := ?_) rfl (by kernel_rfl) (by kernel_rfl) (by kernel_rfl) (fun _ _ _ h => h) (Or.inl ⟨by rfl, ?_⟩) (by assumption) ?_
  rotate_left 1
  · intro w hSw; (try dsimp only at hSw); simp only [List.getElem_toArray, List.getElem_cons_succ, List.getElem_cons_zero]; go_simp; try (with_reducible rfl)
  (try simp only [List.getElem_toArray, List.getElem_cons_succ, List.getElem_cons_zero, Act.put, List.setIfInBounds_toArray, List.set_cons_succ, List.set_cons_zero])
  refine wpAnyH_take (i := 3) (v := ?_) rfl (by kernel_rfl) (by kernel_rfl) (by kernel_rfl) (fun _ _ _ h => h) (Or.inl ⟨by rfl, ?_⟩) (by assumption) ?_
  rotate_left 1
  · intro w hSw; (try dsimp only at hSw); simp only [List.getElem_toArray, List.getElem_cons_succ, List.getElem_cons_zero]; go_simp; try (with_reducible rfl)
  (try simp only [List.getElem_toArray, List.getElem_cons_succ, List.getElem_cons_zero, Act.put, List.setIfInBounds_toArray, List.set_cons_succ, List.set_cons_zero])
  refine wpAnyH_take (i := 4) (v := ?_) rfl (by kernel_rfl) (by kernel_rfl) (by kernel_rfl) (fun _ _ _ h => h) (Or.inl ⟨by rfl, ?_⟩) (by assumption) ?_
  rotate_left 1
  · intro w hSw; (try dsimp only at hSw); simp only [List.getElem_toArray, List.getElem_cons_succ, List.getElem_cons_zero]; go_simp; try (with_reducible rfl)
  (try simp only [List.getElem_toArray, List.getElem_cons_succ, List.getElem_cons_zero, Act.put, List.setIfInBounds_toArray, List.set_cons_succ, List.set_cons_zero])
  refine wpAnyH_take (i := 5) (v := .int .i64 9) rfl (by kernel_rfl) (by kernel_rfl) (by kernel_rfl) (fun _ _ _ h => h) (Or.inl ⟨by rfl, ?_⟩) (by assumption) ?_
  · intro w hSw; (try dsimp only at hSw); simp only [List.getElem_toArray, List.getElem_cons_succ, List.getElem_cons_zero]; first | (go_simp; done) | (go_simp; rfl) | (go_simp; simp [hw13]; done)
  (try simp only [List.getElem_toArray, List.getElem_cons_succ, List.getElem_cons_zero, Act.put, List.setIfInBounds_toArray, List.set_cons_succ, List.set_cons_zero])
  refine wpAnyH_take (i := 6) (v := .string (s.extract 0 9)) rfl (by kernel_rfl) (by kernel_rfl) (by kernel_rfl) (fun _ _ _ h => h) (Or.inl ⟨by rfl, ?_⟩) (by assumption) ?_
  · intro w hSw; (try dsimp only at hSw); simp only [List.getElem_toArray, List.getElem_cons_succ, List.getElem_cons_zero]; first | (go_simp; done) | (go_simp; simp [i3]; done)
  (try simp only [List.getElem_toArray, List.getElem_cons_succ, List.getElem_cons_zero, Act.put, List.setIfInBounds_toArray, List.set_cons_succ, List.set_cons_zero])
  refine wpAnyH_ready (rs := [1]) (by kernel_rfl) (by simp) ?_
  refine AllReadyH.cons rfl (fun K hK => ?_) AllReadyH.nil
  (try simp only [List.getElem_toArray, List.getElem_cons_succ, List.getElem_cons_zero])
  go_simp
  go_at_call 42; refine (CV.out _).mono ?_; rintro e' wa ⟨rfl, hba⟩; have hba' := below_more z9 hba; have ca0 := (K9.out _ hba').1; have hbz := hb9.up hba'
  (try (go_wp2_with fail))
  refine hK.out _ _ ?_ (fun hHeld => ?_)
  · (first | exact K9.out _ z9 | exact K9.out _ hba' | exact K9.out _ (by first | assumption | exact And.right (by assumption)))
  clear hK K
  (try simp only [Act.put, List.setIfInBounds_toArray, List.set_cons_succ, List.set_cons_zero])
  refine wpAnyH_take (i := 7) (v := ?_) rfl (by kernel_rfl) (by kernel_rfl) (by kernel_rfl) (fun _ _ _ h => h) (Or.inl ⟨by rfl, ?_⟩) (by assumption) ?_
  rotate_left 1
  · intro w hSw; (try dsimp only at hSw); simp only [List.getElem_toArray, List.getElem_cons_succ, List.getElem_cons_zero]; go_simp; try (with_reducible rfl)
  (try simp only [List.getElem_toArray, List.getElem_cons_succ, List.getElem_cons_zero, Act.put, List.setIfInBounds_toArray, List.set_cons_succ, List.set_cons_zero])
  refine wpAnyH_done (by kernel_rfl) ?_ _
  go_wp2_with (((with_reducible refine at_store 62 (.tmp 4) (.tmp 70) ?_); refine wpList_store_blk rfl 62 (.tmp 4) (.tmp 70) rfl (w.heap.size + 1) zerosI [.string (s.extract 9 N), .int .i64 0] 62 rfl rfl (hbz) rfl (inC_size [] 0) (by intro v hv; simp only [List.mem_cons, List.not_mem_nil, or_false] at hv; rcases hv with rfl | rfl <;> rfl) ?_; intro w8 hb8 ho8))
  rw [HT.out] at hb8
  refine bodyPost_ret (v := .tuple #[.agg ([.string t, .int .i64 0]).toArray, .int .u64 (v : Int)]) ?_ rfl ⟨rfl, below_only (below_more (below_more HB.out H9.out) hba') ho8 (by omega)⟩
  exact results_in Try.results24 _ _ (w.heap.size + 1) 62 _ (0, 0) _ _ (by rfl) (by rfl) hb8 Try.underlying62 rfl (inC_size [] 0)
set_option maxRecDepth 100000 in
set_option maxHeartbeats 4000000 in
theorem dcount_badlow {u : List UInt8} (s : ByteArray) (most N v : Nat) (c0 : UInt8) (g1 : ¬ (c0.toNat : Int) = 253) (g2 : ¬ (c0.toNat : Int) = 254) (g3 : ¬ (c0.toNat : Int) = 255) (hidx : ∀ W, (Instr.index 9 (.string s) (.int .i64 0)).run Try.prog W = .ok (.int .u8 (c0.toNat : Int)) W) (hs : s.size = N) (h2 : 1 ≤ N) (HCT : ∀ W, ∃ A c w', (convert 9 22 (.string (s.extract 0 1))).run Try.prog W = .ok (.slice A 1 c) w' ∧ Rd w' A 1 u ∧ Below W.heap.size W w') (CVL : ∀ W A c, Rd W A 1 u → Calls Try.prog 41 #[.slice A 1 c] W fun e w' => e = .returned (.int .u64 (v : Int)) ∧ W = w') (sv : ByteArray) (CV0 : ∀ W, Calls Try.prog 42 #[.int .u64 (v : Int)] W (Ret W (.string sv))) (hne : ¬ sv.toList = (s.extract 0 1).toList) (w : World) :
    Calls Try.prog 24 #[.agg #[.string s, .int .i64 0], .int .u64 (most : Int)] w (Ret w (.tuple #[.agg #[.string s, .int .i64 3], .int .u64 0])) := by
  have hb0 : Blk ((w.alloc (.cells #[.string s, .int .i64 0] 62)).alloc (.cells #[.string ⟨#[]⟩, .int .i64 0] 62)) w.heap.size [.string s, .int .i64 0] 62 := Blk.alloc (Blk.new w #[.string s, .int .i64 0] 62) _
  have hb1 : Blk ((w.alloc (.cells #[.string s, .int .i64 0] 62)).alloc (.cells #[.string ⟨#[]⟩, .int .i64 0] 62)) (w.heap.size + 1) zerosI 62 := Blk.new' _ _ _ _ (by simp)
  have HB := Lib.hid (below2 w (.cells #[.string s, .int .i64 0] 62) (.cells #[.string ⟨#[]⟩, .int .i64 0] 62))
  obtain ⟨w0, hw0⟩ : ∃ w0, w0 = (w.alloc (.cells #[.string s, .int .i64 0] 62)).alloc (.cells #[.string ⟨#[]⟩, .int .i64 0] 62) := ⟨_, rfl⟩
  rw [← hw0] at hb0 hb1 HB
  have c00 : w0.cell? ⟨w.heap.size, 0, none⟩ = some (.string s) := hb0.cell 0
  have c01 : w0.cell? ⟨w.heap.size, 1, none⟩ = some (.int .i64 0) := hb0.cell 1
  have i1 : (0 : Int) < (N : Int) := by omega
  have i2 : ¬ (N : Int) < 1 := by omega
  have i3 : (1 : Int) ≤ (N : Int) := by omega
  obtain ⟨A9, c9, w9, hcv9, hr9, h9b⟩ := HCT w0
  have HV9 := Lib.hid (CVL w9 A9 c9 hr9)
  have H9 := Lib.hid h9b
  have c90 : w9.cell? ⟨w.heap.size, 0, none⟩ = some (.string s) := (hb0.up h9b).cell 0
  have hb9 := hb1.up h9b
  have hb90 := hb0.up h9b
  have K9 : Hid (∀ W, Below w9.heap.size w9 W → W.cell? ⟨w.heap.size, 0, none⟩ = some (.string s) ∧ Below w9.heap.size w9 W) := Lib.hid fun W h => ⟨(hb90.up h).cell 0, h⟩
  have z9 : Below w9.heap.size w9 w9.drew := (Below.refl _ _).drew
  clear HCT CVL h9b
  have hw13 : IntKind.i64.wrap 1 = 1 := by rw [IntKind.wrap_i64]; omega
  have CV := Lib.hid CV0
  clear CV0
  go_enter Try.func24, Try.ntmps24
  go_upto_region 1 with fail
  rw [← hw0]
  clear hw0
  go_wp2_with (go_at_call 41; refine HV9.out.mono ?_; rintro e' x' ⟨rfl, rfl⟩)
  refine wp_region_held_drew (S := fun W => W.cell? ⟨w.heap.size, 0, none⟩ = some (.string s) ∧ Below w9.heap.size w9 W) (by kernel_rfl) ?_ (fun hHeld => ?_)
  · (first | exact K9.out _ z9 | exact K9.out _ hba' | exact K9.out _ (by first | assumption | exact And.right (by assumption)))
  refine wpAnyH_take (i := 0) (v := ?_) rfl (by kernel_rfl) (by kernel_rfl) (by kernel_rfl) (fun _ _ _ h => h) (Or.inl ⟨by rfl, ?_⟩) (by assumption) ?_
  rotate_left 1
  · intro w hSw; (try dsimp only at hSw); simp only [List.getElem_toArray, List.getElem_cons_succ, List.getElem_cons_zero]; go_simp; try (with_reducible rfl)
  (try simp only [List.getElem_toArray, List.getElem_cons_succ, List.getElem_cons_zero, Act.put, List.setIfInBounds_toArray, List.set_cons_succ, List.set_cons_zero])
  refine wpAnyH_take (i := 2) (v := ?_) rfl (by kernel_rfl) (by kernel_rfl) (by kernel_rfl) (fun _ _ _ h => h) (Or.inl ⟨by rfl, ?_⟩) (by assumption) ?_
  rotate_left 1
  · intro w hSw; (try dsimp only at hSw); simp only [List.getElem_toArray, List.getElem_cons_succ, List.getElem_cons_zero]; go_simp; try (with_reducible rfl)
  (try simp only [List.getElem_toArray, List.getElem_cons_succ, List.getElem_cons_zero, Act.put, List.setIfInBounds_toArray, List.set_cons_succ, List.set_cons_zero])
  refine wpAnyH_take (i := 3) (v := ?_) rfl (by kernel_rfl) (by kernel_rfl) (by kernel_rfl) (fun _ _ _ h => h) (Or.inl ⟨by rfl, ?_⟩) (by assumption) ?_
  rotate_left 1
  · intro w hSw; (try dsimp only at hSw); simp only [List.getElem_toArray, List.getElem_cons_succ, List.getElem_cons_zero]; go_simp; try (with_reducible rfl)
  (try simp only [List.getElem_toArray, List.getElem_cons_succ, List.getElem_cons_zero, Act.put, List.setIfInBounds_toArray, List.set_cons_succ, List.set_cons_zero])
  refine wpAnyH_take (i := 4) (v := ?_) rfl (by kernel_rfl) (by kernel_rfl) (by kernel_rfl) (fun _ _ _ h => h) (Or.inl ⟨by rfl, ?_⟩) (by assumption) ?_
  rotate_left 1
  · intro w hSw; (try dsimp only at hSw); simp only [List.getElem_toArray, List.getElem_cons_succ, List.getElem_cons_zero]; go_simp; try (with_reducible rfl)
  (try simp only [List.getElem_toArray, List.getElem_cons_succ, List.getElem_cons_zero, Act.put, List.setIfInBounds_toArray, List.set_cons_succ, List.set_cons_zero])
  refine wpAnyH_take (i := 5) (v := .int .i64 1) rfl (by kernel_rfl) (by kernel_rfl) (by kernel_rfl) (fun _ _ _ h => h) (Or.inl ⟨by rfl, ?_⟩) (by assumption) ?_
  · intro w hSw; (try dsimp only at hSw); simp only [List.getElem_toArray, List.getElem_cons_succ, List.getElem_cons_zero]; first | (go_simp; done) | (go_simp; rfl) | (go_simp; simp [hw13]; done)
  (try simp only [List.getElem_toArray, List.getElem_cons_succ, List.getElem_cons_zero, Act.put, List.setIfInBounds_toArray, List.set_cons_succ, List.set_cons_zero])
  refine wpAnyH_take (i := 6) (v := .string (s.extract 0 1)) rfl (by kernel_rfl) (by kernel_rfl) (by kernel_rfl) (fun _ _ _ h => h) (Or.inl ⟨by rfl, ?_⟩) (by assumption) ?_
  · intro w hSw; (try dsimp only at hSw); simp only [List.getElem_toArray, List.getElem_cons_succ, List.getElem_cons_zero]; first | (go_simp; done) | (go_simp; simp [i3]; done)
  (try simp only [List.getElem_toArray, List.getElem_cons_succ, List.getElem_cons_zero, Act.put, List.setIfInBounds_toArray, List.set_cons_succ, List.set_cons_zero])
  refine wpAnyH_ready (rs := [1]) (by kernel_rfl) (by simp) ?_
  refine AllReadyH.cons rfl (fun K hK => ?_) AllReadyH.nil
  (try simp only [List.getElem_toArray, List.getElem_cons_succ, List.getElem_cons_zero])
  go_simp
  go_at_call 42; refine (CV.out _).mono ?_; rintro e' wa ⟨rfl, hba⟩; have hba' := below_more z9 hba; have ca0 := (K9.out _ hba').1; have hbz := hb9.up hba'
  (try (go_wp2_with fail))
  refine hK.out _ _ ?_ (fun hHeld => ?_)
  · (first | exact K9.out _ z9 | exact K9.out _ hba' | exact K9.out _ (by first | assumption | exact And.right (by assumption)))
  clear hK K
  (try simp only [Act.put, List.setIfInBounds_toArray, List.set_cons_succ, List.set_cons_zero])
  refine wpAnyH_take (i := 7) (v := .bool true) rfl (by kernel_rfl) (by kernel_rfl) (by kernel_rfl) (fun _ _ _ h => h) (Or.inl ⟨by rfl, ?_⟩) (by assumption) ?_
  · intro w hSw; (try dsimp only at hSw); simp only [List.getElem_toArray, List.getElem_cons_succ, List.getElem_cons_zero]; first | (go_simp; simp [hne]; done) | (simp [execOp, Act.eval, go_sem, hne]; done) | (go_simp; done)
  (try simp only [List.getElem_toArray, List.getElem_cons_succ, List.getElem_cons_zero, Act.put, List.setIfInBounds_toArray, List.set_cons_succ, List.set_cons_zero])
  refine wpAnyH_done (by kernel_rfl) ?_ _
  go_wp2_with (((with_reducible refine at_store 62 (.tmp 4) (.tmp 58) ?_); refine wpList_store_blk rfl 62 (.tmp 4) (.tmp 58) rfl (w.heap.size + 1) zerosI [.string s, .int .i64 3] 62 rfl rfl (hbz) rfl (inC_size [] 0) (by intro v hv; simp only [List.mem_cons, List.not_mem_nil, or_false] at hv; rcases hv with rfl | rfl <;> rfl) ?_; intro w8 hb8 ho8))
  refine bodyPost_ret (v := .tuple #[.agg ([.string s, .int .i64 3]).toArray, .int .u64 0]) ?_ rfl ⟨rfl, below_only (below_more (below_more HB.out H9.out) hba') ho8 (by omega)⟩
  exact results_in Try.results24 _ _ (w.heap.size + 1) 62 _ (0, 0) _ _ (by rfl) (by rfl) hb8 Try.underlying62 rfl (inC_size [] 0)
set_option maxRecDepth 100000 in
set_option maxHeartbeats 4000000 in
theorem dcount_biglow {u : List UInt8} (s : ByteArray) (most N v : Nat) (c0 : UInt8) (g1 : ¬ (c0.toNat : Int) = 253) (g2 : ¬ (c0.toNat : Int) = 254) (g3 : ¬ (c0.toNat : Int) = 255) (hidx : ∀ W, (Instr.index 9 (.string s) (.int .i64 0)).run Try.prog W = .ok (.int .u8 (c0.toNat : Int)) W) (hs : s.size = N) (h2 : 1 ≤ N) (HCT : ∀ W, ∃ A c w', (convert 9 22 (.string (s.extract 0 1))).run Try.prog W = .ok (.slice A 1 c) w' ∧ Rd w' A 1 u ∧ Below W.heap.size W w') (CVL : ∀ W A c, Rd W A 1 u → Calls Try.prog 41 #[.slice A 1 c] W fun e w' => e = .returned (.int .u64 (v : Int)) ∧ W = w') (CV0 : ∀ W, Calls Try.prog 42 #[.int .u64 (v : Int)] W (Ret W (.string (s.extract 0 1)))) (hmo : most < v) (w : World) :
    Calls Try.prog 24 #[.agg #[.string s, .int .i64 0], .int .u64 (most : Int)] w (Ret w (.tuple #[.agg #[.string s, .int .i64 4], .int .u64 0])) := by
  have hb0 : Blk ((w.alloc (.cells #[.string s, .int .i64 0] 62)).alloc (.cells #[.string ⟨#[]⟩, .int .i64 0] 62)) w.heap.size [.string s, .int .i64 0] 62 := Blk.alloc (Blk.new w #[.string s, .int .i64 0] 62) _
  have hb1 : Blk ((w.alloc (.cells #[.string s, .int .i64 0] 62)).alloc (.cells #[.string ⟨#[]⟩, .int .i64 0] 62)) (w.heap.size + 1) zerosI 62 := Blk.new' _ _ _ _ (by simp)
  have HB := Lib.hid (below2 w (.cells #[.string s, .int .i64 0] 62) (.cells #[.string ⟨#[]⟩, .int .i64 0] 62))
  obtain ⟨w0, hw0⟩ : ∃ w0, w0 = (w.alloc (.cells #[.string s, .int .i64 0] 62)).alloc (.cells #[.string ⟨#[]⟩, .int .i64 0] 62) := ⟨_, rfl⟩
  rw [← hw0] at hb0 hb1 HB
  have c00 : w0.cell? ⟨w.heap.size, 0, none⟩ = some (.string s) := hb0.cell 0
  have c01 : w0.cell? ⟨w.heap.size, 1, none⟩ = some (.int .i64 0) := hb0.cell 1
  have i1 : (0 : Int) < (N : Int) := by omega
  have i2 : ¬ (N : Int) < 1 := by omega
  have i3 : (1 : Int) ≤ (N : Int) := by omega
  obtain ⟨A9, c9, w9, hcv9, hr9, h9b⟩ := HCT w0
  have HV9 := Lib.hid (CVL w9 A9 c9 hr9)
  have H9 := Lib.hid h9b
  have c90 : w9.cell? ⟨w.heap.size, 0, none⟩ = some (.string s) := (hb0.up h9b).cell 0
  have hb9 := hb1.up h9b
  have hb90 := hb0.up h9b
  have K9 : Hid (∀ W, Below w9.heap.size w9 W → W.cell? ⟨w.heap.size, 0, none⟩ = some (.string s) ∧ Below w9.heap.size w9 W) := Lib.hid fun W h => ⟨(hb90.up h).cell 0, h⟩
  have z9 : Below w9.heap.size w9 w9.drew := (Below.refl _ _).drew
  clear HCT CVL h9b
  have hw13 : IntKind.i64.wrap 1 = 1 := by rw [IntKind.wrap_i64]; omega
  have CV := Lib.hid CV0
  clear CV0
  have i4 : (most : Int) < (v : Int) := by omega
  go_enter Try.func24, Try.ntmps24
  go_upto_region 1 with fail
  rw [← hw0]
  clear hw0
  go_wp2_with (go_at_call 41; refine HV9.out.mono ?_; rintro e' x' ⟨rfl, rfl⟩)
  refine wp_region_held_drew (S := fun W => W.cell? ⟨w.heap.size, 0, none⟩ = some (.string s) ∧ Below w9.heap.size w9 W) (by kernel_rfl) ?_ (fun hHeld => ?_)
  · (first | exact K9.out _ z9 | exact K9.out _ hba' | exact K9.out _ (by first | assumption | exact And.right (by assumption)))
  refine wpAnyH_take (i := 0) (v := ?_) rfl (by kernel_rfl) (by kernel_rfl) (by kernel_rfl) (fun _ _ _ h => h) (Or.inl ⟨by rfl, ?_⟩) (by assumption) ?_
  rotate_left 1
  · intro w hSw; (try dsimp only at hSw); simp only [List.getElem_toArray, List.getElem_cons_succ, List.getElem_cons_zero]; go_simp; try (with_reducible rfl)
  (try simp only [List.getElem_toArray, List.getElem_cons_succ, List.getElem_cons_zero, Act.put, List.setIfInBounds_toArray, List.set_cons_succ, List.set_cons_zero])
  refine wpAnyH_take (i := 2) (v := ?_) rfl (by kernel_rfl) (by kernel_rfl) (by kernel_rfl) (fun _ _ _ h => h) (Or.inl ⟨by rfl, ?_⟩) (by assumption) ?_
  rotate_left 1
  · intro w hSw; (try dsimp only at hSw); simp only [List.getElem_toArray, List.getElem_cons_succ, List.getElem_cons_zero]; go_simp; try (with_reducible rfl)
  (try simp only [List.getElem_toArray, List.getElem_cons_succ, List.getElem_cons_zero, Act.put, List.setIfInBounds_toArray, List.set_cons_succ, List.set_cons_zero])
  refine wpAnyH_take (i := 3) (v := ?_) rfl (by kernel_rfl) (by kernel_rfl) (by kernel_rfl) (fun _ _ _ h => h) (Or.inl ⟨by rfl, ?_⟩) (by assumption) ?_
  rotate_left 1
  · intro w hSw; (try dsimp only at hSw); simp only [List.getElem_toArray, List.getElem_cons_succ, List.getElem_cons_zero]; go_simp; try (with_reducible rfl)
  (try simp only [List.getElem_toArray, List.getElem_cons_succ, List.getElem_cons_zero, Act.put, List.setIfInBounds_toArray, List.set_cons_succ, List.set_cons_zero])
  refine wpAnyH_take (i := 4) (v := ?_) rfl (by kernel_rfl) (by kernel_rfl) (by kernel_rfl) (fun _ _ _ h => h) (Or.inl ⟨by rfl, ?_⟩) (by assumption) ?_
  rotate_left 1
  · intro w hSw; (try dsimp only at hSw); simp only [List.getElem_toArray, List.getElem_cons_succ, List.getElem_cons_zero]; go_simp; try (with_reducible rfl)
  (try simp only [List.getElem_toArray, List.getElem_cons_succ, List.getElem_cons_zero, Act.put, List.setIfInBounds_toArray, List.set_cons_succ, List.set_cons_zero])
  refine wpAnyH_take (i := 5) (v := .int .i64 1) rfl (by kernel_rfl) (by kernel_rfl) (by kernel_rfl) (fun _ _ _ h => h) (Or.inl ⟨by rfl, ?_⟩) (by assumption) ?_
  · intro w hSw; (try dsimp only at hSw); simp only [List.getElem_toArray, List.getElem_cons_succ, List.getElem_cons_zero]; first | (go_simp; done) | (go_simp; rfl) | (go_simp; simp [hw13]; done)
  (try simp only [List.getElem_toArray, List.getElem_cons_succ, List.getElem_cons_zero, Act.put, List.setIfInBounds_toArray, List.set_cons_succ, List.set_cons_zero])
  refine wpAnyH_take (i := 6) (v := .string (s.extract 0 1)) rfl (by kernel_rfl) (by kernel_rfl) (by kernel_rfl) (fun _ _ _ h => h) (Or.inl ⟨by rfl, ?_⟩) (by assumption) ?_
  · intro w hSw; (try dsimp only at hSw); simp only [List.getElem_toArray, List.getElem_cons_succ, List.getElem_cons_zero]; first | (go_simp; done) | (go_simp; simp [i3]; done)
  (try simp only [List.getElem_toArray, List.getElem_cons_succ, List.getElem_cons_zero, Act.put, List.setIfInBounds_toArray, List.set_cons_succ, List.set_cons_zero])
  refine wpAnyH_ready (rs := [1]) (by kernel_rfl) (by simp) ?_
  refine AllReadyH.cons rfl (fun K hK => ?_) AllReadyH.nil
  (try simp only [List.getElem_toArray, List.getElem_cons_succ, List.getElem_cons_zero])
  go_simp
  go_at_call 42; refine (CV.out _).mono ?_; rintro e' wa ⟨rfl, hba⟩; have hba' := below_more z9 hba; have ca0 := (K9.out _ hba').1; have hbz := hb9.up hba'
  (try (go_wp2_with fail))
  refine hK.out _ _ ?_ (fun hHeld => ?_)
  · (first | exact K9.out _ z9 | exact K9.out _ hba' | exact K9.out _ (by first | assumption | exact And.right (by assumption)))
  clear hK K
  (try simp only [Act.put, List.setIfInBounds_toArray, List.set_cons_succ, List.set_cons_zero])
  refine wpAnyH_take (i := 7) (v := ?_) rfl (by kernel_rfl) (by kernel_rfl) (by kernel_rfl) (fun _ _ _ h => h) (Or.inl ⟨by rfl, ?_⟩) (by assumption) ?_
  rotate_left 1
  · intro w hSw; (try dsimp only at hSw); simp only [List.getElem_toArray, List.getElem_cons_succ, List.getElem_cons_zero]; go_simp; try (with_reducible rfl)
  (try simp only [List.getElem_toArray, List.getElem_cons_succ, List.getElem_cons_zero, Act.put, List.setIfInBounds_toArray, List.set_cons_succ, List.set_cons_zero])
  refine wpAnyH_done (by kernel_rfl) ?_ _
  go_wp2_with (((with_reducible refine at_store 62 (.tmp 4) (.tmp 64) ?_); refine wpList_store_blk rfl 62 (.tmp 4) (.tmp 64) rfl (w.heap.size + 1) zerosI [.string s, .int .i64 4] 62 rfl rfl (hbz) rfl (inC_size [] 0) (by intro v hv; simp only [List.mem_cons, List.not_mem_nil, or_false] at hv; rcases hv with rfl | rfl <;> rfl) ?_; intro w8 hb8 ho8))
  refine bodyPost_ret (v := .tuple #[.agg ([.string s, .int .i64 4]).toArray, .int .u64 0]) ?_ rfl ⟨rfl, below_only (below_more (below_more HB.out H9.out) hba') ho8 (by omega)⟩
  exact results_in Try.results24 _ _ (w.heap.size + 1) 62 _ (0, 0) _ _ (by rfl) (by rfl) hb8 Try.underlying62 rfl (inC_size [] 0)
set_option maxRecDepth 100000 in
set_option maxHeartbeats 4000000 in
theorem dcount_oklow {u : List UInt8} (s : ByteArray) (most N v : Nat) (c0 : UInt8) (g1 : ¬ (c0.toNat : Int) = 253) (g2 : ¬ (c0.toNat : Int) = 254) (g3 : ¬ (c0.toNat : Int) = 255) (hidx : ∀ W, (Instr.index 9 (.string s) (.int .i64 0)).run Try.prog W = .ok (.int .u8 (c0.toNat : Int)) W) (hs : s.size = N) (h2 : 1 ≤ N) (HCT : ∀ W, ∃ A c w', (convert 9 22 (.string (s.extract 0 1))).run Try.prog W = .ok (.slice A 1 c) w' ∧ Rd w' A 1 u ∧ Below W.heap.size W w') (CVL : ∀ W A c, Rd W A 1 u → Calls Try.prog 41 #[.slice A 1 c] W fun e w' => e = .returned (.int .u64 (v : Int)) ∧ W = w') (t : ByteArray) (CV0 : ∀ W, Calls Try.prog 42 #[.int .u64 (v : Int)] W (Ret W (.string (s.extract 0 1)))) (hmo : ¬ most < v) (ht : s.extract 1 N = t) (w : World) :
    Calls Try.prog 24 #[.agg #[.string s, .int .i64 0], .int .u64 (most : Int)] w (Ret w (.tuple #[.agg #[.string t, .int .i64 0], .int .u64 (v : Int)])) := by
  have hb0 : Blk ((w.alloc (.cells #[.string s, .int .i64 0] 62)).alloc (.cells #[.string ⟨#[]⟩, .int .i64 0] 62)) w.heap.size [.string s, .int .i64 0] 62 := Blk.alloc (Blk.new w #[.string s, .int .i64 0] 62) _
  have hb1 : Blk ((w.alloc (.cells #[.string s, .int .i64 0] 62)).alloc (.cells #[.string ⟨#[]⟩, .int .i64 0] 62)) (w.heap.size + 1) zerosI 62 := Blk.new' _ _ _ _ (by simp)
  have HB := Lib.hid (below2 w (.cells #[.string s, .int .i64 0] 62) (.cells #[.string ⟨#[]⟩, .int .i64 0] 62))
  obtain ⟨w0, hw0⟩ : ∃ w0, w0 = (w.alloc (.cells #[.string s, .int .i64 0] 62)).alloc (.cells #[.string ⟨#[]⟩, .int .i64 0] 62) := ⟨_, rfl⟩
  rw [← hw0] at hb0 hb1 HB
  have c00 : w0.cell? ⟨w.heap.size, 0, none⟩ = some (.string s) := hb0.cell 0
  have c01 : w0.cell? ⟨w.heap.size, 1, none⟩ = some (.int .i64 0) := hb0.cell 1
  have i1 : (0 : Int) < (N : Int) := by omega
  have i2 : ¬ (N : Int) < 1 := by omega
  have i3 : (1 : Int) ≤ (N : Int) := by omega
  obtain ⟨A9, c9, w9, hcv9, hr9, h9b⟩ := HCT w0
  have HV9 := Lib.hid (CVL w9 A9 c9 hr9)
  have H9 := Lib.hid h9b
  have c90 : w9.cell? ⟨w.heap.size, 0, none⟩ = some (.string s) := (hb0.up h9b).cell 0
  have hb9 := hb1.up h9b
  have hb90 := hb0.up h9b
  have K9 : Hid (∀ W, Below w9.heap.size w9 W → W.cell? ⟨w.heap.size, 0, none⟩ = some (.string s) ∧ Below w9.heap.size w9 W) := Lib.hid fun W h => ⟨(hb90.up h).cell 0, h⟩
  have z9 : Below w9.heap.size w9 w9.drew := (Below.refl _ _).drew
  clear HCT CVL h9b
  have hw13 : IntKind.i64.wrap 1 = 1 := by rw [IntKind.wrap_i64]; omega
  have CV := Lib.hid CV0
  clear CV0
  have i4 : ¬ (most : Int) < (v : Int) := by omega
  have HT := Lib.hid ht
  clear ht
  go_enter Try.func24, Try.ntmps24
  go_upto_region 1 with fail
  rw [← hw0]
  clear hw0
  go_wp2_with (go_at_call 41; refine HV9.out.mono ?_; rintro e' x' ⟨rfl, rfl⟩)
  refine wp_region_held_drew (S := fun W => W.cell? ⟨w.heap.size, 0, none⟩ = some (.string s) ∧ Below w9.heap.size w9 W) (by kernel_rfl) ?_ (fun hHeld => ?_)
  · (first | exact K9.out _ z9 | exact K9.out _ hba' | exact K9.out _ (by first | assumption | exact And.right (by assumption)))
  refine wpAnyH_take (i := 0) (v := ?_) rfl (by kernel_rfl) (by kernel_rfl) (by kernel_rfl) (fun _ _ _ h => h) (Or.inl ⟨by rfl, ?_⟩) (by assumption) ?_
  rotate_left 1
  · intro w hSw; (try dsimp only at hSw); simp only [List.getElem_toArray, List.getElem_cons_succ, List.getElem_cons_zero]; go_simp; try (with_reducible rfl)
  (try simp only [List.getElem_toArray, List.getElem_cons_succ, List.getElem_cons_zero, Act.put, List.setIfInBounds_toArray, List.set_cons_succ, List.set_cons_zero])
  refine wpAnyH_take (i := 2) (v := ?_) rfl (by kernel_rfl) (by kernel_rfl) (by kernel_rfl) (fun _ _ _ h => h) (Or.inl ⟨by rfl, ?_⟩) (by assumption) ?_
  rotate_left 1
  · intro w hSw; (try dsimp only at hSw); simp only [List.getElem_toArray, List.getElem_cons_succ, List.getElem_cons_zero]; go_simp; try (with_reducible rfl)
  (try simp only [List.getElem_toArray, List.getElem_cons_succ, List.getElem_cons_zero, Act.put, List.setIfInBounds_toArray, List.set_cons_succ, List.set_cons_zero])
  refine wpAnyH_take (i := 3) (v := ?_) rfl (by kernel_rfl) (by kernel_rfl) (by kernel_rfl) (fun _ _ _ h => h) (Or.inl ⟨by rfl, ?_⟩) (by assumption) ?_
  rotate_left 1
  · intro w hSw; (try dsimp only at hSw); simp only [List.getElem_toArray, List.getElem_cons_succ, List.getElem_cons_zero]; go_simp; try (with_reducible rfl)
  (try simp only [List.getElem_toArray, List.getElem_cons_succ, List.getElem_cons_zero, Act.put, List.setIfInBounds_toArray, List.set_cons_succ, List.set_cons_zero])
  refine wpAnyH_take (i := 4) (v := ?_) rfl (by kernel_rfl) (by kernel_rfl) (by kernel_rfl) (fun _ _ _ h => h) (Or.inl ⟨by rfl, ?_⟩) (by assumption) ?_
  rotate_left 1
  · intro w hSw; (try dsimp only at hSw); simp only [List.getElem_toArray, List.getElem_cons_succ, List.getElem_cons_zero]; go_simp; try (with_reducible rfl)
  (try simp only [List.getElem_toArray, List.getElem_cons_succ, List.getElem_cons_zero, Act.put, List.setIfInBounds_toArray, List.set_cons_succ, List.set_cons_zero])
  refine wpAnyH_take (i := 5) (v := .int .i64 1) rfl (by kernel_rfl) (by kernel_rfl) (by kernel_rfl) (fun _ _ _ h => h) (Or.inl ⟨by rfl, ?_⟩) (by assumption) ?_
  · intro w hSw; (try dsimp only at hSw); simp only [List.getElem_toArray, List.getElem_cons_succ, List.getElem_cons_zero]; first | (go_simp; done) | (go_simp; rfl) | (go_simp; simp [hw13]; done)
  (try simp only [List.getElem_toArray, List.getElem_cons_succ, List.getElem_cons_zero, Act.put, List.setIfInBounds_toArray, List.set_cons_succ, List.set_cons_zero])
  refine wpAnyH_take (i := 6) (v := .string (s.extract 0 1)) rfl (by kernel_rfl) (by kernel_rfl) (by kernel_rfl) (fun _ _ _ h => h) (Or.inl ⟨by rfl, ?_⟩) (by assumption) ?_
  · intro w hSw; (try dsimp only at hSw); simp only [List.getElem_toArray, List.getElem_cons_succ, List.getElem_cons_zero]; first | (go_simp; done) | (go_simp; simp [i3]; done)
  (try simp only [List.getElem_toArray, List.getElem_cons_succ, List.getElem_cons_zero, Act.put, List.setIfInBounds_toArray, List.set_cons_succ, List.set_cons_zero])
  refine wpAnyH_ready (rs := [1]) (by kernel_rfl) (by simp) ?_
  refine AllReadyH.cons rfl (fun K hK => ?_) AllReadyH.nil
  (try simp only [List.getElem_toArray, List.getElem_cons_succ, List.getElem_cons_zero])
  go_simp
  go_at_call 42; refine (CV.out _).mono ?_; rintro e' wa ⟨rfl, hba⟩; have hba' := below_more z9 hba; have ca0 := (K9.out _ hba').1; have hbz := hb9.up hba'
  (try (go_wp2_with fail))
  refine hK.out _ _ ?_ (fun hHeld => ?_)
  · (first | exact K9.out _ z9 | exact K9.out _ hba' | exact K9.out _ (by first | assumption | exact And.right (by assumption)))
  clear hK K
  (try simp only [Act.put, List.setIfInBounds_toArray, List.set_cons_succ, List.set_cons_zero])
  refine wpAnyH_take (i := 7) (v := ?_) rfl (by kernel_rfl) (by kernel_rfl) (by kernel_rfl) (fun _ _ _ h => h) (Or.inl ⟨by rfl, ?_⟩) (by assumption) ?_
  rotate_left 1
  · intro w hSw; (try dsimp only at hSw); simp only [List.getElem_toArray, List.getElem_cons_succ, List.getElem_cons_zero]; go_simp; try (with_reducible rfl)
  (try simp only [List.getElem_toArray, List.getElem_cons_succ, List.getElem_cons_zero, Act.put, List.setIfInBounds_toArray, List.set_cons_succ, List.set_cons_zero])
  refine wpAnyH_done (by kernel_rfl) ?_ _
  go_wp2_with (((with_reducible refine at_store 62 (.tmp 4) (.tmp 70) ?_); refine wpList_store_blk rfl 62 (.tmp 4) (.tmp 70) rfl (w.heap.size + 1) zerosI [.string (s.extract 1 N), .int .i64 0] 62 rfl rfl (hbz) rfl (inC_size [] 0) (by intro v hv; simp only [List.mem_cons, List.not_mem_nil, or_false] at hv; rcases hv with rfl | rfl <;> rfl) ?_; intro w8 hb8 ho8))
  rw [HT.out] at hb8
  refine bodyPost_ret (v := .tuple #[.agg ([.string t, .int .i64 0]).toArray, .int .u64 (v : Int)]) ?_ rfl ⟨rfl, below_only (below_more (below_more HB.out H9.out) hba') ho8 (by omega)⟩
  exact results_in Try.results24 _ _ (w.heap.size + 1) 62 _ (0, 0) _ _ (by rfl) (by rfl) hb8 Try.underlying62 rfl (inC_size [] 0)
end Go.Proofs.Ythkkllcpogagiaa
