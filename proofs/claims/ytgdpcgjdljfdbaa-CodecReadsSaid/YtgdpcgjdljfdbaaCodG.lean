/- The contract of the law's own reads: both readers answer alike. -/
import Derived.Test.YtgdpcgjdljfdbaaCodH
import Derived.Test.YtgdpcgjdljfdbaaCodO
import Derived.Laws.BitsAllLaws
namespace Go.Proofs.Ytgdpcgjdljfdbaa
open Go.RowKit
set_option linter.unusedVariables false
set_option linter.unusedSimpArgs false

theorem nat_mask3 (x : Nat) : x &&& 7 = x % 8 := Nat.and_two_pow_sub_one_eq_mod x 3
theorem and7 (k : Int) : bits .and .i64 k 7 = k % 8 := by
  show IntKind.i64.wrap ((BitVec.ofInt 64 k &&& BitVec.ofInt 64 7).toNat : Int) = _
  rw [BitVec.toNat_and, BitVec.toNat_ofInt, show (BitVec.ofInt 64 7).toNat = 7 from by decide, nat_mask3, IntKind.wrap_i64]
  omega
set_option maxRecDepth 100000 in
set_option maxHeartbeats 4000000 in
theorem reads0_calls (w : World) (q : Nat) (l : List UInt8) (e : Nat) (o : Op4) {S : Nat → Prop} (hR : Rr w q l e S) (hS : S q) (hl : l.length ≤ 1000000) (hk : o.k % 8 % 5 = 0) (hok : o.ok w) (mm : Nat) (hmm : cw o.m = mm) :
    Calls Try.prog 20 #[.pointer (some ⟨q, 0, none⟩), .agg (inC l e).toArray, .agg o.cells.toArray] w fun en w' => en = .returned (.tuple #[.agg (inC (tkL l e mm) (tkE l e mm)).toArray, .bool true]) ∧ Rr w' q (tkL l e mm) (tkE l e mm) S ∧ Frm (fun i => i = q) w w' := by
  obtain ⟨l', hl'⟩ : ∃ l', l' = tkL l e mm := ⟨_, rfl⟩
  obtain ⟨e', he'⟩ : ∃ e', e' = tkE l e mm := ⟨_, rfl⟩
  rw [← hl', ← he']
  obtain ⟨X, hX⟩ : ∃ X, X = inC (l) (e) := ⟨_, rfl⟩
  have IX : Hid ((Try.prog.info? 43).map (·.size) = some X.length) := Lib.hid (by rw [hX]; exact inC_size _ _)
  have LX : Hid (zerosI.length = X.length) := Lib.hid (by rw [hX]; rfl)
  have OX : Hid (∀ v ∈ X, v.oneCell' = true) := Lib.hid (by rw [hX]; exact inC_one _ _)
  obtain ⟨Y, hY⟩ : ∃ X, X = inC (l') (e') := ⟨_, rfl⟩
  have IY : Hid ((Try.prog.info? 43).map (·.size) = some Y.length) := Lib.hid (by rw [hY]; exact inC_size _ _)
  have LY : Hid (zerosI.length = Y.length) := Lib.hid (by rw [hY]; rfl)
  have OY : Hid (∀ v ∈ Y, v.oneCell' = true) := Lib.hid (by rw [hY]; exact inC_one _ _)
  have LXY : Hid (X.length = Y.length) := Lib.hid (by rw [hX, hY]; rfl)
  obtain ⟨s', hs'⟩ : ∃ s' : ByteArray, s' = ⟨l'.toArray⟩ := ⟨_, rfl⟩
  obtain ⟨N', hN'⟩ : ∃ N', N' = l'.length := ⟨_, rfl⟩
  have hsz' : s'.size = N' := by rw [hs', hN']; exact bstr_size _
  obtain ⟨OC, hOC⟩ : ∃ OC, OC = o.cells := ⟨_, rfl⟩
  have HO1 : Hid (∀ W g, Blk W g OC 28 → W.cell? ⟨g, 0, none⟩ = some (.int .i64 o.k) ∧ W.cell? ⟨g, 1, none⟩ = some (.int .u64 (o.n : Int)) ∧ W.cell? ⟨g, 2, none⟩ = some (.int .i64 o.m)) := Lib.hid fun W g h => by rw [hOC] at h; exact ⟨h.cell 0, h.cell 1, h.cell 2⟩
  obtain ⟨vv, hvv⟩ : ∃ vv, vv = numL (tkV l e mm) := ⟨_, rfl⟩
  have hq := hR.lt
  have hb0 : Blk (((w.alloc (.cells X.toArray 43)).alloc (.cells OC.toArray 28)).alloc (.cells #[.string ⟨#[]⟩, .int .i64 0] 43)) (w.heap.size) X 43 := Blk.alloc (Blk.alloc (Blk.new w X.toArray 43) _) _
  have hb1 : Blk (((w.alloc (.cells X.toArray 43)).alloc (.cells OC.toArray 28)).alloc (.cells #[.string ⟨#[]⟩, .int .i64 0] 43)) (w.heap.size + 1) OC 28 := Blk.alloc (Blk.new' _ _ _ _ (by simp)) _
  have hb2 : Blk (((w.alloc (.cells X.toArray 43)).alloc (.cells OC.toArray 28)).alloc (.cells #[.string ⟨#[]⟩, .int .i64 0] 43)) (w.heap.size + 2) zerosI 43 := Blk.new' _ _ _ _ (by simp)
  have HB : Below w.heap.size w (((w.alloc (.cells X.toArray 43)).alloc (.cells OC.toArray 28)).alloc (.cells #[.string ⟨#[]⟩, .int .i64 0] 43)) := below_al (below2 w _ _) _
  have hs0 : (((w.alloc (.cells X.toArray 43)).alloc (.cells OC.toArray 28)).alloc (.cells #[.string ⟨#[]⟩, .int .i64 0] 43)).heap.size = w.heap.size + 3 := by simp
  obtain ⟨w0, hw0⟩ : ∃ w0, w0 = ((w.alloc (.cells X.toArray 43)).alloc (.cells OC.toArray 28)).alloc (.cells #[.string ⟨#[]⟩, .int .i64 0] 43) := ⟨_, rfl⟩
  rw [← hw0] at hb0 hb1 hb2 HB hs0
  have hR0 : Rr w0 q l e (fun i => S i ∨ w.heap.size ≤ i) := hR.wide HB
  have K21 : Hid (∀ W, Blk W (w.heap.size) Y 43 → W.rangeAt w.heap.size 0 Y ∧ W.cell? ⟨w.heap.size, 0, none⟩ = some (.string s') ∧ W.cell? ⟨w.heap.size, 1, none⟩ = some (.int .i64 (e' : Int))) := Lib.hid fun W h => by
    refine ⟨h.range, ?_, ?_⟩
    · rw [hY] at h; rw [hs']; exact h.cell 0
    · rw [hY] at h; exact h.cell 1
  have CL : Hid (∀ W, Rr W q l' e' (fun i => S i ∨ w.heap.size ≤ i) → Calls Try.prog 27 #[.pointer (some ⟨q, 0, none⟩)] W fun en w' => en = .returned (.int .i64 (N' : Int)) ∧ W = w') := Lib.hid fun W h => by rw [hN']; exact left_calls W q l' e' h
  have NAR5 : Hid (∀ v2 w5 : World, Rr v2 q l' e' (fun i => S i ∨ w.heap.size ≤ i) → Only (w.heap.size) v2 w5 → Rr w5 q l' e' (fun i => S i ∨ w.heap.size ≤ i)) := Lib.hid fun v2 w5 h1 h2 => h1.narrow (fun i hi => hi) (h2.block q (by omega)) (Frm.only h2 (.inr (Nat.le_refl _)))
  have NAR : Hid (∀ w5 w6 : World, Rr w5.drew q l' e' (fun i => S i ∨ w.heap.size ≤ i) → Only (w.heap.size + 2) w5.drew w6 → Rr w6 q l' e' S) := Lib.hid fun w5 w6 h1 h2 => h1.narrow (fun i hi => .inl hi) (h2.block q (by omega)) (Frm.only h2 (.inr (by omega)))
  have FIN : Hid (∀ v2 w5 w6 : World, Frm (fun i => i = q) w v2 → Only (w.heap.size) v2 w5 → Only (w.heap.size + 2) w5.drew w6 → Frm (fun i => i = q) w w6) := Lib.hid fun v2 w5 w6 h1 h2 h3 =>
    (h1.step (Frm.only (S := fun i => i = w.heap.size) h2 rfl) (fun i hi => .inr (by omega))).step (Frm.undrew (Frm.only (S := fun i => i = w.heap.size + 2) h3 rfl)) (fun i hi => .inr (by omega))
  have FB := Lib.hid (Frm.of_below (S := fun i => i = q) HB)
  have C1 : Hid (∀ W, Calls Try.prog 33 #[.agg X.toArray, .int .i64 o.m] W (Ret W (.tuple #[.agg Y.toArray, .int .u64 (vv : Int)]))) := Lib.hid fun W => by rw [hX, hY, hvv, hl', he']; exact dnumber_calls l e o.m mm hmm W
  have C2 : Hid (∀ W, Rr W q l e (fun i => S i ∨ w.heap.size ≤ i) → Calls Try.prog 25 #[.pointer (some ⟨q, 0, none⟩), .int .i64 o.m] W fun en w' => en = .returned (.int .u64 (vv : Int)) ∧ Rr w' q l' e' (fun i => S i ∨ w.heap.size ≤ i) ∧ Frm (fun i => i = q) W w') := Lib.hid fun W h => by rw [hvv, hl', he']; exact rnum_calls W q l e h o.m mm hmm (.inl hS)
  rw [← hX, ← hY, ← hOC]
  obtain ⟨a, ha⟩ : ∃ a : Nat, (a : Int) = o.k % 8 := ⟨(o.k % 8).toNat, by omega⟩
  have hand : bits .and .i64 o.k 7 = (a : Int) := by rw [and7, ha]
  have hrem1 : (a : Int).tmod 5 = 0 := by rw [Int.tmod_eq_emod_of_nonneg (by omega), ha]; exact hk
  have hrem2 : (a : Int) % 5 = 0 := by rw [ha]; exact hk
  clear hk ha
  clear hX hY hOC hs' hN' hl' he' hR HB hl hvv
  go_enter Try.func20, Try.ntmps20
  go_upto_region 1 with fail
  rw [← hw0]
  clear hw0
  have c00 := (HO1.out _ _ hb1).1
  have c01 := (HO1.out _ _ hb1).2.1
  have c02 := (HO1.out _ _ hb1).2.2
  go_wp2_with (first
    | ((with_reducible refine at_load 43 (.tmp 4) ?_); refine wpList_load_mid rfl 43 (.tmp 4) rfl (w.heap.size) 0 rfl X _ (hb0).range Try.underlying43 rfl IX.out ?_)
    | (go_at_call 33; refine (C1.out _).mono ?_; rintro e'' v1 ⟨rfl, d1⟩)
    | ((with_reducible refine at_store 43 (.tmp 9) (.tmp 31) ?_); refine wpList_store_blk rfl 43 (.tmp 9) (.tmp 31) rfl (v1.heap.size) zerosI Y 43 rfl rfl (Blk.new v1 _ _) LY.out IY.out OY.out ?_; intro x1 hbx1 hox1; have dx1 : Below w0.heap.size w0 x1 := below_only (below_al d1 _) hox1 d1.size; have hR1 := (hR0.below dx1).drew; have hgq : ¬ v1.heap.size = q := (by have := d1.size; omega); have hgw : w.heap.size + 3 ≤ v1.heap.size := (by have := d1.size; omega)))
  refine wp_region_held_drew (S := fun W => W.rangeAt v1.heap.size 0 Y ∧ W.cell? ⟨w.heap.size + 1, 2, none⟩ = some (.int .i64 o.m)) (by kernel_rfl) ?_ (fun hHeld => ?_)
  · (first | exact ⟨hbx1.range, (HO1.out _ _ (hb1.up dx1)).2.2⟩ | exact ⟨hbg2.range, (HO1.out _ _ hbo2).2.2⟩ | exact ⟨hbg5.range, (HO1.out _ _ hbo5).2.2⟩)
  refine wpAnyH_take (i := 0) rfl (by kernel_rfl) (by kernel_rfl) (by kernel_rfl) (fun _ _ _ h => h) (yieldsIf_load_mid (by rfl) _ _ rfl _ _ rfl Y _ (fun w hSw => by (try dsimp only at hSw); go_split_ands; assumption) Try.underlying43 rfl IY.out) (by assumption) ?_
  (try simp only [List.getElem_toArray, List.getElem_cons_succ, List.getElem_cons_zero, Act.put, List.setIfInBounds_toArray, List.set_cons_succ, List.set_cons_zero])
  refine wpAnyH_take (i := 1) (v := ?_) rfl (by kernel_rfl) (by kernel_rfl) (by kernel_rfl) (fun _ _ _ h => h) (Or.inl ⟨by rfl, ?_⟩) (by assumption) ?_
  rotate_left 1
  · intro w hSw; (try dsimp only at hSw); simp only [List.getElem_toArray, List.getElem_cons_succ, List.getElem_cons_zero]; go_simp; try (with_reducible rfl)
  (try simp only [List.getElem_toArray, List.getElem_cons_succ, List.getElem_cons_zero, Act.put, List.setIfInBounds_toArray, List.set_cons_succ, List.set_cons_zero])
  refine wpAnyH_take (i := 2) (v := ?_) rfl (by kernel_rfl) (by kernel_rfl) (by kernel_rfl) (fun _ _ _ h => h) (Or.inl ⟨by rfl, ?_⟩) (by assumption) ?_
  rotate_left 1
  · intro w hSw; (try dsimp only at hSw); simp only [List.getElem_toArray, List.getElem_cons_succ, List.getElem_cons_zero]; go_simp; try (with_reducible rfl)
  (try simp only [List.getElem_toArray, List.getElem_cons_succ, List.getElem_cons_zero, Act.put, List.setIfInBounds_toArray, List.set_cons_succ, List.set_cons_zero])
  refine wpAnyH_take (i := 3) (v := ?_) rfl (by kernel_rfl) (by kernel_rfl) (by kernel_rfl) (fun _ _ _ h => h) (Or.inl ⟨by rfl, ?_⟩) (by assumption) ?_
  rotate_left 1
  · intro w hSw; (try dsimp only at hSw); simp only [List.getElem_toArray, List.getElem_cons_succ, List.getElem_cons_zero]; go_simp; try (with_reducible rfl)
  (try simp only [List.getElem_toArray, List.getElem_cons_succ, List.getElem_cons_zero, Act.put, List.setIfInBounds_toArray, List.set_cons_succ, List.set_cons_zero])
  refine wpAnyH_take (i := 5) (v := ?_) rfl (by kernel_rfl) (by kernel_rfl) (by kernel_rfl) (fun _ _ _ h => h) (Or.inl ⟨by rfl, ?_⟩) (by assumption) ?_
  rotate_left 1
  · intro w hSw; (try dsimp only at hSw); simp only [List.getElem_toArray, List.getElem_cons_succ, List.getElem_cons_zero]; go_simp; try (with_reducible rfl)
  (try simp only [List.getElem_toArray, List.getElem_cons_succ, List.getElem_cons_zero, Act.put, List.setIfInBounds_toArray, List.set_cons_succ, List.set_cons_zero])
  refine wpAnyH_ready (rs := [4]) (by kernel_rfl) (by simp) ?_
  refine AllReadyH.cons rfl (fun K hK => ?_) AllReadyH.nil
  (try simp only [List.getElem_toArray, List.getElem_cons_succ, List.getElem_cons_zero])
  go_simp
  go_at_call 25; refine (C2.out _ hR1).mono ?_; rintro e'' v2 ⟨rfl, hRb, hf2⟩; have hbg2 := hf2.blk hbx1.dr hgq; have hbo2 := hf2.blk (hb1.up dx1).dr (by omega); have hb02 := hf2.blk (hb0.up dx1).dr (by omega); have hb2b := hf2.blk (hb2.up dx1).dr (by omega)
  (try (go_wp2_with fail))
  refine hK.out _ _ ?_ (fun hHeld => ?_)
  · (first | exact ⟨hbx1.range, (HO1.out _ _ (hb1.up dx1)).2.2⟩ | exact ⟨hbg2.range, (HO1.out _ _ hbo2).2.2⟩ | exact ⟨hbg5.range, (HO1.out _ _ hbo5).2.2⟩)
  clear hK K
  (try simp only [Act.put, List.setIfInBounds_toArray, List.set_cons_succ, List.set_cons_zero])
  refine wpAnyH_take (i := 6) (v := ?_) rfl (by kernel_rfl) (by kernel_rfl) (by kernel_rfl) (fun _ _ _ h => h) (Or.inl ⟨by rfl, ?_⟩) (by assumption) ?_
  rotate_left 1
  · intro w hSw; (try dsimp only at hSw); simp only [List.getElem_toArray, List.getElem_cons_succ, List.getElem_cons_zero]; go_simp; try (with_reducible rfl)
  (try simp only [List.getElem_toArray, List.getElem_cons_succ, List.getElem_cons_zero, Act.put, List.setIfInBounds_toArray, List.set_cons_succ, List.set_cons_zero])
  refine wpAnyH_ready (rs := [7]) (by kernel_rfl) (by simp) ?_
  refine AllReadyH.cons rfl (fun K hK => ?_) AllReadyH.nil
  (try simp only [List.getElem_toArray, List.getElem_cons_succ, List.getElem_cons_zero])
  refine Eq.mpr (if_pos (by rfl)) ?_
  refine wp_store_in 43 (.tmp 4) (.tmp 33) rfl (w.heap.size) X Y 43 rfl rfl hb02 LXY.out IY.out OY.out ?_
  intro w5 hb05 ho5
  have hbg5 := ho5.blk hbg2 (by omega)
  have hbo5 := ho5.blk hbo2 (by omega)
  refine hK.out _ _ ?_ (fun hHeld => ?_)
  · exact ⟨hbg5.range, (HO1.out _ _ hbo5).2.2⟩
  clear hK K
  (try simp only [Act.put, List.setIfInBounds_toArray, List.set_cons_succ, List.set_cons_zero])
  refine wpAnyH_take (i := 8) (v := ?_) rfl (by kernel_rfl) (by kernel_rfl) (by kernel_rfl) (fun _ _ _ h => h) (Or.inl ⟨by rfl, ?_⟩) (by assumption) ?_
  rotate_left 1
  · intro w hSw; (try dsimp only at hSw); simp only [List.getElem_toArray, List.getElem_cons_succ, List.getElem_cons_zero]; go_simp; try (with_reducible rfl)
  (try simp only [List.getElem_toArray, List.getElem_cons_succ, List.getElem_cons_zero, Act.put, List.setIfInBounds_toArray, List.set_cons_succ, List.set_cons_zero])
  refine wpAnyH_done (by kernel_rfl) ?_ _
  have hFb : Frm (fun i => i = q) w v2 := (FB.out.step (Frm.of_below (S := fun i => i = q) dx1) (fun i hi => .inl hi)).trans (Frm.undrew hf2)
  have hb25 := ho5.blk hb2b (by omega)
  have hR5d := (NAR5.out _ _ hRb ho5).drew
  go_wp2_with fail
  refine wp_region_held_drew (S := fun W => W.rangeAt w.heap.size 0 Y ∧ W.cell? ⟨w.heap.size, 0, none⟩ = some (.string s') ∧ W.cell? ⟨w.heap.size, 1, none⟩ = some (.int .i64 (e' : Int))) (by kernel_rfl) ?_ (fun hHeld => ?_)
  · exact K21.out _ hb05
  refine wpAnyH_take (i := 0) rfl (by kernel_rfl) (by kernel_rfl) (by kernel_rfl) (fun _ _ _ h => h) (yieldsIf_load_mid (by rfl) _ _ rfl _ _ rfl Y _ (fun w hSw => by (try dsimp only at hSw); go_split_ands; assumption) Try.underlying43 rfl IY.out) (by assumption) ?_
  (try simp only [List.getElem_toArray, List.getElem_cons_succ, List.getElem_cons_zero, Act.put, List.setIfInBounds_toArray, List.set_cons_succ, List.set_cons_zero])
  refine wpAnyH_take (i := 1) (v := ?_) rfl (by kernel_rfl) (by kernel_rfl) (by kernel_rfl) (fun _ _ _ h => h) (Or.inl ⟨by rfl, ?_⟩) (by assumption) ?_
  rotate_left 1
  · intro w hSw; (try dsimp only at hSw); simp only [List.getElem_toArray, List.getElem_cons_succ, List.getElem_cons_zero]; go_simp; try (with_reducible rfl)
  (try simp only [List.getElem_toArray, List.getElem_cons_succ, List.getElem_cons_zero, Act.put, List.setIfInBounds_toArray, List.set_cons_succ, List.set_cons_zero])
  refine wpAnyH_take (i := 2) (v := ?_) rfl (by kernel_rfl) (by kernel_rfl) (by kernel_rfl) (fun _ _ _ h => h) (Or.inl ⟨by rfl, ?_⟩) (by assumption) ?_
  rotate_left 1
  · intro w hSw; (try dsimp only at hSw); simp only [List.getElem_toArray, List.getElem_cons_succ, List.getElem_cons_zero]; go_simp; try (with_reducible rfl)
  (try simp only [List.getElem_toArray, List.getElem_cons_succ, List.getElem_cons_zero, Act.put, List.setIfInBounds_toArray, List.set_cons_succ, List.set_cons_zero])
  refine wpAnyH_take (i := 3) (v := ?_) rfl (by kernel_rfl) (by kernel_rfl) (by kernel_rfl) (fun _ _ _ h => h) (Or.inl ⟨by rfl, ?_⟩) (by assumption) ?_
  rotate_left 1
  · intro w hSw; (try dsimp only at hSw); simp only [List.getElem_toArray, List.getElem_cons_succ, List.getElem_cons_zero]; go_simp; try (with_reducible rfl)
  (try simp only [List.getElem_toArray, List.getElem_cons_succ, List.getElem_cons_zero, Act.put, List.setIfInBounds_toArray, List.set_cons_succ, List.set_cons_zero])
  refine wpAnyH_take (i := 5) (v := ?_) rfl (by kernel_rfl) (by kernel_rfl) (by kernel_rfl) (fun _ _ _ h => h) (Or.inl ⟨by rfl, ?_⟩) (by assumption) ?_
  rotate_left 1
  · intro w hSw; (try dsimp only at hSw); simp only [List.getElem_toArray, List.getElem_cons_succ, List.getElem_cons_zero]; go_simp; try (with_reducible rfl)
  (try simp only [List.getElem_toArray, List.getElem_cons_succ, List.getElem_cons_zero, Act.put, List.setIfInBounds_toArray, List.set_cons_succ, List.set_cons_zero])
  refine wpAnyH_take (i := 6) (v := ?_) rfl (by kernel_rfl) (by kernel_rfl) (by kernel_rfl) (fun _ _ _ h => h) (Or.inl ⟨by rfl, ?_⟩) (by assumption) ?_
  rotate_left 1
  · intro w hSw; (try dsimp only at hSw); simp only [List.getElem_toArray, List.getElem_cons_succ, List.getElem_cons_zero]; go_simp; try (with_reducible rfl)
  (try simp only [List.getElem_toArray, List.getElem_cons_succ, List.getElem_cons_zero, Act.put, List.setIfInBounds_toArray, List.set_cons_succ, List.set_cons_zero])
  refine wpAnyH_ready (rs := [4]) (by kernel_rfl) (by simp) ?_
  refine AllReadyH.cons rfl (fun K hK => ?_) AllReadyH.nil
  (try simp only [List.getElem_toArray, List.getElem_cons_succ, List.getElem_cons_zero])
  go_simp
  go_at_call 22; refine (err_calls _ q l' e' hR5d).mono ?_; rintro e'' x' ⟨rfl, rfl⟩
  (try (go_wp2_with fail))
  refine hK.out _ _ ?_ (fun hHeld => ?_)
  · exact K21.out _ hb05
  clear hK K
  (try simp only [Act.put, List.setIfInBounds_toArray, List.set_cons_succ, List.set_cons_zero])
  refine wpAnyH_take (i := 7) (v := ?_) rfl (by kernel_rfl) (by kernel_rfl) (by kernel_rfl) (fun _ _ _ h => h) (Or.inl ⟨by rfl, ?_⟩) (by assumption) ?_
  rotate_left 1
  · intro w hSw; (try dsimp only at hSw); simp only [List.getElem_toArray, List.getElem_cons_succ, List.getElem_cons_zero]; go_simp; try (with_reducible rfl)
  (try simp only [List.getElem_toArray, List.getElem_cons_succ, List.getElem_cons_zero, Act.put, List.setIfInBounds_toArray, List.set_cons_succ, List.set_cons_zero])
  refine wpAnyH_take (i := 8) (v := ?_) rfl (by kernel_rfl) (by kernel_rfl) (by kernel_rfl) (fun _ _ _ h => h) (Or.inl ⟨by rfl, ?_⟩) (by assumption) ?_
  rotate_left 1
  · intro w hSw; (try dsimp only at hSw); simp only [List.getElem_toArray, List.getElem_cons_succ, List.getElem_cons_zero]; go_simp; try (with_reducible rfl)
  (try simp only [List.getElem_toArray, List.getElem_cons_succ, List.getElem_cons_zero, Act.put, List.setIfInBounds_toArray, List.set_cons_succ, List.set_cons_zero])
  refine wpAnyH_take (i := 9) (v := ?_) rfl (by kernel_rfl) (by kernel_rfl) (by kernel_rfl) (fun _ _ _ h => h) (Or.inl ⟨by rfl, ?_⟩) (by assumption) ?_
  rotate_left 1
  · intro w hSw; (try dsimp only at hSw); simp only [List.getElem_toArray, List.getElem_cons_succ, List.getElem_cons_zero]; go_simp; try (with_reducible rfl)
  (try simp only [List.getElem_toArray, List.getElem_cons_succ, List.getElem_cons_zero, Act.put, List.setIfInBounds_toArray, List.set_cons_succ, List.set_cons_zero])
  refine wpAnyH_take (i := 10) (v := ?_) rfl (by kernel_rfl) (by kernel_rfl) (by kernel_rfl) (fun _ _ _ h => h) (Or.inl ⟨by rfl, ?_⟩) (by assumption) ?_
  rotate_left 1
  · intro w hSw; (try dsimp only at hSw); simp only [List.getElem_toArray, List.getElem_cons_succ, List.getElem_cons_zero]; go_simp; try (with_reducible rfl)
  (try simp only [List.getElem_toArray, List.getElem_cons_succ, List.getElem_cons_zero, Act.put, List.setIfInBounds_toArray, List.set_cons_succ, List.set_cons_zero])
  refine wpAnyH_take (i := 12) (v := ?_) rfl (by kernel_rfl) (by kernel_rfl) (by kernel_rfl) (fun _ _ _ h => h) (Or.inl ⟨by rfl, ?_⟩) (by assumption) ?_
  rotate_left 1
  · intro w hSw; (try dsimp only at hSw); simp only [List.getElem_toArray, List.getElem_cons_succ, List.getElem_cons_zero]; go_simp; try (with_reducible rfl)
  (try simp only [List.getElem_toArray, List.getElem_cons_succ, List.getElem_cons_zero, Act.put, List.setIfInBounds_toArray, List.set_cons_succ, List.set_cons_zero])
  refine wpAnyH_take (i := 13) (v := ?_) rfl (by kernel_rfl) (by kernel_rfl) (by kernel_rfl) (fun _ _ _ h => h) (Or.inl ⟨by rfl, ?_⟩) (by assumption) ?_
  rotate_left 1
  · intro w hSw; (try dsimp only at hSw); simp only [List.getElem_toArray, List.getElem_cons_succ, List.getElem_cons_zero]; go_simp; try (with_reducible rfl)
  (try simp only [List.getElem_toArray, List.getElem_cons_succ, List.getElem_cons_zero, Act.put, List.setIfInBounds_toArray, List.set_cons_succ, List.set_cons_zero])
  refine wpAnyH_take (i := 14) (v := ?_) rfl (by kernel_rfl) (by kernel_rfl) (by kernel_rfl) (fun _ _ _ h => h) (Or.inl ⟨by rfl, ?_⟩) (by assumption) ?_
  rotate_left 1
  · intro w hSw; (try dsimp only at hSw); simp only [List.getElem_toArray, List.getElem_cons_succ, List.getElem_cons_zero]; go_simp; try (with_reducible rfl)
  (try simp only [List.getElem_toArray, List.getElem_cons_succ, List.getElem_cons_zero, Act.put, List.setIfInBounds_toArray, List.set_cons_succ, List.set_cons_zero])
  refine wpAnyH_ready (rs := [11]) (by kernel_rfl) (by simp) ?_
  refine AllReadyH.cons rfl (fun K hK => ?_) AllReadyH.nil
  (try simp only [List.getElem_toArray, List.getElem_cons_succ, List.getElem_cons_zero])
  go_simp
  go_at_call 27; refine (CL.out _ hR5d).mono ?_; rintro e'' x' ⟨rfl, rfl⟩
  (try (go_wp2_with fail))
  refine hK.out _ _ ?_ (fun hHeld => ?_)
  · exact K21.out _ hb05
  clear hK K
  (try simp only [Act.put, List.setIfInBounds_toArray, List.set_cons_succ, List.set_cons_zero])
  refine wpAnyH_take (i := 15) (v := ?_) rfl (by kernel_rfl) (by kernel_rfl) (by kernel_rfl) (fun _ _ _ h => h) (Or.inl ⟨by rfl, ?_⟩) (by assumption) ?_
  rotate_left 1
  · intro w hSw; (try dsimp only at hSw); simp only [List.getElem_toArray, List.getElem_cons_succ, List.getElem_cons_zero]; go_simp; try (with_reducible rfl)
  (try simp only [List.getElem_toArray, List.getElem_cons_succ, List.getElem_cons_zero, Act.put, List.setIfInBounds_toArray, List.set_cons_succ, List.set_cons_zero])
  refine wpAnyH_take (i := 16) (v := ?_) rfl (by kernel_rfl) (by kernel_rfl) (by kernel_rfl) (fun _ _ _ h => h) (Or.inl ⟨by rfl, ?_⟩) (by assumption) ?_
  rotate_left 1
  · intro w hSw; (try dsimp only at hSw); simp only [List.getElem_toArray, List.getElem_cons_succ, List.getElem_cons_zero]; go_simp; try (with_reducible rfl)
  (try simp only [List.getElem_toArray, List.getElem_cons_succ, List.getElem_cons_zero, Act.put, List.setIfInBounds_toArray, List.set_cons_succ, List.set_cons_zero])
  refine wpAnyH_ready (rs := [17]) (by kernel_rfl) (by simp) ?_
  refine AllReadyH.cons rfl (fun K hK => ?_) AllReadyH.nil
  (try simp only [List.getElem_toArray, List.getElem_cons_succ, List.getElem_cons_zero])
  refine Eq.mpr (if_pos (by rfl)) ?_
  refine wp_store_in 43 (.tmp 6) (.tmp 108) rfl (w.heap.size + 2) zerosI Y 43 rfl rfl hb25.dr LY.out IY.out OY.out ?_
  intro w6 hb6 ho6
  refine hK.out _ _ ?_ (fun hHeld => ?_)
  · exact K21.out _ (ho6.blk hb05.dr (by omega))
  clear hK K
  (try simp only [Act.put, List.setIfInBounds_toArray, List.set_cons_succ, List.set_cons_zero])
  refine wpAnyH_take (i := 18) (v := ?_) rfl (by kernel_rfl) (by kernel_rfl) (by kernel_rfl) (fun _ _ _ h => h) (Or.inl ⟨by rfl, ?_⟩) (by assumption) ?_
  rotate_left 1
  · intro w hSw; (try dsimp only at hSw); simp only [List.getElem_toArray, List.getElem_cons_succ, List.getElem_cons_zero]; go_simp; try (with_reducible rfl)
  (try simp only [List.getElem_toArray, List.getElem_cons_succ, List.getElem_cons_zero, Act.put, List.setIfInBounds_toArray, List.set_cons_succ, List.set_cons_zero])
  refine wpAnyH_done (by kernel_rfl) ?_ _
  go_wp2_with fail
  refine bodyPost_ret (v := .tuple #[.agg Y.toArray, .bool true]) ?_ rfl ⟨rfl, NAR.out _ _ hR5d ho6, FIN.out _ _ _ hFb ho5 ho6⟩
  exact results_in Try.results20 _ _ (w.heap.size + 2) 43 _ (0, 0) _ _ (by rfl) (by rfl) hb6 Try.underlying43 rfl IY.out
set_option maxRecDepth 100000 in
set_option maxHeartbeats 4000000 in
theorem reads1_calls (w : World) (q : Nat) (l : List UInt8) (e : Nat) (o : Op4) {S : Nat → Prop} (hR : Rr w q l e S) (hS : S q) (hl : l.length ≤ 1000000) (hk : o.k % 8 % 5 = 1) (hok : o.ok w)  :
    Calls Try.prog 20 #[.pointer (some ⟨q, 0, none⟩), .agg (inC l e).toArray, .agg o.cells.toArray] w fun en w' => en = .returned (.tuple #[.agg (inC (cvL l e o.n) (cvE l e o.n)).toArray, .bool true]) ∧ Rr w' q (cvL l e o.n) (cvE l e o.n) S ∧ Frm (fun i => i = q) w w' := by
  obtain ⟨l', hl'⟩ : ∃ l', l' = cvL l e o.n := ⟨_, rfl⟩
  obtain ⟨e', he'⟩ : ∃ e', e' = cvE l e o.n := ⟨_, rfl⟩
  rw [← hl', ← he']
  obtain ⟨X, hX⟩ : ∃ X, X = inC (l) (e) := ⟨_, rfl⟩
  have IX : Hid ((Try.prog.info? 43).map (·.size) = some X.length) := Lib.hid (by rw [hX]; exact inC_size _ _)
  have LX : Hid (zerosI.length = X.length) := Lib.hid (by rw [hX]; rfl)
  have OX : Hid (∀ v ∈ X, v.oneCell' = true) := Lib.hid (by rw [hX]; exact inC_one _ _)
  obtain ⟨Y, hY⟩ : ∃ X, X = inC (l') (e') := ⟨_, rfl⟩
  have IY : Hid ((Try.prog.info? 43).map (·.size) = some Y.length) := Lib.hid (by rw [hY]; exact inC_size _ _)
  have LY : Hid (zerosI.length = Y.length) := Lib.hid (by rw [hY]; rfl)
  have OY : Hid (∀ v ∈ Y, v.oneCell' = true) := Lib.hid (by rw [hY]; exact inC_one _ _)
  have LXY : Hid (X.length = Y.length) := Lib.hid (by rw [hX, hY]; rfl)
  obtain ⟨s', hs'⟩ : ∃ s' : ByteArray, s' = ⟨l'.toArray⟩ := ⟨_, rfl⟩
  obtain ⟨N', hN'⟩ : ∃ N', N' = l'.length := ⟨_, rfl⟩
  have hsz' : s'.size = N' := by rw [hs', hN']; exact bstr_size _
  obtain ⟨OC, hOC⟩ : ∃ OC, OC = o.cells := ⟨_, rfl⟩
  have HO1 : Hid (∀ W g, Blk W g OC 28 → W.cell? ⟨g, 0, none⟩ = some (.int .i64 o.k) ∧ W.cell? ⟨g, 1, none⟩ = some (.int .u64 (o.n : Int)) ∧ W.cell? ⟨g, 2, none⟩ = some (.int .i64 o.m)) := Lib.hid fun W g h => by rw [hOC] at h; exact ⟨h.cell 0, h.cell 1, h.cell 2⟩
  obtain ⟨vv, hvv⟩ : ∃ vv, vv = cvV l e o.n := ⟨_, rfl⟩
  have hq := hR.lt
  have hb0 : Blk (((w.alloc (.cells X.toArray 43)).alloc (.cells OC.toArray 28)).alloc (.cells #[.string ⟨#[]⟩, .int .i64 0] 43)) (w.heap.size) X 43 := Blk.alloc (Blk.alloc (Blk.new w X.toArray 43) _) _
  have hb1 : Blk (((w.alloc (.cells X.toArray 43)).alloc (.cells OC.toArray 28)).alloc (.cells #[.string ⟨#[]⟩, .int .i64 0] 43)) (w.heap.size + 1) OC 28 := Blk.alloc (Blk.new' _ _ _ _ (by simp)) _
  have hb2 : Blk (((w.alloc (.cells X.toArray 43)).alloc (.cells OC.toArray 28)).alloc (.cells #[.string ⟨#[]⟩, .int .i64 0] 43)) (w.heap.size + 2) zerosI 43 := Blk.new' _ _ _ _ (by simp)
  have HB : Below w.heap.size w (((w.alloc (.cells X.toArray 43)).alloc (.cells OC.toArray 28)).alloc (.cells #[.string ⟨#[]⟩, .int .i64 0] 43)) := below_al (below2 w _ _) _
  have hs0 : (((w.alloc (.cells X.toArray 43)).alloc (.cells OC.toArray 28)).alloc (.cells #[.string ⟨#[]⟩, .int .i64 0] 43)).heap.size = w.heap.size + 3 := by simp
  obtain ⟨w0, hw0⟩ : ∃ w0, w0 = ((w.alloc (.cells X.toArray 43)).alloc (.cells OC.toArray 28)).alloc (.cells #[.string ⟨#[]⟩, .int .i64 0] 43) := ⟨_, rfl⟩
  rw [← hw0] at hb0 hb1 hb2 HB hs0
  have hR0 : Rr w0 q l e (fun i => S i ∨ w.heap.size ≤ i) := hR.wide HB
  have K21 : Hid (∀ W, Blk W (w.heap.size) Y 43 → W.rangeAt w.heap.size 0 Y ∧ W.cell? ⟨w.heap.size, 0, none⟩ = some (.string s') ∧ W.cell? ⟨w.heap.size, 1, none⟩ = some (.int .i64 (e' : Int))) := Lib.hid fun W h => by
    refine ⟨h.range, ?_, ?_⟩
    · rw [hY] at h; rw [hs']; exact h.cell 0
    · rw [hY] at h; exact h.cell 1
  have CL : Hid (∀ W, Rr W q l' e' (fun i => S i ∨ w.heap.size ≤ i) → Calls Try.prog 27 #[.pointer (some ⟨q, 0, none⟩)] W fun en w' => en = .returned (.int .i64 (N' : Int)) ∧ W = w') := Lib.hid fun W h => by rw [hN']; exact left_calls W q l' e' h
  have NAR5 : Hid (∀ v2 w5 : World, Rr v2 q l' e' (fun i => S i ∨ w.heap.size ≤ i) → Only (w.heap.size) v2 w5 → Rr w5 q l' e' (fun i => S i ∨ w.heap.size ≤ i)) := Lib.hid fun v2 w5 h1 h2 => h1.narrow (fun i hi => hi) (h2.block q (by omega)) (Frm.only h2 (.inr (Nat.le_refl _)))
  have NAR : Hid (∀ w5 w6 : World, Rr w5.drew q l' e' (fun i => S i ∨ w.heap.size ≤ i) → Only (w.heap.size + 2) w5.drew w6 → Rr w6 q l' e' S) := Lib.hid fun w5 w6 h1 h2 => h1.narrow (fun i hi => .inl hi) (h2.block q (by omega)) (Frm.only h2 (.inr (by omega)))
  have FIN : Hid (∀ v2 w5 w6 : World, Frm (fun i => i = q) w v2 → Only (w.heap.size) v2 w5 → Only (w.heap.size + 2) w5.drew w6 → Frm (fun i => i = q) w w6) := Lib.hid fun v2 w5 w6 h1 h2 h3 =>
    (h1.step (Frm.only (S := fun i => i = w.heap.size) h2 rfl) (fun i hi => .inr (by omega))).step (Frm.undrew (Frm.only (S := fun i => i = w.heap.size + 2) h3 rfl)) (fun i hi => .inr (by omega))
  have FB := Lib.hid (Frm.of_below (S := fun i => i = q) HB)
  have C1 : Hid (∀ W, Calls Try.prog 34 #[.agg X.toArray, .int .u64 (o.n : Int)] W (Ret W (.tuple #[.agg Y.toArray, .int .u64 (vv : Int)]))) := Lib.hid fun W => by rw [hX, hY, hvv, hl', he']; exact dcount_calls l e o.n hl W
  have C2 : Hid (∀ W, Rr W q l e (fun i => S i ∨ w.heap.size ≤ i) → Calls Try.prog 23 #[.pointer (some ⟨q, 0, none⟩), .int .u64 (o.n : Int)] W fun en w' => en = .returned (.int .u64 (vv : Int)) ∧ Rr w' q l' e' (fun i => S i ∨ w.heap.size ≤ i) ∧ Frm (fun i => i = q) W w') := Lib.hid fun W h => by rw [hvv, hl', he']; exact rvar_calls W q l e h o.n (.inl hS)
  rw [← hX, ← hY, ← hOC]
  obtain ⟨a, ha⟩ : ∃ a : Nat, (a : Int) = o.k % 8 := ⟨(o.k % 8).toNat, by omega⟩
  have hand : bits .and .i64 o.k 7 = (a : Int) := by rw [and7, ha]
  have hrem1 : (a : Int).tmod 5 = 1 := by rw [Int.tmod_eq_emod_of_nonneg (by omega), ha]; exact hk
  have hrem2 : (a : Int) % 5 = 1 := by rw [ha]; exact hk
  clear hk ha
  clear hX hY hOC hs' hN' hl' he' hR HB hl hvv
  go_enter Try.func20, Try.ntmps20
  go_upto_region 1 with fail
  rw [← hw0]
  clear hw0
  have c00 := (HO1.out _ _ hb1).1
  have c01 := (HO1.out _ _ hb1).2.1
  have c02 := (HO1.out _ _ hb1).2.2
  go_wp2_with (first
    | ((with_reducible refine at_load 43 (.tmp 4) ?_); refine wpList_load_mid rfl 43 (.tmp 4) rfl (w.heap.size) 0 rfl X _ (hb0).range Try.underlying43 rfl IX.out ?_)
    | (go_at_call 34; refine (C1.out _).mono ?_; rintro e'' v1 ⟨rfl, d1⟩)
    | ((with_reducible refine at_store 43 (.tmp 11) (.tmp 47) ?_); refine wpList_store_blk rfl 43 (.tmp 11) (.tmp 47) rfl (v1.heap.size) zerosI Y 43 rfl rfl (Blk.new v1 _ _) LY.out IY.out OY.out ?_; intro x1 hbx1 hox1; have dx1 : Below w0.heap.size w0 x1 := below_only (below_al d1 _) hox1 d1.size; have hR1 := (hR0.below dx1).drew; have hgq : ¬ v1.heap.size = q := (by have := d1.size; omega); have hgw : w.heap.size + 3 ≤ v1.heap.size := (by have := d1.size; omega)))
  refine wp_region_held_drew (S := fun W => W.rangeAt v1.heap.size 0 Y ∧ W.cell? ⟨w.heap.size + 1, 1, none⟩ = some (.int .u64 (o.n : Int))) (by kernel_rfl) ?_ (fun hHeld => ?_)
  · (first | exact ⟨hbx1.range, (HO1.out _ _ (hb1.up dx1)).2.1⟩ | exact ⟨hbg2.range, (HO1.out _ _ hbo2).2.1⟩ | exact ⟨hbg5.range, (HO1.out _ _ hbo5).2.1⟩)
  refine wpAnyH_take (i := 0) rfl (by kernel_rfl) (by kernel_rfl) (by kernel_rfl) (fun _ _ _ h => h) (yieldsIf_load_mid (by rfl) _ _ rfl _ _ rfl Y _ (fun w hSw => by (try dsimp only at hSw); go_split_ands; assumption) Try.underlying43 rfl IY.out) (by assumption) ?_
  (try simp only [List.getElem_toArray, List.getElem_cons_succ, List.getElem_cons_zero, Act.put, List.setIfInBounds_toArray, List.set_cons_succ, List.set_cons_zero])
  refine wpAnyH_take (i := 1) (v := ?_) rfl (by kernel_rfl) (by kernel_rfl) (by kernel_rfl) (fun _ _ _ h => h) (Or.inl ⟨by rfl, ?_⟩) (by assumption) ?_
  rotate_left 1
  · intro w hSw; (try dsimp only at hSw); simp only [List.getElem_toArray, List.getElem_cons_succ, List.getElem_cons_zero]; go_simp; try (with_reducible rfl)
  (try simp only [List.getElem_toArray, List.getElem_cons_succ, List.getElem_cons_zero, Act.put, List.setIfInBounds_toArray, List.set_cons_succ, List.set_cons_zero])
  refine wpAnyH_take (i := 2) (v := ?_) rfl (by kernel_rfl) (by kernel_rfl) (by kernel_rfl) (fun _ _ _ h => h) (Or.inl ⟨by rfl, ?_⟩) (by assumption) ?_
  rotate_left 1
  · intro w hSw; (try dsimp only at hSw); simp only [List.getElem_toArray, List.getElem_cons_succ, List.getElem_cons_zero]; go_simp; try (with_reducible rfl)
  (try simp only [List.getElem_toArray, List.getElem_cons_succ, List.getElem_cons_zero, Act.put, List.setIfInBounds_toArray, List.set_cons_succ, List.set_cons_zero])
  refine wpAnyH_take (i := 3) (v := ?_) rfl (by kernel_rfl) (by kernel_rfl) (by kernel_rfl) (fun _ _ _ h => h) (Or.inl ⟨by rfl, ?_⟩) (by assumption) ?_
  rotate_left 1
  · intro w hSw; (try dsimp only at hSw); simp only [List.getElem_toArray, List.getElem_cons_succ, List.getElem_cons_zero]; go_simp; try (with_reducible rfl)
  (try simp only [List.getElem_toArray, List.getElem_cons_succ, List.getElem_cons_zero, Act.put, List.setIfInBounds_toArray, List.set_cons_succ, List.set_cons_zero])
  refine wpAnyH_take (i := 5) (v := ?_) rfl (by kernel_rfl) (by kernel_rfl) (by kernel_rfl) (fun _ _ _ h => h) (Or.inl ⟨by rfl, ?_⟩) (by assumption) ?_
  rotate_left 1
  · intro w hSw; (try dsimp only at hSw); simp only [List.getElem_toArray, List.getElem_cons_succ, List.getElem_cons_zero]; go_simp; try (with_reducible rfl)
  (try simp only [List.getElem_toArray, List.getElem_cons_succ, List.getElem_cons_zero, Act.put, List.setIfInBounds_toArray, List.set_cons_succ, List.set_cons_zero])
  refine wpAnyH_ready (rs := [4]) (by kernel_rfl) (by simp) ?_
  refine AllReadyH.cons rfl (fun K hK => ?_) AllReadyH.nil
  (try simp only [List.getElem_toArray, List.getElem_cons_succ, List.getElem_cons_zero])
  go_simp
  go_at_call 23; refine (C2.out _ hR1).mono ?_; rintro e'' v2 ⟨rfl, hRb, hf2⟩; have hbg2 := hf2.blk hbx1.dr hgq; have hbo2 := hf2.blk (hb1.up dx1).dr (by omega); have hb02 := hf2.blk (hb0.up dx1).dr (by omega); have hb2b := hf2.blk (hb2.up dx1).dr (by omega)
  (try (go_wp2_with fail))
  refine hK.out _ _ ?_ (fun hHeld => ?_)
  · (first | exact ⟨hbx1.range, (HO1.out _ _ (hb1.up dx1)).2.1⟩ | exact ⟨hbg2.range, (HO1.out _ _ hbo2).2.1⟩ | exact ⟨hbg5.range, (HO1.out _ _ hbo5).2.1⟩)
  clear hK K
  (try simp only [Act.put, List.setIfInBounds_toArray, List.set_cons_succ, List.set_cons_zero])
  refine wpAnyH_take (i := 6) (v := ?_) rfl (by kernel_rfl) (by kernel_rfl) (by kernel_rfl) (fun _ _ _ h => h) (Or.inl ⟨by rfl, ?_⟩) (by assumption) ?_
  rotate_left 1
  · intro w hSw; (try dsimp only at hSw); simp only [List.getElem_toArray, List.getElem_cons_succ, List.getElem_cons_zero]; go_simp; try (with_reducible rfl)
  (try simp only [List.getElem_toArray, List.getElem_cons_succ, List.getElem_cons_zero, Act.put, List.setIfInBounds_toArray, List.set_cons_succ, List.set_cons_zero])
  refine wpAnyH_ready (rs := [7]) (by kernel_rfl) (by simp) ?_
  refine AllReadyH.cons rfl (fun K hK => ?_) AllReadyH.nil
  (try simp only [List.getElem_toArray, List.getElem_cons_succ, List.getElem_cons_zero])
  refine Eq.mpr (if_pos (by rfl)) ?_
  refine wp_store_in 43 (.tmp 4) (.tmp 49) rfl (w.heap.size) X Y 43 rfl rfl hb02 LXY.out IY.out OY.out ?_
  intro w5 hb05 ho5
  have hbg5 := ho5.blk hbg2 (by omega)
  have hbo5 := ho5.blk hbo2 (by omega)
  refine hK.out _ _ ?_ (fun hHeld => ?_)
  · exact ⟨hbg5.range, (HO1.out _ _ hbo5).2.1⟩
  clear hK K
  (try simp only [Act.put, List.setIfInBounds_toArray, List.set_cons_succ, List.set_cons_zero])
  refine wpAnyH_take (i := 8) (v := ?_) rfl (by kernel_rfl) (by kernel_rfl) (by kernel_rfl) (fun _ _ _ h => h) (Or.inl ⟨by rfl, ?_⟩) (by assumption) ?_
  rotate_left 1
  · intro w hSw; (try dsimp only at hSw); simp only [List.getElem_toArray, List.getElem_cons_succ, List.getElem_cons_zero]; go_simp; try (with_reducible rfl)
  (try simp only [List.getElem_toArray, List.getElem_cons_succ, List.getElem_cons_zero, Act.put, List.setIfInBounds_toArray, List.set_cons_succ, List.set_cons_zero])
  refine wpAnyH_done (by kernel_rfl) ?_ _
  have hFb : Frm (fun i => i = q) w v2 := (FB.out.step (Frm.of_below (S := fun i => i = q) dx1) (fun i hi => .inl hi)).trans (Frm.undrew hf2)
  have hb25 := ho5.blk hb2b (by omega)
  have hR5d := (NAR5.out _ _ hRb ho5).drew
  go_wp2_with fail
  refine wp_region_held_drew (S := fun W => W.rangeAt w.heap.size 0 Y ∧ W.cell? ⟨w.heap.size, 0, none⟩ = some (.string s') ∧ W.cell? ⟨w.heap.size, 1, none⟩ = some (.int .i64 (e' : Int))) (by kernel_rfl) ?_ (fun hHeld => ?_)
  · exact K21.out _ hb05
  refine wpAnyH_take (i := 0) rfl (by kernel_rfl) (by kernel_rfl) (by kernel_rfl) (fun _ _ _ h => h) (yieldsIf_load_mid (by rfl) _ _ rfl _ _ rfl Y _ (fun w hSw => by (try dsimp only at hSw); go_split_ands; assumption) Try.underlying43 rfl IY.out) (by assumption) ?_
  (try simp only [List.getElem_toArray, List.getElem_cons_succ, List.getElem_cons_zero, Act.put, List.setIfInBounds_toArray, List.set_cons_succ, List.set_cons_zero])
  refine wpAnyH_take (i := 1) (v := ?_) rfl (by kernel_rfl) (by kernel_rfl) (by kernel_rfl) (fun _ _ _ h => h) (Or.inl ⟨by rfl, ?_⟩) (by assumption) ?_
  rotate_left 1
  · intro w hSw; (try dsimp only at hSw); simp only [List.getElem_toArray, List.getElem_cons_succ, List.getElem_cons_zero]; go_simp; try (with_reducible rfl)
  (try simp only [List.getElem_toArray, List.getElem_cons_succ, List.getElem_cons_zero, Act.put, List.setIfInBounds_toArray, List.set_cons_succ, List.set_cons_zero])
  refine wpAnyH_take (i := 2) (v := ?_) rfl (by kernel_rfl) (by kernel_rfl) (by kernel_rfl) (fun _ _ _ h => h) (Or.inl ⟨by rfl, ?_⟩) (by assumption) ?_
  rotate_left 1
  · intro w hSw; (try dsimp only at hSw); simp only [List.getElem_toArray, List.getElem_cons_succ, List.getElem_cons_zero]; go_simp; try (with_reducible rfl)
  (try simp only [List.getElem_toArray, List.getElem_cons_succ, List.getElem_cons_zero, Act.put, List.setIfInBounds_toArray, List.set_cons_succ, List.set_cons_zero])
  refine wpAnyH_take (i := 3) (v := ?_) rfl (by kernel_rfl) (by kernel_rfl) (by kernel_rfl) (fun _ _ _ h => h) (Or.inl ⟨by rfl, ?_⟩) (by assumption) ?_
  rotate_left 1
  · intro w hSw; (try dsimp only at hSw); simp only [List.getElem_toArray, List.getElem_cons_succ, List.getElem_cons_zero]; go_simp; try (with_reducible rfl)
  (try simp only [List.getElem_toArray, List.getElem_cons_succ, List.getElem_cons_zero, Act.put, List.setIfInBounds_toArray, List.set_cons_succ, List.set_cons_zero])
  refine wpAnyH_take (i := 5) (v := ?_) rfl (by kernel_rfl) (by kernel_rfl) (by kernel_rfl) (fun _ _ _ h => h) (Or.inl ⟨by rfl, ?_⟩) (by assumption) ?_
  rotate_left 1
  · intro w hSw; (try dsimp only at hSw); simp only [List.getElem_toArray, List.getElem_cons_succ, List.getElem_cons_zero]; go_simp; try (with_reducible rfl)
  (try simp only [List.getElem_toArray, List.getElem_cons_succ, List.getElem_cons_zero, Act.put, List.setIfInBounds_toArray, List.set_cons_succ, List.set_cons_zero])
  refine wpAnyH_take (i := 6) (v := ?_) rfl (by kernel_rfl) (by kernel_rfl) (by kernel_rfl) (fun _ _ _ h => h) (Or.inl ⟨by rfl, ?_⟩) (by assumption) ?_
  rotate_left 1
  · intro w hSw; (try dsimp only at hSw); simp only [List.getElem_toArray, List.getElem_cons_succ, List.getElem_cons_zero]; go_simp; try (with_reducible rfl)
  (try simp only [List.getElem_toArray, List.getElem_cons_succ, List.getElem_cons_zero, Act.put, List.setIfInBounds_toArray, List.set_cons_succ, List.set_cons_zero])
  refine wpAnyH_ready (rs := [4]) (by kernel_rfl) (by simp) ?_
  refine AllReadyH.cons rfl (fun K hK => ?_) AllReadyH.nil
  (try simp only [List.getElem_toArray, List.getElem_cons_succ, List.getElem_cons_zero])
  go_simp
  go_at_call 22; refine (err_calls _ q l' e' hR5d).mono ?_; rintro e'' x' ⟨rfl, rfl⟩
  (try (go_wp2_with fail))
  refine hK.out _ _ ?_ (fun hHeld => ?_)
  · exact K21.out _ hb05
  clear hK K
  (try simp only [Act.put, List.setIfInBounds_toArray, List.set_cons_succ, List.set_cons_zero])
  refine wpAnyH_take (i := 7) (v := ?_) rfl (by kernel_rfl) (by kernel_rfl) (by kernel_rfl) (fun _ _ _ h => h) (Or.inl ⟨by rfl, ?_⟩) (by assumption) ?_
  rotate_left 1
  · intro w hSw; (try dsimp only at hSw); simp only [List.getElem_toArray, List.getElem_cons_succ, List.getElem_cons_zero]; go_simp; try (with_reducible rfl)
  (try simp only [List.getElem_toArray, List.getElem_cons_succ, List.getElem_cons_zero, Act.put, List.setIfInBounds_toArray, List.set_cons_succ, List.set_cons_zero])
  refine wpAnyH_take (i := 8) (v := ?_) rfl (by kernel_rfl) (by kernel_rfl) (by kernel_rfl) (fun _ _ _ h => h) (Or.inl ⟨by rfl, ?_⟩) (by assumption) ?_
  rotate_left 1
  · intro w hSw; (try dsimp only at hSw); simp only [List.getElem_toArray, List.getElem_cons_succ, List.getElem_cons_zero]; go_simp; try (with_reducible rfl)
  (try simp only [List.getElem_toArray, List.getElem_cons_succ, List.getElem_cons_zero, Act.put, List.setIfInBounds_toArray, List.set_cons_succ, List.set_cons_zero])
  refine wpAnyH_take (i := 9) (v := ?_) rfl (by kernel_rfl) (by kernel_rfl) (by kernel_rfl) (fun _ _ _ h => h) (Or.inl ⟨by rfl, ?_⟩) (by assumption) ?_
  rotate_left 1
  · intro w hSw; (try dsimp only at hSw); simp only [List.getElem_toArray, List.getElem_cons_succ, List.getElem_cons_zero]; go_simp; try (with_reducible rfl)
  (try simp only [List.getElem_toArray, List.getElem_cons_succ, List.getElem_cons_zero, Act.put, List.setIfInBounds_toArray, List.set_cons_succ, List.set_cons_zero])
  refine wpAnyH_take (i := 10) (v := ?_) rfl (by kernel_rfl) (by kernel_rfl) (by kernel_rfl) (fun _ _ _ h => h) (Or.inl ⟨by rfl, ?_⟩) (by assumption) ?_
  rotate_left 1
  · intro w hSw; (try dsimp only at hSw); simp only [List.getElem_toArray, List.getElem_cons_succ, List.getElem_cons_zero]; go_simp; try (with_reducible rfl)
  (try simp only [List.getElem_toArray, List.getElem_cons_succ, List.getElem_cons_zero, Act.put, List.setIfInBounds_toArray, List.set_cons_succ, List.set_cons_zero])
  refine wpAnyH_take (i := 12) (v := ?_) rfl (by kernel_rfl) (by kernel_rfl) (by kernel_rfl) (fun _ _ _ h => h) (Or.inl ⟨by rfl, ?_⟩) (by assumption) ?_
  rotate_left 1
  · intro w hSw; (try dsimp only at hSw); simp only [List.getElem_toArray, List.getElem_cons_succ, List.getElem_cons_zero]; go_simp; try (with_reducible rfl)
  (try simp only [List.getElem_toArray, List.getElem_cons_succ, List.getElem_cons_zero, Act.put, List.setIfInBounds_toArray, List.set_cons_succ, List.set_cons_zero])
  refine wpAnyH_take (i := 13) (v := ?_) rfl (by kernel_rfl) (by kernel_rfl) (by kernel_rfl) (fun _ _ _ h => h) (Or.inl ⟨by rfl, ?_⟩) (by assumption) ?_
  rotate_left 1
  · intro w hSw; (try dsimp only at hSw); simp only [List.getElem_toArray, List.getElem_cons_succ, List.getElem_cons_zero]; go_simp; try (with_reducible rfl)
  (try simp only [List.getElem_toArray, List.getElem_cons_succ, List.getElem_cons_zero, Act.put, List.setIfInBounds_toArray, List.set_cons_succ, List.set_cons_zero])
  refine wpAnyH_take (i := 14) (v := ?_) rfl (by kernel_rfl) (by kernel_rfl) (by kernel_rfl) (fun _ _ _ h => h) (Or.inl ⟨by rfl, ?_⟩) (by assumption) ?_
  rotate_left 1
  · intro w hSw; (try dsimp only at hSw); simp only [List.getElem_toArray, List.getElem_cons_succ, List.getElem_cons_zero]; go_simp; try (with_reducible rfl)
  (try simp only [List.getElem_toArray, List.getElem_cons_succ, List.getElem_cons_zero, Act.put, List.setIfInBounds_toArray, List.set_cons_succ, List.set_cons_zero])
  refine wpAnyH_ready (rs := [11]) (by kernel_rfl) (by simp) ?_
  refine AllReadyH.cons rfl (fun K hK => ?_) AllReadyH.nil
  (try simp only [List.getElem_toArray, List.getElem_cons_succ, List.getElem_cons_zero])
  go_simp
  go_at_call 27; refine (CL.out _ hR5d).mono ?_; rintro e'' x' ⟨rfl, rfl⟩
  (try (go_wp2_with fail))
  refine hK.out _ _ ?_ (fun hHeld => ?_)
  · exact K21.out _ hb05
  clear hK K
  (try simp only [Act.put, List.setIfInBounds_toArray, List.set_cons_succ, List.set_cons_zero])
  refine wpAnyH_take (i := 15) (v := ?_) rfl (by kernel_rfl) (by kernel_rfl) (by kernel_rfl) (fun _ _ _ h => h) (Or.inl ⟨by rfl, ?_⟩) (by assumption) ?_
  rotate_left 1
  · intro w hSw; (try dsimp only at hSw); simp only [List.getElem_toArray, List.getElem_cons_succ, List.getElem_cons_zero]; go_simp; try (with_reducible rfl)
  (try simp only [List.getElem_toArray, List.getElem_cons_succ, List.getElem_cons_zero, Act.put, List.setIfInBounds_toArray, List.set_cons_succ, List.set_cons_zero])
  refine wpAnyH_take (i := 16) (v := ?_) rfl (by kernel_rfl) (by kernel_rfl) (by kernel_rfl) (fun _ _ _ h => h) (Or.inl ⟨by rfl, ?_⟩) (by assumption) ?_
  rotate_left 1
  · intro w hSw; (try dsimp only at hSw); simp only [List.getElem_toArray, List.getElem_cons_succ, List.getElem_cons_zero]; go_simp; try (with_reducible rfl)
  (try simp only [List.getElem_toArray, List.getElem_cons_succ, List.getElem_cons_zero, Act.put, List.setIfInBounds_toArray, List.set_cons_succ, List.set_cons_zero])
  refine wpAnyH_ready (rs := [17]) (by kernel_rfl) (by simp) ?_
  refine AllReadyH.cons rfl (fun K hK => ?_) AllReadyH.nil
  (try simp only [List.getElem_toArray, List.getElem_cons_succ, List.getElem_cons_zero])
  refine Eq.mpr (if_pos (by rfl)) ?_
  refine wp_store_in 43 (.tmp 6) (.tmp 108) rfl (w.heap.size + 2) zerosI Y 43 rfl rfl hb25.dr LY.out IY.out OY.out ?_
  intro w6 hb6 ho6
  refine hK.out _ _ ?_ (fun hHeld => ?_)
  · exact K21.out _ (ho6.blk hb05.dr (by omega))
  clear hK K
  (try simp only [Act.put, List.setIfInBounds_toArray, List.set_cons_succ, List.set_cons_zero])
  refine wpAnyH_take (i := 18) (v := ?_) rfl (by kernel_rfl) (by kernel_rfl) (by kernel_rfl) (fun _ _ _ h => h) (Or.inl ⟨by rfl, ?_⟩) (by assumption) ?_
  rotate_left 1
  · intro w hSw; (try dsimp only at hSw); simp only [List.getElem_toArray, List.getElem_cons_succ, List.getElem_cons_zero]; go_simp; try (with_reducible rfl)
  (try simp only [List.getElem_toArray, List.getElem_cons_succ, List.getElem_cons_zero, Act.put, List.setIfInBounds_toArray, List.set_cons_succ, List.set_cons_zero])
  refine wpAnyH_done (by kernel_rfl) ?_ _
  go_wp2_with fail
  refine bodyPost_ret (v := .tuple #[.agg Y.toArray, .bool true]) ?_ rfl ⟨rfl, NAR.out _ _ hR5d ho6, FIN.out _ _ _ hFb ho5 ho6⟩
  exact results_in Try.results20 _ _ (w.heap.size + 2) 43 _ (0, 0) _ _ (by rfl) (by rfl) hb6 Try.underlying43 rfl IY.out
set_option maxRecDepth 100000 in
set_option maxHeartbeats 4000000 in
theorem reads2_calls (w : World) (q : Nat) (l : List UInt8) (e : Nat) (o : Op4) {S : Nat → Prop} (hR : Rr w q l e S) (hS : S q) (hl : l.length ≤ 1000000) (hk : o.k % 8 % 5 = 2) (hok : o.ok w) (nn : Nat) (hnn : o.m.toNat = nn) :
    Calls Try.prog 20 #[.pointer (some ⟨q, 0, none⟩), .agg (inC l e).toArray, .agg o.cells.toArray] w fun en w' => en = .returned (.tuple #[.agg (inC (tkL l e nn) (tkE l e nn)).toArray, .bool true]) ∧ Rr w' q (tkL l e nn) (tkE l e nn) S ∧ Frm (fun i => i = q) w w' := by
  obtain ⟨l', hl'⟩ : ∃ l', l' = tkL l e nn := ⟨_, rfl⟩
  obtain ⟨e', he'⟩ : ∃ e', e' = tkE l e nn := ⟨_, rfl⟩
  rw [← hl', ← he']
  obtain ⟨X, hX⟩ : ∃ X, X = inC (l) (e) := ⟨_, rfl⟩
  have IX : Hid ((Try.prog.info? 43).map (·.size) = some X.length) := Lib.hid (by rw [hX]; exact inC_size _ _)
  have LX : Hid (zerosI.length = X.length) := Lib.hid (by rw [hX]; rfl)
  have OX : Hid (∀ v ∈ X, v.oneCell' = true) := Lib.hid (by rw [hX]; exact inC_one _ _)
  obtain ⟨Y, hY⟩ : ∃ X, X = inC (l') (e') := ⟨_, rfl⟩
  have IY : Hid ((Try.prog.info? 43).map (·.size) = some Y.length) := Lib.hid (by rw [hY]; exact inC_size _ _)
  have LY : Hid (zerosI.length = Y.length) := Lib.hid (by rw [hY]; rfl)
  have OY : Hid (∀ v ∈ Y, v.oneCell' = true) := Lib.hid (by rw [hY]; exact inC_one _ _)
  have LXY : Hid (X.length = Y.length) := Lib.hid (by rw [hX, hY]; rfl)
  obtain ⟨s', hs'⟩ : ∃ s' : ByteArray, s' = ⟨l'.toArray⟩ := ⟨_, rfl⟩
  obtain ⟨N', hN'⟩ : ∃ N', N' = l'.length := ⟨_, rfl⟩
  have hsz' : s'.size = N' := by rw [hs', hN']; exact bstr_size _
  obtain ⟨OC, hOC⟩ : ∃ OC, OC = o.cells := ⟨_, rfl⟩
  have HO1 : Hid (∀ W g, Blk W g OC 28 → W.cell? ⟨g, 0, none⟩ = some (.int .i64 o.k) ∧ W.cell? ⟨g, 1, none⟩ = some (.int .u64 (o.n : Int)) ∧ W.cell? ⟨g, 2, none⟩ = some (.int .i64 o.m)) := Lib.hid fun W g h => by rw [hOC] at h; exact ⟨h.cell 0, h.cell 1, h.cell 2⟩
  obtain ⟨U, hU⟩ : ∃ U, U = tkV l e nn := ⟨_, rfl⟩
  obtain ⟨us, hus⟩ : ∃ us : ByteArray, us = ⟨U.toArray⟩ := ⟨_, rfl⟩
  have CV : Hid (∀ (W : World) base A n c, Own W base A n c U → (convert 26 9 (.slice A n c)).run Try.prog W = .ok (.string us) W) := Lib.hid fun W base A n c h => by rw [hus]; exact conv8 W A n c U h.rd
  have hq := hR.lt
  have hb0 : Blk (((w.alloc (.cells X.toArray 43)).alloc (.cells OC.toArray 28)).alloc (.cells #[.string ⟨#[]⟩, .int .i64 0] 43)) (w.heap.size) X 43 := Blk.alloc (Blk.alloc (Blk.new w X.toArray 43) _) _
  have hb1 : Blk (((w.alloc (.cells X.toArray 43)).alloc (.cells OC.toArray 28)).alloc (.cells #[.string ⟨#[]⟩, .int .i64 0] 43)) (w.heap.size + 1) OC 28 := Blk.alloc (Blk.new' _ _ _ _ (by simp)) _
  have hb2 : Blk (((w.alloc (.cells X.toArray 43)).alloc (.cells OC.toArray 28)).alloc (.cells #[.string ⟨#[]⟩, .int .i64 0] 43)) (w.heap.size + 2) zerosI 43 := Blk.new' _ _ _ _ (by simp)
  have HB : Below w.heap.size w (((w.alloc (.cells X.toArray 43)).alloc (.cells OC.toArray 28)).alloc (.cells #[.string ⟨#[]⟩, .int .i64 0] 43)) := below_al (below2 w _ _) _
  have hs0 : (((w.alloc (.cells X.toArray 43)).alloc (.cells OC.toArray 28)).alloc (.cells #[.string ⟨#[]⟩, .int .i64 0] 43)).heap.size = w.heap.size + 3 := by simp
  obtain ⟨w0, hw0⟩ : ∃ w0, w0 = ((w.alloc (.cells X.toArray 43)).alloc (.cells OC.toArray 28)).alloc (.cells #[.string ⟨#[]⟩, .int .i64 0] 43) := ⟨_, rfl⟩
  rw [← hw0] at hb0 hb1 hb2 HB hs0
  have hR0 : Rr w0 q l e (fun i => S i ∨ w.heap.size ≤ i) := hR.wide HB
  have K21 : Hid (∀ W, Blk W (w.heap.size) Y 43 → W.rangeAt w.heap.size 0 Y ∧ W.cell? ⟨w.heap.size, 0, none⟩ = some (.string s') ∧ W.cell? ⟨w.heap.size, 1, none⟩ = some (.int .i64 (e' : Int))) := Lib.hid fun W h => by
    refine ⟨h.range, ?_, ?_⟩
    · rw [hY] at h; rw [hs']; exact h.cell 0
    · rw [hY] at h; exact h.cell 1
  have CL : Hid (∀ W, Rr W q l' e' (fun i => S i ∨ w.heap.size ≤ i) → Calls Try.prog 27 #[.pointer (some ⟨q, 0, none⟩)] W fun en w' => en = .returned (.int .i64 (N' : Int)) ∧ W = w') := Lib.hid fun W h => by rw [hN']; exact left_calls W q l' e' h
  have NAR5 : Hid (∀ v2 w5 : World, Rr v2 q l' e' (fun i => S i ∨ w.heap.size ≤ i) → Only (w.heap.size) v2 w5 → Rr w5 q l' e' (fun i => S i ∨ w.heap.size ≤ i)) := Lib.hid fun v2 w5 h1 h2 => h1.narrow (fun i hi => hi) (h2.block q (by omega)) (Frm.only h2 (.inr (Nat.le_refl _)))
  have NAR : Hid (∀ w5 w6 : World, Rr w5.drew q l' e' (fun i => S i ∨ w.heap.size ≤ i) → Only (w.heap.size + 2) w5.drew w6 → Rr w6 q l' e' S) := Lib.hid fun w5 w6 h1 h2 => h1.narrow (fun i hi => .inl hi) (h2.block q (by omega)) (Frm.only h2 (.inr (by omega)))
  have FIN : Hid (∀ v2 w5 w6 : World, Frm (fun i => i = q) w v2 → Only (w.heap.size) v2 w5 → Only (w.heap.size + 2) w5.drew w6 → Frm (fun i => i = q) w w6) := Lib.hid fun v2 w5 w6 h1 h2 h3 =>
    (h1.step (Frm.only (S := fun i => i = w.heap.size) h2 rfl) (fun i hi => .inr (by omega))).step (Frm.undrew (Frm.only (S := fun i => i = w.heap.size + 2) h3 rfl)) (fun i hi => .inr (by omega))
  have FB := Lib.hid (Frm.of_below (S := fun i => i = q) HB)
  have C1 : Hid (∀ W, Calls Try.prog 35 #[.agg X.toArray, .int .i64 o.m] W (Ret W (.tuple #[.agg Y.toArray, .string us]))) := Lib.hid fun W => by rw [hX, hY, hus, hU, hl', he']; exact dtake_in l e o.m nn hnn W
  have C2 : Hid (∀ W, Rr W q l e (fun i => S i ∨ w.heap.size ≤ i) → Calls Try.prog 26 #[.pointer (some ⟨q, 0, none⟩), .int .i64 o.m] W fun en w' => ∃ A m c, en = .returned (.slice A m c) ∧ Own w' W.heap.size A m c U ∧ Rr w' q l' e' (fun i => S i ∨ w.heap.size ≤ i) ∧ Frm (fun i => i = q) W w') := Lib.hid fun W h => by rw [hU, hl', he']; exact take_calls W q l e h o.m nn hnn (.inl hS)
  rw [← hX, ← hY, ← hOC]
  obtain ⟨a, ha⟩ : ∃ a : Nat, (a : Int) = o.k % 8 := ⟨(o.k % 8).toNat, by omega⟩
  have hand : bits .and .i64 o.k 7 = (a : Int) := by rw [and7, ha]
  have hrem1 : (a : Int).tmod 5 = 2 := by rw [Int.tmod_eq_emod_of_nonneg (by omega), ha]; exact hk
  have hrem2 : (a : Int) % 5 = 2 := by rw [ha]; exact hk
  clear hk ha
  clear hX hY hOC hs' hN' hl' he' hR HB hl hU hus
  go_enter Try.func20, Try.ntmps20
  go_upto_region 1 with fail
  rw [← hw0]
  clear hw0
  have c00 := (HO1.out _ _ hb1).1
  have c01 := (HO1.out _ _ hb1).2.1
  have c02 := (HO1.out _ _ hb1).2.2
  go_wp2_with (first
    | ((with_reducible refine at_load 43 (.tmp 4) ?_); refine wpList_load_mid rfl 43 (.tmp 4) rfl (w.heap.size) 0 rfl X _ (hb0).range Try.underlying43 rfl IX.out ?_)
    | (go_at_call 35; refine (C1.out _).mono ?_; rintro e'' v1 ⟨rfl, d1⟩)
    | ((with_reducible refine at_store 43 (.tmp 13) (.tmp 63) ?_); refine wpList_store_blk rfl 43 (.tmp 13) (.tmp 63) rfl (v1.heap.size) zerosI Y 43 rfl rfl (Blk.new v1 _ _) LY.out IY.out OY.out ?_; intro x1 hbx1 hox1; have dx1 : Below w0.heap.size w0 x1 := below_only (below_al d1 _) hox1 d1.size; have hR1 := (hR0.below dx1).drew; have hgq : ¬ v1.heap.size = q := (by have := d1.size; omega); have hgw : w.heap.size + 3 ≤ v1.heap.size := (by have := d1.size; omega)))
  refine wp_region_held_drew (S := fun W => W.rangeAt v1.heap.size 0 Y ∧ W.cell? ⟨w.heap.size + 1, 2, none⟩ = some (.int .i64 o.m)) (by kernel_rfl) ?_ (fun hHeld => ?_)
  · (first | exact ⟨hbx1.range, (HO1.out _ _ (hb1.up dx1)).2.2⟩ | exact ⟨hbg2.range, (HO1.out _ _ hbo2).2.2⟩ | exact ⟨hbg5.range, (HO1.out _ _ hbo5).2.2⟩)
  refine wpAnyH_take (i := 0) rfl (by kernel_rfl) (by kernel_rfl) (by kernel_rfl) (fun _ _ _ h => h) (yieldsIf_load_mid (by rfl) _ _ rfl _ _ rfl Y _ (fun w hSw => by (try dsimp only at hSw); go_split_ands; assumption) Try.underlying43 rfl IY.out) (by assumption) ?_
  (try simp only [List.getElem_toArray, List.getElem_cons_succ, List.getElem_cons_zero, Act.put, List.setIfInBounds_toArray, List.set_cons_succ, List.set_cons_zero])
  refine wpAnyH_take (i := 1) (v := ?_) rfl (by kernel_rfl) (by kernel_rfl) (by kernel_rfl) (fun _ _ _ h => h) (Or.inl ⟨by rfl, ?_⟩) (by assumption) ?_
  rotate_left 1
  · intro w hSw; (try dsimp only at hSw); simp only [List.getElem_toArray, List.getElem_cons_succ, List.getElem_cons_zero]; go_simp; try (with_reducible rfl)
  (try simp only [List.getElem_toArray, List.getElem_cons_succ, List.getElem_cons_zero, Act.put, List.setIfInBounds_toArray, List.set_cons_succ, List.set_cons_zero])
  refine wpAnyH_take (i := 2) (v := ?_) rfl (by kernel_rfl) (by kernel_rfl) (by kernel_rfl) (fun _ _ _ h => h) (Or.inl ⟨by rfl, ?_⟩) (by assumption) ?_
  rotate_left 1
  · intro w hSw; (try dsimp only at hSw); simp only [List.getElem_toArray, List.getElem_cons_succ, List.getElem_cons_zero]; go_simp; try (with_reducible rfl)
  (try simp only [List.getElem_toArray, List.getElem_cons_succ, List.getElem_cons_zero, Act.put, List.setIfInBounds_toArray, List.set_cons_succ, List.set_cons_zero])
  refine wpAnyH_take (i := 3) (v := ?_) rfl (by kernel_rfl) (by kernel_rfl) (by kernel_rfl) (fun _ _ _ h => h) (Or.inl ⟨by rfl, ?_⟩) (by assumption) ?_
  rotate_left 1
  · intro w hSw; (try dsimp only at hSw); simp only [List.getElem_toArray, List.getElem_cons_succ, List.getElem_cons_zero]; go_simp; try (with_reducible rfl)
  (try simp only [List.getElem_toArray, List.getElem_cons_succ, List.getElem_cons_zero, Act.put, List.setIfInBounds_toArray, List.set_cons_succ, List.set_cons_zero])
  refine wpAnyH_take (i := 6) (v := ?_) rfl (by kernel_rfl) (by kernel_rfl) (by kernel_rfl) (fun _ _ _ h => h) (Or.inl ⟨by rfl, ?_⟩) (by assumption) ?_
  rotate_left 1
  · intro w hSw; (try dsimp only at hSw); simp only [List.getElem_toArray, List.getElem_cons_succ, List.getElem_cons_zero]; go_simp; try (with_reducible rfl)
  (try simp only [List.getElem_toArray, List.getElem_cons_succ, List.getElem_cons_zero, Act.put, List.setIfInBounds_toArray, List.set_cons_succ, List.set_cons_zero])
  refine wpAnyH_ready (rs := [4]) (by kernel_rfl) (by simp) ?_
  refine AllReadyH.cons rfl (fun K hK => ?_) AllReadyH.nil
  (try simp only [List.getElem_toArray, List.getElem_cons_succ, List.getElem_cons_zero])
  go_simp
  go_at_call 26; refine (C2.out _ hR1).mono ?_; rintro e'' v2 ⟨A2, n2, c2, rfl, ho2, hRb, hf2⟩; have hbg2 := hf2.blk hbx1.dr hgq; have hbo2 := hf2.blk (hb1.up dx1).dr (by omega); have hb02 := hf2.blk (hb0.up dx1).dr (by omega); have hb2b := hf2.blk (hb2.up dx1).dr (by omega); have hcv2 := CV.out v2 _ _ _ _ ho2
  (try (go_wp2_with fail))
  refine hK.out _ _ ?_ (fun hHeld => ?_)
  · (first | exact ⟨hbx1.range, (HO1.out _ _ (hb1.up dx1)).2.2⟩ | exact ⟨hbg2.range, (HO1.out _ _ hbo2).2.2⟩ | exact ⟨hbg5.range, (HO1.out _ _ hbo5).2.2⟩)
  clear hK K
  (try simp only [Act.put, List.setIfInBounds_toArray, List.set_cons_succ, List.set_cons_zero])
  refine wpAnyH_ready (rs := [5, 8]) (by kernel_rfl) (by simp) ?_
  refine AllReadyH.cons rfl (fun K hK => ?_) ?_
  · (try simp only [List.getElem_toArray, List.getElem_cons_succ, List.getElem_cons_zero])
    go_simp
    skip
    (try (go_wp2_with fail))
    refine hK.out _ _ ?_ (fun hHeld => ?_)
    · (first | exact ⟨hbx1.range, (HO1.out _ _ (hb1.up dx1)).2.2⟩ | exact ⟨hbg2.range, (HO1.out _ _ hbo2).2.2⟩ | exact ⟨hbg5.range, (HO1.out _ _ hbo5).2.2⟩)
    clear hK K
    (try simp only [Act.put, List.setIfInBounds_toArray, List.set_cons_succ, List.set_cons_zero])
    refine wpAnyH_take (i := 7) (v := ?_) rfl (by kernel_rfl) (by kernel_rfl) (by kernel_rfl) (fun _ _ _ h => h) (Or.inl ⟨by rfl, ?_⟩) (by assumption) ?_
    rotate_left 1
    · intro w hSw; (try dsimp only at hSw); simp only [List.getElem_toArray, List.getElem_cons_succ, List.getElem_cons_zero]; go_simp; try (with_reducible rfl)
    (try simp only [List.getElem_toArray, List.getElem_cons_succ, List.getElem_cons_zero, Act.put, List.setIfInBounds_toArray, List.set_cons_succ, List.set_cons_zero])
    refine wpAnyH_ready (rs := [8]) (by kernel_rfl) (by simp) ?_
    refine AllReadyH.cons rfl (fun K hK => ?_) AllReadyH.nil
    (try simp only [List.getElem_toArray, List.getElem_cons_succ, List.getElem_cons_zero])
    refine Eq.mpr (if_pos (by rfl)) ?_
    refine wp_store_in 43 (.tmp 4) (.tmp 65) rfl (w.heap.size) X Y 43 rfl rfl hb02 LXY.out IY.out OY.out ?_
    intro w5 hb05 ho5
    have hbg5 := ho5.blk hbg2 (by omega)
    have hbo5 := ho5.blk hbo2 (by omega)
    have hcv5 := CV.out w5 _ _ _ _ (ho2.frm (S := fun i => i = w.heap.size) (Frm.only ho5 rfl) (fun g hg e => by have := (ho2.lt hg).2; have h5 := dx1.size; have h6 : x1.drew.heap.size = x1.heap.size := rfl; omega))
    refine hK.out _ _ ?_ (fun hHeld => ?_)
    · exact ⟨hbg5.range, (HO1.out _ _ hbo5).2.2⟩
    clear hK K
    (try simp only [Act.put, List.setIfInBounds_toArray, List.set_cons_succ, List.set_cons_zero])
    refine wpAnyH_take (i := 9) (v := ?_) rfl (by kernel_rfl) (by kernel_rfl) (by kernel_rfl) (fun _ _ _ h => h) (Or.inl ⟨by rfl, ?_⟩) (by assumption) ?_
    rotate_left 1
    · intro w hSw; (try dsimp only at hSw); simp only [List.getElem_toArray, List.getElem_cons_succ, List.getElem_cons_zero]; go_simp; try (with_reducible rfl)
    (try simp only [List.getElem_toArray, List.getElem_cons_succ, List.getElem_cons_zero, Act.put, List.setIfInBounds_toArray, List.set_cons_succ, List.set_cons_zero])
    refine wpAnyH_done (by kernel_rfl) ?_ _
    have hFb : Frm (fun i => i = q) w v2 := (FB.out.step (Frm.of_below (S := fun i => i = q) dx1) (fun i hi => .inl hi)).trans (Frm.undrew hf2)
    have hb25 := ho5.blk hb2b (by omega)
    have hR5d := (NAR5.out _ _ hRb ho5).drew
    go_wp2_with fail
    refine wp_region_held_drew (S := fun W => W.rangeAt w.heap.size 0 Y ∧ W.cell? ⟨w.heap.size, 0, none⟩ = some (.string s') ∧ W.cell? ⟨w.heap.size, 1, none⟩ = some (.int .i64 (e' : Int))) (by kernel_rfl) ?_ (fun hHeld => ?_)
    · exact K21.out _ hb05
    refine wpAnyH_take (i := 0) rfl (by kernel_rfl) (by kernel_rfl) (by kernel_rfl) (fun _ _ _ h => h) (yieldsIf_load_mid (by rfl) _ _ rfl _ _ rfl Y _ (fun w hSw => by (try dsimp only at hSw); go_split_ands; assumption) Try.underlying43 rfl IY.out) (by assumption) ?_
    (try simp only [List.getElem_toArray, List.getElem_cons_succ, List.getElem_cons_zero, Act.put, List.setIfInBounds_toArray, List.set_cons_succ, List.set_cons_zero])
    refine wpAnyH_take (i := 1) (v := ?_) rfl (by kernel_rfl) (by kernel_rfl) (by kernel_rfl) (fun _ _ _ h => h) (Or.inl ⟨by rfl, ?_⟩) (by assumption) ?_
    rotate_left 1
    · intro w hSw; (try dsimp only at hSw); simp only [List.getElem_toArray, List.getElem_cons_succ, List.getElem_cons_zero]; go_simp; try (with_reducible rfl)
    (try simp only [List.getElem_toArray, List.getElem_cons_succ, List.getElem_cons_zero, Act.put, List.setIfInBounds_toArray, List.set_cons_succ, List.set_cons_zero])
    refine wpAnyH_take (i := 2) (v := ?_) rfl (by kernel_rfl) (by kernel_rfl) (by kernel_rfl) (fun _ _ _ h => h) (Or.inl ⟨by rfl, ?_⟩) (by assumption) ?_
    rotate_left 1
    · intro w hSw; (try dsimp only at hSw); simp only [List.getElem_toArray, List.getElem_cons_succ, List.getElem_cons_zero]; go_simp; try (with_reducible rfl)
    (try simp only [List.getElem_toArray, List.getElem_cons_succ, List.getElem_cons_zero, Act.put, List.setIfInBounds_toArray, List.set_cons_succ, List.set_cons_zero])
    refine wpAnyH_take (i := 3) (v := ?_) rfl (by kernel_rfl) (by kernel_rfl) (by kernel_rfl) (fun _ _ _ h => h) (Or.inl ⟨by rfl, ?_⟩) (by assumption) ?_
    rotate_left 1
    · intro w hSw; (try dsimp only at hSw); simp only [List.getElem_toArray, List.getElem_cons_succ, List.getElem_cons_zero]; go_simp; try (with_reducible rfl)
    (try simp only [List.getElem_toArray, List.getElem_cons_succ, List.getElem_cons_zero, Act.put, List.setIfInBounds_toArray, List.set_cons_succ, List.set_cons_zero])
    refine wpAnyH_take (i := 5) (v := ?_) rfl (by kernel_rfl) (by kernel_rfl) (by kernel_rfl) (fun _ _ _ h => h) (Or.inl ⟨by rfl, ?_⟩) (by assumption) ?_
    rotate_left 1
    · intro w hSw; (try dsimp only at hSw); simp only [List.getElem_toArray, List.getElem_cons_succ, List.getElem_cons_zero]; go_simp; try (with_reducible rfl)
    (try simp only [List.getElem_toArray, List.getElem_cons_succ, List.getElem_cons_zero, Act.put, List.setIfInBounds_toArray, List.set_cons_succ, List.set_cons_zero])
    refine wpAnyH_take (i := 6) (v := ?_) rfl (by kernel_rfl) (by kernel_rfl) (by kernel_rfl) (fun _ _ _ h => h) (Or.inl ⟨by rfl, ?_⟩) (by assumption) ?_
    rotate_left 1
    · intro w hSw; (try dsimp only at hSw); simp only [List.getElem_toArray, List.getElem_cons_succ, List.getElem_cons_zero]; go_simp; try (with_reducible rfl)
    (try simp only [List.getElem_toArray, List.getElem_cons_succ, List.getElem_cons_zero, Act.put, List.setIfInBounds_toArray, List.set_cons_succ, List.set_cons_zero])
    refine wpAnyH_ready (rs := [4]) (by kernel_rfl) (by simp) ?_
    refine AllReadyH.cons rfl (fun K hK => ?_) AllReadyH.nil
    (try simp only [List.getElem_toArray, List.getElem_cons_succ, List.getElem_cons_zero])
    go_simp
    go_at_call 22; refine (err_calls _ q l' e' hR5d).mono ?_; rintro e'' x' ⟨rfl, rfl⟩
    (try (go_wp2_with fail))
    refine hK.out _ _ ?_ (fun hHeld => ?_)
    · exact K21.out _ hb05
    clear hK K
    (try simp only [Act.put, List.setIfInBounds_toArray, List.set_cons_succ, List.set_cons_zero])
    refine wpAnyH_take (i := 7) (v := ?_) rfl (by kernel_rfl) (by kernel_rfl) (by kernel_rfl) (fun _ _ _ h => h) (Or.inl ⟨by rfl, ?_⟩) (by assumption) ?_
    rotate_left 1
    · intro w hSw; (try dsimp only at hSw); simp only [List.getElem_toArray, List.getElem_cons_succ, List.getElem_cons_zero]; go_simp; try (with_reducible rfl)
    (try simp only [List.getElem_toArray, List.getElem_cons_succ, List.getElem_cons_zero, Act.put, List.setIfInBounds_toArray, List.set_cons_succ, List.set_cons_zero])
    refine wpAnyH_take (i := 8) (v := ?_) rfl (by kernel_rfl) (by kernel_rfl) (by kernel_rfl) (fun _ _ _ h => h) (Or.inl ⟨by rfl, ?_⟩) (by assumption) ?_
    rotate_left 1
    · intro w hSw; (try dsimp only at hSw); simp only [List.getElem_toArray, List.getElem_cons_succ, List.getElem_cons_zero]; go_simp; try (with_reducible rfl)
    (try simp only [List.getElem_toArray, List.getElem_cons_succ, List.getElem_cons_zero, Act.put, List.setIfInBounds_toArray, List.set_cons_succ, List.set_cons_zero])
    refine wpAnyH_take (i := 9) (v := ?_) rfl (by kernel_rfl) (by kernel_rfl) (by kernel_rfl) (fun _ _ _ h => h) (Or.inl ⟨by rfl, ?_⟩) (by assumption) ?_
    rotate_left 1
    · intro w hSw; (try dsimp only at hSw); simp only [List.getElem_toArray, List.getElem_cons_succ, List.getElem_cons_zero]; go_simp; try (with_reducible rfl)
    (try simp only [List.getElem_toArray, List.getElem_cons_succ, List.getElem_cons_zero, Act.put, List.setIfInBounds_toArray, List.set_cons_succ, List.set_cons_zero])
    refine wpAnyH_take (i := 10) (v := ?_) rfl (by kernel_rfl) (by kernel_rfl) (by kernel_rfl) (fun _ _ _ h => h) (Or.inl ⟨by rfl, ?_⟩) (by assumption) ?_
    rotate_left 1
    · intro w hSw; (try dsimp only at hSw); simp only [List.getElem_toArray, List.getElem_cons_succ, List.getElem_cons_zero]; go_simp; try (with_reducible rfl)
    (try simp only [List.getElem_toArray, List.getElem_cons_succ, List.getElem_cons_zero, Act.put, List.setIfInBounds_toArray, List.set_cons_succ, List.set_cons_zero])
    refine wpAnyH_take (i := 12) (v := ?_) rfl (by kernel_rfl) (by kernel_rfl) (by kernel_rfl) (fun _ _ _ h => h) (Or.inl ⟨by rfl, ?_⟩) (by assumption) ?_
    rotate_left 1
    · intro w hSw; (try dsimp only at hSw); simp only [List.getElem_toArray, List.getElem_cons_succ, List.getElem_cons_zero]; go_simp; try (with_reducible rfl)
    (try simp only [List.getElem_toArray, List.getElem_cons_succ, List.getElem_cons_zero, Act.put, List.setIfInBounds_toArray, List.set_cons_succ, List.set_cons_zero])
    refine wpAnyH_take (i := 13) (v := ?_) rfl (by kernel_rfl) (by kernel_rfl) (by kernel_rfl) (fun _ _ _ h => h) (Or.inl ⟨by rfl, ?_⟩) (by assumption) ?_
    rotate_left 1
    · intro w hSw; (try dsimp only at hSw); simp only [List.getElem_toArray, List.getElem_cons_succ, List.getElem_cons_zero]; go_simp; try (with_reducible rfl)
    (try simp only [List.getElem_toArray, List.getElem_cons_succ, List.getElem_cons_zero, Act.put, List.setIfInBounds_toArray, List.set_cons_succ, List.set_cons_zero])
    refine wpAnyH_take (i := 14) (v := ?_) rfl (by kernel_rfl) (by kernel_rfl) (by kernel_rfl) (fun _ _ _ h => h) (Or.inl ⟨by rfl, ?_⟩) (by assumption) ?_
    rotate_left 1
    · intro w hSw; (try dsimp only at hSw); simp only [List.getElem_toArray, List.getElem_cons_succ, List.getElem_cons_zero]; go_simp; try (with_reducible rfl)
    (try simp only [List.getElem_toArray, List.getElem_cons_succ, List.getElem_cons_zero, Act.put, List.setIfInBounds_toArray, List.set_cons_succ, List.set_cons_zero])
    refine wpAnyH_ready (rs := [11]) (by kernel_rfl) (by simp) ?_
    refine AllReadyH.cons rfl (fun K hK => ?_) AllReadyH.nil
    (try simp only [List.getElem_toArray, List.getElem_cons_succ, List.getElem_cons_zero])
    go_simp
    go_at_call 27; refine (CL.out _ hR5d).mono ?_; rintro e'' x' ⟨rfl, rfl⟩
    (try (go_wp2_with fail))
    refine hK.out _ _ ?_ (fun hHeld => ?_)
    · exact K21.out _ hb05
    clear hK K
    (try simp only [Act.put, List.setIfInBounds_toArray, List.set_cons_succ, List.set_cons_zero])
    refine wpAnyH_take (i := 15) (v := ?_) rfl (by kernel_rfl) (by kernel_rfl) (by kernel_rfl) (fun _ _ _ h => h) (Or.inl ⟨by rfl, ?_⟩) (by assumption) ?_
    rotate_left 1
    · intro w hSw; (try dsimp only at hSw); simp only [List.getElem_toArray, List.getElem_cons_succ, List.getElem_cons_zero]; go_simp; try (with_reducible rfl)
    (try simp only [List.getElem_toArray, List.getElem_cons_succ, List.getElem_cons_zero, Act.put, List.setIfInBounds_toArray, List.set_cons_succ, List.set_cons_zero])
    refine wpAnyH_take (i := 16) (v := ?_) rfl (by kernel_rfl) (by kernel_rfl) (by kernel_rfl) (fun _ _ _ h => h) (Or.inl ⟨by rfl, ?_⟩) (by assumption) ?_
    rotate_left 1
    · intro w hSw; (try dsimp only at hSw); simp only [List.getElem_toArray, List.getElem_cons_succ, List.getElem_cons_zero]; go_simp; try (with_reducible rfl)
    (try simp only [List.getElem_toArray, List.getElem_cons_succ, List.getElem_cons_zero, Act.put, List.setIfInBounds_toArray, List.set_cons_succ, List.set_cons_zero])
    refine wpAnyH_ready (rs := [17]) (by kernel_rfl) (by simp) ?_
    refine AllReadyH.cons rfl (fun K hK => ?_) AllReadyH.nil
    (try simp only [List.getElem_toArray, List.getElem_cons_succ, List.getElem_cons_zero])
    refine Eq.mpr (if_pos (by rfl)) ?_
    refine wp_store_in 43 (.tmp 6) (.tmp 108) rfl (w.heap.size + 2) zerosI Y 43 rfl rfl hb25.dr LY.out IY.out OY.out ?_
    intro w6 hb6 ho6
    refine hK.out _ _ ?_ (fun hHeld => ?_)
    · exact K21.out _ (ho6.blk hb05.dr (by omega))
    clear hK K
    (try simp only [Act.put, List.setIfInBounds_toArray, List.set_cons_succ, List.set_cons_zero])
    refine wpAnyH_take (i := 18) (v := ?_) rfl (by kernel_rfl) (by kernel_rfl) (by kernel_rfl) (fun _ _ _ h => h) (Or.inl ⟨by rfl, ?_⟩) (by assumption) ?_
    rotate_left 1
    · intro w hSw; (try dsimp only at hSw); simp only [List.getElem_toArray, List.getElem_cons_succ, List.getElem_cons_zero]; go_simp; try (with_reducible rfl)
    (try simp only [List.getElem_toArray, List.getElem_cons_succ, List.getElem_cons_zero, Act.put, List.setIfInBounds_toArray, List.set_cons_succ, List.set_cons_zero])
    refine wpAnyH_done (by kernel_rfl) ?_ _
    go_wp2_with fail
    refine bodyPost_ret (v := .tuple #[.agg Y.toArray, .bool true]) ?_ rfl ⟨rfl, NAR.out _ _ hR5d ho6, FIN.out _ _ _ hFb ho5 ho6⟩
    exact results_in Try.results20 _ _ (w.heap.size + 2) 43 _ (0, 0) _ _ (by rfl) (by rfl) hb6 Try.underlying43 rfl IY.out
  refine AllReadyH.cons rfl (fun K hK => ?_) AllReadyH.nil
  (try simp only [List.getElem_toArray, List.getElem_cons_succ, List.getElem_cons_zero])
  refine Eq.mpr (if_pos (by rfl)) ?_
  refine wp_store_in 43 (.tmp 4) (.tmp 65) rfl (w.heap.size) X Y 43 rfl rfl hb02 LXY.out IY.out OY.out ?_
  intro w5 hb05 ho5
  have hbg5 := ho5.blk hbg2 (by omega)
  have hbo5 := ho5.blk hbo2 (by omega)
  have hcv5 := CV.out w5 _ _ _ _ (ho2.frm (S := fun i => i = w.heap.size) (Frm.only ho5 rfl) (fun g hg e => by have := (ho2.lt hg).2; have h5 := dx1.size; have h6 : x1.drew.heap.size = x1.heap.size := rfl; omega))
  refine hK.out _ _ ?_ (fun hHeld => ?_)
  · exact ⟨hbg5.range, (HO1.out _ _ hbo5).2.2⟩
  clear hK K
  (try simp only [Act.put, List.setIfInBounds_toArray, List.set_cons_succ, List.set_cons_zero])
  refine wpAnyH_ready (rs := [5]) (by kernel_rfl) (by simp) ?_
  refine AllReadyH.cons rfl (fun K hK => ?_) AllReadyH.nil
  (try simp only [List.getElem_toArray, List.getElem_cons_succ, List.getElem_cons_zero])
  go_simp
  skip
  (try (go_wp2_with fail))
  refine hK.out _ _ ?_ (fun hHeld => ?_)
  · (first | exact ⟨hbx1.range, (HO1.out _ _ (hb1.up dx1)).2.2⟩ | exact ⟨hbg2.range, (HO1.out _ _ hbo2).2.2⟩ | exact ⟨hbg5.range, (HO1.out _ _ hbo5).2.2⟩)
  clear hK K
  (try simp only [Act.put, List.setIfInBounds_toArray, List.set_cons_succ, List.set_cons_zero])
  refine wpAnyH_take (i := 7) (v := ?_) rfl (by kernel_rfl) (by kernel_rfl) (by kernel_rfl) (fun _ _ _ h => h) (Or.inl ⟨by rfl, ?_⟩) (by assumption) ?_
  rotate_left 1
  · intro w hSw; (try dsimp only at hSw); simp only [List.getElem_toArray, List.getElem_cons_succ, List.getElem_cons_zero]; go_simp; try (with_reducible rfl)
  (try simp only [List.getElem_toArray, List.getElem_cons_succ, List.getElem_cons_zero, Act.put, List.setIfInBounds_toArray, List.set_cons_succ, List.set_cons_zero])
  refine wpAnyH_take (i := 9) (v := ?_) rfl (by kernel_rfl) (by kernel_rfl) (by kernel_rfl) (fun _ _ _ h => h) (Or.inl ⟨by rfl, ?_⟩) (by assumption) ?_
  rotate_left 1
  · intro w hSw; (try dsimp only at hSw); simp only [List.getElem_toArray, List.getElem_cons_succ, List.getElem_cons_zero]; go_simp; try (with_reducible rfl)
  (try simp only [List.getElem_toArray, List.getElem_cons_succ, List.getElem_cons_zero, Act.put, List.setIfInBounds_toArray, List.set_cons_succ, List.set_cons_zero])
  refine wpAnyH_done (by kernel_rfl) ?_ _
  have hFb : Frm (fun i => i = q) w v2 := (FB.out.step (Frm.of_below (S := fun i => i = q) dx1) (fun i hi => .inl hi)).trans (Frm.undrew hf2)
  have hb25 := ho5.blk hb2b (by omega)
  have hR5d := (NAR5.out _ _ hRb ho5).drew
  go_wp2_with fail
  refine wp_region_held_drew (S := fun W => W.rangeAt w.heap.size 0 Y ∧ W.cell? ⟨w.heap.size, 0, none⟩ = some (.string s') ∧ W.cell? ⟨w.heap.size, 1, none⟩ = some (.int .i64 (e' : Int))) (by kernel_rfl) ?_ (fun hHeld => ?_)
  · exact K21.out _ hb05
  refine wpAnyH_take (i := 0) rfl (by kernel_rfl) (by kernel_rfl) (by kernel_rfl) (fun _ _ _ h => h) (yieldsIf_load_mid (by rfl) _ _ rfl _ _ rfl Y _ (fun w hSw => by (try dsimp only at hSw); go_split_ands; assumption) Try.underlying43 rfl IY.out) (by assumption) ?_
  (try simp only [List.getElem_toArray, List.getElem_cons_succ, List.getElem_cons_zero, Act.put, List.setIfInBounds_toArray, List.set_cons_succ, List.set_cons_zero])
  refine wpAnyH_take (i := 1) (v := ?_) rfl (by kernel_rfl) (by kernel_rfl) (by kernel_rfl) (fun _ _ _ h => h) (Or.inl ⟨by rfl, ?_⟩) (by assumption) ?_
  rotate_left 1
  · intro w hSw; (try dsimp only at hSw); simp only [List.getElem_toArray, List.getElem_cons_succ, List.getElem_cons_zero]; go_simp; try (with_reducible rfl)
  (try simp only [List.getElem_toArray, List.getElem_cons_succ, List.getElem_cons_zero, Act.put, List.setIfInBounds_toArray, List.set_cons_succ, List.set_cons_zero])
  refine wpAnyH_take (i := 2) (v := ?_) rfl (by kernel_rfl) (by kernel_rfl) (by kernel_rfl) (fun _ _ _ h => h) (Or.inl ⟨by rfl, ?_⟩) (by assumption) ?_
  rotate_left 1
  · intro w hSw; (try dsimp only at hSw); simp only [List.getElem_toArray, List.getElem_cons_succ, List.getElem_cons_zero]; go_simp; try (with_reducible rfl)
  (try simp only [List.getElem_toArray, List.getElem_cons_succ, List.getElem_cons_zero, Act.put, List.setIfInBounds_toArray, List.set_cons_succ, List.set_cons_zero])
  refine wpAnyH_take (i := 3) (v := ?_) rfl (by kernel_rfl) (by kernel_rfl) (by kernel_rfl) (fun _ _ _ h => h) (Or.inl ⟨by rfl, ?_⟩) (by assumption) ?_
  rotate_left 1
  · intro w hSw; (try dsimp only at hSw); simp only [List.getElem_toArray, List.getElem_cons_succ, List.getElem_cons_zero]; go_simp; try (with_reducible rfl)
  (try simp only [List.getElem_toArray, List.getElem_cons_succ, List.getElem_cons_zero, Act.put, List.setIfInBounds_toArray, List.set_cons_succ, List.set_cons_zero])
  refine wpAnyH_take (i := 5) (v := ?_) rfl (by kernel_rfl) (by kernel_rfl) (by kernel_rfl) (fun _ _ _ h => h) (Or.inl ⟨by rfl, ?_⟩) (by assumption) ?_
  rotate_left 1
  · intro w hSw; (try dsimp only at hSw); simp only [List.getElem_toArray, List.getElem_cons_succ, List.getElem_cons_zero]; go_simp; try (with_reducible rfl)
  (try simp only [List.getElem_toArray, List.getElem_cons_succ, List.getElem_cons_zero, Act.put, List.setIfInBounds_toArray, List.set_cons_succ, List.set_cons_zero])
  refine wpAnyH_take (i := 6) (v := ?_) rfl (by kernel_rfl) (by kernel_rfl) (by kernel_rfl) (fun _ _ _ h => h) (Or.inl ⟨by rfl, ?_⟩) (by assumption) ?_
  rotate_left 1
  · intro w hSw; (try dsimp only at hSw); simp only [List.getElem_toArray, List.getElem_cons_succ, List.getElem_cons_zero]; go_simp; try (with_reducible rfl)
  (try simp only [List.getElem_toArray, List.getElem_cons_succ, List.getElem_cons_zero, Act.put, List.setIfInBounds_toArray, List.set_cons_succ, List.set_cons_zero])
  refine wpAnyH_ready (rs := [4]) (by kernel_rfl) (by simp) ?_
  refine AllReadyH.cons rfl (fun K hK => ?_) AllReadyH.nil
  (try simp only [List.getElem_toArray, List.getElem_cons_succ, List.getElem_cons_zero])
  go_simp
  go_at_call 22; refine (err_calls _ q l' e' hR5d).mono ?_; rintro e'' x' ⟨rfl, rfl⟩
  (try (go_wp2_with fail))
  refine hK.out _ _ ?_ (fun hHeld => ?_)
  · exact K21.out _ hb05
  clear hK K
  (try simp only [Act.put, List.setIfInBounds_toArray, List.set_cons_succ, List.set_cons_zero])
  refine wpAnyH_take (i := 7) (v := ?_) rfl (by kernel_rfl) (by kernel_rfl) (by kernel_rfl) (fun _ _ _ h => h) (Or.inl ⟨by rfl, ?_⟩) (by assumption) ?_
  rotate_left 1
  · intro w hSw; (try dsimp only at hSw); simp only [List.getElem_toArray, List.getElem_cons_succ, List.getElem_cons_zero]; go_simp; try (with_reducible rfl)
  (try simp only [List.getElem_toArray, List.getElem_cons_succ, List.getElem_cons_zero, Act.put, List.setIfInBounds_toArray, List.set_cons_succ, List.set_cons_zero])
  refine wpAnyH_take (i := 8) (v := ?_) rfl (by kernel_rfl) (by kernel_rfl) (by kernel_rfl) (fun _ _ _ h => h) (Or.inl ⟨by rfl, ?_⟩) (by assumption) ?_
  rotate_left 1
  · intro w hSw; (try dsimp only at hSw); simp only [List.getElem_toArray, List.getElem_cons_succ, List.getElem_cons_zero]; go_simp; try (with_reducible rfl)
  (try simp only [List.getElem_toArray, List.getElem_cons_succ, List.getElem_cons_zero, Act.put, List.setIfInBounds_toArray, List.set_cons_succ, List.set_cons_zero])
  refine wpAnyH_take (i := 9) (v := ?_) rfl (by kernel_rfl) (by kernel_rfl) (by kernel_rfl) (fun _ _ _ h => h) (Or.inl ⟨by rfl, ?_⟩) (by assumption) ?_
  rotate_left 1
  · intro w hSw; (try dsimp only at hSw); simp only [List.getElem_toArray, List.getElem_cons_succ, List.getElem_cons_zero]; go_simp; try (with_reducible rfl)
  (try simp only [List.getElem_toArray, List.getElem_cons_succ, List.getElem_cons_zero, Act.put, List.setIfInBounds_toArray, List.set_cons_succ, List.set_cons_zero])
  refine wpAnyH_take (i := 10) (v := ?_) rfl (by kernel_rfl) (by kernel_rfl) (by kernel_rfl) (fun _ _ _ h => h) (Or.inl ⟨by rfl, ?_⟩) (by assumption) ?_
  rotate_left 1
  · intro w hSw; (try dsimp only at hSw); simp only [List.getElem_toArray, List.getElem_cons_succ, List.getElem_cons_zero]; go_simp; try (with_reducible rfl)
  (try simp only [List.getElem_toArray, List.getElem_cons_succ, List.getElem_cons_zero, Act.put, List.setIfInBounds_toArray, List.set_cons_succ, List.set_cons_zero])
  refine wpAnyH_take (i := 12) (v := ?_) rfl (by kernel_rfl) (by kernel_rfl) (by kernel_rfl) (fun _ _ _ h => h) (Or.inl ⟨by rfl, ?_⟩) (by assumption) ?_
  rotate_left 1
  · intro w hSw; (try dsimp only at hSw); simp only [List.getElem_toArray, List.getElem_cons_succ, List.getElem_cons_zero]; go_simp; try (with_reducible rfl)
  (try simp only [List.getElem_toArray, List.getElem_cons_succ, List.getElem_cons_zero, Act.put, List.setIfInBounds_toArray, List.set_cons_succ, List.set_cons_zero])
  refine wpAnyH_take (i := 13) (v := ?_) rfl (by kernel_rfl) (by kernel_rfl) (by kernel_rfl) (fun _ _ _ h => h) (Or.inl ⟨by rfl, ?_⟩) (by assumption) ?_
  rotate_left 1
  · intro w hSw; (try dsimp only at hSw); simp only [List.getElem_toArray, List.getElem_cons_succ, List.getElem_cons_zero]; go_simp; try (with_reducible rfl)
  (try simp only [List.getElem_toArray, List.getElem_cons_succ, List.getElem_cons_zero, Act.put, List.setIfInBounds_toArray, List.set_cons_succ, List.set_cons_zero])
  refine wpAnyH_take (i := 14) (v := ?_) rfl (by kernel_rfl) (by kernel_rfl) (by kernel_rfl) (fun _ _ _ h => h) (Or.inl ⟨by rfl, ?_⟩) (by assumption) ?_
  rotate_left 1
  · intro w hSw; (try dsimp only at hSw); simp only [List.getElem_toArray, List.getElem_cons_succ, List.getElem_cons_zero]; go_simp; try (with_reducible rfl)
  (try simp only [List.getElem_toArray, List.getElem_cons_succ, List.getElem_cons_zero, Act.put, List.setIfInBounds_toArray, List.set_cons_succ, List.set_cons_zero])
  refine wpAnyH_ready (rs := [11]) (by kernel_rfl) (by simp) ?_
  refine AllReadyH.cons rfl (fun K hK => ?_) AllReadyH.nil
  (try simp only [List.getElem_toArray, List.getElem_cons_succ, List.getElem_cons_zero])
  go_simp
  go_at_call 27; refine (CL.out _ hR5d).mono ?_; rintro e'' x' ⟨rfl, rfl⟩
  (try (go_wp2_with fail))
  refine hK.out _ _ ?_ (fun hHeld => ?_)
  · exact K21.out _ hb05
  clear hK K
  (try simp only [Act.put, List.setIfInBounds_toArray, List.set_cons_succ, List.set_cons_zero])
  refine wpAnyH_take (i := 15) (v := ?_) rfl (by kernel_rfl) (by kernel_rfl) (by kernel_rfl) (fun _ _ _ h => h) (Or.inl ⟨by rfl, ?_⟩) (by assumption) ?_
  rotate_left 1
  · intro w hSw; (try dsimp only at hSw); simp only [List.getElem_toArray, List.getElem_cons_succ, List.getElem_cons_zero]; go_simp; try (with_reducible rfl)
  (try simp only [List.getElem_toArray, List.getElem_cons_succ, List.getElem_cons_zero, Act.put, List.setIfInBounds_toArray, List.set_cons_succ, List.set_cons_zero])
  refine wpAnyH_take (i := 16) (v := ?_) rfl (by kernel_rfl) (by kernel_rfl) (by kernel_rfl) (fun _ _ _ h => h) (Or.inl ⟨by rfl, ?_⟩) (by assumption) ?_
  rotate_left 1
  · intro w hSw; (try dsimp only at hSw); simp only [List.getElem_toArray, List.getElem_cons_succ, List.getElem_cons_zero]; go_simp; try (with_reducible rfl)
  (try simp only [List.getElem_toArray, List.getElem_cons_succ, List.getElem_cons_zero, Act.put, List.setIfInBounds_toArray, List.set_cons_succ, List.set_cons_zero])
  refine wpAnyH_ready (rs := [17]) (by kernel_rfl) (by simp) ?_
  refine AllReadyH.cons rfl (fun K hK => ?_) AllReadyH.nil
  (try simp only [List.getElem_toArray, List.getElem_cons_succ, List.getElem_cons_zero])
  refine Eq.mpr (if_pos (by rfl)) ?_
  refine wp_store_in 43 (.tmp 6) (.tmp 108) rfl (w.heap.size + 2) zerosI Y 43 rfl rfl hb25.dr LY.out IY.out OY.out ?_
  intro w6 hb6 ho6
  refine hK.out _ _ ?_ (fun hHeld => ?_)
  · exact K21.out _ (ho6.blk hb05.dr (by omega))
  clear hK K
  (try simp only [Act.put, List.setIfInBounds_toArray, List.set_cons_succ, List.set_cons_zero])
  refine wpAnyH_take (i := 18) (v := ?_) rfl (by kernel_rfl) (by kernel_rfl) (by kernel_rfl) (fun _ _ _ h => h) (Or.inl ⟨by rfl, ?_⟩) (by assumption) ?_
  rotate_left 1
  · intro w hSw; (try dsimp only at hSw); simp only [List.getElem_toArray, List.getElem_cons_succ, List.getElem_cons_zero]; go_simp; try (with_reducible rfl)
  (try simp only [List.getElem_toArray, List.getElem_cons_succ, List.getElem_cons_zero, Act.put, List.setIfInBounds_toArray, List.set_cons_succ, List.set_cons_zero])
  refine wpAnyH_done (by kernel_rfl) ?_ _
  go_wp2_with fail
  refine bodyPost_ret (v := .tuple #[.agg Y.toArray, .bool true]) ?_ rfl ⟨rfl, NAR.out _ _ hR5d ho6, FIN.out _ _ _ hFb ho5 ho6⟩
  exact results_in Try.results20 _ _ (w.heap.size + 2) 43 _ (0, 0) _ _ (by rfl) (by rfl) hb6 Try.underlying43 rfl IY.out
set_option maxRecDepth 100000 in
set_option maxHeartbeats 4000000 in
theorem reads3_calls (w : World) (q : Nat) (l : List UInt8) (e : Nat) (o : Op4) {S : Nat → Prop} (hR : Rr w q l e S) (hS : S q) (hl : l.length ≤ 1000000) (hk : o.k % 8 % 5 = 3) (hok : o.ok w) (nn : Nat) (hnn : o.m.toNat = nn) :
    Calls Try.prog 20 #[.pointer (some ⟨q, 0, none⟩), .agg (inC l e).toArray, .agg o.cells.toArray] w fun en w' => en = .returned (.tuple #[.agg (inC (txL l e nn) (txE l e nn)).toArray, .bool true]) ∧ Rr w' q (txL l e nn) (txE l e nn) S ∧ Frm (fun i => i = q) w w' := by
  obtain ⟨l', hl'⟩ : ∃ l', l' = txL l e nn := ⟨_, rfl⟩
  obtain ⟨e', he'⟩ : ∃ e', e' = txE l e nn := ⟨_, rfl⟩
  rw [← hl', ← he']
  obtain ⟨X, hX⟩ : ∃ X, X = inC (l) (e) := ⟨_, rfl⟩
  have IX : Hid ((Try.prog.info? 43).map (·.size) = some X.length) := Lib.hid (by rw [hX]; exact inC_size _ _)
  have LX : Hid (zerosI.length = X.length) := Lib.hid (by rw [hX]; rfl)
  have OX : Hid (∀ v ∈ X, v.oneCell' = true) := Lib.hid (by rw [hX]; exact inC_one _ _)
  obtain ⟨Y, hY⟩ : ∃ X, X = inC (l') (e') := ⟨_, rfl⟩
  have IY : Hid ((Try.prog.info? 43).map (·.size) = some Y.length) := Lib.hid (by rw [hY]; exact inC_size _ _)
  have LY : Hid (zerosI.length = Y.length) := Lib.hid (by rw [hY]; rfl)
  have OY : Hid (∀ v ∈ Y, v.oneCell' = true) := Lib.hid (by rw [hY]; exact inC_one _ _)
  have LXY : Hid (X.length = Y.length) := Lib.hid (by rw [hX, hY]; rfl)
  obtain ⟨s', hs'⟩ : ∃ s' : ByteArray, s' = ⟨l'.toArray⟩ := ⟨_, rfl⟩
  obtain ⟨N', hN'⟩ : ∃ N', N' = l'.length := ⟨_, rfl⟩
  have hsz' : s'.size = N' := by rw [hs', hN']; exact bstr_size _
  obtain ⟨OC, hOC⟩ : ∃ OC, OC = o.cells := ⟨_, rfl⟩
  have HO1 : Hid (∀ W g, Blk W g OC 28 → W.cell? ⟨g, 0, none⟩ = some (.int .i64 o.k) ∧ W.cell? ⟨g, 1, none⟩ = some (.int .u64 (o.n : Int)) ∧ W.cell? ⟨g, 2, none⟩ = some (.int .i64 o.m)) := Lib.hid fun W g h => by rw [hOC] at h; exact ⟨h.cell 0, h.cell 1, h.cell 2⟩
  obtain ⟨U, hU⟩ : ∃ U, U = txV l e nn := ⟨_, rfl⟩
  obtain ⟨us, hus⟩ : ∃ us : ByteArray, us = ⟨U.toArray⟩ := ⟨_, rfl⟩
  have CV : Hid (∀ (W : World) base A n c, Own W base A n c U → (convert 26 9 (.slice A n c)).run Try.prog W = .ok (.string us) W) := Lib.hid fun W base A n c h => by rw [hus]; exact conv8 W A n c U h.rd
  have hq := hR.lt
  have hb0 : Blk (((w.alloc (.cells X.toArray 43)).alloc (.cells OC.toArray 28)).alloc (.cells #[.string ⟨#[]⟩, .int .i64 0] 43)) (w.heap.size) X 43 := Blk.alloc (Blk.alloc (Blk.new w X.toArray 43) _) _
  have hb1 : Blk (((w.alloc (.cells X.toArray 43)).alloc (.cells OC.toArray 28)).alloc (.cells #[.string ⟨#[]⟩, .int .i64 0] 43)) (w.heap.size + 1) OC 28 := Blk.alloc (Blk.new' _ _ _ _ (by simp)) _
  have hb2 : Blk (((w.alloc (.cells X.toArray 43)).alloc (.cells OC.toArray 28)).alloc (.cells #[.string ⟨#[]⟩, .int .i64 0] 43)) (w.heap.size + 2) zerosI 43 := Blk.new' _ _ _ _ (by simp)
  have HB : Below w.heap.size w (((w.alloc (.cells X.toArray 43)).alloc (.cells OC.toArray 28)).alloc (.cells #[.string ⟨#[]⟩, .int .i64 0] 43)) := below_al (below2 w _ _) _
  have hs0 : (((w.alloc (.cells X.toArray 43)).alloc (.cells OC.toArray 28)).alloc (.cells #[.string ⟨#[]⟩, .int .i64 0] 43)).heap.size = w.heap.size + 3 := by simp
  obtain ⟨w0, hw0⟩ : ∃ w0, w0 = ((w.alloc (.cells X.toArray 43)).alloc (.cells OC.toArray 28)).alloc (.cells #[.string ⟨#[]⟩, .int .i64 0] 43) := ⟨_, rfl⟩
  rw [← hw0] at hb0 hb1 hb2 HB hs0
  have hR0 : Rr w0 q l e (fun i => S i ∨ w.heap.size ≤ i) := hR.wide HB
  have K21 : Hid (∀ W, Blk W (w.heap.size) Y 43 → W.rangeAt w.heap.size 0 Y ∧ W.cell? ⟨w.heap.size, 0, none⟩ = some (.string s') ∧ W.cell? ⟨w.heap.size, 1, none⟩ = some (.int .i64 (e' : Int))) := Lib.hid fun W h => by
    refine ⟨h.range, ?_, ?_⟩
    · rw [hY] at h; rw [hs']; exact h.cell 0
    · rw [hY] at h; exact h.cell 1
  have CL : Hid (∀ W, Rr W q l' e' (fun i => S i ∨ w.heap.size ≤ i) → Calls Try.prog 27 #[.pointer (some ⟨q, 0, none⟩)] W fun en w' => en = .returned (.int .i64 (N' : Int)) ∧ W = w') := Lib.hid fun W h => by rw [hN']; exact left_calls W q l' e' h
  have NAR5 : Hid (∀ v2 w5 : World, Rr v2 q l' e' (fun i => S i ∨ w.heap.size ≤ i) → Only (w.heap.size) v2 w5 → Rr w5 q l' e' (fun i => S i ∨ w.heap.size ≤ i)) := Lib.hid fun v2 w5 h1 h2 => h1.narrow (fun i hi => hi) (h2.block q (by omega)) (Frm.only h2 (.inr (Nat.le_refl _)))
  have NAR : Hid (∀ w5 w6 : World, Rr w5.drew q l' e' (fun i => S i ∨ w.heap.size ≤ i) → Only (w.heap.size + 2) w5.drew w6 → Rr w6 q l' e' S) := Lib.hid fun w5 w6 h1 h2 => h1.narrow (fun i hi => .inl hi) (h2.block q (by omega)) (Frm.only h2 (.inr (by omega)))
  have FIN : Hid (∀ v2 w5 w6 : World, Frm (fun i => i = q) w v2 → Only (w.heap.size) v2 w5 → Only (w.heap.size + 2) w5.drew w6 → Frm (fun i => i = q) w w6) := Lib.hid fun v2 w5 w6 h1 h2 h3 =>
    (h1.step (Frm.only (S := fun i => i = w.heap.size) h2 rfl) (fun i hi => .inr (by omega))).step (Frm.undrew (Frm.only (S := fun i => i = w.heap.size + 2) h3 rfl)) (fun i hi => .inr (by omega))
  have FB := Lib.hid (Frm.of_below (S := fun i => i = q) HB)
  have C1 : Hid (∀ W, Calls Try.prog 36 #[.agg X.toArray, .int .i64 o.m] W (Ret W (.tuple #[.agg Y.toArray, .string us]))) := Lib.hid fun W => by rw [hX, hY, hus, hU, hl', he']; exact dwords_calls l e o.m nn hnn hok.m1 hl W
  have C2 : Hid (∀ W, Rr W q l e (fun i => S i ∨ w.heap.size ≤ i) → Calls Try.prog 24 #[.pointer (some ⟨q, 0, none⟩), .int .i64 o.m] W fun en w' => ∃ A m c, en = .returned (.slice A m c) ∧ Own w' W.heap.size A m c U ∧ Rr w' q l' e' (fun i => S i ∨ w.heap.size ≤ i) ∧ Frm (fun i => i = q) W w') := Lib.hid fun W h => by rw [hU, hl', he']; exact rtext_calls W q l e h o.m nn hnn hok.m1 (.inl hS)
  rw [← hX, ← hY, ← hOC]
  obtain ⟨a, ha⟩ : ∃ a : Nat, (a : Int) = o.k % 8 := ⟨(o.k % 8).toNat, by omega⟩
  have hand : bits .and .i64 o.k 7 = (a : Int) := by rw [and7, ha]
  have hrem1 : (a : Int).tmod 5 = 3 := by rw [Int.tmod_eq_emod_of_nonneg (by omega), ha]; exact hk
  have hrem2 : (a : Int) % 5 = 3 := by rw [ha]; exact hk
  clear hk ha
  clear hX hY hOC hs' hN' hl' he' hR HB hl hU hus
  go_enter Try.func20, Try.ntmps20
  go_upto_region 1 with fail
  rw [← hw0]
  clear hw0
  have c00 := (HO1.out _ _ hb1).1
  have c01 := (HO1.out _ _ hb1).2.1
  have c02 := (HO1.out _ _ hb1).2.2
  go_wp2_with (first
    | ((with_reducible refine at_load 43 (.tmp 4) ?_); refine wpList_load_mid rfl 43 (.tmp 4) rfl (w.heap.size) 0 rfl X _ (hb0).range Try.underlying43 rfl IX.out ?_)
    | (go_at_call 36; refine (C1.out _).mono ?_; rintro e'' v1 ⟨rfl, d1⟩)
    | ((with_reducible refine at_store 43 (.tmp 15) (.tmp 80) ?_); refine wpList_store_blk rfl 43 (.tmp 15) (.tmp 80) rfl (v1.heap.size) zerosI Y 43 rfl rfl (Blk.new v1 _ _) LY.out IY.out OY.out ?_; intro x1 hbx1 hox1; have dx1 : Below w0.heap.size w0 x1 := below_only (below_al d1 _) hox1 d1.size; have hR1 := (hR0.below dx1).drew; have hgq : ¬ v1.heap.size = q := (by have := d1.size; omega); have hgw : w.heap.size + 3 ≤ v1.heap.size := (by have := d1.size; omega)))
  refine wp_region_held_drew (S := fun W => W.rangeAt v1.heap.size 0 Y ∧ W.cell? ⟨w.heap.size + 1, 2, none⟩ = some (.int .i64 o.m)) (by kernel_rfl) ?_ (fun hHeld => ?_)
  · (first | exact ⟨hbx1.range, (HO1.out _ _ (hb1.up dx1)).2.2⟩ | exact ⟨hbg2.range, (HO1.out _ _ hbo2).2.2⟩ | exact ⟨hbg5.range, (HO1.out _ _ hbo5).2.2⟩)
  refine wpAnyH_take (i := 0) rfl (by kernel_rfl) (by kernel_rfl) (by kernel_rfl) (fun _ _ _ h => h) (yieldsIf_load_mid (by rfl) _ _ rfl _ _ rfl Y _ (fun w hSw => by (try dsimp only at hSw); go_split_ands; assumption) Try.underlying43 rfl IY.out) (by assumption) ?_
  (try simp only [List.getElem_toArray, List.getElem_cons_succ, List.getElem_cons_zero, Act.put, List.setIfInBounds_toArray, List.set_cons_succ, List.set_cons_zero])
  refine wpAnyH_take (i := 1) (v := ?_) rfl (by kernel_rfl) (by kernel_rfl) (by kernel_rfl) (fun _ _ _ h => h) (Or.inl ⟨by rfl, ?_⟩) (by assumption) ?_
  rotate_left 1
  · intro w hSw; (try dsimp only at hSw); simp only [List.getElem_toArray, List.getElem_cons_succ, List.getElem_cons_zero]; go_simp; try (with_reducible rfl)
  (try simp only [List.getElem_toArray, List.getElem_cons_succ, List.getElem_cons_zero, Act.put, List.setIfInBounds_toArray, List.set_cons_succ, List.set_cons_zero])
  refine wpAnyH_take (i := 2) (v := ?_) rfl (by kernel_rfl) (by kernel_rfl) (by kernel_rfl) (fun _ _ _ h => h) (Or.inl ⟨by rfl, ?_⟩) (by assumption) ?_
  rotate_left 1
  · intro w hSw; (try dsimp only at hSw); simp only [List.getElem_toArray, List.getElem_cons_succ, List.getElem_cons_zero]; go_simp; try (with_reducible rfl)
  (try simp only [List.getElem_toArray, List.getElem_cons_succ, List.getElem_cons_zero, Act.put, List.setIfInBounds_toArray, List.set_cons_succ, List.set_cons_zero])
  refine wpAnyH_take (i := 3) (v := ?_) rfl (by kernel_rfl) (by kernel_rfl) (by kernel_rfl) (fun _ _ _ h => h) (Or.inl ⟨by rfl, ?_⟩) (by assumption) ?_
  rotate_left 1
  · intro w hSw; (try dsimp only at hSw); simp only [List.getElem_toArray, List.getElem_cons_succ, List.getElem_cons_zero]; go_simp; try (with_reducible rfl)
  (try simp only [List.getElem_toArray, List.getElem_cons_succ, List.getElem_cons_zero, Act.put, List.setIfInBounds_toArray, List.set_cons_succ, List.set_cons_zero])
  refine wpAnyH_take (i := 6) (v := ?_) rfl (by kernel_rfl) (by kernel_rfl) (by kernel_rfl) (fun _ _ _ h => h) (Or.inl ⟨by rfl, ?_⟩) (by assumption) ?_
  rotate_left 1
  · intro w hSw; (try dsimp only at hSw); simp only [List.getElem_toArray, List.getElem_cons_succ, List.getElem_cons_zero]; go_simp; try (with_reducible rfl)
  (try simp only [List.getElem_toArray, List.getElem_cons_succ, List.getElem_cons_zero, Act.put, List.setIfInBounds_toArray, List.set_cons_succ, List.set_cons_zero])
  refine wpAnyH_ready (rs := [4]) (by kernel_rfl) (by simp) ?_
  refine AllReadyH.cons rfl (fun K hK => ?_) AllReadyH.nil
  (try simp only [List.getElem_toArray, List.getElem_cons_succ, List.getElem_cons_zero])
  go_simp
  go_at_call 24; refine (C2.out _ hR1).mono ?_; rintro e'' v2 ⟨A2, n2, c2, rfl, ho2, hRb, hf2⟩; have hbg2 := hf2.blk hbx1.dr hgq; have hbo2 := hf2.blk (hb1.up dx1).dr (by omega); have hb02 := hf2.blk (hb0.up dx1).dr (by omega); have hb2b := hf2.blk (hb2.up dx1).dr (by omega); have hcv2 := CV.out v2 _ _ _ _ ho2
  (try (go_wp2_with fail))
  refine hK.out _ _ ?_ (fun hHeld => ?_)
  · (first | exact ⟨hbx1.range, (HO1.out _ _ (hb1.up dx1)).2.2⟩ | exact ⟨hbg2.range, (HO1.out _ _ hbo2).2.2⟩ | exact ⟨hbg5.range, (HO1.out _ _ hbo5).2.2⟩)
  clear hK K
  (try simp only [Act.put, List.setIfInBounds_toArray, List.set_cons_succ, List.set_cons_zero])
  refine wpAnyH_ready (rs := [5, 8]) (by kernel_rfl) (by simp) ?_
  refine AllReadyH.cons rfl (fun K hK => ?_) ?_
  · (try simp only [List.getElem_toArray, List.getElem_cons_succ, List.getElem_cons_zero])
    go_simp
    skip
    (try (go_wp2_with fail))
    refine hK.out _ _ ?_ (fun hHeld => ?_)
    · (first | exact ⟨hbx1.range, (HO1.out _ _ (hb1.up dx1)).2.2⟩ | exact ⟨hbg2.range, (HO1.out _ _ hbo2).2.2⟩ | exact ⟨hbg5.range, (HO1.out _ _ hbo5).2.2⟩)
    clear hK K
    (try simp only [Act.put, List.setIfInBounds_toArray, List.set_cons_succ, List.set_cons_zero])
    refine wpAnyH_take (i := 7) (v := ?_) rfl (by kernel_rfl) (by kernel_rfl) (by kernel_rfl) (fun _ _ _ h => h) (Or.inl ⟨by rfl, ?_⟩) (by assumption) ?_
    rotate_left 1
    · intro w hSw; (try dsimp only at hSw); simp only [List.getElem_toArray, List.getElem_cons_succ, List.getElem_cons_zero]; go_simp; try (with_reducible rfl)
    (try simp only [List.getElem_toArray, List.getElem_cons_succ, List.getElem_cons_zero, Act.put, List.setIfInBounds_toArray, List.set_cons_succ, List.set_cons_zero])
    refine wpAnyH_ready (rs := [8]) (by kernel_rfl) (by simp) ?_
    refine AllReadyH.cons rfl (fun K hK => ?_) AllReadyH.nil
    (try simp only [List.getElem_toArray, List.getElem_cons_succ, List.getElem_cons_zero])
    refine Eq.mpr (if_pos (by rfl)) ?_
    refine wp_store_in 43 (.tmp 4) (.tmp 82) rfl (w.heap.size) X Y 43 rfl rfl hb02 LXY.out IY.out OY.out ?_
    intro w5 hb05 ho5
    have hbg5 := ho5.blk hbg2 (by omega)
    have hbo5 := ho5.blk hbo2 (by omega)
    have hcv5 := CV.out w5 _ _ _ _ (ho2.frm (S := fun i => i = w.heap.size) (Frm.only ho5 rfl) (fun g hg e => by have := (ho2.lt hg).2; have h5 := dx1.size; have h6 : x1.drew.heap.size = x1.heap.size := rfl; omega))
    refine hK.out _ _ ?_ (fun hHeld => ?_)
    · exact ⟨hbg5.range, (HO1.out _ _ hbo5).2.2⟩
    clear hK K
    (try simp only [Act.put, List.setIfInBounds_toArray, List.set_cons_succ, List.set_cons_zero])
    refine wpAnyH_take (i := 9) (v := ?_) rfl (by kernel_rfl) (by kernel_rfl) (by kernel_rfl) (fun _ _ _ h => h) (Or.inl ⟨by rfl, ?_⟩) (by assumption) ?_
    rotate_left 1
    · intro w hSw; (try dsimp only at hSw); simp only [List.getElem_toArray, List.getElem_cons_succ, List.getElem_cons_zero]; go_simp; try (with_reducible rfl)
    (try simp only [List.getElem_toArray, List.getElem_cons_succ, List.getElem_cons_zero, Act.put, List.setIfInBounds_toArray, List.set_cons_succ, List.set_cons_zero])
    refine wpAnyH_done (by kernel_rfl) ?_ _
    have hFb : Frm (fun i => i = q) w v2 := (FB.out.step (Frm.of_below (S := fun i => i = q) dx1) (fun i hi => .inl hi)).trans (Frm.undrew hf2)
    have hb25 := ho5.blk hb2b (by omega)
    have hR5d := (NAR5.out _ _ hRb ho5).drew
    go_wp2_with fail
    refine wp_region_held_drew (S := fun W => W.rangeAt w.heap.size 0 Y ∧ W.cell? ⟨w.heap.size, 0, none⟩ = some (.string s') ∧ W.cell? ⟨w.heap.size, 1, none⟩ = some (.int .i64 (e' : Int))) (by kernel_rfl) ?_ (fun hHeld => ?_)
    · exact K21.out _ hb05
    refine wpAnyH_take (i := 0) rfl (by kernel_rfl) (by kernel_rfl) (by kernel_rfl) (fun _ _ _ h => h) (yieldsIf_load_mid (by rfl) _ _ rfl _ _ rfl Y _ (fun w hSw => by (try dsimp only at hSw); go_split_ands; assumption) Try.underlying43 rfl IY.out) (by assumption) ?_
    (try simp only [List.getElem_toArray, List.getElem_cons_succ, List.getElem_cons_zero, Act.put, List.setIfInBounds_toArray, List.set_cons_succ, List.set_cons_zero])
    refine wpAnyH_take (i := 1) (v := ?_) rfl (by kernel_rfl) (by kernel_rfl) (by kernel_rfl) (fun _ _ _ h => h) (Or.inl ⟨by rfl, ?_⟩) (by assumption) ?_
    rotate_left 1
    · intro w hSw; (try dsimp only at hSw); simp only [List.getElem_toArray, List.getElem_cons_succ, List.getElem_cons_zero]; go_simp; try (with_reducible rfl)
    (try simp only [List.getElem_toArray, List.getElem_cons_succ, List.getElem_cons_zero, Act.put, List.setIfInBounds_toArray, List.set_cons_succ, List.set_cons_zero])
    refine wpAnyH_take (i := 2) (v := ?_) rfl (by kernel_rfl) (by kernel_rfl) (by kernel_rfl) (fun _ _ _ h => h) (Or.inl ⟨by rfl, ?_⟩) (by assumption) ?_
    rotate_left 1
    · intro w hSw; (try dsimp only at hSw); simp only [List.getElem_toArray, List.getElem_cons_succ, List.getElem_cons_zero]; go_simp; try (with_reducible rfl)
    (try simp only [List.getElem_toArray, List.getElem_cons_succ, List.getElem_cons_zero, Act.put, List.setIfInBounds_toArray, List.set_cons_succ, List.set_cons_zero])
    refine wpAnyH_take (i := 3) (v := ?_) rfl (by kernel_rfl) (by kernel_rfl) (by kernel_rfl) (fun _ _ _ h => h) (Or.inl ⟨by rfl, ?_⟩) (by assumption) ?_
    rotate_left 1
    · intro w hSw; (try dsimp only at hSw); simp only [List.getElem_toArray, List.getElem_cons_succ, List.getElem_cons_zero]; go_simp; try (with_reducible rfl)
    (try simp only [List.getElem_toArray, List.getElem_cons_succ, List.getElem_cons_zero, Act.put, List.setIfInBounds_toArray, List.set_cons_succ, List.set_cons_zero])
    refine wpAnyH_take (i := 5) (v := ?_) rfl (by kernel_rfl) (by kernel_rfl) (by kernel_rfl) (fun _ _ _ h => h) (Or.inl ⟨by rfl, ?_⟩) (by assumption) ?_
    rotate_left 1
    · intro w hSw; (try dsimp only at hSw); simp only [List.getElem_toArray, List.getElem_cons_succ, List.getElem_cons_zero]; go_simp; try (with_reducible rfl)
    (try simp only [List.getElem_toArray, List.getElem_cons_succ, List.getElem_cons_zero, Act.put, List.setIfInBounds_toArray, List.set_cons_succ, List.set_cons_zero])
    refine wpAnyH_take (i := 6) (v := ?_) rfl (by kernel_rfl) (by kernel_rfl) (by kernel_rfl) (fun _ _ _ h => h) (Or.inl ⟨by rfl, ?_⟩) (by assumption) ?_
    rotate_left 1
    · intro w hSw; (try dsimp only at hSw); simp only [List.getElem_toArray, List.getElem_cons_succ, List.getElem_cons_zero]; go_simp; try (with_reducible rfl)
    (try simp only [List.getElem_toArray, List.getElem_cons_succ, List.getElem_cons_zero, Act.put, List.setIfInBounds_toArray, List.set_cons_succ, List.set_cons_zero])
    refine wpAnyH_ready (rs := [4]) (by kernel_rfl) (by simp) ?_
    refine AllReadyH.cons rfl (fun K hK => ?_) AllReadyH.nil
    (try simp only [List.getElem_toArray, List.getElem_cons_succ, List.getElem_cons_zero])
    go_simp
    go_at_call 22; refine (err_calls _ q l' e' hR5d).mono ?_; rintro e'' x' ⟨rfl, rfl⟩
    (try (go_wp2_with fail))
    refine hK.out _ _ ?_ (fun hHeld => ?_)
    · exact K21.out _ hb05
    clear hK K
    (try simp only [Act.put, List.setIfInBounds_toArray, List.set_cons_succ, List.set_cons_zero])
    refine wpAnyH_take (i := 7) (v := ?_) rfl (by kernel_rfl) (by kernel_rfl) (by kernel_rfl) (fun _ _ _ h => h) (Or.inl ⟨by rfl, ?_⟩) (by assumption) ?_
    rotate_left 1
    · intro w hSw; (try dsimp only at hSw); simp only [List.getElem_toArray, List.getElem_cons_succ, List.getElem_cons_zero]; go_simp; try (with_reducible rfl)
    (try simp only [List.getElem_toArray, List.getElem_cons_succ, List.getElem_cons_zero, Act.put, List.setIfInBounds_toArray, List.set_cons_succ, List.set_cons_zero])
    refine wpAnyH_take (i := 8) (v := ?_) rfl (by kernel_rfl) (by kernel_rfl) (by kernel_rfl) (fun _ _ _ h => h) (Or.inl ⟨by rfl, ?_⟩) (by assumption) ?_
    rotate_left 1
    · intro w hSw; (try dsimp only at hSw); simp only [List.getElem_toArray, List.getElem_cons_succ, List.getElem_cons_zero]; go_simp; try (with_reducible rfl)
    (try simp only [List.getElem_toArray, List.getElem_cons_succ, List.getElem_cons_zero, Act.put, List.setIfInBounds_toArray, List.set_cons_succ, List.set_cons_zero])
    refine wpAnyH_take (i := 9) (v := ?_) rfl (by kernel_rfl) (by kernel_rfl) (by kernel_rfl) (fun _ _ _ h => h) (Or.inl ⟨by rfl, ?_⟩) (by assumption) ?_
    rotate_left 1
    · intro w hSw; (try dsimp only at hSw); simp only [List.getElem_toArray, List.getElem_cons_succ, List.getElem_cons_zero]; go_simp; try (with_reducible rfl)
    (try simp only [List.getElem_toArray, List.getElem_cons_succ, List.getElem_cons_zero, Act.put, List.setIfInBounds_toArray, List.set_cons_succ, List.set_cons_zero])
    refine wpAnyH_take (i := 10) (v := ?_) rfl (by kernel_rfl) (by kernel_rfl) (by kernel_rfl) (fun _ _ _ h => h) (Or.inl ⟨by rfl, ?_⟩) (by assumption) ?_
    rotate_left 1
    · intro w hSw; (try dsimp only at hSw); simp only [List.getElem_toArray, List.getElem_cons_succ, List.getElem_cons_zero]; go_simp; try (with_reducible rfl)
    (try simp only [List.getElem_toArray, List.getElem_cons_succ, List.getElem_cons_zero, Act.put, List.setIfInBounds_toArray, List.set_cons_succ, List.set_cons_zero])
    refine wpAnyH_take (i := 12) (v := ?_) rfl (by kernel_rfl) (by kernel_rfl) (by kernel_rfl) (fun _ _ _ h => h) (Or.inl ⟨by rfl, ?_⟩) (by assumption) ?_
    rotate_left 1
    · intro w hSw; (try dsimp only at hSw); simp only [List.getElem_toArray, List.getElem_cons_succ, List.getElem_cons_zero]; go_simp; try (with_reducible rfl)
    (try simp only [List.getElem_toArray, List.getElem_cons_succ, List.getElem_cons_zero, Act.put, List.setIfInBounds_toArray, List.set_cons_succ, List.set_cons_zero])
    refine wpAnyH_take (i := 13) (v := ?_) rfl (by kernel_rfl) (by kernel_rfl) (by kernel_rfl) (fun _ _ _ h => h) (Or.inl ⟨by rfl, ?_⟩) (by assumption) ?_
    rotate_left 1
    · intro w hSw; (try dsimp only at hSw); simp only [List.getElem_toArray, List.getElem_cons_succ, List.getElem_cons_zero]; go_simp; try (with_reducible rfl)
    (try simp only [List.getElem_toArray, List.getElem_cons_succ, List.getElem_cons_zero, Act.put, List.setIfInBounds_toArray, List.set_cons_succ, List.set_cons_zero])
    refine wpAnyH_take (i := 14) (v := ?_) rfl (by kernel_rfl) (by kernel_rfl) (by kernel_rfl) (fun _ _ _ h => h) (Or.inl ⟨by rfl, ?_⟩) (by assumption) ?_
    rotate_left 1
    · intro w hSw; (try dsimp only at hSw); simp only [List.getElem_toArray, List.getElem_cons_succ, List.getElem_cons_zero]; go_simp; try (with_reducible rfl)
    (try simp only [List.getElem_toArray, List.getElem_cons_succ, List.getElem_cons_zero, Act.put, List.setIfInBounds_toArray, List.set_cons_succ, List.set_cons_zero])
    refine wpAnyH_ready (rs := [11]) (by kernel_rfl) (by simp) ?_
    refine AllReadyH.cons rfl (fun K hK => ?_) AllReadyH.nil
    (try simp only [List.getElem_toArray, List.getElem_cons_succ, List.getElem_cons_zero])
    go_simp
    go_at_call 27; refine (CL.out _ hR5d).mono ?_; rintro e'' x' ⟨rfl, rfl⟩
    (try (go_wp2_with fail))
    refine hK.out _ _ ?_ (fun hHeld => ?_)
    · exact K21.out _ hb05
    clear hK K
    (try simp only [Act.put, List.setIfInBounds_toArray, List.set_cons_succ, List.set_cons_zero])
    refine wpAnyH_take (i := 15) (v := ?_) rfl (by kernel_rfl) (by kernel_rfl) (by kernel_rfl) (fun _ _ _ h => h) (Or.inl ⟨by rfl, ?_⟩) (by assumption) ?_
    rotate_left 1
    · intro w hSw; (try dsimp only at hSw); simp only [List.getElem_toArray, List.getElem_cons_succ, List.getElem_cons_zero]; go_simp; try (with_reducible rfl)
    (try simp only [List.getElem_toArray, List.getElem_cons_succ, List.getElem_cons_zero, Act.put, List.setIfInBounds_toArray, List.set_cons_succ, List.set_cons_zero])
    refine wpAnyH_take (i := 16) (v := ?_) rfl (by kernel_rfl) (by kernel_rfl) (by kernel_rfl) (fun _ _ _ h => h) (Or.inl ⟨by rfl, ?_⟩) (by assumption) ?_
    rotate_left 1
    · intro w hSw; (try dsimp only at hSw); simp only [List.getElem_toArray, List.getElem_cons_succ, List.getElem_cons_zero]; go_simp; try (with_reducible rfl)
    (try simp only [List.getElem_toArray, List.getElem_cons_succ, List.getElem_cons_zero, Act.put, List.setIfInBounds_toArray, List.set_cons_succ, List.set_cons_zero])
    refine wpAnyH_ready (rs := [17]) (by kernel_rfl) (by simp) ?_
    refine AllReadyH.cons rfl (fun K hK => ?_) AllReadyH.nil
    (try simp only [List.getElem_toArray, List.getElem_cons_succ, List.getElem_cons_zero])
    refine Eq.mpr (if_pos (by rfl)) ?_
    refine wp_store_in 43 (.tmp 6) (.tmp 108) rfl (w.heap.size + 2) zerosI Y 43 rfl rfl hb25.dr LY.out IY.out OY.out ?_
    intro w6 hb6 ho6
    refine hK.out _ _ ?_ (fun hHeld => ?_)
    · exact K21.out _ (ho6.blk hb05.dr (by omega))
    clear hK K
    (try simp only [Act.put, List.setIfInBounds_toArray, List.set_cons_succ, List.set_cons_zero])
    refine wpAnyH_take (i := 18) (v := ?_) rfl (by kernel_rfl) (by kernel_rfl) (by kernel_rfl) (fun _ _ _ h => h) (Or.inl ⟨by rfl, ?_⟩) (by assumption) ?_
    rotate_left 1
    · intro w hSw; (try dsimp only at hSw); simp only [List.getElem_toArray, List.getElem_cons_succ, List.getElem_cons_zero]; go_simp; try (with_reducible rfl)
    (try simp only [List.getElem_toArray, List.getElem_cons_succ, List.getElem_cons_zero, Act.put, List.setIfInBounds_toArray, List.set_cons_succ, List.set_cons_zero])
    refine wpAnyH_done (by kernel_rfl) ?_ _
    go_wp2_with fail
    refine bodyPost_ret (v := .tuple #[.agg Y.toArray, .bool true]) ?_ rfl ⟨rfl, NAR.out _ _ hR5d ho6, FIN.out _ _ _ hFb ho5 ho6⟩
    exact results_in Try.results20 _ _ (w.heap.size + 2) 43 _ (0, 0) _ _ (by rfl) (by rfl) hb6 Try.underlying43 rfl IY.out
  refine AllReadyH.cons rfl (fun K hK => ?_) AllReadyH.nil
  (try simp only [List.getElem_toArray, List.getElem_cons_succ, List.getElem_cons_zero])
  refine Eq.mpr (if_pos (by rfl)) ?_
  refine wp_store_in 43 (.tmp 4) (.tmp 82) rfl (w.heap.size) X Y 43 rfl rfl hb02 LXY.out IY.out OY.out ?_
  intro w5 hb05 ho5
  have hbg5 := ho5.blk hbg2 (by omega)
  have hbo5 := ho5.blk hbo2 (by omega)
  have hcv5 := CV.out w5 _ _ _ _ (ho2.frm (S := fun i => i = w.heap.size) (Frm.only ho5 rfl) (fun g hg e => by have := (ho2.lt hg).2; have h5 := dx1.size; have h6 : x1.drew.heap.size = x1.heap.size := rfl; omega))
  refine hK.out _ _ ?_ (fun hHeld => ?_)
  · exact ⟨hbg5.range, (HO1.out _ _ hbo5).2.2⟩
  clear hK K
  (try simp only [Act.put, List.setIfInBounds_toArray, List.set_cons_succ, List.set_cons_zero])
  refine wpAnyH_ready (rs := [5]) (by kernel_rfl) (by simp) ?_
  refine AllReadyH.cons rfl (fun K hK => ?_) AllReadyH.nil
  (try simp only [List.getElem_toArray, List.getElem_cons_succ, List.getElem_cons_zero])
  go_simp
  skip
  (try (go_wp2_with fail))
  refine hK.out _ _ ?_ (fun hHeld => ?_)
  · (first | exact ⟨hbx1.range, (HO1.out _ _ (hb1.up dx1)).2.2⟩ | exact ⟨hbg2.range, (HO1.out _ _ hbo2).2.2⟩ | exact ⟨hbg5.range, (HO1.out _ _ hbo5).2.2⟩)
  clear hK K
  (try simp only [Act.put, List.setIfInBounds_toArray, List.set_cons_succ, List.set_cons_zero])
  refine wpAnyH_take (i := 7) (v := ?_) rfl (by kernel_rfl) (by kernel_rfl) (by kernel_rfl) (fun _ _ _ h => h) (Or.inl ⟨by rfl, ?_⟩) (by assumption) ?_
  rotate_left 1
  · intro w hSw; (try dsimp only at hSw); simp only [List.getElem_toArray, List.getElem_cons_succ, List.getElem_cons_zero]; go_simp; try (with_reducible rfl)
  (try simp only [List.getElem_toArray, List.getElem_cons_succ, List.getElem_cons_zero, Act.put, List.setIfInBounds_toArray, List.set_cons_succ, List.set_cons_zero])
  refine wpAnyH_take (i := 9) (v := ?_) rfl (by kernel_rfl) (by kernel_rfl) (by kernel_rfl) (fun _ _ _ h => h) (Or.inl ⟨by rfl, ?_⟩) (by assumption) ?_
  rotate_left 1
  · intro w hSw; (try dsimp only at hSw); simp only [List.getElem_toArray, List.getElem_cons_succ, List.getElem_cons_zero]; go_simp; try (with_reducible rfl)
  (try simp only [List.getElem_toArray, List.getElem_cons_succ, List.getElem_cons_zero, Act.put, List.setIfInBounds_toArray, List.set_cons_succ, List.set_cons_zero])
  refine wpAnyH_done (by kernel_rfl) ?_ _
  have hFb : Frm (fun i => i = q) w v2 := (FB.out.step (Frm.of_below (S := fun i => i = q) dx1) (fun i hi => .inl hi)).trans (Frm.undrew hf2)
  have hb25 := ho5.blk hb2b (by omega)
  have hR5d := (NAR5.out _ _ hRb ho5).drew
  go_wp2_with fail
  refine wp_region_held_drew (S := fun W => W.rangeAt w.heap.size 0 Y ∧ W.cell? ⟨w.heap.size, 0, none⟩ = some (.string s') ∧ W.cell? ⟨w.heap.size, 1, none⟩ = some (.int .i64 (e' : Int))) (by kernel_rfl) ?_ (fun hHeld => ?_)
  · exact K21.out _ hb05
  refine wpAnyH_take (i := 0) rfl (by kernel_rfl) (by kernel_rfl) (by kernel_rfl) (fun _ _ _ h => h) (yieldsIf_load_mid (by rfl) _ _ rfl _ _ rfl Y _ (fun w hSw => by (try dsimp only at hSw); go_split_ands; assumption) Try.underlying43 rfl IY.out) (by assumption) ?_
  (try simp only [List.getElem_toArray, List.getElem_cons_succ, List.getElem_cons_zero, Act.put, List.setIfInBounds_toArray, List.set_cons_succ, List.set_cons_zero])
  refine wpAnyH_take (i := 1) (v := ?_) rfl (by kernel_rfl) (by kernel_rfl) (by kernel_rfl) (fun _ _ _ h => h) (Or.inl ⟨by rfl, ?_⟩) (by assumption) ?_
  rotate_left 1
  · intro w hSw; (try dsimp only at hSw); simp only [List.getElem_toArray, List.getElem_cons_succ, List.getElem_cons_zero]; go_simp; try (with_reducible rfl)
  (try simp only [List.getElem_toArray, List.getElem_cons_succ, List.getElem_cons_zero, Act.put, List.setIfInBounds_toArray, List.set_cons_succ, List.set_cons_zero])
  refine wpAnyH_take (i := 2) (v := ?_) rfl (by kernel_rfl) (by kernel_rfl) (by kernel_rfl) (fun _ _ _ h => h) (Or.inl ⟨by rfl, ?_⟩) (by assumption) ?_
  rotate_left 1
  · intro w hSw; (try dsimp only at hSw); simp only [List.getElem_toArray, List.getElem_cons_succ, List.getElem_cons_zero]; go_simp; try (with_reducible rfl)
  (try simp only [List.getElem_toArray, List.getElem_cons_succ, List.getElem_cons_zero, Act.put, List.setIfInBounds_toArray, List.set_cons_succ, List.set_cons_zero])
  refine wpAnyH_take (i := 3) (v := ?_) rfl (by kernel_rfl) (by kernel_rfl) (by kernel_rfl) (fun _ _ _ h => h) (Or.inl ⟨by rfl, ?_⟩) (by assumption) ?_
  rotate_left 1
  · intro w hSw; (try dsimp only at hSw); simp only [List.getElem_toArray, List.getElem_cons_succ, List.getElem_cons_zero]; go_simp; try (with_reducible rfl)
  (try simp only [List.getElem_toArray, List.getElem_cons_succ, List.getElem_cons_zero, Act.put, List.setIfInBounds_toArray, List.set_cons_succ, List.set_cons_zero])
  refine wpAnyH_take (i := 5) (v := ?_) rfl (by kernel_rfl) (by kernel_rfl) (by kernel_rfl) (fun _ _ _ h => h) (Or.inl ⟨by rfl, ?_⟩) (by assumption) ?_
  rotate_left 1
  · intro w hSw; (try dsimp only at hSw); simp only [List.getElem_toArray, List.getElem_cons_succ, List.getElem_cons_zero]; go_simp; try (with_reducible rfl)
  (try simp only [List.getElem_toArray, List.getElem_cons_succ, List.getElem_cons_zero, Act.put, List.setIfInBounds_toArray, List.set_cons_succ, List.set_cons_zero])
  refine wpAnyH_take (i := 6) (v := ?_) rfl (by kernel_rfl) (by kernel_rfl) (by kernel_rfl) (fun _ _ _ h => h) (Or.inl ⟨by rfl, ?_⟩) (by assumption) ?_
  rotate_left 1
  · intro w hSw; (try dsimp only at hSw); simp only [List.getElem_toArray, List.getElem_cons_succ, List.getElem_cons_zero]; go_simp; try (with_reducible rfl)
  (try simp only [List.getElem_toArray, List.getElem_cons_succ, List.getElem_cons_zero, Act.put, List.setIfInBounds_toArray, List.set_cons_succ, List.set_cons_zero])
  refine wpAnyH_ready (rs := [4]) (by kernel_rfl) (by simp) ?_
  refine AllReadyH.cons rfl (fun K hK => ?_) AllReadyH.nil
  (try simp only [List.getElem_toArray, List.getElem_cons_succ, List.getElem_cons_zero])
  go_simp
  go_at_call 22; refine (err_calls _ q l' e' hR5d).mono ?_; rintro e'' x' ⟨rfl, rfl⟩
  (try (go_wp2_with fail))
  refine hK.out _ _ ?_ (fun hHeld => ?_)
  · exact K21.out _ hb05
  clear hK K
  (try simp only [Act.put, List.setIfInBounds_toArray, List.set_cons_succ, List.set_cons_zero])
  refine wpAnyH_take (i := 7) (v := ?_) rfl (by kernel_rfl) (by kernel_rfl) (by kernel_rfl) (fun _ _ _ h => h) (Or.inl ⟨by rfl, ?_⟩) (by assumption) ?_
  rotate_left 1
  · intro w hSw; (try dsimp only at hSw); simp only [List.getElem_toArray, List.getElem_cons_succ, List.getElem_cons_zero]; go_simp; try (with_reducible rfl)
  (try simp only [List.getElem_toArray, List.getElem_cons_succ, List.getElem_cons_zero, Act.put, List.setIfInBounds_toArray, List.set_cons_succ, List.set_cons_zero])
  refine wpAnyH_take (i := 8) (v := ?_) rfl (by kernel_rfl) (by kernel_rfl) (by kernel_rfl) (fun _ _ _ h => h) (Or.inl ⟨by rfl, ?_⟩) (by assumption) ?_
  rotate_left 1
  · intro w hSw; (try dsimp only at hSw); simp only [List.getElem_toArray, List.getElem_cons_succ, List.getElem_cons_zero]; go_simp; try (with_reducible rfl)
  (try simp only [List.getElem_toArray, List.getElem_cons_succ, List.getElem_cons_zero, Act.put, List.setIfInBounds_toArray, List.set_cons_succ, List.set_cons_zero])
  refine wpAnyH_take (i := 9) (v := ?_) rfl (by kernel_rfl) (by kernel_rfl) (by kernel_rfl) (fun _ _ _ h => h) (Or.inl ⟨by rfl, ?_⟩) (by assumption) ?_
  rotate_left 1
  · intro w hSw; (try dsimp only at hSw); simp only [List.getElem_toArray, List.getElem_cons_succ, List.getElem_cons_zero]; go_simp; try (with_reducible rfl)
  (try simp only [List.getElem_toArray, List.getElem_cons_succ, List.getElem_cons_zero, Act.put, List.setIfInBounds_toArray, List.set_cons_succ, List.set_cons_zero])
  refine wpAnyH_take (i := 10) (v := ?_) rfl (by kernel_rfl) (by kernel_rfl) (by kernel_rfl) (fun _ _ _ h => h) (Or.inl ⟨by rfl, ?_⟩) (by assumption) ?_
  rotate_left 1
  · intro w hSw; (try dsimp only at hSw); simp only [List.getElem_toArray, List.getElem_cons_succ, List.getElem_cons_zero]; go_simp; try (with_reducible rfl)
  (try simp only [List.getElem_toArray, List.getElem_cons_succ, List.getElem_cons_zero, Act.put, List.setIfInBounds_toArray, List.set_cons_succ, List.set_cons_zero])
  refine wpAnyH_take (i := 12) (v := ?_) rfl (by kernel_rfl) (by kernel_rfl) (by kernel_rfl) (fun _ _ _ h => h) (Or.inl ⟨by rfl, ?_⟩) (by assumption) ?_
  rotate_left 1
  · intro w hSw; (try dsimp only at hSw); simp only [List.getElem_toArray, List.getElem_cons_succ, List.getElem_cons_zero]; go_simp; try (with_reducible rfl)
  (try simp only [List.getElem_toArray, List.getElem_cons_succ, List.getElem_cons_zero, Act.put, List.setIfInBounds_toArray, List.set_cons_succ, List.set_cons_zero])
  refine wpAnyH_take (i := 13) (v := ?_) rfl (by kernel_rfl) (by kernel_rfl) (by kernel_rfl) (fun _ _ _ h => h) (Or.inl ⟨by rfl, ?_⟩) (by assumption) ?_
  rotate_left 1
  · intro w hSw; (try dsimp only at hSw); simp only [List.getElem_toArray, List.getElem_cons_succ, List.getElem_cons_zero]; go_simp; try (with_reducible rfl)
  (try simp only [List.getElem_toArray, List.getElem_cons_succ, List.getElem_cons_zero, Act.put, List.setIfInBounds_toArray, List.set_cons_succ, List.set_cons_zero])
  refine wpAnyH_take (i := 14) (v := ?_) rfl (by kernel_rfl) (by kernel_rfl) (by kernel_rfl) (fun _ _ _ h => h) (Or.inl ⟨by rfl, ?_⟩) (by assumption) ?_
  rotate_left 1
  · intro w hSw; (try dsimp only at hSw); simp only [List.getElem_toArray, List.getElem_cons_succ, List.getElem_cons_zero]; go_simp; try (with_reducible rfl)
  (try simp only [List.getElem_toArray, List.getElem_cons_succ, List.getElem_cons_zero, Act.put, List.setIfInBounds_toArray, List.set_cons_succ, List.set_cons_zero])
  refine wpAnyH_ready (rs := [11]) (by kernel_rfl) (by simp) ?_
  refine AllReadyH.cons rfl (fun K hK => ?_) AllReadyH.nil
  (try simp only [List.getElem_toArray, List.getElem_cons_succ, List.getElem_cons_zero])
  go_simp
  go_at_call 27; refine (CL.out _ hR5d).mono ?_; rintro e'' x' ⟨rfl, rfl⟩
  (try (go_wp2_with fail))
  refine hK.out _ _ ?_ (fun hHeld => ?_)
  · exact K21.out _ hb05
  clear hK K
  (try simp only [Act.put, List.setIfInBounds_toArray, List.set_cons_succ, List.set_cons_zero])
  refine wpAnyH_take (i := 15) (v := ?_) rfl (by kernel_rfl) (by kernel_rfl) (by kernel_rfl) (fun _ _ _ h => h) (Or.inl ⟨by rfl, ?_⟩) (by assumption) ?_
  rotate_left 1
  · intro w hSw; (try dsimp only at hSw); simp only [List.getElem_toArray, List.getElem_cons_succ, List.getElem_cons_zero]; go_simp; try (with_reducible rfl)
  (try simp only [List.getElem_toArray, List.getElem_cons_succ, List.getElem_cons_zero, Act.put, List.setIfInBounds_toArray, List.set_cons_succ, List.set_cons_zero])
  refine wpAnyH_take (i := 16) (v := ?_) rfl (by kernel_rfl) (by kernel_rfl) (by kernel_rfl) (fun _ _ _ h => h) (Or.inl ⟨by rfl, ?_⟩) (by assumption) ?_
  rotate_left 1
  · intro w hSw; (try dsimp only at hSw); simp only [List.getElem_toArray, List.getElem_cons_succ, List.getElem_cons_zero]; go_simp; try (with_reducible rfl)
  (try simp only [List.getElem_toArray, List.getElem_cons_succ, List.getElem_cons_zero, Act.put, List.setIfInBounds_toArray, List.set_cons_succ, List.set_cons_zero])
  refine wpAnyH_ready (rs := [17]) (by kernel_rfl) (by simp) ?_
  refine AllReadyH.cons rfl (fun K hK => ?_) AllReadyH.nil
  (try simp only [List.getElem_toArray, List.getElem_cons_succ, List.getElem_cons_zero])
  refine Eq.mpr (if_pos (by rfl)) ?_
  refine wp_store_in 43 (.tmp 6) (.tmp 108) rfl (w.heap.size + 2) zerosI Y 43 rfl rfl hb25.dr LY.out IY.out OY.out ?_
  intro w6 hb6 ho6
  refine hK.out _ _ ?_ (fun hHeld => ?_)
  · exact K21.out _ (ho6.blk hb05.dr (by omega))
  clear hK K
  (try simp only [Act.put, List.setIfInBounds_toArray, List.set_cons_succ, List.set_cons_zero])
  refine wpAnyH_take (i := 18) (v := ?_) rfl (by kernel_rfl) (by kernel_rfl) (by kernel_rfl) (fun _ _ _ h => h) (Or.inl ⟨by rfl, ?_⟩) (by assumption) ?_
  rotate_left 1
  · intro w hSw; (try dsimp only at hSw); simp only [List.getElem_toArray, List.getElem_cons_succ, List.getElem_cons_zero]; go_simp; try (with_reducible rfl)
  (try simp only [List.getElem_toArray, List.getElem_cons_succ, List.getElem_cons_zero, Act.put, List.setIfInBounds_toArray, List.set_cons_succ, List.set_cons_zero])
  refine wpAnyH_done (by kernel_rfl) ?_ _
  go_wp2_with fail
  refine bodyPost_ret (v := .tuple #[.agg Y.toArray, .bool true]) ?_ rfl ⟨rfl, NAR.out _ _ hR5d ho6, FIN.out _ _ _ hFb ho5 ho6⟩
  exact results_in Try.results20 _ _ (w.heap.size + 2) 43 _ (0, 0) _ _ (by rfl) (by rfl) hb6 Try.underlying43 rfl IY.out
end Go.Proofs.Ytgdpcgjdljfdbaa
