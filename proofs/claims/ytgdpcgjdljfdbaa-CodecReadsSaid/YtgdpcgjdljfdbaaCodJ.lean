/- The contract of the law's own reads at a hash; all kinds together. -/
import Derived.Test.YtgdpcgjdljfdbaaCodG
namespace Go.Proofs.Ytgdpcgjdljfdbaa
open Go.RowKit
set_option linter.unusedVariables false
set_option linter.unusedSimpArgs false

set_option maxRecDepth 100000 in
set_option maxHeartbeats 4000000 in
theorem reads4A (w : World) (q : Nat) (l : List UInt8) (e : Nat) (o : Op4) {S : Nat → Prop} (hR : Rr w q l e S) (hS : S q) (hl : l.length ≤ 1000000) (hk : o.k % 8 % 5 = 4) (hU : tkV l e 32 = []) :
    Calls Try.prog 20 #[.pointer (some ⟨q, 0, none⟩), .agg (inC l e).toArray, .agg o.cells.toArray] w fun en w' => en = .returned (.tuple #[.agg (inC (tkL l e 32) (tkE l e 32)).toArray, .bool true]) ∧ Rr w' q (tkL l e 32) (tkE l e 32) S ∧ Frm (fun i => i = q) w w' := by
  obtain ⟨l', hl'⟩ : ∃ l', l' = tkL l e 32 := ⟨_, rfl⟩
  obtain ⟨e', he'⟩ : ∃ e', e' = tkE l e 32 := ⟨_, rfl⟩
  rw [← hl', ← he']
  obtain ⟨X, hX⟩ : ∃ X, X = inC (l) (e) := ⟨_, rfl⟩
  have IX : Hid ((Try.prog.info? 43).map (·.size) = some X.length) := Lib.hid (by rw [hX]; exact inC_size _ _)
  have LX : Hid (zerosI.length = X.length) := Lib.hid (by rw [hX]; rfl)
  have OX : Hid (∀ v ∈ X, v.oneCell' = true) := Lib.hid (by rw [hX]; exact inC_one _ _)
  obtain ⟨Y, hY⟩ : ∃ X, X = inC (l') (e') := ⟨_, rfl⟩
  have IY : Hid ((Try.prog.info? 43).map (·.size) = some Y.length) := Lib.hid (by rw [hY]; exact inC_size _ _)
  have LY : Hid (zerosI.length = Y.length) := Lib.hid (by rw [hY]; rfl)
  have OY : Hid (∀ v ∈ Y, v.oneCell' = true) := Lib.hid (by rw [hY]; exact inC_one _ _)
  have LXY : Hid (X.length = Y.length) := Lib.hid (by rw [hX, hY]; rfl)
  obtain ⟨s', hs'⟩ : ∃ s' : ByteArray, s' = ⟨l'.toArray⟩ := ⟨_, rfl⟩
  obtain ⟨N', hN'⟩ : ∃ N', N' = l'.length := ⟨_, rfl⟩
  have hsz' : s'.size = N' := by rw [hs', hN']; exact bstr_size _
  obtain ⟨OC, hOC⟩ : ∃ OC, OC = o.cells := ⟨_, rfl⟩
  have HO1 : Hid (∀ W g, Blk W g OC 28 → W.cell? ⟨g, 0, none⟩ = some (.int .i64 o.k) ∧ W.cell? ⟨g, 1, none⟩ = some (.int .u64 (o.n : Int)) ∧ W.cell? ⟨g, 2, none⟩ = some (.int .i64 o.m)) := Lib.hid fun W g h => by rw [hOC] at h; exact ⟨h.cell 0, h.cell 1, h.cell 2⟩
  obtain ⟨V, hV⟩ : ∃ V, V = (hsh l e).map B8 := ⟨_, rfl⟩
  have IV : Hid ((Try.prog.info? 74).map (·.size) = some V.length) := Lib.hid (by
    rw [hV, List.length_map, hsh_len]
    kernel_rfl)
  have LV : Hid (zerosH.length = V.length) := Lib.hid (by rw [hV, List.length_map, hsh_len]; rfl)
  have OV : Hid (∀ v ∈ V, v.oneCell' = true) := Lib.hid (by rw [hV]; exact b8s_one _)
  obtain ⟨hs, hhs⟩ : ∃ hs : ByteArray, hs = ⟨(hsh l e).toArray⟩ := ⟨_, rfl⟩
  have HCV : Hid (∀ W g, Blk W g V 74 → (convert 26 9 (.slice (some ⟨g, 0, none⟩) 32 32)).run Try.prog W = .ok (.string hs) W) := Lib.hid fun W g h => by
    rw [hhs]
    refine conv8 W _ _ _ _ (h.rd 0 32 (hsh l e) (hsh_len l e) (fun j hj => ?_))
    rw [hV, Nat.zero_add, List.getElem?_map, List.getElem?_eq_getElem hj]
    rfl
  have hq := hR.lt
  have hb0 : Blk (((w.alloc (.cells X.toArray 43)).alloc (.cells OC.toArray 28)).alloc (.cells #[.string ⟨#[]⟩, .int .i64 0] 43)) (w.heap.size) X 43 := Blk.alloc (Blk.alloc (Blk.new w X.toArray 43) _) _
  have hb1 : Blk (((w.alloc (.cells X.toArray 43)).alloc (.cells OC.toArray 28)).alloc (.cells #[.string ⟨#[]⟩, .int .i64 0] 43)) (w.heap.size + 1) OC 28 := Blk.alloc (Blk.new' _ _ _ _ (by simp)) _
  have hb2 : Blk (((w.alloc (.cells X.toArray 43)).alloc (.cells OC.toArray 28)).alloc (.cells #[.string ⟨#[]⟩, .int .i64 0] 43)) (w.heap.size + 2) zerosI 43 := Blk.new' _ _ _ _ (by simp)
  have HB : Below w.heap.size w (((w.alloc (.cells X.toArray 43)).alloc (.cells OC.toArray 28)).alloc (.cells #[.string ⟨#[]⟩, .int .i64 0] 43)) := below_al (below2 w _ _) _
  have hs0 : (((w.alloc (.cells X.toArray 43)).alloc (.cells OC.toArray 28)).alloc (.cells #[.string ⟨#[]⟩, .int .i64 0] 43)).heap.size = w.heap.size + 3 := by simp
  obtain ⟨w0, hw0⟩ : ∃ w0, w0 = ((w.alloc (.cells X.toArray 43)).alloc (.cells OC.toArray 28)).alloc (.cells #[.string ⟨#[]⟩, .int .i64 0] 43) := ⟨_, rfl⟩
  rw [← hw0] at hb0 hb1 hb2 HB hs0
  have hR0 : Rr w0 q l e (fun i => S i ∨ w.heap.size ≤ i) := hR.wide HB
  have K21 : Hid (∀ W, Blk W (w.heap.size) Y 43 → W.rangeAt w.heap.size 0 Y ∧ W.cell? ⟨w.heap.size, 0, none⟩ = some (.string s') ∧ W.cell? ⟨w.heap.size, 1, none⟩ = some (.int .i64 (e' : Int))) := Lib.hid fun W h => by
    refine ⟨h.range, ?_, ?_⟩
    · rw [hY] at h; rw [hs']; exact h.cell 0
    · rw [hY] at h; exact h.cell 1
  have CL : Hid (∀ W, Rr W q l' e' (fun i => S i ∨ w.heap.size ≤ i) → Calls Try.prog 27 #[.pointer (some ⟨q, 0, none⟩)] W fun en w' => en = .returned (.int .i64 (N' : Int)) ∧ W = w') := Lib.hid fun W h => by rw [hN']; exact left_calls W q l' e' h
  have NAR5 : Hid (∀ v2 w5 : World, Rr v2 q l' e' (fun i => S i ∨ w.heap.size ≤ i) → Only (w.heap.size) v2 w5 → Rr w5 q l' e' (fun i => S i ∨ w.heap.size ≤ i)) := Lib.hid fun v2 w5 h1 h2 => h1.narrow (fun i hi => hi) (h2.block q (by omega)) (Frm.only h2 (.inr (Nat.le_refl _)))
  have NAR : Hid (∀ w5 w6 : World, Rr w5.drew q l' e' (fun i => S i ∨ w.heap.size ≤ i) → Only (w.heap.size + 2) w5.drew w6 → Rr w6 q l' e' S) := Lib.hid fun w5 w6 h1 h2 => h1.narrow (fun i hi => .inl hi) (h2.block q (by omega)) (Frm.only h2 (.inr (by omega)))
  have FIN : Hid (∀ v2 w5 w6 : World, Frm (fun i => i = q) w v2 → Only (w.heap.size) v2 w5 → Only (w.heap.size + 2) w5.drew w6 → Frm (fun i => i = q) w w6) := Lib.hid fun v2 w5 w6 h1 h2 h3 =>
    (h1.step (Frm.only (S := fun i => i = w.heap.size) h2 rfl) (fun i hi => .inr (by omega))).step (Frm.undrew (Frm.only (S := fun i => i = w.heap.size + 2) h3 rfl)) (fun i hi => .inr (by omega))
  have FB := Lib.hid (Frm.of_below (S := fun i => i = q) HB)
  have C1 : Hid (∀ W, Calls Try.prog 35 #[.agg X.toArray, .int .i64 32] W (Ret W (.tuple #[.agg Y.toArray, .string ⟨#[]⟩]))) := Lib.hid fun W => by
    have h := dtake_in l e 32 32 rfl W
    rw [hX, hY, hl', he']
    rw [hU] at h
    exact h
  have C2 : Hid (∀ W, Rr W q l e (fun i => S i ∨ w.heap.size ≤ i) → Calls Try.prog 37 #[.pointer (some ⟨q, 0, none⟩)] W fun en w' => en = .returned (.agg V.toArray) ∧ Rr w' q l' e' (fun i => S i ∨ w.heap.size ≤ i) ∧ Frm (fun i => i = q) W w') := Lib.hid fun W h => by rw [hV, hl', he']; exact rhash_calls W q l e h (.inl hS)
  have hcm : ∀ W : World, (convert 26 9 (.slice (some ⟨W.heap.size, 0, none⟩) 32 32)).run Try.prog (W.alloc (.cells (madeCells #[.int .u8 0] 32) 5)) = .ok (.string hs) (W.alloc (.cells (madeCells #[.int .u8 0] 32) 5)) := fun W => by
    rw [hhs, show hsh l e = List.replicate 32 0 from by unfold hsh; rw [hU]; rfl]
    exact conv8 _ _ _ _ _ (Own.made W 32 (by unfold maxLen; omega)).rd
  have hmk : ∀ W : World, (Instr.makeSlice 26 (.int .i64 32) (.int .i64 32)).run Try.prog W = .ok (.slice (some ⟨W.heap.size, 0, none⟩) 32 32) (W.alloc (.cells (madeCells #[.int .u8 0] 32) 5)) := fun W => run_mk8 32 (by omega) W
  rw [← hX, ← hY, ← hOC]
  obtain ⟨a, ha⟩ : ∃ a : Nat, (a : Int) = o.k % 8 := ⟨(o.k % 8).toNat, by omega⟩
  have hand : bits .and .i64 o.k 7 = (a : Int) := by rw [and7, ha]
  have hrem1 : (a : Int).tmod 5 = 4 := by rw [Int.tmod_eq_emod_of_nonneg (by omega), ha]; exact hk
  have hrem2 : (a : Int) % 5 = 4 := by rw [ha]; exact hk
  clear hk ha
  clear hX hY hOC hs' hN' hl' he' hR HB hl hV hhs hU
  go_enter Try.func20, Try.ntmps20
  go_upto_region 1 with fail
  rw [← hw0]
  clear hw0
  have c00 := (HO1.out _ _ hb1).1
  have c01 := (HO1.out _ _ hb1).2.1
  have c02 := (HO1.out _ _ hb1).2.2
  go_wp2_with (first
    | ((with_reducible refine at_load 43 (.tmp 4) ?_); refine wpList_load_mid rfl 43 (.tmp 4) rfl (w.heap.size) 0 rfl X _ (hb0).range Try.underlying43 rfl IX.out ?_)
    | (go_at_call 35; refine (C1.out _).mono ?_; rintro e'' v1 ⟨rfl, d1⟩)
    | ((with_reducible refine at_store 43 (.tmp 17) (.tmp 95) ?_); refine wpList_store_blk rfl 43 (.tmp 17) (.tmp 95) rfl (v1.heap.size) zerosI Y 43 rfl rfl (Blk.new v1 _ _) LY.out IY.out OY.out ?_; intro x1 hbx1 hox1; have dx1 : Below w0.heap.size w0 x1 := below_only (below_al d1 _) hox1 d1.size; have hR1 := hR0.below dx1; have hgq : ¬ v1.heap.size = q := (by have := d1.size; omega); have hgw : w.heap.size + 3 ≤ v1.heap.size := (by have := d1.size; omega))
    | (go_at_call 37; refine (C2.out _ hR1).mono ?_; rintro e'' v2 ⟨rfl, hRv, hf2⟩)
    | ((with_reducible refine at_store 74 (.tmp 19) (.tmp 98) ?_); refine wpList_store_blk rfl 74 (.tmp 19) (.tmp 98) rfl v2.heap.size zerosH V 74 rfl rfl (Blk.new v2 _ _) LV.out IV.out OV.out ?_; intro x2 hbx2 hox2))
  have dx2 : Below v2.heap.size v2 x2 := below_only (below_al (Below.refl _ v2) _) hox2 (Nat.le_refl _)
  obtain ⟨x3, hx3⟩ : ∃ x3, x3 = x2.alloc (.cells (madeCells #[.int .u8 0] 32) 5) := ⟨_, rfl⟩
  have dx3 : Below v2.heap.size v2 x3 := by rw [hx3]; exact below_al dx2 _
  have dx23 : Below x2.heap.size x2 x3 := by rw [hx3]; exact below_al (Below.refl _ x2) _
  rw [← hx3]
  clear hx3
  have hbg3 := ((hf2.blk hbx1 hgq).up dx3).dr
  have hb03 := ((hf2.blk (hb0.up dx1) (by omega)).up dx3).dr
  have hb2b := ((hf2.blk (hb2.up dx1) (by omega)).up dx3).dr
  have hbh3 := (hbx2.up dx23).dr
  have hRb := (hRv.below dx3).drew
  have hs2 : x1.heap.size ≤ v2.heap.size := hf2.size
  have hs3 := dx1.size
  have hgv : v1.heap.size < x1.heap.size := hbx1.lt
  have hFb : Frm (fun i => i = q) w x3.drew := ((FB.out.step (Frm.of_below (S := fun i => i = q) dx1) (fun i hi => .inl hi)).trans (hf2.step (Frm.of_below (S := fun i => i = q) dx3) (fun i hi => .inl hi))).drew
  have hsa : ∀ W, (Instr.sliceAt 74 (.pointer (some ⟨v2.heap.size, 0, none⟩)) none none none).run Try.prog W = .ok (.slice (some ⟨v2.heap.size, 0, none⟩) 32 32) W := fun W => run_sl_all 74 5 32 Try.underlying74 size8 v2.heap.size 0 (by omega) W
  refine wp_region_held_drew (S := fun W => W.rangeAt v1.heap.size 0 Y ∧ (convert 26 9 (.slice (some ⟨v2.heap.size, 0, none⟩) 32 32)).run Try.prog W = .ok (.string hs) W) (by kernel_rfl) ?_ (fun hHeld => ?_)
  · exact ⟨hbg3.range, HCV.out _ _ hbh3⟩
  refine wpAnyH_take (i := 0) rfl (by kernel_rfl) (by kernel_rfl) (by kernel_rfl) (fun _ _ _ h => h) (yieldsIf_load_mid (by rfl) _ _ rfl _ _ rfl Y _ (fun w hSw => by (try dsimp only at hSw); go_split_ands; assumption) Try.underlying43 rfl IY.out) (by assumption) ?_
  (try simp only [List.getElem_toArray, List.getElem_cons_succ, List.getElem_cons_zero, Act.put, List.setIfInBounds_toArray, List.set_cons_succ, List.set_cons_zero])
  refine wpAnyH_take (i := 1) (v := .slice (some ⟨v2.heap.size, 0, none⟩) 32 32) rfl (by kernel_rfl) (by kernel_rfl) (by kernel_rfl) (fun _ _ _ h => h) (Or.inl ⟨by rfl, ?_⟩) (by assumption) ?_
  · intro w hSw; (try dsimp only at hSw); simp only [List.getElem_toArray, List.getElem_cons_succ, List.getElem_cons_zero]; first | (simp [execOp, Act.eval, hsa]; done) | (go_simp; done)
  (try simp only [List.getElem_toArray, List.getElem_cons_succ, List.getElem_cons_zero, Act.put, List.setIfInBounds_toArray, List.set_cons_succ, List.set_cons_zero])
  refine wpAnyH_take (i := 2) (v := ?_) rfl (by kernel_rfl) (by kernel_rfl) (by kernel_rfl) (fun _ _ _ h => h) (Or.inl ⟨by rfl, ?_⟩) (by assumption) ?_
  rotate_left 1
  · intro w hSw; (try dsimp only at hSw); simp only [List.getElem_toArray, List.getElem_cons_succ, List.getElem_cons_zero]; go_simp; try (with_reducible rfl)
  (try simp only [List.getElem_toArray, List.getElem_cons_succ, List.getElem_cons_zero, Act.put, List.setIfInBounds_toArray, List.set_cons_succ, List.set_cons_zero])
  refine wpAnyH_take (i := 3) (v := ?_) rfl (by kernel_rfl) (by kernel_rfl) (by kernel_rfl) (fun _ _ _ h => h) (Or.inl ⟨by rfl, ?_⟩) (by assumption) ?_
  rotate_left 1
  · intro w hSw; (try dsimp only at hSw); simp only [List.getElem_toArray, List.getElem_cons_succ, List.getElem_cons_zero]; go_simp; try (with_reducible rfl)
  (try simp only [List.getElem_toArray, List.getElem_cons_succ, List.getElem_cons_zero, Act.put, List.setIfInBounds_toArray, List.set_cons_succ, List.set_cons_zero])
  refine wpAnyH_take (i := 4) (v := ?_) rfl (by kernel_rfl) (by kernel_rfl) (by kernel_rfl) (fun _ _ _ h => h) (Or.inl ⟨by rfl, ?_⟩) (by assumption) ?_
  rotate_left 1
  · intro w hSw; (try dsimp only at hSw); simp only [List.getElem_toArray, List.getElem_cons_succ, List.getElem_cons_zero]; go_simp; try (with_reducible rfl)
  (try simp only [List.getElem_toArray, List.getElem_cons_succ, List.getElem_cons_zero, Act.put, List.setIfInBounds_toArray, List.set_cons_succ, List.set_cons_zero])
  refine wpAnyH_ready (rs := [5]) (by kernel_rfl) (by simp) ?_
  refine AllReadyH.cons rfl (fun K hK => ?_) AllReadyH.nil
  (try simp only [List.getElem_toArray, List.getElem_cons_succ, List.getElem_cons_zero])
  refine Eq.mpr (if_pos (by rfl)) ?_
  refine wp_store_in 43 (.tmp 4) (.tmp 103) rfl (w.heap.size) X Y 43 rfl rfl hb03 LXY.out IY.out OY.out ?_
  intro w5 hb05 ho5
  refine hK.out _ _ ?_ (fun hHeld => ?_)
  · exact ⟨(ho5.blk hbg3 (by omega)).range, HCV.out _ _ (ho5.blk hbh3 (by omega))⟩
  clear hK K
  (try simp only [Act.put, List.setIfInBounds_toArray, List.set_cons_succ, List.set_cons_zero])
  refine wpAnyH_take (i := 6) (v := ?_) rfl (by kernel_rfl) (by kernel_rfl) (by kernel_rfl) (fun _ _ _ h => h) (Or.inl ⟨by rfl, ?_⟩) (by assumption) ?_
  rotate_left 1
  · intro w hSw; (try dsimp only at hSw); simp only [List.getElem_toArray, List.getElem_cons_succ, List.getElem_cons_zero]; go_simp; try (with_reducible rfl)
  (try simp only [List.getElem_toArray, List.getElem_cons_succ, List.getElem_cons_zero, Act.put, List.setIfInBounds_toArray, List.set_cons_succ, List.set_cons_zero])
  refine wpAnyH_done (by kernel_rfl) ?_ _
  have hb25 := ho5.blk hb2b (by omega)
  have hR5d := (NAR5.out _ _ hRb ho5).drew
  go_wp2_with fail
  refine wp_region_held_drew (S := fun W => W.rangeAt w.heap.size 0 Y ∧ W.cell? ⟨w.heap.size, 0, none⟩ = some (.string s') ∧ W.cell? ⟨w.heap.size, 1, none⟩ = some (.int .i64 (e' : Int))) (by kernel_rfl) ?_ (fun hHeld => ?_)
  · exact K21.out _ hb05
  refine wpAnyH_take (i := 0) rfl (by kernel_rfl) (by kernel_rfl) (by kernel_rfl) (fun _ _ _ h => h) (yieldsIf_load_mid (by rfl) _ _ rfl _ _ rfl Y _ (fun w hSw => by (try dsimp only at hSw); go_split_ands; assumption) Try.underlying43 rfl IY.out) (by assumption) ?_
  (try simp only [List.getElem_toArray, List.getElem_cons_succ, List.getElem_cons_zero, Act.put, List.setIfInBounds_toArray, List.set_cons_succ, List.set_cons_zero])
  refine wpAnyH_take (i := 1) (v := ?_) rfl (by kernel_rfl) (by kernel_rfl) (by kernel_rfl) (fun _ _ _ h => h) (Or.inl ⟨by rfl, ?_⟩) (by assumption) ?_
  rotate_left 1
  · intro w hSw; (try dsimp only at hSw); simp only [List.getElem_toArray, List.getElem_cons_succ, List.getElem_cons_zero]; go_simp; try (with_reducible rfl)
  (try simp only [List.getElem_toArray, List.getElem_cons_succ, List.getElem_cons_zero, Act.put, List.setIfInBounds_toArray, List.set_cons_succ, List.set_cons_zero])
  refine wpAnyH_take (i := 2) (v := ?_) rfl (by kernel_rfl) (by kernel_rfl) (by kernel_rfl) (fun _ _ _ h => h) (Or.inl ⟨by rfl, ?_⟩) (by assumption) ?_
  rotate_left 1
  · intro w hSw; (try dsimp only at hSw); simp only [List.getElem_toArray, List.getElem_cons_succ, List.getElem_cons_zero]; go_simp; try (with_reducible rfl)
  (try simp only [List.getElem_toArray, List.getElem_cons_succ, List.getElem_cons_zero, Act.put, List.setIfInBounds_toArray, List.set_cons_succ, List.set_cons_zero])
  refine wpAnyH_take (i := 3) (v := ?_) rfl (by kernel_rfl) (by kernel_rfl) (by kernel_rfl) (fun _ _ _ h => h) (Or.inl ⟨by rfl, ?_⟩) (by assumption) ?_
  rotate_left 1
  · intro w hSw; (try dsimp only at hSw); simp only [List.getElem_toArray, List.getElem_cons_succ, List.getElem_cons_zero]; go_simp; try (with_reducible rfl)
  (try simp only [List.getElem_toArray, List.getElem_cons_succ, List.getElem_cons_zero, Act.put, List.setIfInBounds_toArray, List.set_cons_succ, List.set_cons_zero])
  refine wpAnyH_take (i := 5) (v := ?_) rfl (by kernel_rfl) (by kernel_rfl) (by kernel_rfl) (fun _ _ _ h => h) (Or.inl ⟨by rfl, ?_⟩) (by assumption) ?_
  rotate_left 1
  · intro w hSw; (try dsimp only at hSw); simp only [List.getElem_toArray, List.getElem_cons_succ, List.getElem_cons_zero]; go_simp; try (with_reducible rfl)
  (try simp only [List.getElem_toArray, List.getElem_cons_succ, List.getElem_cons_zero, Act.put, List.setIfInBounds_toArray, List.set_cons_succ, List.set_cons_zero])
  refine wpAnyH_take (i := 6) (v := ?_) rfl (by kernel_rfl) (by kernel_rfl) (by kernel_rfl) (fun _ _ _ h => h) (Or.inl ⟨by rfl, ?_⟩) (by assumption) ?_
  rotate_left 1
  · intro w hSw; (try dsimp only at hSw); simp only [List.getElem_toArray, List.getElem_cons_succ, List.getElem_cons_zero]; go_simp; try (with_reducible rfl)
  (try simp only [List.getElem_toArray, List.getElem_cons_succ, List.getElem_cons_zero, Act.put, List.setIfInBounds_toArray, List.set_cons_succ, List.set_cons_zero])
  refine wpAnyH_ready (rs := [4]) (by kernel_rfl) (by simp) ?_
  refine AllReadyH.cons rfl (fun K hK => ?_) AllReadyH.nil
  (try simp only [List.getElem_toArray, List.getElem_cons_succ, List.getElem_cons_zero])
  go_simp
  go_at_call 22; refine (err_calls _ q l' e' hR5d).mono ?_; rintro e'' x' ⟨rfl, rfl⟩
  (try (go_wp2_with fail))
  refine hK.out _ _ ?_ (fun hHeld => ?_)
  · exact K21.out _ hb05
  clear hK K
  (try simp only [Act.put, List.setIfInBounds_toArray, List.set_cons_succ, List.set_cons_zero])
  refine wpAnyH_take (i := 7) (v := ?_) rfl (by kernel_rfl) (by kernel_rfl) (by kernel_rfl) (fun _ _ _ h => h) (Or.inl ⟨by rfl, ?_⟩) (by assumption) ?_
  rotate_left 1
  · intro w hSw; (try dsimp only at hSw); simp only [List.getElem_toArray, List.getElem_cons_succ, List.getElem_cons_zero]; go_simp; try (with_reducible rfl)
  (try simp only [List.getElem_toArray, List.getElem_cons_succ, List.getElem_cons_zero, Act.put, List.setIfInBounds_toArray, List.set_cons_succ, List.set_cons_zero])
  refine wpAnyH_take (i := 8) (v := ?_) rfl (by kernel_rfl) (by kernel_rfl) (by kernel_rfl) (fun _ _ _ h => h) (Or.inl ⟨by rfl, ?_⟩) (by assumption) ?_
  rotate_left 1
  · intro w hSw; (try dsimp only at hSw); simp only [List.getElem_toArray, List.getElem_cons_succ, List.getElem_cons_zero]; go_simp; try (with_reducible rfl)
  (try simp only [List.getElem_toArray, List.getElem_cons_succ, List.getElem_cons_zero, Act.put, List.setIfInBounds_toArray, List.set_cons_succ, List.set_cons_zero])
  refine wpAnyH_take (i := 9) (v := ?_) rfl (by kernel_rfl) (by kernel_rfl) (by kernel_rfl) (fun _ _ _ h => h) (Or.inl ⟨by rfl, ?_⟩) (by assumption) ?_
  rotate_left 1
  · intro w hSw; (try dsimp only at hSw); simp only [List.getElem_toArray, List.getElem_cons_succ, List.getElem_cons_zero]; go_simp; try (with_reducible rfl)
  (try simp only [List.getElem_toArray, List.getElem_cons_succ, List.getElem_cons_zero, Act.put, List.setIfInBounds_toArray, List.set_cons_succ, List.set_cons_zero])
  refine wpAnyH_take (i := 10) (v := ?_) rfl (by kernel_rfl) (by kernel_rfl) (by kernel_rfl) (fun _ _ _ h => h) (Or.inl ⟨by rfl, ?_⟩) (by assumption) ?_
  rotate_left 1
  · intro w hSw; (try dsimp only at hSw); simp only [List.getElem_toArray, List.getElem_cons_succ, List.getElem_cons_zero]; go_simp; try (with_reducible rfl)
  (try simp only [List.getElem_toArray, List.getElem_cons_succ, List.getElem_cons_zero, Act.put, List.setIfInBounds_toArray, List.set_cons_succ, List.set_cons_zero])
  refine wpAnyH_take (i := 12) (v := ?_) rfl (by kernel_rfl) (by kernel_rfl) (by kernel_rfl) (fun _ _ _ h => h) (Or.inl ⟨by rfl, ?_⟩) (by assumption) ?_
  rotate_left 1
  · intro w hSw; (try dsimp only at hSw); simp only [List.getElem_toArray, List.getElem_cons_succ, List.getElem_cons_zero]; go_simp; try (with_reducible rfl)
  (try simp only [List.getElem_toArray, List.getElem_cons_succ, List.getElem_cons_zero, Act.put, List.setIfInBounds_toArray, List.set_cons_succ, List.set_cons_zero])
  refine wpAnyH_take (i := 13) (v := ?_) rfl (by kernel_rfl) (by kernel_rfl) (by kernel_rfl) (fun _ _ _ h => h) (Or.inl ⟨by rfl, ?_⟩) (by assumption) ?_
  rotate_left 1
  · intro w hSw; (try dsimp only at hSw); simp only [List.getElem_toArray, List.getElem_cons_succ, List.getElem_cons_zero]; go_simp; try (with_reducible rfl)
  (try simp only [List.getElem_toArray, List.getElem_cons_succ, List.getElem_cons_zero, Act.put, List.setIfInBounds_toArray, List.set_cons_succ, List.set_cons_zero])
  refine wpAnyH_take (i := 14) (v := ?_) rfl (by kernel_rfl) (by kernel_rfl) (by kernel_rfl) (fun _ _ _ h => h) (Or.inl ⟨by rfl, ?_⟩) (by assumption) ?_
  rotate_left 1
  · intro w hSw; (try dsimp only at hSw); simp only [List.getElem_toArray, List.getElem_cons_succ, List.getElem_cons_zero]; go_simp; try (with_reducible rfl)
  (try simp only [List.getElem_toArray, List.getElem_cons_succ, List.getElem_cons_zero, Act.put, List.setIfInBounds_toArray, List.set_cons_succ, List.set_cons_zero])
  refine wpAnyH_ready (rs := [11]) (by kernel_rfl) (by simp) ?_
  refine AllReadyH.cons rfl (fun K hK => ?_) AllReadyH.nil
  (try simp only [List.getElem_toArray, List.getElem_cons_succ, List.getElem_cons_zero])
  go_simp
  go_at_call 27; refine (CL.out _ hR5d).mono ?_; rintro e'' x' ⟨rfl, rfl⟩
  (try (go_wp2_with fail))
  refine hK.out _ _ ?_ (fun hHeld => ?_)
  · exact K21.out _ hb05
  clear hK K
  (try simp only [Act.put, List.setIfInBounds_toArray, List.set_cons_succ, List.set_cons_zero])
  refine wpAnyH_take (i := 15) (v := ?_) rfl (by kernel_rfl) (by kernel_rfl) (by kernel_rfl) (fun _ _ _ h => h) (Or.inl ⟨by rfl, ?_⟩) (by assumption) ?_
  rotate_left 1
  · intro w hSw; (try dsimp only at hSw); simp only [List.getElem_toArray, List.getElem_cons_succ, List.getElem_cons_zero]; go_simp; try (with_reducible rfl)
  (try simp only [List.getElem_toArray, List.getElem_cons_succ, List.getElem_cons_zero, Act.put, List.setIfInBounds_toArray, List.set_cons_succ, List.set_cons_zero])
  refine wpAnyH_take (i := 16) (v := ?_) rfl (by kernel_rfl) (by kernel_rfl) (by kernel_rfl) (fun _ _ _ h => h) (Or.inl ⟨by rfl, ?_⟩) (by assumption) ?_
  rotate_left 1
  · intro w hSw; (try dsimp only at hSw); simp only [List.getElem_toArray, List.getElem_cons_succ, List.getElem_cons_zero]; go_simp; try (with_reducible rfl)
  (try simp only [List.getElem_toArray, List.getElem_cons_succ, List.getElem_cons_zero, Act.put, List.setIfInBounds_toArray, List.set_cons_succ, List.set_cons_zero])
  refine wpAnyH_ready (rs := [17]) (by kernel_rfl) (by simp) ?_
  refine AllReadyH.cons rfl (fun K hK => ?_) AllReadyH.nil
  (try simp only [List.getElem_toArray, List.getElem_cons_succ, List.getElem_cons_zero])
  refine Eq.mpr (if_pos (by rfl)) ?_
  refine wp_store_in 43 (.tmp 6) (.tmp 108) rfl (w.heap.size + 2) zerosI Y 43 rfl rfl hb25.dr LY.out IY.out OY.out ?_
  intro w6 hb6 ho6
  refine hK.out _ _ ?_ (fun hHeld => ?_)
  · exact K21.out _ (ho6.blk hb05.dr (by omega))
  clear hK K
  (try simp only [Act.put, List.setIfInBounds_toArray, List.set_cons_succ, List.set_cons_zero])
  refine wpAnyH_take (i := 18) (v := ?_) rfl (by kernel_rfl) (by kernel_rfl) (by kernel_rfl) (fun _ _ _ h => h) (Or.inl ⟨by rfl, ?_⟩) (by assumption) ?_
  rotate_left 1
  · intro w hSw; (try dsimp only at hSw); simp only [List.getElem_toArray, List.getElem_cons_succ, List.getElem_cons_zero]; go_simp; try (with_reducible rfl)
  (try simp only [List.getElem_toArray, List.getElem_cons_succ, List.getElem_cons_zero, Act.put, List.setIfInBounds_toArray, List.set_cons_succ, List.set_cons_zero])
  refine wpAnyH_done (by kernel_rfl) ?_ _
  go_wp2_with fail
  refine bodyPost_ret (v := .tuple #[.agg Y.toArray, .bool true]) ?_ rfl ⟨rfl, NAR.out _ _ hR5d ho6, FIN.out _ _ _ hFb ho5 ho6⟩
  exact results_in Try.results20 _ _ (w.heap.size + 2) 43 _ (0, 0) _ _ (by rfl) (by rfl) hb6 Try.underlying43 rfl IY.out
set_option maxRecDepth 100000 in
set_option maxHeartbeats 4000000 in
theorem reads4B (w : World) (q : Nat) (l : List UInt8) (e : Nat) (o : Op4) {S : Nat → Prop} (hR : Rr w q l e S) (hS : S q) (hl : l.length ≤ 1000000) (hk : o.k % 8 % 5 = 4) (hU : (tkV l e 32).length = 32) :
    Calls Try.prog 20 #[.pointer (some ⟨q, 0, none⟩), .agg (inC l e).toArray, .agg o.cells.toArray] w fun en w' => en = .returned (.tuple #[.agg (inC (tkL l e 32) (tkE l e 32)).toArray, .bool true]) ∧ Rr w' q (tkL l e 32) (tkE l e 32) S ∧ Frm (fun i => i = q) w w' := by
  obtain ⟨l', hl'⟩ : ∃ l', l' = tkL l e 32 := ⟨_, rfl⟩
  obtain ⟨e', he'⟩ : ∃ e', e' = tkE l e 32 := ⟨_, rfl⟩
  rw [← hl', ← he']
  obtain ⟨X, hX⟩ : ∃ X, X = inC (l) (e) := ⟨_, rfl⟩
  have IX : Hid ((Try.prog.info? 43).map (·.size) = some X.length) := Lib.hid (by rw [hX]; exact inC_size _ _)
  have LX : Hid (zerosI.length = X.length) := Lib.hid (by rw [hX]; rfl)
  have OX : Hid (∀ v ∈ X, v.oneCell' = true) := Lib.hid (by rw [hX]; exact inC_one _ _)
  obtain ⟨Y, hY⟩ : ∃ X, X = inC (l') (e') := ⟨_, rfl⟩
  have IY : Hid ((Try.prog.info? 43).map (·.size) = some Y.length) := Lib.hid (by rw [hY]; exact inC_size _ _)
  have LY : Hid (zerosI.length = Y.length) := Lib.hid (by rw [hY]; rfl)
  have OY : Hid (∀ v ∈ Y, v.oneCell' = true) := Lib.hid (by rw [hY]; exact inC_one _ _)
  have LXY : Hid (X.length = Y.length) := Lib.hid (by rw [hX, hY]; rfl)
  obtain ⟨s', hs'⟩ : ∃ s' : ByteArray, s' = ⟨l'.toArray⟩ := ⟨_, rfl⟩
  obtain ⟨N', hN'⟩ : ∃ N', N' = l'.length := ⟨_, rfl⟩
  have hsz' : s'.size = N' := by rw [hs', hN']; exact bstr_size _
  obtain ⟨OC, hOC⟩ : ∃ OC, OC = o.cells := ⟨_, rfl⟩
  have HO1 : Hid (∀ W g, Blk W g OC 28 → W.cell? ⟨g, 0, none⟩ = some (.int .i64 o.k) ∧ W.cell? ⟨g, 1, none⟩ = some (.int .u64 (o.n : Int)) ∧ W.cell? ⟨g, 2, none⟩ = some (.int .i64 o.m)) := Lib.hid fun W g h => by rw [hOC] at h; exact ⟨h.cell 0, h.cell 1, h.cell 2⟩
  obtain ⟨V, hV⟩ : ∃ V, V = (hsh l e).map B8 := ⟨_, rfl⟩
  have IV : Hid ((Try.prog.info? 74).map (·.size) = some V.length) := Lib.hid (by
    rw [hV, List.length_map, hsh_len]
    kernel_rfl)
  have LV : Hid (zerosH.length = V.length) := Lib.hid (by rw [hV, List.length_map, hsh_len]; rfl)
  have OV : Hid (∀ v ∈ V, v.oneCell' = true) := Lib.hid (by rw [hV]; exact b8s_one _)
  obtain ⟨hs, hhs⟩ : ∃ hs : ByteArray, hs = ⟨(hsh l e).toArray⟩ := ⟨_, rfl⟩
  have HCV : Hid (∀ W g, Blk W g V 74 → (convert 26 9 (.slice (some ⟨g, 0, none⟩) 32 32)).run Try.prog W = .ok (.string hs) W) := Lib.hid fun W g h => by
    rw [hhs]
    refine conv8 W _ _ _ _ (h.rd 0 32 (hsh l e) (hsh_len l e) (fun j hj => ?_))
    rw [hV, Nat.zero_add, List.getElem?_map, List.getElem?_eq_getElem hj]
    rfl
  have hq := hR.lt
  have hb0 : Blk (((w.alloc (.cells X.toArray 43)).alloc (.cells OC.toArray 28)).alloc (.cells #[.string ⟨#[]⟩, .int .i64 0] 43)) (w.heap.size) X 43 := Blk.alloc (Blk.alloc (Blk.new w X.toArray 43) _) _
  have hb1 : Blk (((w.alloc (.cells X.toArray 43)).alloc (.cells OC.toArray 28)).alloc (.cells #[.string ⟨#[]⟩, .int .i64 0] 43)) (w.heap.size + 1) OC 28 := Blk.alloc (Blk.new' _ _ _ _ (by simp)) _
  have hb2 : Blk (((w.alloc (.cells X.toArray 43)).alloc (.cells OC.toArray 28)).alloc (.cells #[.string ⟨#[]⟩, .int .i64 0] 43)) (w.heap.size + 2) zerosI 43 := Blk.new' _ _ _ _ (by simp)
  have HB : Below w.heap.size w (((w.alloc (.cells X.toArray 43)).alloc (.cells OC.toArray 28)).alloc (.cells #[.string ⟨#[]⟩, .int .i64 0] 43)) := below_al (below2 w _ _) _
  have hs0 : (((w.alloc (.cells X.toArray 43)).alloc (.cells OC.toArray 28)).alloc (.cells #[.string ⟨#[]⟩, .int .i64 0] 43)).heap.size = w.heap.size + 3 := by simp
  obtain ⟨w0, hw0⟩ : ∃ w0, w0 = ((w.alloc (.cells X.toArray 43)).alloc (.cells OC.toArray 28)).alloc (.cells #[.string ⟨#[]⟩, .int .i64 0] 43) := ⟨_, rfl⟩
  rw [← hw0] at hb0 hb1 hb2 HB hs0
  have hR0 : Rr w0 q l e (fun i => S i ∨ w.heap.size ≤ i) := hR.wide HB
  have K21 : Hid (∀ W, Blk W (w.heap.size) Y 43 → W.rangeAt w.heap.size 0 Y ∧ W.cell? ⟨w.heap.size, 0, none⟩ = some (.string s') ∧ W.cell? ⟨w.heap.size, 1, none⟩ = some (.int .i64 (e' : Int))) := Lib.hid fun W h => by
    refine ⟨h.range, ?_, ?_⟩
    · rw [hY] at h; rw [hs']; exact h.cell 0
    · rw [hY] at h; exact h.cell 1
  have CL : Hid (∀ W, Rr W q l' e' (fun i => S i ∨ w.heap.size ≤ i) → Calls Try.prog 27 #[.pointer (some ⟨q, 0, none⟩)] W fun en w' => en = .returned (.int .i64 (N' : Int)) ∧ W = w') := Lib.hid fun W h => by rw [hN']; exact left_calls W q l' e' h
  have NAR5 : Hid (∀ v2 w5 : World, Rr v2 q l' e' (fun i => S i ∨ w.heap.size ≤ i) → Only (w.heap.size) v2 w5 → Rr w5 q l' e' (fun i => S i ∨ w.heap.size ≤ i)) := Lib.hid fun v2 w5 h1 h2 => h1.narrow (fun i hi => hi) (h2.block q (by omega)) (Frm.only h2 (.inr (Nat.le_refl _)))
  have NAR : Hid (∀ w5 w6 : World, Rr w5.drew q l' e' (fun i => S i ∨ w.heap.size ≤ i) → Only (w.heap.size + 2) w5.drew w6 → Rr w6 q l' e' S) := Lib.hid fun w5 w6 h1 h2 => h1.narrow (fun i hi => .inl hi) (h2.block q (by omega)) (Frm.only h2 (.inr (by omega)))
  have FIN : Hid (∀ v2 w5 w6 : World, Frm (fun i => i = q) w v2 → Only (w.heap.size) v2 w5 → Only (w.heap.size + 2) w5.drew w6 → Frm (fun i => i = q) w w6) := Lib.hid fun v2 w5 w6 h1 h2 h3 =>
    (h1.step (Frm.only (S := fun i => i = w.heap.size) h2 rfl) (fun i hi => .inr (by omega))).step (Frm.undrew (Frm.only (S := fun i => i = w.heap.size + 2) h3 rfl)) (fun i hi => .inr (by omega))
  have FB := Lib.hid (Frm.of_below (S := fun i => i = q) HB)
  have C1 : Hid (∀ W, Calls Try.prog 35 #[.agg X.toArray, .int .i64 32] W (Ret W (.tuple #[.agg Y.toArray, .string hs]))) := Lib.hid fun W => by
    have h := dtake_in l e 32 32 rfl W
    rw [hX, hY, hl', he', hhs]
    rw [show hsh l e = tkV l e 32 from by unfold hsh; rw [hU]; simp]
    exact h
  have C2 : Hid (∀ W, Rr W q l e (fun i => S i ∨ w.heap.size ≤ i) → Calls Try.prog 37 #[.pointer (some ⟨q, 0, none⟩)] W fun en w' => en = .returned (.agg V.toArray) ∧ Rr w' q l' e' (fun i => S i ∨ w.heap.size ≤ i) ∧ Frm (fun i => i = q) W w') := Lib.hid fun W h => by rw [hV, hl', he']; exact rhash_calls W q l e h (.inl hS)
  have hne1 : ¬ hs.toList = [] := by
    rw [hhs, ByteArray.toList_mk]
    intro h0
    have := hsh_len l e
    rw [h0] at this
    simp at this
  have hne2 : hs.toList.isEmpty = false := by
    cases h9 : hs.toList with
    | nil => exact absurd h9 hne1
    | cons x y => rfl
  have hne3 : hs.size = 32 := by rw [hhs, bstr_size]; exact hsh_len l e
  rw [← hX, ← hY, ← hOC]
  obtain ⟨a, ha⟩ : ∃ a : Nat, (a : Int) = o.k % 8 := ⟨(o.k % 8).toNat, by omega⟩
  have hand : bits .and .i64 o.k 7 = (a : Int) := by rw [and7, ha]
  have hrem1 : (a : Int).tmod 5 = 4 := by rw [Int.tmod_eq_emod_of_nonneg (by omega), ha]; exact hk
  have hrem2 : (a : Int) % 5 = 4 := by rw [ha]; exact hk
  clear hk ha
  clear hX hY hOC hs' hN' hl' he' hR HB hl hV hhs hU
  go_enter Try.func20, Try.ntmps20
  go_upto_region 1 with fail
  rw [← hw0]
  clear hw0
  have c00 := (HO1.out _ _ hb1).1
  have c01 := (HO1.out _ _ hb1).2.1
  have c02 := (HO1.out _ _ hb1).2.2
  go_wp2_with (first
    | ((with_reducible refine at_load 43 (.tmp 4) ?_); refine wpList_load_mid rfl 43 (.tmp 4) rfl (w.heap.size) 0 rfl X _ (hb0).range Try.underlying43 rfl IX.out ?_)
    | (go_at_call 35; refine (C1.out _).mono ?_; rintro e'' v1 ⟨rfl, d1⟩)
    | ((with_reducible refine at_store 43 (.tmp 17) (.tmp 95) ?_); refine wpList_store_blk rfl 43 (.tmp 17) (.tmp 95) rfl (v1.heap.size) zerosI Y 43 rfl rfl (Blk.new v1 _ _) LY.out IY.out OY.out ?_; intro x1 hbx1 hox1; have dx1 : Below w0.heap.size w0 x1 := below_only (below_al d1 _) hox1 d1.size; have hR1 := hR0.below dx1; have hgq : ¬ v1.heap.size = q := (by have := d1.size; omega); have hgw : w.heap.size + 3 ≤ v1.heap.size := (by have := d1.size; omega))
    | (go_at_call 37; refine (C2.out _ hR1).mono ?_; rintro e'' v2 ⟨rfl, hRv, hf2⟩)
    | ((with_reducible refine at_store 74 (.tmp 19) (.tmp 98) ?_); refine wpList_store_blk rfl 74 (.tmp 19) (.tmp 98) rfl v2.heap.size zerosH V 74 rfl rfl (Blk.new v2 _ _) LV.out IV.out OV.out ?_; intro x2 hbx2 hox2))
  have dx2 : Below v2.heap.size v2 x2 := below_only (below_al (Below.refl _ v2) _) hox2 (Nat.le_refl _)
  have dx3 := dx2
  have dx23 := Below.refl x2.heap.size x2
  have hbg3 := ((hf2.blk hbx1 hgq).up dx3).dr
  have hb03 := ((hf2.blk (hb0.up dx1) (by omega)).up dx3).dr
  have hb2b := ((hf2.blk (hb2.up dx1) (by omega)).up dx3).dr
  have hbh3 := (hbx2.up dx23).dr
  have hRb := (hRv.below dx3).drew
  have hs2 : x1.heap.size ≤ v2.heap.size := hf2.size
  have hs3 := dx1.size
  have hgv : v1.heap.size < x1.heap.size := hbx1.lt
  have hFb : Frm (fun i => i = q) w x2.drew := ((FB.out.step (Frm.of_below (S := fun i => i = q) dx1) (fun i hi => .inl hi)).trans (hf2.step (Frm.of_below (S := fun i => i = q) dx3) (fun i hi => .inl hi))).drew
  have hsa : ∀ W, (Instr.sliceAt 74 (.pointer (some ⟨v2.heap.size, 0, none⟩)) none none none).run Try.prog W = .ok (.slice (some ⟨v2.heap.size, 0, none⟩) 32 32) W := fun W => run_sl_all 74 5 32 Try.underlying74 size8 v2.heap.size 0 (by omega) W
  refine wp_region_held_drew (S := fun W => W.rangeAt v1.heap.size 0 Y ∧ (convert 26 9 (.slice (some ⟨v2.heap.size, 0, none⟩) 32 32)).run Try.prog W = .ok (.string hs) W) (by kernel_rfl) ?_ (fun hHeld => ?_)
  · exact ⟨hbg3.range, HCV.out _ _ hbh3⟩
  refine wpAnyH_take (i := 0) rfl (by kernel_rfl) (by kernel_rfl) (by kernel_rfl) (fun _ _ _ h => h) (yieldsIf_load_mid (by rfl) _ _ rfl _ _ rfl Y _ (fun w hSw => by (try dsimp only at hSw); go_split_ands; assumption) Try.underlying43 rfl IY.out) (by assumption) ?_
  (try simp only [List.getElem_toArray, List.getElem_cons_succ, List.getElem_cons_zero, Act.put, List.setIfInBounds_toArray, List.set_cons_succ, List.set_cons_zero])
  refine wpAnyH_take (i := 1) (v := .slice (some ⟨v2.heap.size, 0, none⟩) 32 32) rfl (by kernel_rfl) (by kernel_rfl) (by kernel_rfl) (fun _ _ _ h => h) (Or.inl ⟨by rfl, ?_⟩) (by assumption) ?_
  · intro w hSw; (try dsimp only at hSw); simp only [List.getElem_toArray, List.getElem_cons_succ, List.getElem_cons_zero]; first | (simp [execOp, Act.eval, hsa]; done) | (go_simp; done)
  (try simp only [List.getElem_toArray, List.getElem_cons_succ, List.getElem_cons_zero, Act.put, List.setIfInBounds_toArray, List.set_cons_succ, List.set_cons_zero])
  refine wpAnyH_take (i := 2) (v := ?_) rfl (by kernel_rfl) (by kernel_rfl) (by kernel_rfl) (fun _ _ _ h => h) (Or.inl ⟨by rfl, ?_⟩) (by assumption) ?_
  rotate_left 1
  · intro w hSw; (try dsimp only at hSw); simp only [List.getElem_toArray, List.getElem_cons_succ, List.getElem_cons_zero]; go_simp; try (with_reducible rfl)
  (try simp only [List.getElem_toArray, List.getElem_cons_succ, List.getElem_cons_zero, Act.put, List.setIfInBounds_toArray, List.set_cons_succ, List.set_cons_zero])
  refine wpAnyH_take (i := 3) (v := ?_) rfl (by kernel_rfl) (by kernel_rfl) (by kernel_rfl) (fun _ _ _ h => h) (Or.inl ⟨by rfl, ?_⟩) (by assumption) ?_
  rotate_left 1
  · intro w hSw; (try dsimp only at hSw); simp only [List.getElem_toArray, List.getElem_cons_succ, List.getElem_cons_zero]; go_simp; try (with_reducible rfl)
  (try simp only [List.getElem_toArray, List.getElem_cons_succ, List.getElem_cons_zero, Act.put, List.setIfInBounds_toArray, List.set_cons_succ, List.set_cons_zero])
  refine wpAnyH_take (i := 4) (v := ?_) rfl (by kernel_rfl) (by kernel_rfl) (by kernel_rfl) (fun _ _ _ h => h) (Or.inl ⟨by rfl, ?_⟩) (by assumption) ?_
  rotate_left 1
  · intro w hSw; (try dsimp only at hSw); simp only [List.getElem_toArray, List.getElem_cons_succ, List.getElem_cons_zero]; go_simp; try (with_reducible rfl)
  (try simp only [List.getElem_toArray, List.getElem_cons_succ, List.getElem_cons_zero, Act.put, List.setIfInBounds_toArray, List.set_cons_succ, List.set_cons_zero])
  refine wpAnyH_ready (rs := [5]) (by kernel_rfl) (by simp) ?_
  refine AllReadyH.cons rfl (fun K hK => ?_) AllReadyH.nil
  (try simp only [List.getElem_toArray, List.getElem_cons_succ, List.getElem_cons_zero])
  refine Eq.mpr (if_pos (by rfl)) ?_
  refine wp_store_in 43 (.tmp 4) (.tmp 103) rfl (w.heap.size) X Y 43 rfl rfl hb03 LXY.out IY.out OY.out ?_
  intro w5 hb05 ho5
  refine hK.out _ _ ?_ (fun hHeld => ?_)
  · exact ⟨(ho5.blk hbg3 (by omega)).range, HCV.out _ _ (ho5.blk hbh3 (by omega))⟩
  clear hK K
  (try simp only [Act.put, List.setIfInBounds_toArray, List.set_cons_succ, List.set_cons_zero])
  refine wpAnyH_take (i := 6) (v := ?_) rfl (by kernel_rfl) (by kernel_rfl) (by kernel_rfl) (fun _ _ _ h => h) (Or.inl ⟨by rfl, ?_⟩) (by assumption) ?_
  rotate_left 1
  · intro w hSw; (try dsimp only at hSw); simp only [List.getElem_toArray, List.getElem_cons_succ, List.getElem_cons_zero]; go_simp; try (with_reducible rfl)
  (try simp only [List.getElem_toArray, List.getElem_cons_succ, List.getElem_cons_zero, Act.put, List.setIfInBounds_toArray, List.set_cons_succ, List.set_cons_zero])
  refine wpAnyH_done (by kernel_rfl) ?_ _
  have hb25 := ho5.blk hb2b (by omega)
  have hR5d := (NAR5.out _ _ hRb ho5).drew
  go_wp2_with fail
  refine wp_region_held_drew (S := fun W => W.rangeAt w.heap.size 0 Y ∧ W.cell? ⟨w.heap.size, 0, none⟩ = some (.string s') ∧ W.cell? ⟨w.heap.size, 1, none⟩ = some (.int .i64 (e' : Int))) (by kernel_rfl) ?_ (fun hHeld => ?_)
  · exact K21.out _ hb05
  refine wpAnyH_take (i := 0) rfl (by kernel_rfl) (by kernel_rfl) (by kernel_rfl) (fun _ _ _ h => h) (yieldsIf_load_mid (by rfl) _ _ rfl _ _ rfl Y _ (fun w hSw => by (try dsimp only at hSw); go_split_ands; assumption) Try.underlying43 rfl IY.out) (by assumption) ?_
  (try simp only [List.getElem_toArray, List.getElem_cons_succ, List.getElem_cons_zero, Act.put, List.setIfInBounds_toArray, List.set_cons_succ, List.set_cons_zero])
  refine wpAnyH_take (i := 1) (v := ?_) rfl (by kernel_rfl) (by kernel_rfl) (by kernel_rfl) (fun _ _ _ h => h) (Or.inl ⟨by rfl, ?_⟩) (by assumption) ?_
  rotate_left 1
  · intro w hSw; (try dsimp only at hSw); simp only [List.getElem_toArray, List.getElem_cons_succ, List.getElem_cons_zero]; go_simp; try (with_reducible rfl)
  (try simp only [List.getElem_toArray, List.getElem_cons_succ, List.getElem_cons_zero, Act.put, List.setIfInBounds_toArray, List.set_cons_succ, List.set_cons_zero])
  refine wpAnyH_take (i := 2) (v := ?_) rfl (by kernel_rfl) (by kernel_rfl) (by kernel_rfl) (fun _ _ _ h => h) (Or.inl ⟨by rfl, ?_⟩) (by assumption) ?_
  rotate_left 1
  · intro w hSw; (try dsimp only at hSw); simp only [List.getElem_toArray, List.getElem_cons_succ, List.getElem_cons_zero]; go_simp; try (with_reducible rfl)
  (try simp only [List.getElem_toArray, List.getElem_cons_succ, List.getElem_cons_zero, Act.put, List.setIfInBounds_toArray, List.set_cons_succ, List.set_cons_zero])
  refine wpAnyH_take (i := 3) (v := ?_) rfl (by kernel_rfl) (by kernel_rfl) (by kernel_rfl) (fun _ _ _ h => h) (Or.inl ⟨by rfl, ?_⟩) (by assumption) ?_
  rotate_left 1
  · intro w hSw; (try dsimp only at hSw); simp only [List.getElem_toArray, List.getElem_cons_succ, List.getElem_cons_zero]; go_simp; try (with_reducible rfl)
  (try simp only [List.getElem_toArray, List.getElem_cons_succ, List.getElem_cons_zero, Act.put, List.setIfInBounds_toArray, List.set_cons_succ, List.set_cons_zero])
  refine wpAnyH_take (i := 5) (v := ?_) rfl (by kernel_rfl) (by kernel_rfl) (by kernel_rfl) (fun _ _ _ h => h) (Or.inl ⟨by rfl, ?_⟩) (by assumption) ?_
  rotate_left 1
  · intro w hSw; (try dsimp only at hSw); simp only [List.getElem_toArray, List.getElem_cons_succ, List.getElem_cons_zero]; go_simp; try (with_reducible rfl)
  (try simp only [List.getElem_toArray, List.getElem_cons_succ, List.getElem_cons_zero, Act.put, List.setIfInBounds_toArray, List.set_cons_succ, List.set_cons_zero])
  refine wpAnyH_take (i := 6) (v := ?_) rfl (by kernel_rfl) (by kernel_rfl) (by kernel_rfl) (fun _ _ _ h => h) (Or.inl ⟨by rfl, ?_⟩) (by assumption) ?_
  rotate_left 1
  · intro w hSw; (try dsimp only at hSw); simp only [List.getElem_toArray, List.getElem_cons_succ, List.getElem_cons_zero]; go_simp; try (with_reducible rfl)
  (try simp only [List.getElem_toArray, List.getElem_cons_succ, List.getElem_cons_zero, Act.put, List.setIfInBounds_toArray, List.set_cons_succ, List.set_cons_zero])
  refine wpAnyH_ready (rs := [4]) (by kernel_rfl) (by simp) ?_
  refine AllReadyH.cons rfl (fun K hK => ?_) AllReadyH.nil
  (try simp only [List.getElem_toArray, List.getElem_cons_succ, List.getElem_cons_zero])
  go_simp
  go_at_call 22; refine (err_calls _ q l' e' hR5d).mono ?_; rintro e'' x' ⟨rfl, rfl⟩
  (try (go_wp2_with fail))
  refine hK.out _ _ ?_ (fun hHeld => ?_)
  · exact K21.out _ hb05
  clear hK K
  (try simp only [Act.put, List.setIfInBounds_toArray, List.set_cons_succ, List.set_cons_zero])
  refine wpAnyH_take (i := 7) (v := ?_) rfl (by kernel_rfl) (by kernel_rfl) (by kernel_rfl) (fun _ _ _ h => h) (Or.inl ⟨by rfl, ?_⟩) (by assumption) ?_
  rotate_left 1
  · intro w hSw; (try dsimp only at hSw); simp only [List.getElem_toArray, List.getElem_cons_succ, List.getElem_cons_zero]; go_simp; try (with_reducible rfl)
  (try simp only [List.getElem_toArray, List.getElem_cons_succ, List.getElem_cons_zero, Act.put, List.setIfInBounds_toArray, List.set_cons_succ, List.set_cons_zero])
  refine wpAnyH_take (i := 8) (v := ?_) rfl (by kernel_rfl) (by kernel_rfl) (by kernel_rfl) (fun _ _ _ h => h) (Or.inl ⟨by rfl, ?_⟩) (by assumption) ?_
  rotate_left 1
  · intro w hSw; (try dsimp only at hSw); simp only [List.getElem_toArray, List.getElem_cons_succ, List.getElem_cons_zero]; go_simp; try (with_reducible rfl)
  (try simp only [List.getElem_toArray, List.getElem_cons_succ, List.getElem_cons_zero, Act.put, List.setIfInBounds_toArray, List.set_cons_succ, List.set_cons_zero])
  refine wpAnyH_take (i := 9) (v := ?_) rfl (by kernel_rfl) (by kernel_rfl) (by kernel_rfl) (fun _ _ _ h => h) (Or.inl ⟨by rfl, ?_⟩) (by assumption) ?_
  rotate_left 1
  · intro w hSw; (try dsimp only at hSw); simp only [List.getElem_toArray, List.getElem_cons_succ, List.getElem_cons_zero]; go_simp; try (with_reducible rfl)
  (try simp only [List.getElem_toArray, List.getElem_cons_succ, List.getElem_cons_zero, Act.put, List.setIfInBounds_toArray, List.set_cons_succ, List.set_cons_zero])
  refine wpAnyH_take (i := 10) (v := ?_) rfl (by kernel_rfl) (by kernel_rfl) (by kernel_rfl) (fun _ _ _ h => h) (Or.inl ⟨by rfl, ?_⟩) (by assumption) ?_
  rotate_left 1
  · intro w hSw; (try dsimp only at hSw); simp only [List.getElem_toArray, List.getElem_cons_succ, List.getElem_cons_zero]; go_simp; try (with_reducible rfl)
  (try simp only [List.getElem_toArray, List.getElem_cons_succ, List.getElem_cons_zero, Act.put, List.setIfInBounds_toArray, List.set_cons_succ, List.set_cons_zero])
  refine wpAnyH_take (i := 12) (v := ?_) rfl (by kernel_rfl) (by kernel_rfl) (by kernel_rfl) (fun _ _ _ h => h) (Or.inl ⟨by rfl, ?_⟩) (by assumption) ?_
  rotate_left 1
  · intro w hSw; (try dsimp only at hSw); simp only [List.getElem_toArray, List.getElem_cons_succ, List.getElem_cons_zero]; go_simp; try (with_reducible rfl)
  (try simp only [List.getElem_toArray, List.getElem_cons_succ, List.getElem_cons_zero, Act.put, List.setIfInBounds_toArray, List.set_cons_succ, List.set_cons_zero])
  refine wpAnyH_take (i := 13) (v := ?_) rfl (by kernel_rfl) (by kernel_rfl) (by kernel_rfl) (fun _ _ _ h => h) (Or.inl ⟨by rfl, ?_⟩) (by assumption) ?_
  rotate_left 1
  · intro w hSw; (try dsimp only at hSw); simp only [List.getElem_toArray, List.getElem_cons_succ, List.getElem_cons_zero]; go_simp; try (with_reducible rfl)
  (try simp only [List.getElem_toArray, List.getElem_cons_succ, List.getElem_cons_zero, Act.put, List.setIfInBounds_toArray, List.set_cons_succ, List.set_cons_zero])
  refine wpAnyH_take (i := 14) (v := ?_) rfl (by kernel_rfl) (by kernel_rfl) (by kernel_rfl) (fun _ _ _ h => h) (Or.inl ⟨by rfl, ?_⟩) (by assumption) ?_
  rotate_left 1
  · intro w hSw; (try dsimp only at hSw); simp only [List.getElem_toArray, List.getElem_cons_succ, List.getElem_cons_zero]; go_simp; try (with_reducible rfl)
  (try simp only [List.getElem_toArray, List.getElem_cons_succ, List.getElem_cons_zero, Act.put, List.setIfInBounds_toArray, List.set_cons_succ, List.set_cons_zero])
  refine wpAnyH_ready (rs := [11]) (by kernel_rfl) (by simp) ?_
  refine AllReadyH.cons rfl (fun K hK => ?_) AllReadyH.nil
  (try simp only [List.getElem_toArray, List.getElem_cons_succ, List.getElem_cons_zero])
  go_simp
  go_at_call 27; refine (CL.out _ hR5d).mono ?_; rintro e'' x' ⟨rfl, rfl⟩
  (try (go_wp2_with fail))
  refine hK.out _ _ ?_ (fun hHeld => ?_)
  · exact K21.out _ hb05
  clear hK K
  (try simp only [Act.put, List.setIfInBounds_toArray, List.set_cons_succ, List.set_cons_zero])
  refine wpAnyH_take (i := 15) (v := ?_) rfl (by kernel_rfl) (by kernel_rfl) (by kernel_rfl) (fun _ _ _ h => h) (Or.inl ⟨by rfl, ?_⟩) (by assumption) ?_
  rotate_left 1
  · intro w hSw; (try dsimp only at hSw); simp only [List.getElem_toArray, List.getElem_cons_succ, List.getElem_cons_zero]; go_simp; try (with_reducible rfl)
  (try simp only [List.getElem_toArray, List.getElem_cons_succ, List.getElem_cons_zero, Act.put, List.setIfInBounds_toArray, List.set_cons_succ, List.set_cons_zero])
  refine wpAnyH_take (i := 16) (v := ?_) rfl (by kernel_rfl) (by kernel_rfl) (by kernel_rfl) (fun _ _ _ h => h) (Or.inl ⟨by rfl, ?_⟩) (by assumption) ?_
  rotate_left 1
  · intro w hSw; (try dsimp only at hSw); simp only [List.getElem_toArray, List.getElem_cons_succ, List.getElem_cons_zero]; go_simp; try (with_reducible rfl)
  (try simp only [List.getElem_toArray, List.getElem_cons_succ, List.getElem_cons_zero, Act.put, List.setIfInBounds_toArray, List.set_cons_succ, List.set_cons_zero])
  refine wpAnyH_ready (rs := [17]) (by kernel_rfl) (by simp) ?_
  refine AllReadyH.cons rfl (fun K hK => ?_) AllReadyH.nil
  (try simp only [List.getElem_toArray, List.getElem_cons_succ, List.getElem_cons_zero])
  refine Eq.mpr (if_pos (by rfl)) ?_
  refine wp_store_in 43 (.tmp 6) (.tmp 108) rfl (w.heap.size + 2) zerosI Y 43 rfl rfl hb25.dr LY.out IY.out OY.out ?_
  intro w6 hb6 ho6
  refine hK.out _ _ ?_ (fun hHeld => ?_)
  · exact K21.out _ (ho6.blk hb05.dr (by omega))
  clear hK K
  (try simp only [Act.put, List.setIfInBounds_toArray, List.set_cons_succ, List.set_cons_zero])
  refine wpAnyH_take (i := 18) (v := ?_) rfl (by kernel_rfl) (by kernel_rfl) (by kernel_rfl) (fun _ _ _ h => h) (Or.inl ⟨by rfl, ?_⟩) (by assumption) ?_
  rotate_left 1
  · intro w hSw; (try dsimp only at hSw); simp only [List.getElem_toArray, List.getElem_cons_succ, List.getElem_cons_zero]; go_simp; try (with_reducible rfl)
  (try simp only [List.getElem_toArray, List.getElem_cons_succ, List.getElem_cons_zero, Act.put, List.setIfInBounds_toArray, List.set_cons_succ, List.set_cons_zero])
  refine wpAnyH_done (by kernel_rfl) ?_ _
  go_wp2_with fail
  refine bodyPost_ret (v := .tuple #[.agg Y.toArray, .bool true]) ?_ rfl ⟨rfl, NAR.out _ _ hR5d ho6, FIN.out _ _ _ hFb ho5 ho6⟩
  exact results_in Try.results20 _ _ (w.heap.size + 2) 43 _ (0, 0) _ _ (by rfl) (by rfl) hb6 Try.underlying43 rfl IY.out
theorem tkL_le (l : List UInt8) (e n : Nat) : (tkL l e n).length ≤ l.length := by
  unfold tkL
  split
  · rw [List.length_drop]; omega
  · exact Nat.le_refl _
theorem cvL_le (l : List UInt8) (e n : Nat) : (cvL l e n).length ≤ l.length := by
  unfold cvL
  split
  · rw [List.length_drop]; omega
  · exact Nat.le_refl _
theorem txL_le (l : List UInt8) (e n : Nat) : (txL l e n).length ≤ l.length := by
  unfold txL
  split
  · exact Nat.le_trans (tkL_le _ _ _) (cvL_le _ _ _)
  · exact Nat.le_refl _
theorem tkV_32 (l : List UInt8) (e : Nat) : tkV l e 32 = [] ∨ (tkV l e 32).length = 32 := by
  unfold tkV
  split
  · rename_i h
    right
    rw [List.length_take]; omega
  · exact .inl rfl
/-- Both readers answer alike, whatever is asked for. -/
theorem reads_calls (w : World) (q : Nat) (l : List UInt8) (e : Nat) (o : Op4) {S : Nat → Prop} (hR : Rr w q l e S) (hS : S q) (hl : l.length ≤ 1000000) (hok : o.ok w) :
    ∃ l' e', l'.length ≤ l.length ∧ Calls Try.prog 20 #[.pointer (some ⟨q, 0, none⟩), .agg (inC l e).toArray, .agg o.cells.toArray] w fun en w' => en = .returned (.tuple #[.agg (inC l' e').toArray, .bool true]) ∧ Rr w' q l' e' S ∧ Frm (fun i => i = q) w w' := by
  have hk : o.k % 8 % 5 = 0 ∨ o.k % 8 % 5 = 1 ∨ o.k % 8 % 5 = 2 ∨ o.k % 8 % 5 = 3 ∨ o.k % 8 % 5 = 4 := by omega
  rcases hk with hk | hk | hk | hk | hk
  · obtain ⟨mm, hmm⟩ := Int.eq_ofNat_of_zero_le (cw_bd o.m).1
    exact ⟨_, _, tkL_le _ _ _, reads0_calls w q l e o hR hS hl hk hok mm hmm⟩
  · exact ⟨_, _, cvL_le _ _ _, reads1_calls w q l e o hR hS hl hk hok⟩
  · exact ⟨_, _, tkL_le _ _ _, reads2_calls w q l e o hR hS hl hk hok _ rfl⟩
  · exact ⟨_, _, txL_le _ _ _, reads3_calls w q l e o hR hS hl hk hok _ rfl⟩
  · rcases tkV_32 l e with h | h
    · exact ⟨_, _, tkL_le _ _ _, reads4A w q l e o hR hS hl hk h⟩
    · exact ⟨_, _, tkL_le _ _ _, reads4B w q l e o hR hS hl hk h⟩
end Go.Proofs.Ytgdpcgjdljfdbaa
