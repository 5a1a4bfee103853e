/- Merged texts: MrkW. -/
import Derived.Test.YtkhjadecichlkaaDoorMbd
import Derived.Deep.RegionHeld3
/- The contract of layer 8's awake. -/
namespace Go.Proofs.YtkhjadecichlkaaDoor
open Go.RowKit
set_option linter.unusedVariables false
set_option linter.unusedSimpArgs false

set_option maxRecDepth 100000 in
theorem RdH.one {W : World} {g : Nat} {a : List UInt8} {e : TypeId} (ha : a.length = 32) (hb : Blk W g (a.map B8) e) : RdH W (some ⟨g, 0, none⟩) 1 [a] :=
  ⟨rfl, fun h hh => by simp at hh; rw [hh]; exact ha, fun _ => ⟨g, 0, rfl, hb.lt, fun i hi j v hv => by
    have : i = 0 := by omega
    subst this
    rw [hb.cell]
    simpa [hat] using hv⟩⟩
set_option maxRecDepth 100000 in
theorem RdH.two {W : World} {g : Nat} {a b : List UInt8} {e : TypeId} (ha : a.length = 32) (hb' : b.length = 32) (hb : Blk W g (a.map B8 ++ b.map B8) e) : RdH W (some ⟨g, 0, none⟩) 2 [a, b] :=
  ⟨rfl, fun h hh => by simp at hh; rcases hh with rfl | rfl; exact ha; exact hb', fun _ => ⟨g, 0, rfl, hb.lt, fun i hi j v hv => by
    rcases (show i = 0 ∨ i = 1 by omega) with rfl | rfl
    · rw [hb.cell]
      have hj : j < (a.map B8).length := by have := (List.getElem?_eq_some_iff.1 hv).1; simpa [hat] using this
      rw [List.getElem?_append_left (by omega)]
      simpa [hat] using hv
    · rw [hb.cell]
      rw [List.getElem?_append_right (by simp [ha]), List.length_map, ha, show 0 + 1 * 32 + j - 32 = j from by omega]
      simpa [hat] using hv⟩⟩
set_option maxRecDepth 100000 in
theorem run_bs2 {P : Program} (t e : TypeId) (ht : P.underlying t = some (.slice e)) (hinfo : (P.info? e).map (fun i => (i.zero, i.size, i.bytes)) = some (some (.agg z32.toArray), 32, 32)) (V U : List Value) (hV : V.length = 32) (hU : U.length = 32) (W : World) :
    (Instr.buildSlice t 2 #[(0, .agg V.toArray), (1, .agg U.toArray)]).run P W = .ok (.slice (some ⟨W.heap.size, 0, none⟩) 2 2) (W.alloc (.cells (V ++ U).toArray e)) := by
  obtain ⟨i, hi, hzz⟩ := Option.map_eq_some_iff.1 hinfo
  simp only [Prod.mk.injEq] at hzz
  obtain ⟨hz, hsz, _⟩ := hzz
  refine run_buildSlice W t e 2 _ (V ++ U).toArray i (.agg z32.toArray) ht hi hz (by rw [hsz]; decide) (by rw [hsz]; decide) ?_
  rw [hsz]
  have hz0 : (Array.range (2 * 32)).map ((Value.agg z32.toArray).cells[· % (Value.agg z32.toArray).cells.size]!) = (z32 ++ z32).toArray := by kernel_rfl
  rw [hz0]
  show Instr.fill (fun i => some (i * 32, 32)) (z32 ++ z32).toArray [(0, .agg V.toArray), (1, .agg U.toArray)] = some (V ++ U).toArray
  have e1 : over (z32 ++ z32) 0 V = V ++ z32 := by
    unfold over
    rw [List.take_zero, List.nil_append, Nat.zero_add, hV, List.drop_left' (by rfl)]
  have e2 : over (V ++ z32) 32 U = V ++ U := by
    unfold over
    rw [List.take_left' hV, hU, List.drop_of_length_le (by rw [List.length_append, hV]; decide), List.append_nil]
  rw [fill_step _ (z32 ++ z32) V 0 0 _ _ (by rw [hV]) rfl (by rw [hV]; decide), e1, fill_step _ (V ++ z32) U 1 32 _ _ (by rw [hU]) rfl (by rw [hU, List.length_append, hV]; decide), e2]
  rfl
set_option maxRecDepth 100000 in
theorem at_bldP {P : Program} {ops : Array Oper} {rest : List Oper} {Q : Exit → Act → World → Prop} {a : Act} {w : World} {dst : Option Tmp} {t : TypeId} {p : String} {af : Array Edge} (ty : TypeId) (parts : Array (Nat × Operand))
    (h : wpList P ops Q ({ dst := dst, op := .build ty parts, type := t, pos := p, after := af, guard := none } :: rest) a w) : wpList P ops Q ({ dst := dst, op := .build ty parts, type := t, pos := p, after := af, guard := none } :: rest) a w := h
def h1a : List UInt8 := 1 :: List.replicate 31 0
def h2a : List UInt8 := 2 :: List.replicate 31 0
set_option maxRecDepth 100000 in
theorem depth5 : depth (5 : Int).toNat = 3 := depth_is 5 3 (by decide) (.inr (by decide))
set_option maxRecDepth 100000 in
theorem root2 (a b : List UInt8) : rootH [a, b] = pr a b := by
  rw [← rootH_abv [a, b] (by simp)]
  exact rootH_one _
set_option maxRecDepth 100000 in
theorem dbl2 (a : List UInt8) : dbl [a, a] = true := dbl_true [a, a] 0 (by rw [show ([a, a] : List (List UInt8)).length = 2 from rfl, depth_big 2 (by omega)]; omega) (pairs_true _ 0 (by simp [lev]) rfl)
set_option maxRecDepth 100000 in
set_option maxHeartbeats 4000000 in
theorem awake8_calls (w : World) (hT : Tab w) : Calls Tryd.prog 9 #[] w (Ret w (.bool true)) := by
  obtain ⟨VA, hVA⟩ : ∃ V, V = h1a.map B8 := ⟨_, rfl⟩
  obtain ⟨VB, hVB⟩ : ∃ V, V = h2a.map B8 := ⟨_, rfl⟩
  obtain ⟨V, hV⟩ : ∃ V, V = (pr h1a h2a).map B8 := ⟨_, rfl⟩
  have la : VA.length = 32 := by rw [hVA]; rfl
  have lb : VB.length = 32 := by rw [hVB]; rfl
  have IA : Hid ((Tryd.prog.info? 25).map (·.size) = some VA.length) := Lib.hid (by rw [la]; kernel_rfl)
  have IB : Hid ((Tryd.prog.info? 25).map (·.size) = some VB.length) := Lib.hid (by rw [lb]; kernel_rfl)
  have LA : Hid (z32.length = VA.length) := Lib.hid (by rw [la]; rfl)
  have LB : Hid (z32.length = VB.length) := Lib.hid (by rw [lb]; rfl)
  have OA : Hid (∀ v ∈ VA, v.oneCell' = true) := Lib.hid (by rw [hVA]; exact b8_one _)
  have OB : Hid (∀ v ∈ VB, v.oneCell' = true) := Lib.hid (by rw [hVB]; exact b8_one _)
  have D1 : Hid (∀ W, (Instr.build 25 #[(0, .int .u8 1)]).run Tryd.prog W = .ok (.agg VA.toArray) W) := Lib.hid fun W => by rw [hVA]; exact run_build W _ _ _ (by kernel_rfl)
  have D2 : Hid (∀ W, (Instr.build 25 #[(0, .int .u8 2)]).run Tryd.prog W = .ok (.agg VB.toArray) W) := Lib.hid fun W => by rw [hVB]; exact run_build W _ _ _ (by kernel_rfl)
  have z0 : Blk ((w.alloc (.cells z32.toArray 25)).alloc (.cells z32.toArray 25)) w.heap.size z32 25 := Blk.alloc (Blk.new w _ _) _
  have z1 : Blk ((w.alloc (.cells z32.toArray 25)).alloc (.cells z32.toArray 25)) (w.heap.size + 1) z32 25 := Blk.new' _ _ _ _ (by simp)
  have HB0 := Lib.hid (below2 w (.cells z32.toArray 25) (.cells z32.toArray 25))
  obtain ⟨wz, hwz⟩ : ∃ wz, wz = (w.alloc (.cells z32.toArray 25)).alloc (.cells z32.toArray 25) := ⟨_, rfl⟩
  rw [← hwz] at z0 z1 HB0
  have hw1 : (w.alloc (.cells #[.int .u8 0, .int .u8 0, .int .u8 0, .int .u8 0, .int .u8 0, .int .u8 0, .int .u8 0, .int .u8 0, .int .u8 0, .int .u8 0, .int .u8 0, .int .u8 0, .int .u8 0, .int .u8 0, .int .u8 0, .int .u8 0, .int .u8 0, .int .u8 0, .int .u8 0, .int .u8 0, .int .u8 0, .int .u8 0, .int .u8 0, .int .u8 0, .int .u8 0, .int .u8 0, .int .u8 0, .int .u8 0, .int .u8 0, .int .u8 0, .int .u8 0, .int .u8 0] 25)).alloc (.cells #[.int .u8 0, .int .u8 0, .int .u8 0, .int .u8 0, .int .u8 0, .int .u8 0, .int .u8 0, .int .u8 0, .int .u8 0, .int .u8 0, .int .u8 0, .int .u8 0, .int .u8 0, .int .u8 0, .int .u8 0, .int .u8 0, .int .u8 0, .int .u8 0, .int .u8 0, .int .u8 0, .int .u8 0, .int .u8 0, .int .u8 0, .int .u8 0, .int .u8 0, .int .u8 0, .int .u8 0, .int .u8 0, .int .u8 0, .int .u8 0, .int .u8 0, .int .u8 0] 25) = wz := hwz.symm
  have CD : Hid (∀ W, Calls Tryd.prog 18 #[.int .i64 5] W (Ret W (.int .i64 3))) := Lib.hid fun W => by
    have := gdepth_calls 5 (by decide) (by decide) W
    rw [depth5] at this
    exact this
  have B1 : Hid (∀ W, (Instr.buildSlice 22 1 #[(0, .agg VA.toArray)]).run Tryd.prog W = .ok (Value.slice (some ⟨W.heap.size, 0, none⟩) 1 1, W.alloc (.cells VA.toArray 25)).1 (Value.slice (some ⟨W.heap.size, 0, none⟩) 1 1, W.alloc (.cells VA.toArray 25)).2) := Lib.hid fun W => run_bs 22 25 Tryd.underlying22 infoG VA la W
  have B2 : Hid (∀ W, (Instr.buildSlice 22 2 #[(0, .agg VA.toArray), (1, .agg VB.toArray)]).run Tryd.prog W = .ok (Value.slice (some ⟨W.heap.size, 0, none⟩) 2 2, W.alloc (.cells (VA ++ VB).toArray 25)).1 (Value.slice (some ⟨W.heap.size, 0, none⟩) 2 2, W.alloc (.cells (VA ++ VB).toArray 25)).2) := Lib.hid fun W => run_bs2 22 25 Tryd.underlying22 infoG VA VB la lb W
  have B3 : Hid (∀ W, (Instr.buildSlice 22 2 #[(0, .agg VA.toArray), (1, .agg VA.toArray)]).run Tryd.prog W = .ok (Value.slice (some ⟨W.heap.size, 0, none⟩) 2 2, W.alloc (.cells (VA ++ VA).toArray 25)).1 (Value.slice (some ⟨W.heap.size, 0, none⟩) 2 2, W.alloc (.cells (VA ++ VA).toArray 25)).2) := Lib.hid fun W => run_bs2 22 25 Tryd.underlying22 infoG VA VA la la W
  have TT : Hid (∀ W, Below w.heap.size w W → Tab W) := Lib.hid fun W h => hT.all h
  have R1' : Hid (∀ (W : World) (g : Nat), Blk W g VA 25 → Below w.heap.size w W → Calls Tryd.prog 10 #[.slice (some ⟨g, 0, none⟩) 1 1] W (Ret W (.agg VA.toArray))) := Lib.hid fun W g h hb => by
    rw [hVA] at h ⊢
    have := groot_calls (some ⟨g, 0, none⟩) 1 1 [h1a] W (RdH.one rfl h) (TT.out W hb) (by omega) (by omega) (by unfold maxLen; omega)
    rw [rootH_one] at this
    exact this
  have R2' : Hid (∀ (W : World) (g : Nat), Blk W g (VA ++ VB) 25 → Below w.heap.size w W → Calls Tryd.prog 10 #[.slice (some ⟨g, 0, none⟩) 2 2] W (Ret W (.agg V.toArray))) := Lib.hid fun W g h hb => by
    rw [hVA, hVB] at h
    have := groot_calls (some ⟨g, 0, none⟩) 2 2 [h1a, h2a] W (RdH.two rfl rfl h) (TT.out W hb) (by omega) (by omega) (by unfold maxLen; omega)
    rw [root2] at this
    rw [hV]
    exact this
  have R3' : Hid (∀ (W : World) (g : Nat), Blk W g (VA ++ VA) 25 → Below w.heap.size w W → Calls Tryd.prog 16 #[.slice (some ⟨g, 0, none⟩) 2 2] W (Ret W (.bool true))) := Lib.hid fun W g h hb => by
    rw [hVA] at h
    have := gdoubled_calls (some ⟨g, 0, none⟩) 2 2 [h1a, h1a] W (RdH.two rfl rfl h) (TT.out W hb) (by omega) (by omega) (by unfold maxLen; omega)
    rw [dbl2] at this
    exact this
  have CP : Hid (∀ W, Calls Tryd.prog 14 #[.agg VA.toArray, .agg VB.toArray] W (Ret W (.agg V.toArray))) := Lib.hid fun W => by rw [hVA, hVB, hV]; exact dpair_calls _ _ rfl rfl W
  have q1 : ∀ W, (Op.equalIn 10000 25 (.agg VA.toArray) (.agg VA.toArray)).run Tryd.prog W = .ok true W := fun W => by rw [hVA]; exact eqG32 _ _ rfl rfl true (by simp) W
  have q2 : ∀ W, (Op.equalIn 10000 25 (.agg V.toArray) (.agg V.toArray)).run Tryd.prog W = .ok true W := fun W => by rw [hV]; exact eqG32 _ _ (pr_len _ _) (pr_len _ _) true (by simp) W
  clear hVA hVB hV la lb hT TT hwz
  go_enter Tryd.func9, Tryd.ntmps9
  go_upto_region 2 with (first
    | ((with_reducible refine at_bldP 25 #[(0, .const (.int .u8 1))] ?_); refine wpList_bld rfl 25 _ rfl _ _ (by simp [Act.eval]) D1.out ?_)
    | ((with_reducible refine at_bldP 25 #[(0, .const (.int .u8 2))] ?_); refine wpList_bld rfl 25 _ rfl _ _ (by simp [Act.eval]) D2.out ?_)
    | ((with_reducible refine at_store 25 (.tmp 1) (.tmp 3) ?_); refine wpList_store_blk rfl 25 (.tmp 1) (.tmp 3) rfl w.heap.size z32 VA 25 rfl rfl z0 LA.out IA.out OA.out ?_; intro w1 hb1 ho1)
    | ((with_reducible refine at_store 25 (.tmp 2) (.tmp 4) ?_); refine wpList_store_blk rfl 25 (.tmp 2) (.tmp 4) rfl (w.heap.size + 1) z32 VB 25 rfl rfl (ho1.blk z1 (by omega)) LB.out IB.out OB.out ?_; intro w0 hb0 ho0))
  have HB := Lib.hid (below_only (below_only HB0.out ho1 (Nat.le_refl _)) ho0 (by omega))
  have K0 : Hid (∀ W, Below w0.heap.size w0 W → W.rangeAt w.heap.size 0 VA ∧ W.rangeAt (w.heap.size + 1) 0 VB) := Lib.hid fun W h => ⟨((ho0.blk hb1 (by omega)).up h).range, (hb0.up h).range⟩
  have R1 : Hid (∀ (W : World) (g : Nat), Blk W g VA 25 → Below w0.heap.size w0 W → Calls Tryd.prog 10 #[.slice (some ⟨g, 0, none⟩) 1 1] W (Ret W (.agg VA.toArray))) := Lib.hid fun W g h hb => R1'.out W g h (below_more HB.out hb)
  have R2 : Hid (∀ (W : World) (g : Nat), Blk W g (VA ++ VB) 25 → Below w0.heap.size w0 W → Calls Tryd.prog 10 #[.slice (some ⟨g, 0, none⟩) 2 2] W (Ret W (.agg V.toArray))) := Lib.hid fun W g h hb => R2'.out W g h (below_more HB.out hb)
  have R3 : Hid (∀ (W : World) (g : Nat), Blk W g (VA ++ VA) 25 → Below w0.heap.size w0 W → Calls Tryd.prog 16 #[.slice (some ⟨g, 0, none⟩) 2 2] W (Ret W (.bool true))) := Lib.hid fun W g h hb => R3'.out W g h (below_more HB.out hb)
  clear hb0 hb1 ho0 ho1 z0 z1 hw1 R1' R2' R3' D1 D2
  refine wp_region_held_drew (S := fun W => W.rangeAt w.heap.size 0 VA ∧ W.rangeAt (w.heap.size + 1) 0 VB) (by kernel_rfl) ?_ (fun hHeld => ?_)
  · exact K0.out _ (by ((repeat (first | with_reducible assumption | with_reducible exact Below.refl _ _ | with_reducible apply below_al | with_reducible apply below_dr | with_reducible refine below_more ?_ (by assumption)))))
  refine wpAnyH_ready (rs := [0]) (by kernel_rfl) (by simp) ?_
  refine AllReadyH.cons rfl (fun K hK => ?_) AllReadyH.nil
  (try simp only [List.getElem_toArray, List.getElem_cons_succ, List.getElem_cons_zero])
  go_simp
  go_at_call 18; refine (CD.out _).mono ?_; rintro e' x0 ⟨rfl, d0⟩
  (try (go_wp2_with fail))
  refine hK.out _ _ ?_ (fun hHeld => ?_)
  · exact K0.out _ (by ((repeat (first | with_reducible assumption | with_reducible exact Below.refl _ _ | with_reducible apply below_al | with_reducible apply below_dr | with_reducible refine below_more ?_ (by assumption)))))
  clear hK K
  (try simp only [Act.put, List.setIfInBounds_toArray, List.set_cons_succ, List.set_cons_zero])
  refine wpAnyH_take (i := 1) (v := ?_) rfl (by kernel_rfl) (by kernel_rfl) (by kernel_rfl) (fun _ _ _ h => h) (Or.inl ⟨by rfl, ?_⟩) (by assumption) ?_
  rotate_left 1
  · intro w hSw; (try dsimp only at hSw); simp only [List.getElem_toArray, List.getElem_cons_succ, List.getElem_cons_zero]; go_simp; try (with_reducible rfl)
  (try simp only [List.getElem_toArray, List.getElem_cons_succ, List.getElem_cons_zero, Act.put, List.setIfInBounds_toArray, List.set_cons_succ, List.set_cons_zero])
  refine wpAnyH_take (i := 2) (v := ?_) rfl (by kernel_rfl) (by kernel_rfl) (by kernel_rfl) (fun _ _ _ h => h) (Or.inl ⟨by rfl, ?_⟩) (by assumption) ?_
  rotate_left 1
  · intro w hSw; (try dsimp only at hSw); simp only [List.getElem_toArray, List.getElem_cons_succ, List.getElem_cons_zero]; go_simp; try (with_reducible rfl)
  (try simp only [List.getElem_toArray, List.getElem_cons_succ, List.getElem_cons_zero, Act.put, List.setIfInBounds_toArray, List.set_cons_succ, List.set_cons_zero])
  refine wpAnyH_take (i := 3) rfl (by kernel_rfl) (by kernel_rfl) (by kernel_rfl) (fun _ _ _ h => h) (yieldsIf_load_mid (by rfl) _ _ rfl _ _ rfl VA _ (fun w hSw => by (try dsimp only at hSw); go_split_ands; assumption) Tryd.underlying25 rfl IA.out) (by assumption) ?_
  (try simp only [List.getElem_toArray, List.getElem_cons_succ, List.getElem_cons_zero, Act.put, List.setIfInBounds_toArray, List.set_cons_succ, List.set_cons_zero])
  refine wpAnyH_take (i := 6) rfl (by kernel_rfl) (by kernel_rfl) (by kernel_rfl) (fun _ _ _ h => h) (yieldsIf_load_mid (by rfl) _ _ rfl _ _ rfl VA _ (fun w hSw => by (try dsimp only at hSw); go_split_ands; assumption) Tryd.underlying25 rfl IA.out) (by assumption) ?_
  (try simp only [List.getElem_toArray, List.getElem_cons_succ, List.getElem_cons_zero, Act.put, List.setIfInBounds_toArray, List.set_cons_succ, List.set_cons_zero])
  refine wpAnyH_ready (rs := [4]) (by kernel_rfl) (by simp) ?_
  refine AllReadyH.cons rfl (fun K hK => ?_) AllReadyH.nil
  (try simp only [List.getElem_toArray, List.getElem_cons_succ, List.getElem_cons_zero])
  refine Eq.mpr (if_pos (by first | rfl | simp [Region.wanted, yielded, Act.put])) ?_
  refine wp_bsl _ _ _ rfl #[(0, .agg VA.toArray)] (by simp [Act.eval]) (fun W => (.slice (some ⟨W.heap.size, 0, none⟩) 1 1, W.alloc (.cells VA.toArray 25))) B1.out ?_
  (try dsimp only)
  refine hK.out _ _ ?_ (fun hHeld => ?_)
  · exact K0.out _ (by ((repeat (first | with_reducible assumption | with_reducible exact Below.refl _ _ | with_reducible apply below_al | with_reducible apply below_dr | with_reducible refine below_more ?_ (by assumption)))))
  clear hK K
  (try simp only [Act.put, List.setIfInBounds_toArray, List.set_cons_succ, List.set_cons_zero])
  refine wpAnyH_ready (rs := [5]) (by kernel_rfl) (by simp) ?_
  refine AllReadyH.cons rfl (fun K hK => ?_) AllReadyH.nil
  (try simp only [List.getElem_toArray, List.getElem_cons_succ, List.getElem_cons_zero])
  go_simp
  go_at_call 10; refine (R1.out _ _ (Blk.new _ _ _) (by ((repeat (first | with_reducible assumption | with_reducible exact Below.refl _ _ | with_reducible apply below_al | with_reducible apply below_dr | with_reducible refine below_more ?_ (by assumption)))))).mono ?_; rintro e' x5 ⟨rfl, d5⟩
  (try (go_wp2_with fail))
  refine hK.out _ _ ?_ (fun hHeld => ?_)
  · exact K0.out _ (by ((repeat (first | with_reducible assumption | with_reducible exact Below.refl _ _ | with_reducible apply below_al | with_reducible apply below_dr | with_reducible refine below_more ?_ (by assumption)))))
  clear hK K
  (try simp only [Act.put, List.setIfInBounds_toArray, List.set_cons_succ, List.set_cons_zero])
  refine wpAnyH_take (i := 7) (v := ?_) rfl (by kernel_rfl) (by kernel_rfl) (by kernel_rfl) (fun _ _ _ h => h) (Or.inl ⟨by rfl, ?_⟩) (by assumption) ?_
  rotate_left 1
  · intro w hSw; (try dsimp only at hSw); simp only [List.getElem_toArray, List.getElem_cons_succ, List.getElem_cons_zero]; go_simp; try (with_reducible rfl)
  (try simp only [List.getElem_toArray, List.getElem_cons_succ, List.getElem_cons_zero, Act.put, List.setIfInBounds_toArray, List.set_cons_succ, List.set_cons_zero])
  refine wpAnyH_take (i := 8) (v := ?_) rfl (by kernel_rfl) (by kernel_rfl) (by kernel_rfl) (fun _ _ _ h => h) (Or.inl ⟨by rfl, ?_⟩) (by assumption) ?_
  rotate_left 1
  · intro w hSw; (try dsimp only at hSw); simp only [List.getElem_toArray, List.getElem_cons_succ, List.getElem_cons_zero]; go_simp; try (with_reducible rfl)
  (try simp only [List.getElem_toArray, List.getElem_cons_succ, List.getElem_cons_zero, Act.put, List.setIfInBounds_toArray, List.set_cons_succ, List.set_cons_zero])
  refine wpAnyH_take (i := 9) (v := ?_) rfl (by kernel_rfl) (by kernel_rfl) (by kernel_rfl) (fun _ _ _ h => h) (Or.inl ⟨by rfl, ?_⟩) (by assumption) ?_
  rotate_left 1
  · intro w hSw; (try dsimp only at hSw); simp only [List.getElem_toArray, List.getElem_cons_succ, List.getElem_cons_zero]; go_simp; try (with_reducible rfl)
  (try simp only [List.getElem_toArray, List.getElem_cons_succ, List.getElem_cons_zero, Act.put, List.setIfInBounds_toArray, List.set_cons_succ, List.set_cons_zero])
  refine wpAnyH_take (i := 10) rfl (by kernel_rfl) (by kernel_rfl) (by kernel_rfl) (fun _ _ _ h => h) (yieldsIf_load_mid (by rfl) _ _ rfl _ _ rfl VA _ (fun w hSw => by (try dsimp only at hSw); go_split_ands; assumption) Tryd.underlying25 rfl IA.out) (by assumption) ?_
  (try simp only [List.getElem_toArray, List.getElem_cons_succ, List.getElem_cons_zero, Act.put, List.setIfInBounds_toArray, List.set_cons_succ, List.set_cons_zero])
  refine wpAnyH_take (i := 11) rfl (by kernel_rfl) (by kernel_rfl) (by kernel_rfl) (fun _ _ _ h => h) (yieldsIf_load_mid (by rfl) _ _ rfl _ _ rfl VB _ (fun w hSw => by (try dsimp only at hSw); go_split_ands; assumption) Tryd.underlying25 rfl IB.out) (by assumption) ?_
  (try simp only [List.getElem_toArray, List.getElem_cons_succ, List.getElem_cons_zero, Act.put, List.setIfInBounds_toArray, List.set_cons_succ, List.set_cons_zero])
  refine wpAnyH_take (i := 14) rfl (by kernel_rfl) (by kernel_rfl) (by kernel_rfl) (fun _ _ _ h => h) (yieldsIf_load_mid (by rfl) _ _ rfl _ _ rfl VA _ (fun w hSw => by (try dsimp only at hSw); go_split_ands; assumption) Tryd.underlying25 rfl IA.out) (by assumption) ?_
  (try simp only [List.getElem_toArray, List.getElem_cons_succ, List.getElem_cons_zero, Act.put, List.setIfInBounds_toArray, List.set_cons_succ, List.set_cons_zero])
  refine wpAnyH_take (i := 15) rfl (by kernel_rfl) (by kernel_rfl) (by kernel_rfl) (fun _ _ _ h => h) (yieldsIf_load_mid (by rfl) _ _ rfl _ _ rfl VB _ (fun w hSw => by (try dsimp only at hSw); go_split_ands; assumption) Tryd.underlying25 rfl IB.out) (by assumption) ?_
  (try simp only [List.getElem_toArray, List.getElem_cons_succ, List.getElem_cons_zero, Act.put, List.setIfInBounds_toArray, List.set_cons_succ, List.set_cons_zero])
  refine wpAnyH_ready (rs := [12]) (by kernel_rfl) (by simp) ?_
  refine AllReadyH.cons rfl (fun K hK => ?_) AllReadyH.nil
  (try simp only [List.getElem_toArray, List.getElem_cons_succ, List.getElem_cons_zero])
  refine Eq.mpr (if_pos (by first | rfl | simp [Region.wanted, yielded, Act.put])) ?_
  refine wp_bsl _ _ _ rfl #[(0, .agg VA.toArray), (1, .agg VB.toArray)] (by simp [Act.eval]) (fun W => (.slice (some ⟨W.heap.size, 0, none⟩) 2 2, W.alloc (.cells (VA ++ VB).toArray 25))) B2.out ?_
  (try dsimp only)
  refine hK.out _ _ ?_ (fun hHeld => ?_)
  · exact K0.out _ (by ((repeat (first | with_reducible assumption | with_reducible exact Below.refl _ _ | with_reducible apply below_al | with_reducible apply below_dr | with_reducible refine below_more ?_ (by assumption)))))
  clear hK K
  (try simp only [Act.put, List.setIfInBounds_toArray, List.set_cons_succ, List.set_cons_zero])
  refine wpAnyH_ready (rs := [13]) (by kernel_rfl) (by simp) ?_
  refine AllReadyH.cons rfl (fun K hK => ?_) AllReadyH.nil
  (try simp only [List.getElem_toArray, List.getElem_cons_succ, List.getElem_cons_zero])
  go_simp
  go_at_call 10; refine (R2.out _ _ (Blk.new _ _ _) (by ((repeat (first | with_reducible assumption | with_reducible exact Below.refl _ _ | with_reducible apply below_al | with_reducible apply below_dr | with_reducible refine below_more ?_ (by assumption)))))).mono ?_; rintro e' x13 ⟨rfl, d13⟩
  (try (go_wp2_with fail))
  refine hK.out _ _ ?_ (fun hHeld => ?_)
  · exact K0.out _ (by ((repeat (first | with_reducible assumption | with_reducible exact Below.refl _ _ | with_reducible apply below_al | with_reducible apply below_dr | with_reducible refine below_more ?_ (by assumption)))))
  clear hK K
  (try simp only [Act.put, List.setIfInBounds_toArray, List.set_cons_succ, List.set_cons_zero])
  refine wpAnyH_ready (rs := [16]) (by kernel_rfl) (by simp) ?_
  refine AllReadyH.cons rfl (fun K hK => ?_) AllReadyH.nil
  (try simp only [List.getElem_toArray, List.getElem_cons_succ, List.getElem_cons_zero])
  go_simp
  go_at_call 14; refine (CP.out _).mono ?_; rintro e' x16 ⟨rfl, d16⟩
  (try (go_wp2_with fail))
  refine hK.out _ _ ?_ (fun hHeld => ?_)
  · exact K0.out _ (by ((repeat (first | with_reducible assumption | with_reducible exact Below.refl _ _ | with_reducible apply below_al | with_reducible apply below_dr | with_reducible refine below_more ?_ (by assumption)))))
  clear hK K
  (try simp only [Act.put, List.setIfInBounds_toArray, List.set_cons_succ, List.set_cons_zero])
  refine wpAnyH_take (i := 17) (v := ?_) rfl (by kernel_rfl) (by kernel_rfl) (by kernel_rfl) (fun _ _ _ h => h) (Or.inl ⟨by rfl, ?_⟩) (by assumption) ?_
  rotate_left 1
  · intro w hSw; (try dsimp only at hSw); simp only [List.getElem_toArray, List.getElem_cons_succ, List.getElem_cons_zero]; go_simp; try (with_reducible rfl)
  (try simp only [List.getElem_toArray, List.getElem_cons_succ, List.getElem_cons_zero, Act.put, List.setIfInBounds_toArray, List.set_cons_succ, List.set_cons_zero])
  refine wpAnyH_take (i := 18) (v := ?_) rfl (by kernel_rfl) (by kernel_rfl) (by kernel_rfl) (fun _ _ _ h => h) (Or.inl ⟨by rfl, ?_⟩) (by assumption) ?_
  rotate_left 1
  · intro w hSw; (try dsimp only at hSw); simp only [List.getElem_toArray, List.getElem_cons_succ, List.getElem_cons_zero]; go_simp; try (with_reducible rfl)
  (try simp only [List.getElem_toArray, List.getElem_cons_succ, List.getElem_cons_zero, Act.put, List.setIfInBounds_toArray, List.set_cons_succ, List.set_cons_zero])
  refine wpAnyH_take (i := 19) (v := ?_) rfl (by kernel_rfl) (by kernel_rfl) (by kernel_rfl) (fun _ _ _ h => h) (Or.inl ⟨by rfl, ?_⟩) (by assumption) ?_
  rotate_left 1
  · intro w hSw; (try dsimp only at hSw); simp only [List.getElem_toArray, List.getElem_cons_succ, List.getElem_cons_zero]; go_simp; try (with_reducible rfl)
  (try simp only [List.getElem_toArray, List.getElem_cons_succ, List.getElem_cons_zero, Act.put, List.setIfInBounds_toArray, List.set_cons_succ, List.set_cons_zero])
  refine wpAnyH_take (i := 20) rfl (by kernel_rfl) (by kernel_rfl) (by kernel_rfl) (fun _ _ _ h => h) (yieldsIf_load_mid (by rfl) _ _ rfl _ _ rfl VA _ (fun w hSw => by (try dsimp only at hSw); go_split_ands; assumption) Tryd.underlying25 rfl IA.out) (by assumption) ?_
  (try simp only [List.getElem_toArray, List.getElem_cons_succ, List.getElem_cons_zero, Act.put, List.setIfInBounds_toArray, List.set_cons_succ, List.set_cons_zero])
  refine wpAnyH_take (i := 21) rfl (by kernel_rfl) (by kernel_rfl) (by kernel_rfl) (fun _ _ _ h => h) (yieldsIf_load_mid (by rfl) _ _ rfl _ _ rfl VA _ (fun w hSw => by (try dsimp only at hSw); go_split_ands; assumption) Tryd.underlying25 rfl IA.out) (by assumption) ?_
  (try simp only [List.getElem_toArray, List.getElem_cons_succ, List.getElem_cons_zero, Act.put, List.setIfInBounds_toArray, List.set_cons_succ, List.set_cons_zero])
  refine wpAnyH_ready (rs := [22]) (by kernel_rfl) (by simp) ?_
  refine AllReadyH.cons rfl (fun K hK => ?_) AllReadyH.nil
  (try simp only [List.getElem_toArray, List.getElem_cons_succ, List.getElem_cons_zero])
  refine Eq.mpr (if_pos (by first | rfl | simp [Region.wanted, yielded, Act.put])) ?_
  refine wp_bsl _ _ _ rfl #[(0, .agg VA.toArray), (1, .agg VA.toArray)] (by simp [Act.eval]) (fun W => (.slice (some ⟨W.heap.size, 0, none⟩) 2 2, W.alloc (.cells (VA ++ VA).toArray 25))) B3.out ?_
  (try dsimp only)
  refine hK.out _ _ ?_ (fun hHeld => ?_)
  · exact K0.out _ (by ((repeat (first | with_reducible assumption | with_reducible exact Below.refl _ _ | with_reducible apply below_al | with_reducible apply below_dr | with_reducible refine below_more ?_ (by assumption)))))
  clear hK K
  (try simp only [Act.put, List.setIfInBounds_toArray, List.set_cons_succ, List.set_cons_zero])
  refine wpAnyH_ready (rs := [23]) (by kernel_rfl) (by simp) ?_
  refine AllReadyH.cons rfl (fun K hK => ?_) AllReadyH.nil
  (try simp only [List.getElem_toArray, List.getElem_cons_succ, List.getElem_cons_zero])
  go_simp
  go_at_call 16; refine (R3.out _ _ (Blk.new _ _ _) (by ((repeat (first | with_reducible assumption | with_reducible exact Below.refl _ _ | with_reducible apply below_al | with_reducible apply below_dr | with_reducible refine below_more ?_ (by assumption)))))).mono ?_; rintro e' x23 ⟨rfl, d23⟩
  (try (go_wp2_with fail))
  refine hK.out _ _ ?_ (fun hHeld => ?_)
  · exact K0.out _ (by ((repeat (first | with_reducible assumption | with_reducible exact Below.refl _ _ | with_reducible apply below_al | with_reducible apply below_dr | with_reducible refine below_more ?_ (by assumption)))))
  clear hK K
  (try simp only [Act.put, List.setIfInBounds_toArray, List.set_cons_succ, List.set_cons_zero])
  refine wpAnyH_take (i := 24) (v := ?_) rfl (by kernel_rfl) (by kernel_rfl) (by kernel_rfl) (fun _ _ _ h => h) (Or.inl ⟨by rfl, ?_⟩) (by assumption) ?_
  rotate_left 1
  · intro w hSw; (try dsimp only at hSw); simp only [List.getElem_toArray, List.getElem_cons_succ, List.getElem_cons_zero]; go_simp; try (with_reducible rfl)
  (try simp only [List.getElem_toArray, List.getElem_cons_succ, List.getElem_cons_zero, Act.put, List.setIfInBounds_toArray, List.set_cons_succ, List.set_cons_zero])
  refine wpAnyH_take (i := 25) (v := ?_) rfl (by kernel_rfl) (by kernel_rfl) (by kernel_rfl) (fun _ _ _ h => h) (Or.inl ⟨by rfl, ?_⟩) (by assumption) ?_
  rotate_left 1
  · intro w hSw; (try dsimp only at hSw); simp only [List.getElem_toArray, List.getElem_cons_succ, List.getElem_cons_zero]; go_simp; try (with_reducible rfl)
  (try simp only [List.getElem_toArray, List.getElem_cons_succ, List.getElem_cons_zero, Act.put, List.setIfInBounds_toArray, List.set_cons_succ, List.set_cons_zero])
  refine wpAnyH_done (by kernel_rfl) ?_ _
  go_wp2
  go_ret
  exact ⟨rfl, below_more HB.out (show Below w0.heap.size w0 x23 by ((repeat (first | with_reducible assumption | with_reducible exact Below.refl _ _ | with_reducible apply below_al | with_reducible apply below_dr | with_reducible refine below_more ?_ (by assumption)))))⟩
end Go.Proofs.YtkhjadecichlkaaDoor
