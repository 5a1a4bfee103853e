/- Blocks and worlds of the laws over wide numbers; the contract of wide.Quo by 0. -/
import Derived.Test.YtdgfgehjnfadnaaWidZ
namespace Go.Proofs.Ytdgfgehjnfadnaa
open Go.RowKit
set_option linter.unusedVariables false
set_option linter.unusedSimpArgs false

theorem Blk.drew {w : World} {g : Nat} {cs : List Value} {t : TypeId} (h : Blk w g cs t) : Blk w.drew g cs t := h
/-- A store into a block that was made right ahead leaves all that was there. -/
theorem Only.still {W w2 : World} {o : Obj} (h : Only W.heap.size (W.alloc o) w2) : Below W.heap.size W w2 := Below.trans ((Below.refl _ W).alloc (Nat.le_refl _) o) (h.below (Nat.le_refl _))
theorem Blk.stepS {w w' : World} {g : Nat} {cs : List Value} {t : TypeId} (h : Blk w g cs t) (hb : Still w w') : Blk w' g cs t := h.below hb h.lt
theorem RdI.still {w W : World} {A : Option Addr} {n : Nat} {l : List Nat} (h : RdI w A n l) (s : Still w W) : RdI W A n l := h.below s
/-- A whole array is read under a guard that holds. -/
theorem wpList_load_midg {P : Program} {ops : Array Oper} {rest : List Oper} {op : Oper} {a : Act} {w : World} {Q : Exit → Act → World → Prop} (hw : Region.wanted op (yielded ops a.tmps) = true) (ty : TypeId) (x : Operand) (ho : op.op = .load ty x)
    (b o : Nat) (hx : a.eval x = .pointer (some ⟨b, o, none⟩)) (cs : List Value) (d : TypeDesc) (hc : w.rangeAt b o cs)
    (hu : P.underlying ty = some d) (hd : d.isRow = true) (hi : (P.info? ty).map (·.size) = some cs.length)
    (h : wpList P ops Q rest (a.put op.dst (.agg cs.toArray)) w) : wpList P ops Q (op :: rest) a w := by
  unfold wpList
  rw [if_pos hw]
  exact Or.inl (wp_load_mid ty x ho b o hx cs d hc hu hd hi h)
theorem at_loadg {P : Program} {ops : Array Oper} {rest : List Oper} {Q : Exit → Act → World → Prop} {a : Act} {w : World} {dst : Option Tmp} {t : TypeId} {p : String} {af : Array Edge} {gd : Nat × Bool} (ty : TypeId) (x : Operand)
    (h : wpList P ops Q ({ dst := dst, op := .load ty x, type := t, pos := p, after := af, guard := some gd } :: rest) a w) : wpList P ops Q ({ dst := dst, op := .load ty x, type := t, pos := p, after := af, guard := some gd } :: rest) a w := h
set_option maxHeartbeats 4000000 in
theorem quo0_calls (x y : Nat) (hy : y = 0) (w : World) : Calls Try.prog 39 #[.agg (cellsW (wd x)).toArray, .agg (cellsW (wd y)).toArray] w (Ret w (.tuple #[.agg #[.int .u64 0, .int .u64 0, .int .u64 0, .int .u64 0], .agg (cellsW (wd x)).toArray])) := by
  have gU := guardU
  obtain ⟨X, hX⟩ : ∃ X, X = cellsW (wd x) := ⟨_, rfl⟩
  have IX : Hid ((Try.prog.info? 25).map (·.size) = some X.length) := Lib.hid (by rw [hX]; exact sizeW _)
  have LX : Hid (zerosW.length = X.length) := Lib.hid (by rw [hX]; rfl)
  have OX : Hid (∀ v ∈ X, v.oneCell' = true) := Lib.hid (by rw [hX]; exact cellsW_one _)
  obtain ⟨Y, hY⟩ : ∃ X, X = cellsW (wd y) := ⟨_, rfl⟩
  have IY : Hid ((Try.prog.info? 25).map (·.size) = some Y.length) := Lib.hid (by rw [hY]; exact sizeW _)
  have LY : Hid (zerosW.length = Y.length) := Lib.hid (by rw [hY]; rfl)
  have OY : Hid (∀ v ∈ Y, v.oneCell' = true) := Lib.hid (by rw [hY]; exact cellsW_one _)
  have heq : ∀ W, (Op.equalIn 10000 25 (.agg Y.toArray) (.agg #[.int .u64 0, .int .u64 0, .int .u64 0, .int .u64 0])).run Try.prog W = .ok true W := fun W => by rw [hY, hy]; exact u_same 0 W
  rw [← hX, ← hY]
  obtain ⟨w0, hw0⟩ : ∃ w0, w0 = (((w.alloc (.cells X.toArray 25)).alloc (.cells Y.toArray 25)).alloc (.cells #[.int .u64 0, .int .u64 0, .int .u64 0, .int .u64 0] 25)).alloc (.cells #[.int .u64 0, .int .u64 0, .int .u64 0, .int .u64 0] 25) := ⟨_, rfl⟩
  have hbX : Blk w0 w.heap.size X 25 := by rw [hw0]; exact (((Blk.new w X.toArray _).alloc _).alloc _).alloc _
  have hbY : Blk w0 (w.heap.size + 1) Y 25 := by rw [hw0]; exact ((Blk.new' (w.alloc _) Y.toArray _ _ (by simp)).alloc _).alloc _
  have hc : Blk w0 (w.heap.size + 1 + 1) zerosW 25 := by rw [hw0]; exact (Blk.new' ((w.alloc _).alloc _) _ _ _ (by simp)).alloc _
  have hd : Blk w0 (w.heap.size + 1 + 1 + 1) zerosW 25 := by rw [hw0]; exact Blk.new' (((w.alloc _).alloc _).alloc _) _ _ _ (by simp)
  have HB : Hid (Still w w0) := Lib.hid (by rw [hw0]; exact ((((Still.refl w).alloc _).alloc _).alloc _).alloc _)
  clear hX hY hy
  go_enter Try.func39, Try.ntmps39
  go_upto_region 1 with fail
  rw [← hw0]
  clear hw0
  go_upto_region 2 with (first
    | (refine at_load 25 (.tmp 3) ?_; refine wpList_load_mid rfl 25 (.tmp 3) rfl (w.heap.size + 1) 0 rfl Y _ (Blk.range (by ((repeat (first | assumption | exact Blk.new _ _ _ | exact Blk.new' _ _ _ _ (by simp) | apply Blk.alloc | apply Blk.drew | refine Blk.step ?_ (by assumption)))))) Try.underlying25 rfl IY.out ?_))
  refine wp_region_held_drew (S := fun W => W.rangeAt w.heap.size 0 X) (by kernel_rfl) ?_ (fun hHeld => ?_)
  · exact hbX.drew.range
  refine wpAnyH_take (i := 0) (v := ?_) rfl (by kernel_rfl) (by kernel_rfl) (by kernel_rfl) (fun _ _ _ h => h) (Or.inl ⟨by rfl, ?_⟩) (by assumption) ?_
  rotate_left 1
  · intro w hSw; (try dsimp only at hSw); simp only [List.getElem_toArray, List.getElem_cons_succ, List.getElem_cons_zero]; go_simp; try (with_reducible rfl)
  (try simp only [List.getElem_toArray, List.getElem_cons_succ, List.getElem_cons_zero, Act.put, List.setIfInBounds_toArray, List.set_cons_succ, List.set_cons_zero])
  refine wpAnyH_take (i := 1) rfl (by kernel_rfl) (by kernel_rfl) (by kernel_rfl) (fun _ _ _ h => h) (yieldsIf_load_mid (by rfl) _ _ rfl _ _ rfl X _ (fun w hSw => by (try dsimp only at hSw); go_split_ands; assumption) Try.underlying25 rfl IX.out) (by assumption) ?_
  (try simp only [List.getElem_toArray, List.getElem_cons_succ, List.getElem_cons_zero, Act.put, List.setIfInBounds_toArray, List.set_cons_succ, List.set_cons_zero])
  refine wpAnyH_ready (rs := [2]) (by kernel_rfl) (by simp) ?_
  refine AllReadyH.cons rfl (fun K hK => ?_) AllReadyH.nil
  (try simp only [List.getElem_toArray, List.getElem_cons_succ, List.getElem_cons_zero])
  refine Eq.mpr (if_pos (by rfl)) ?_
  refine wp_store_blk 25 (.tmp 4) (.tmp 16) rfl (w.heap.size + 1 + 1) zerosW zerosW 25 rfl rfl hc.drew rfl (sizeW (fun _ => 0)) (cellsW_one (fun _ => 0)) ?_
  intro w5 hb5 ho5
  refine hK.out _ _ ?_ (fun hHeld => ?_)
  · exact (ho5.blk hbX.drew (by omega)).range
  clear hK K
  (try simp only [Act.put, List.setIfInBounds_toArray, List.set_cons_succ, List.set_cons_zero])
  refine wpAnyH_ready (rs := [3]) (by kernel_rfl) (by simp) ?_
  refine AllReadyH.cons rfl (fun K hK => ?_) AllReadyH.nil
  (try simp only [List.getElem_toArray, List.getElem_cons_succ, List.getElem_cons_zero])
  refine Eq.mpr (if_pos (by rfl)) ?_
  refine wp_store_blk 25 (.tmp 5) (.tmp 17) rfl (w.heap.size + 1 + 1 + 1) zerosW X 25 rfl rfl (ho5.blk hd.drew (by omega)) LX.out IX.out OX.out ?_
  intro w6 hb6 ho6
  refine hK.out _ _ ?_ (fun hHeld => ?_)
  · exact (ho6.blk (ho5.blk hbX.drew (by omega)) (by omega)).range
  clear hK K
  (try simp only [Act.put, List.setIfInBounds_toArray, List.set_cons_succ, List.set_cons_zero])
  refine wpAnyH_done (by kernel_rfl) ?_ _
  go_wp2_with fail
  have hb7 := ho6.blk hb5 (by omega)
  have hbel : Below w.heap.size w w6 := Below.trans (Below.trans (Still.drew HB.out) (ho5.below (by omega))) (ho6.below (by omega))
  refine bodyPost_ret (v := .tuple #[.agg #[.int .u64 0, .int .u64 0, .int .u64 0, .int .u64 0], .agg X.toArray]) ?_ rfl ⟨rfl, hbel⟩
  exact results_row_row Try.results39 _ _ (w.heap.size + 1 + 1) (w.heap.size + 1 + 1 + 1) 25 #[.int .u64 0, .int .u64 0, .int .u64 0, .int .u64 0] X.toArray (0, 0) _ (by rfl) (by rfl) hb7 hb6 Try.underlying25 rfl sizeU (by rw [List.size_toArray]; exact IX.out)
end Go.Proofs.Ytdgfgehjnfadnaa
