/- The contracts of the document's own First and K of layer 2. -/
import Derived.Test.YtfnlclooneanaaaDoorShaT
namespace Go.Proofs.YtfnlclooneanaaaDoor
open Go.RowKit
set_option linter.unusedVariables false

theorem at_build {P : Program} {ops : Array Oper} {rest : List Oper} {Q : Exit → Act → World → Prop} {a : Act} {w : World} {dst : Option Tmp} {t : TypeId} {p : String} {af : Array Edge} (ty : TypeId) {parts : Array (Nat × Operand)} {v : Value}
    (hrun : (execOp a.eval { dst := dst, op := .build ty parts, type := t, pos := p, after := af, guard := none }).run P w = .ok (.value v) w)
    (h : wpList P ops Q rest (a.put dst v) w) : wpList P ops Q ({ dst := dst, op := .build ty parts, type := t, pos := p, after := af, guard := none } :: rest) a w :=
  wpList_plain rfl fun _ hK => by
    unfold Oper.wp
    rw [hrun]
    exact hK _ _ h

set_option maxRecDepth 100000 in
set_option maxHeartbeats 400000 in
theorem first_calls (w : World) : Calls Tryd.prog 20 #[] w (Ret w (.agg h0.arr)) := by
  have hz := Lib.hid (Blk.new w #[.int .u32 0, .int .u32 0, .int .u32 0, .int .u32 0, .int .u32 0, .int .u32 0, .int .u32 0, .int .u32 0] 30)
  obtain ⟨V, hV⟩ : ∃ V, V = h0.vals := ⟨_, rfl⟩
  have hVl : V.length = 8 := by rw [hV]; rfl
  have hV1 : ∀ v ∈ V, v.oneCell' = true := by rw [hV]; exact vals_one _
  have hi : (Tryd.prog.info? 30).map (·.size) = some V.length := by rw [hVl]; exact i8
  have HV := Lib.hid hV
  clear hV
  go_enter Tryd.func20, Tryd.ntmps20
  go_wp2_with (first
    | (refine at_build 30 (v := .agg V.toArray) (by rw [HV.out]; kernel_rfl) ?_)
    | (refine at_store 30 (.tmp 0) (.tmp 1) ?_; refine wpList_store_blk rfl 30 (.tmp 0) (.tmp 1) rfl w.heap.size _ V _ rfl rfl hz.out (by rw [hVl]; rfl) hi hV1 ?_; intro w9 hb9 ho9))
  refine bodyPost_ret (v := .agg V.toArray) ?_ rfl ⟨by rw [HV.out]; rfl, ((Below.refl _ w).alloc (Nat.le_refl _) _).trans (ho9.below (Nat.le_refl _))⟩
  exact results_cell_row Tryd.results20 _ _ w.heap.size 30 _ (0, 0) _ (by rfl) hb9 Tryd.underlying30 rfl (by rw [List.size_toArray]; exact hi)

set_option maxRecDepth 100000 in
set_option maxHeartbeats 400000 in
theorem K_calls (w : World) : Calls Tryd.prog 24 #[] w (Ret w (.agg (kk.map W32).toArray)) := by
  have hz := Lib.hid (Blk.new w (List.replicate 64 (Value.int .u32 0)).toArray 45)
  obtain ⟨V, hV⟩ : ∃ V, V = kk.map W32 := ⟨_, rfl⟩
  have hVl : V.length = 64 := by rw [hV, List.length_map]; exact kk_len
  have hV1 : ∀ v ∈ V, v.oneCell' = true := by rw [hV]; exact w32_one _
  have hi : (Tryd.prog.info? 45).map (·.size) = some V.length := by rw [hVl]; exact i64
  have HV := Lib.hid hV
  clear hV
  go_enter Tryd.func24, Tryd.ntmps24
  go_wp2_with (first
    | (refine at_build 45 (v := .agg V.toArray) (by rw [HV.out]; kernel_rfl) ?_)
    | (refine at_store 45 (.tmp 0) (.tmp 1) ?_; refine wpList_store_blk rfl 45 (.tmp 0) (.tmp 1) rfl w.heap.size _ V _ rfl rfl hz.out (by rw [hVl]; rfl) hi hV1 ?_; intro w9 hb9 ho9))
  refine bodyPost_ret (v := .agg V.toArray) ?_ rfl ⟨by rw [HV.out], ((Below.refl _ w).alloc (Nat.le_refl _) _).trans (ho9.below (Nat.le_refl _))⟩
  exact results_cell_row Tryd.results24 _ _ w.heap.size 45 _ (0, 0) _ (by rfl) hb9 Tryd.underlying45 rfl (by rw [List.size_toArray]; exact hi)
end Go.Proofs.YtfnlclooneanaaaDoor
