/- The contract of layer 12's own awake, over what packages bit and rice are to answer. -/
import Derived.Test.YtkmedbdaobficaaRicK
import Derived.Test.YtkmedbdaobficaaBitC
import Derived.Deep.RegionHeld3
import Derived.Deep.CutRange
import Derived.Deep.DeepCutAuto
namespace Go.Proofs.Ytkmedbdaobficaa
open Go.RowKit
set_option linter.unusedVariables false
set_option linter.unusedSimpArgs false

set_option maxRecDepth 100000 in
theorem pack12 : pack ([] ++ rcode 2 9) = [200] := by decide
set_option maxRecDepth 100000 in
theorem wp_cvR {o : Oper} {a : Act} {W : World} {K : Act → World → Prop} {Q : Exit → Act → World → Prop} {s d : TypeId} {v u : Value} (x : Operand) (ho : o.op = .convert s d x) (hx : a.eval x = v) (h : (convert s d v).run Try.prog W = .ok u W) (hK : K (a.put o.dst u) W) : o.wp Try.prog a W K Q := by
  unfold Oper.wp execOp
  simp only [ho, hx, Sem.run_bind, h, Result.andThen_ok]
  exact hK
set_option maxRecDepth 100000 in
set_option maxHeartbeats 4000000 in
theorem awake12_calls {BW : World → Nat → (Nat → Prop) → List Bool → Prop} {BR : World → Nat → Nat → (Nat → Prop) → List Bool → Prop} (K : BitOk BW BR) (Q : RiceOk BW BR) (w : World) : Calls Try.prog 10 #[] w (Ret w (.bool true)) := by
  obtain ⟨L1, h1⟩ : ∃ z, z = ([] : List Bool) ++ rcode 2 9 := ⟨_, rfl⟩
  have hpk : pack L1 = [200] := by rw [h1]; exact pack12
  have l1 : L1.length ≤ 100 := by rw [h1]; decide
  have CN : Hid (∀ W : World, Calls Try.prog 8 #[] W fun e w' => ∃ p S, e = .returned (.pointer (some ⟨p, 0, none⟩)) ∧ BW w' p S [] ∧ Below W.heap.size W w' ∧ ∀ i, S i → W.heap.size ≤ i) := Lib.hid K.new
  have C1 : Hid (∀ (W : World) p S, BW W p S [] → Calls Try.prog 11 #[.pointer (some ⟨p, 0, none⟩), .int .i64 2, .int .u64 9] W fun e w' => ∃ S', e = .returned (.int .i64 0) ∧ BW w' p S' L1 ∧ Frm S W w' ∧ ∀ i, S' i → S i ∨ W.heap.size ≤ i) := Lib.hid fun W p S h => by rw [h1]; exact Q.put W p S [] 2 9 h (by omega) (by omega) (by omega) (by decide) (by simp)
  have C4 : Hid (∀ (W : World) p S, BW W p S L1 → Calls Try.prog 14 #[.pointer (some ⟨p, 0, none⟩)] W fun e w' => ∃ A n c, e = .returned (.slice A n c) ∧ (convert 32 9 (.slice A n c)).run Try.prog w' = .ok (.string ⟨#[200]⟩) w' ∧ Below W.heap.size W w') := Lib.hid fun W p S h => by
    refine (K.bytes W p S L1 h (by omega)).mono ?_
    rintro e w' ⟨A, n, c, rfl, k1, _, _, k2⟩
    rw [hpk] at k1
    exact ⟨A, n, c, rfl, conv8 w' A n c _ k1, k2⟩
  have C5 : Hid (∀ W : World, Calls Try.prog 16 #[.int .i64 19, .int .u64 0] W (Ret W (.int .u64 20))) := Lib.hid fun W => Q.size W 19 0 (by omega) (by omega) (by omega)
  clear K Q hpk l1 h1
  go_enter Try.func10, Try.ntmps10
  go_upto_region 2 with (first
    | (go_at_call 8; refine (CN.out _).mono ?_; rintro e' w1 ⟨p, S, rfl, hW, hB, hS⟩))
  go_wp2_with (first
    | (go_at_call 11; refine (C1.out _ p S hW).mono ?_; rintro e' w2 ⟨S2, rfl, hW2, hF2, hS2⟩; have hB2 := below_frmB hB hF2 hB.size hS)
    | (go_at_call 14; refine (C4.out _ p S2 hW2).mono ?_; rintro e' w5 ⟨A5, n5, c5, rfl, hcv, hB5⟩; have hB5 := below_more hB2 hB5)
    | (go_at_call 16; refine (C5.out _).mono ?_; rintro e' w6 ⟨rfl, hB6⟩))
  go_ret
  exact ⟨rfl, below_more hB5 hB6⟩
end Go.Proofs.Ytkmedbdaobficaa
