/- Proved: for any four numbers, Round is what the document says; no condition. -/
import Derived.Test.YtomkebbocbbfjaaRows
import Derived.Test.YtomkebbocbbfjaaArrS
import Derived.Test.YtomkebbocbbfjaaEq
import Derived.Test.YtomkebbocbbfjaaHold
import Derived.ProofKit
import Derived.OpenShut
import Derived.ShutString
import Derived.ChangeOld
import Derived.Test.YtomkebbocbbfjaaOpen
namespace Go.Proofs.Ytomkebbocbbfjaa.sipRounds
open Go.ChangeShapes Go.WideShapes Go.ChangeAt Go.RowKit
open Go.ChangeMaps (open_string shut_string)
set_option linter.unusedVariables false

theorem own : ownKnob Try.prog.godebug = none := by kernel_rfl
theorem laidOut : laidOutB Try.prog = true := by kernel_rfl

theorem guard4 : Try.prog.eqGuardType Try.prog.depth 29 = false := by kernel_rfl
theorem u64_wf (n : Nat) (h : n < 2 ^ 64) : (Lit.int .u64 (n : Int)).wf = true := by
  have h1 : IntKind.u64.min = 0 := rfl
  have h2 : IntKind.u64.max = 18446744073709551615 := rfl
  simp [Lit.wf, h1, h2]
  omega
theorem q_self (q : Q) (h : q.ok) (w : World) : (Op.equalIn 10000 29 (.agg q.arr) (.agg q.arr)).run Try.prog w = .ok true w :=
  equal_self 29 22 4 .u64 Try.underlying29 Try.underlying22 (by kernel_rfl) (by kernel_rfl) (by kernel_rfl) q.vals rfl (fun v hv => by
    simp only [Q.vals, List.mem_cons, List.not_mem_nil, or_false] at hv
    rcases hv with rfl | rfl | rfl | rfl
    · exact ⟨_, rfl, u64_wf _ h.1⟩
    · exact ⟨_, rfl, u64_wf _ h.2.1⟩
    · exact ⟨_, rfl, u64_wf _ h.2.2.1⟩
    · exact ⟨_, rfl, u64_wf _ h.2.2.2⟩) w

set_option maxHeartbeats 1000000 in
theorem walk (q : Q) (w : World) (hq : q.ok) :
    Calls Try.prog 4 #[.agg q.arr] w (Ret w (.bool true)) := by
  obtain ⟨R, hR⟩ : ∃ R, R = q.round := ⟨_, rfl⟩
  have hs := fun W => q_self q.round (Q.round_ok q hq) W
  have C1 := Lib.hid (fun W => sround_calls q W hq)
  have C2 := Lib.hid (fun W => rround_calls q W hq)
  rw [← hR] at C1 C2 hs
  have hgd := guard4
  clear hR hq
  obtain ⟨a, b, c, d⟩ := q
  have H0 : Hold w w.heap.size (⟨a, b, c, d⟩ : Q).vals 29 (w.alloc (.cells #[.int .u64 (a : Int), .int .u64 (b : Int), .int .u64 (c : Int), .int .u64 (d : Int)] 29)).drew := (Hold.new w _ _).drew
  unfold Q.arr at *
  simp only at *
  go_enter Try.func4, Try.ntmps4
  go_wp2
  go_region_with (first
    | (go_at_call 11; refine (ret_hold (C1.out _) (by assumption)).mono ?_; rintro e' w1 ⟨rfl, h1⟩
       have c10 : w1.cell? ⟨w.heap.size, 0, none⟩ = some (.int .u64 (a : Int)) := h1.blk.cell 0
       have c11 : w1.cell? ⟨w.heap.size, 1, none⟩ = some (.int .u64 (b : Int)) := h1.blk.cell 1
       have c12 : w1.cell? ⟨w.heap.size, 2, none⟩ = some (.int .u64 (c : Int)) := h1.blk.cell 2
       have c13 : w1.cell? ⟨w.heap.size, 3, none⟩ = some (.int .u64 (d : Int)) := h1.blk.cell 3)
    | (go_at_call 12; refine (ret_hold (C2.out _) (by assumption)).mono ?_; rintro e' w2 ⟨rfl, h2⟩
       have c20 : w2.cell? ⟨w.heap.size, 0, none⟩ = some (.int .u64 (a : Int)) := h2.blk.cell 0
       have c21 : w2.cell? ⟨w.heap.size, 1, none⟩ = some (.int .u64 (b : Int)) := h2.blk.cell 1
       have c22 : w2.cell? ⟨w.heap.size, 2, none⟩ = some (.int .u64 (c : Int)) := h2.blk.cell 2
       have c23 : w2.cell? ⟨w.heap.size, 3, none⟩ = some (.int .u64 (d : Int)) := h2.blk.cell 3)
    | (go_at_call 8; refine (ret_hold (awake3_calls _) (by assumption)).mono ?_; rintro e' w4 ⟨rfl, h4⟩))
  all_goals go_wp2
  all_goals go_ret
  all_goals exact ⟨rfl, h4.bel⟩

set_option maxRecDepth 100000 in
theorem lifted (os : Os) (started : os.Started) (H : Type) (enc : TypeId × Value → H) :
    ReturnsInHanded {} Try.checked os 4 .any (Rows.sipRoundsSpec.pre6 enc Try.prog Try.f4 Rows.sipRoundsRow.domain false) (Rows.sipRoundsSpec.post enc Try.prog Try.f4 false true false false) := by
  refine returnsInHanded_of_change (C := Try.checked) own started (by kernel_rfl) Try.func4
    (ChangeSpec.witness6 (enc := enc) (C := Try.checked) false ⟨#[], #[.agg #[.int .u64 0, .int .u64 0, .int .u64 0, .int .u64 0]], []⟩ 8 (by kernel_rfl) (by kernel_rfl) (by kernel_rfl) (by kernel_rfl)) ?_
  intro W base args ds gs before hval0 hW hcnd _
  have hval : ∀ (j : Nat) t v, Try.f4.params[j]? = some t → args[j]? = some v → Value.okWide Try.prog W .any base t v := hval0
  have hW' := hW
  obtain ⟨p, q, hA0, hV, rfl, hfz, hnd⟩ := hW
  have hA : DataW.TrodAll enc Try.prog W 0 (fun _ => true) true Try.f4.params.toList args.toList ds p := hA0
  rw [Try.params4] at hA hval
  obtain ⟨v0, vs0, d0, ds0, p0, q0, hargs, rfl, rfl, h0, r0⟩ := trodAll_cons hA
  obtain ⟨rfl, rfl, rfl⟩ := trodAll_nil r0
  obtain rfl : args = #[v0] := by cases args; simp_all
  obtain ⟨rfl, rfl⟩ := trodVars_none hV
  have k0 := h0
  have lt0 : ∀ x ∈ p0, x.block < W.heap.size := by obtain ⟨m, hm⟩ := k0; exact DataW.trod_lt m _ _ _ hm
  obtain ⟨a0, rfl, w0⟩ := arr4 (hval 0 29 v0 rfl rfl) h0
  clear hA0 hval0
  refine (walk a0 W w0).mono fun e W' ⟨he, bel⟩ => ?_
  subst he
  exact ⟨_, rfl, _, _, _, [], _, [], hW', trodAll_mk1 (shut_bool Try.underlying4 _), (trodAll_cons_mk (Below.trod laidOut (by kernel_rfl) (of_decide_eq_true (by kernel_rfl)) k0 bel lt0) trodAll_mk0), rfl, bel.frame _, fun h => by cases h⟩

theorem over : Rows.sipRoundsRow.holds Try.pinned (OpenSpec.ofChange Rows.sipRoundsSpec) :=
  OpenClaim.holds_of_wide 4 Try.f4 rfl rfl rfl rfl rfl rfl rfl ⟨rfl, rfl, rfl, rfl, rfl⟩ rfl rfl rfl rfl rfl (by kernel_rfl) Try.func4 (by kernel_rfl)
    (of_decide_eq_true (by kernel_rfl)) (by unfold Func.isWrapper; first | (rw [if_pos (by decide +kernel)]; kernel_rfl) | (rw [if_neg (by decide +kernel)]; exact ⟨rfl, rfl⟩))
    (fun os started H enc _ => lifted os started H enc)

theorem proved : Rows.SipRoundsSaid := over
end Go.Proofs.Ytomkebbocbbfjaa.sipRounds
