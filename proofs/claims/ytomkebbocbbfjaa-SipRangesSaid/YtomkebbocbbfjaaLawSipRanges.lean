/- Proved: for any two numbers, Range is what the document says, and below the second one unless that is 0; no condition. -/
import Derived.Test.YtomkebbocbbfjaaRows
import Derived.Test.YtomkebbocbbfjaaSipG
import Derived.ProofKit
import Derived.OpenShut
import Derived.ShutString
import Derived.ChangeOld
import Derived.Test.YtomkebbocbbfjaaOpen
namespace Go.Proofs.Ytomkebbocbbfjaa.sipRanges
open Go.ChangeShapes Go.WideShapes Go.ChangeAt Go.RowKit
open Go.ChangeMaps (open_string shut_string)
set_option linter.unusedVariables false

theorem own : ownKnob Try.prog.godebug = none := by kernel_rfl
theorem laidOut : laidOutB Try.prog = true := by kernel_rfl

theorem nat_of_wf64 {a : Int} (h : (Lit.int .u64 a).wf = true) : ∃ n : Nat, a = n ∧ n < 2 ^ 64 := by
  have := bounds_u64 h
  exact ⟨a.toNat, by omega, by omega⟩
theorem hi_lt (x n : Nat) (hx : x < 2 ^ 64) (hn : 0 < n) : hi64 x n < n := by
  unfold hi64
  rw [Nat.div_lt_iff_lt_mul (by decide), Nat.mul_comm n]
  exact Nat.mul_lt_mul_of_pos_right hx hn

set_option maxHeartbeats 1000000 in
theorem walk (a0 : Int) (a1 : Int) (w : World) (w0 : (Lit.int .u64 a0).wf = true) (w1 : (Lit.int .u64 a1).wf = true) :
    Calls Try.prog 6 #[.int .u64 a0, .int .u64 a1] w (Ret w (.bool true)) := by
  obtain ⟨x, rfl, hx⟩ := nat_of_wf64 w0
  obtain ⟨n, rfl, hn⟩ := nat_of_wf64 w1
  have C1 := Lib.hid (fun W => range_calls x n W hx hn)
  have C2 := Lib.hid (fun W => rrange_calls x n W hx hn)
  by_cases h0 : n = 0
  · subst h0
    rw [show hi64 x 0 = 0 from by simp [hi64]] at C1 C2
    clear w0 w1 hx hn
    go_enter Try.func6, Try.ntmps6
    go_wp2_with (first
      | (go_at_call 15; refine (C1.out _).mono ?_; rintro e' w2 ⟨rfl, rfl⟩)
      | (go_at_call 16; refine (C2.out _).mono ?_; rintro e' w3 ⟨rfl, nq, rfl⟩)
      | (go_at_call 8; refine (awake3_calls _).mono ?_; rintro e' w4 ⟨rfl, hb4⟩))
    go_ret
    exact ⟨rfl, (below_drewN (Below.refl _ w) nq).trans hb4⟩
  · have hlt := hi_lt x n hx (by omega)
    generalize hi64 x n = h at *
    have hlt' : (h : Int) < (n : Int) := by omega
    clear w0 w1 hx hn
    go_enter Try.func6, Try.ntmps6
    go_wp2_with (first
      | (go_at_call 15; refine (C1.out _).mono ?_; rintro e' w2 ⟨rfl, rfl⟩)
      | (go_at_call 16; refine (C2.out _).mono ?_; rintro e' w3 ⟨rfl, nq, rfl⟩)
      | (go_at_call 8; refine (awake3_calls _).mono ?_; rintro e' w4 ⟨rfl, hb4⟩))
    go_ret
    exact ⟨rfl, (below_drewN (Below.refl _ w) nq).trans hb4⟩

set_option maxRecDepth 100000 in
theorem lifted (os : Os) (started : os.Started) (H : Type) (enc : TypeId × Value → H) :
    ReturnsInHanded {} Try.checked os 6 .any (Rows.sipRangesSpec.pre6 enc Try.prog Try.f6 Rows.sipRangesRow.domain false) (Rows.sipRangesSpec.post enc Try.prog Try.f6 false true false false) := by
  refine returnsInHanded_of_change (C := Try.checked) own started (by kernel_rfl) Try.func6
    (ChangeSpec.witness6 (enc := enc) (C := Try.checked) false ⟨#[], #[.int .u64 0, .int .u64 0], []⟩ 8 (by kernel_rfl) (by kernel_rfl) (by kernel_rfl) (by kernel_rfl)) ?_
  intro W base args ds gs before hval0 hW hcnd _
  have hval : ∀ (j : Nat) t v, Try.f6.params[j]? = some t → args[j]? = some v → Value.okWide Try.prog W .any base t v := hval0
  have hW' := hW
  obtain ⟨p, q, hA0, hV, rfl, hfz, hnd⟩ := hW
  have hA : DataW.TrodAll enc Try.prog W 0 (fun _ => true) true Try.f6.params.toList args.toList ds p := hA0
  rw [Try.params6] at hA hval
  obtain ⟨v0, vs0, d0, ds0, p0, q0, hargs, rfl, rfl, h0, r0⟩ := trodAll_cons hA
  obtain ⟨v1, vs1, d1, ds1, p1, q1, rfl, rfl, rfl, h1, r1⟩ := trodAll_cons r0
  obtain ⟨rfl, rfl, rfl⟩ := trodAll_nil r1
  obtain rfl : args = #[v0, v1] := by cases args; simp_all
  obtain ⟨rfl, rfl⟩ := trodVars_none hV
  obtain ⟨a0, rfl, rfl, rfl, w0⟩ := open_int Try.underlying22 (hval 0 22 v0 rfl rfl) h0
  obtain ⟨a1, rfl, rfl, rfl, w1⟩ := open_int Try.underlying22 (hval 1 22 v1 rfl rfl) h1
  clear hA0 hval0
  refine (walk a0 a1 W w0 w1).mono fun e W' ⟨he, bel⟩ => ?_
  subst he
  exact ⟨_, rfl, _, _, _, [], _, [], hW', trodAll_mk1 (shut_bool Try.underlying4 _), (trodAll_cons_mk (shut_int Try.underlying22 w0) (trodAll_cons_mk (shut_int Try.underlying22 w1) trodAll_mk0)), rfl, bel.frame _, fun h => by cases h⟩

theorem over : Rows.sipRangesRow.holds Try.pinned (OpenSpec.ofChange Rows.sipRangesSpec) :=
  OpenClaim.holds_of_wide 6 Try.f6 rfl rfl rfl rfl rfl rfl rfl ⟨rfl, rfl, rfl, rfl, rfl⟩ rfl rfl rfl rfl rfl (by kernel_rfl) Try.func6 (by kernel_rfl)
    (of_decide_eq_true (by kernel_rfl)) (by unfold Func.isWrapper; first | (rw [if_pos (by decide +kernel)]; kernel_rfl) | (rw [if_neg (by decide +kernel)]; exact ⟨rfl, rfl⟩))
    (fun os started H enc _ => lifted os started H enc)

theorem proved : Rows.SipRangesSaid := over
end Go.Proofs.Ytomkebbocbbfjaa.sipRanges
