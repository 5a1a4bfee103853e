/- Proved: for any number n and any width, Num of Little and Big of Great give n's so many lowest bytes as a number again; no condition. -/
import Derived.Test.YtgjpfkkonmibfaaRows
import Derived.Test.YtgjpfkkonmibfaaOctE
import Derived.ProofKit
import Derived.OpenShut
import Derived.ShutString
import Derived.ChangeOld
import Derived.Test.YtgjpfkkonmibfaaOpen
namespace Go.Proofs.Ytgjpfkkonmibfaa.octetBack
open Go.ChangeShapes Go.WideShapes Go.ChangeAt Go.RowKit
open Go.ChangeMaps (open_string shut_string)
set_option linter.unusedVariables false

theorem own : ownKnob Try.prog.godebug = none := by kernel_rfl
theorem laidOut : laidOutB Try.prog = true := by kernel_rfl

theorem nat_of_wf64 {a : Int} (h : (Lit.int .u64 a).wf = true) : ∃ n : Nat, a = n ∧ n < 18446744073709551616 := by
  have := bounds_u64 h
  exact ⟨a.toNat, by omega, by omega⟩

theorem num_at (n m : Nat) (hm8 : m ≤ 8) (v : Int) (hv : v = ((n % 256 ^ m : Nat) : Int)) (A : Option Addr) (k c : Nat) (w : World) (hr : Rd w A k (little n m)) :
    Calls Try.prog 15 #[.slice A k c] w fun e w' => e = .returned (.int .u64 v) ∧ w = w' := by
  have h := num_calls A k c _ w hr
  rw [List.take_of_length_le (by simp; exact hm8), numL_little, ← hv] at h
  exact h
theorem big_at (n m : Nat) (hm8 : m ≤ 8) (v : Int) (hv : v = ((n % 256 ^ m : Nat) : Int)) (A : Option Addr) (k c : Nat) (w : World) (hr : Rd w A k (great n m)) :
    Calls Try.prog 17 #[.slice A k c] w fun e w' => e = .returned (.int .u64 v) ∧ w = w' := by
  have h := big_calls A k c _ w hr
  rw [List.take_of_length_le (by simp; exact hm8), great, List.reverse_reverse, numL_little, ← hv] at h
  exact h

theorem wrap_pow (m : Nat) (h : m < 8) : IntKind.u64.wrap (2 ^ (8 * m)) = ((256 ^ m : Nat) : Int) := by
  have h1 := pow_lt56 m (by omega)
  have e : (2 : Int) ^ (8 * m) = ((256 ^ m : Nat) : Int) := by rw [← pow8, Int.natCast_pow]; rfl
  rw [e, wrap64_nat _ (by omega)]

set_option maxHeartbeats 400000 in
theorem walk (a0 : Int) (a1 : Int) (w : World) (w0 : (Lit.int .u64 a0).wf = true) (w1 : (Lit.int .i64 a1).wf = true) :
    Calls Try.prog 5 #[.int .u64 a0, .int .i64 a1] w (Ret w (.bool true)) := by
  obtain ⟨n, rfl, hn⟩ := nat_of_wf64 w0
  obtain ⟨m, hm⟩ : ∃ m : Nat, cw a1 = m := ⟨(cw a1).toNat, by have := cw_bd a1; omega⟩
  have hm8 : m ≤ 8 := by have := cw_bd a1; omega
  have HM := Lib.hid hm
  have HN := Lib.hid hn
  clear hm hn w0 w1
  by_cases h8 : m < 8
  · obtain ⟨p, hp⟩ : ∃ p : Nat, p = 256 ^ m := ⟨_, rfl⟩
    have hw : IntKind.u64.wrap (2 ^ (8 * m)) = (p : Int) := by rw [hp]; exact wrap_pow m h8
    have hp0 : 0 < p := by rw [hp]; exact Nat.pow_pos (by omega)
    have HV : Hid ((n : Int) % (p : Int) = ((n % 256 ^ m : Nat) : Int)) := by show _ = _; rw [← hp, Int.natCast_emod]
    clear hp
    go_enter Try.func5, Try.ntmps5
    go_wp2_with fail
    refine (held_nat _ _ HM.out _).mono ?_
    rintro e w1 ⟨rfl, rfl⟩
    go_wp2_with fail
    refine (little_calls _ _ _ HM.out _).mono ?_
    rintro e w1 ⟨A1, n1, c1, rfl, ho1, hb1⟩
    go_wp2_with fail
    refine (num_at n m hm8 _ HV.out _ _ _ _ ho1.rd).mono ?_
    rintro e w1' ⟨rfl, rfl⟩
    clear ho1
    go_wp2_with fail
    refine (great_calls _ _ _ HM.out _).mono ?_
    rintro e w2 ⟨A2, n2, c2, rfl, ho2, hb2⟩
    go_wp2_with fail
    refine (big_at n m hm8 _ HV.out _ _ _ _ ho2.rd).mono ?_
    rintro e w2' ⟨rfl, rfl⟩
    clear ho2
    go_wp2_with fail
    refine (awake_calls _).mono ?_
    rintro e w3 ⟨rfl, hb3⟩
    go_wp2
    go_ret
    exact ⟨rfl, (hb1.trans (hb2.mono hb1.size)).trans (hb3.mono (Nat.le_trans hb1.size hb2.size))⟩
  · have HV : Hid ((n : Int) = ((n % 256 ^ m : Nat) : Int)) := by
      show _ = _
      have e : m = 8 := by omega
      have h64 := HN.out
      rw [e, Nat.mod_eq_of_lt (by exact h64)]
    go_enter Try.func5, Try.ntmps5
    go_wp2_with fail
    refine (held_nat _ _ HM.out _).mono ?_
    rintro e w1 ⟨rfl, rfl⟩
    go_wp2_with fail
    refine (little_calls _ _ _ HM.out _).mono ?_
    rintro e w1 ⟨A1, n1, c1, rfl, ho1, hb1⟩
    go_wp2_with fail
    refine (num_at n m hm8 _ HV.out _ _ _ _ ho1.rd).mono ?_
    rintro e w1' ⟨rfl, rfl⟩
    clear ho1
    go_wp2_with fail
    refine (great_calls _ _ _ HM.out _).mono ?_
    rintro e w2 ⟨A2, n2, c2, rfl, ho2, hb2⟩
    go_wp2_with fail
    refine (big_at n m hm8 _ HV.out _ _ _ _ ho2.rd).mono ?_
    rintro e w2' ⟨rfl, rfl⟩
    clear ho2
    go_wp2_with fail
    refine (awake_calls _).mono ?_
    rintro e w3 ⟨rfl, hb3⟩
    go_wp2
    go_ret
    exact ⟨rfl, (hb1.trans (hb2.mono hb1.size)).trans (hb3.mono (Nat.le_trans hb1.size hb2.size))⟩

set_option maxRecDepth 100000 in
theorem lifted (os : Os) (started : os.Started) (H : Type) (enc : TypeId × Value → H) :
    ReturnsInHanded {} Try.checked os 5 .any (Rows.octetBackSpec.pre6 enc Try.prog Try.f5 Rows.octetBackRow.domain false) (Rows.octetBackSpec.post enc Try.prog Try.f5 false true false false) := by
  refine returnsInHanded_of_change (C := Try.checked) own started (by kernel_rfl) Try.func5
    (ChangeSpec.witness6 (enc := enc) (C := Try.checked) false ⟨#[], #[.int .u64 0, .int .i64 0], []⟩ 8 (by kernel_rfl) (by kernel_rfl) (by kernel_rfl) (by kernel_rfl)) ?_
  intro W base args ds gs before hval0 hW hcnd _
  have hval : ∀ (j : Nat) t v, Try.f5.params[j]? = some t → args[j]? = some v → Value.okWide Try.prog W .any base t v := hval0
  have hW' := hW
  obtain ⟨p, q, hA0, hV, rfl, hfz, hnd⟩ := hW
  have hA : DataW.TrodAll enc Try.prog W 0 (fun _ => true) true Try.f5.params.toList args.toList ds p := hA0
  rw [Try.params5] at hA hval
  obtain ⟨v0, vs0, d0, ds0, p0, q0, hargs, rfl, rfl, h0, r0⟩ := trodAll_cons hA
  obtain ⟨v1, vs1, d1, ds1, p1, q1, rfl, rfl, rfl, h1, r1⟩ := trodAll_cons r0
  obtain ⟨rfl, rfl, rfl⟩ := trodAll_nil r1
  obtain rfl : args = #[v0, v1] := by cases args; simp_all
  obtain ⟨rfl, rfl⟩ := trodVars_none hV
  obtain ⟨a0, rfl, rfl, rfl, w0⟩ := open_int Try.underlying22 (hval 0 22 v0 rfl rfl) h0
  obtain ⟨a1, rfl, rfl, rfl, w1⟩ := open_int Try.underlying3 (hval 1 3 v1 rfl rfl) h1
  clear hA0 hval0
  refine (walk a0 a1 W w0 w1).mono fun e W' ⟨he, bel⟩ => ?_
  subst he
  exact ⟨_, rfl, _, _, _, [], _, [], hW', trodAll_mk1 (shut_bool Try.underlying4 _), (trodAll_cons_mk (shut_int Try.underlying22 w0) (trodAll_cons_mk (shut_int Try.underlying3 w1) trodAll_mk0)), rfl, bel.frame _, fun h => by cases h⟩

theorem over : Rows.octetBackRow.holds Try.pinned (OpenSpec.ofChange Rows.octetBackSpec) :=
  OpenClaim.holds_of_wide 5 Try.f5 rfl rfl rfl rfl rfl rfl rfl ⟨rfl, rfl, rfl, rfl, rfl⟩ rfl rfl rfl rfl rfl (by kernel_rfl) Try.func5 (by kernel_rfl)
    (of_decide_eq_true (by kernel_rfl)) (by unfold Func.isWrapper; first | (rw [if_pos (by decide +kernel)]; kernel_rfl) | (rw [if_neg (by decide +kernel)]; exact ⟨rfl, rfl⟩))
    (fun os started H enc _ => lifted os started H enc)

theorem proved : Rows.OctetBackSaid := over
end Go.Proofs.Ytgjpfkkonmibfaa.octetBack
