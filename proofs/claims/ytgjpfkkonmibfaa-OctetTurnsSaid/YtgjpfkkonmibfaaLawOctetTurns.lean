/- Proved: for any number x and any number of places k, Left32, Right32 and Left64 turn bits as the document says, and turning back gives what was there; no condition. -/
import Derived.Test.YtgjpfkkonmibfaaRows
import Derived.Test.YtgjpfkkonmibfaaOctE
import Derived.ProofKit
import Derived.OpenShut
import Derived.ShutString
import Derived.ChangeOld
import Derived.Test.YtgjpfkkonmibfaaOpen
namespace Go.Proofs.Ytgjpfkkonmibfaa.octetTurns
open Go.ChangeShapes Go.WideShapes Go.ChangeAt Go.RowKit
open Go.ChangeMaps (open_string shut_string)
set_option linter.unusedVariables false

theorem own : ownKnob Try.prog.godebug = none := by kernel_rfl
theorem laidOut : laidOutB Try.prog = true := by kernel_rfl

theorem nat_of_wf64 {a : Int} (h : (Lit.int .u64 a).wf = true) : ∃ n : Nat, a = n ∧ n < 18446744073709551616 := by
  have := bounds_u64 h
  exact ⟨a.toNat, by omega, by omega⟩

theorem turn64 (x : Nat) (k q : Int) (hx : x < 2 ^ 64) (hq : k.tmod 64 = q) : rol 64 (rol 64 x (k % 64).toNat) ((64 - q) % 64).toNat = x := by
  obtain ⟨s, hs⟩ : ∃ s : Nat, k % 64 = s := ⟨(k % 64).toNat, by omega⟩
  have ht := tmod_of k 64 s hs
  have hs' : (k % 64).toNat = s := by omega
  rw [hs']
  by_cases h0 : s = 0
  · subst h0
    have e : ((64 - q) % 64).toNat = 0 := by
      rcases ht with ht | ht
      · have : q = 0 := by rw [← hq]; exact ht
        omega
      · have : q = 0 - 64 := by rw [← hq]; exact ht
        omega
    rw [e, rol_zero 64 x hx, rol_zero 64 x hx]
  · have e : ((64 - q) % 64).toNat = 64 - s := by
      rcases ht with ht | ht
      · have : q = s := by rw [← hq]; exact ht
        omega
      · have : q = s - 64 := by rw [← hq]; exact ht
        omega
    rw [e, rol_back 64 x s (by omega) hx]

theorem l32 (x : Nat) (k : Int) (v : Nat) (hx : x < 4294967296) (hv : v = rol 32 x (k % 32).toNat) (w : World) : Calls Try.prog 19 #[.int .u32 (x : Int), .int .i64 k] w (Quiet w (.int .u32 (v : Int))) := by
  rw [hv]; exact left32_calls x k w hx
theorem r32 (x : Nat) (k : Int) (v : Nat) (hx : x < 4294967296) (hv : v = rol 32 x (32 - (k % 32).toNat)) (w : World) : Calls Try.prog 20 #[.int .u32 (x : Int), .int .i64 k] w (Quiet w (.int .u32 (v : Int))) := by
  rw [hv]; exact right32_calls x k w hx
theorem l64 (x : Nat) (k : Int) (v : Nat) (hx : x < 18446744073709551616) (hv : v = rol 64 x (k % 64).toNat) (w : World) : Calls Try.prog 21 #[.int .u64 (x : Int), .int .i64 k] w (Quiet w (.int .u64 (v : Int))) := by
  rw [hv]; exact left64_calls x k w hx
theorem ll (x B : Nat) (b : Int) (hb : b = B) (k : Int) (v : Nat) (hB : B ≤ 64) (hB1 : 1 ≤ B) (hx : x < 2 ^ B) (hv : v = rol B x (k % B).toNat) (w : World) :
    Calls Try.prog 22 #[.int .u64 (x : Int), .int .i64 b, .int .i64 k] w fun e w' => e = .returned (.int .u64 (v : Int)) ∧ w = w' := by
  rw [hv, hb]; exact left_calls x B k w hB hB1 hx

set_option maxHeartbeats 1000000 in
theorem walk (a0 : Int) (k : Int) (w : World) (w0 : (Lit.int .u64 a0).wf = true) (w1 : (Lit.int .i64 k).wf = true) :
    Calls Try.prog 6 #[.int .u64 a0, .int .i64 k] w (Ret w (.bool true)) := by
  obtain ⟨x, rfl, hx⟩ := nat_of_wf64 w0
  obtain ⟨y, hy⟩ : ∃ y : Nat, y = x % 4294967296 := ⟨_, rfl⟩
  have hy32 : y < 4294967296 := by omega
  have hyx : (x : Int) % 4294967296 = (y : Int) := by omega
  obtain ⟨q, hq⟩ : ∃ q : Int, k.tmod 64 = q := ⟨_, rfl⟩
  have hq1 : -64 < q := by have := Int.tmod_lt_of_pos k (show (0:Int) < 64 by omega); have := Int.lt_tmod_of_pos k (show (0:Int) < 64 by omega); omega
  have hq2 : q < 64 := by have := Int.tmod_lt_of_pos k (show (0:Int) < 64 by omega); omega
  have hk32 : (k % 32).toNat ≤ 32 := by omega
  have hk64 : (k % 64).toNat ≤ 64 := by omega
  obtain ⟨a, ha⟩ : ∃ a : Nat, a = rol 32 y (k % 32).toNat := ⟨_, rfl⟩
  obtain ⟨b, hb⟩ : ∃ b : Nat, b = rol 32 y (32 - (k % 32).toNat) := ⟨_, rfl⟩
  obtain ⟨c, hc⟩ : ∃ c : Nat, c = rol 64 x (k % 64).toNat := ⟨_, rfl⟩
  have ha32 : a < 4294967296 := by rw [ha]; exact rol_lt 32 y _ hk32 hy32
  have hb32 : b < 4294967296 := by rw [hb]; exact rol_lt 32 y _ (by omega) hy32
  have HC64 : Hid (c < 18446744073709551616) := by show _ < _; rw [hc]; exact rol_lt 64 x _ hk64 hx
  have HT := Lib.hid (turn64 x k q hx hq)
  have HA := Lib.hid ha
  have HB := Lib.hid hb
  have HC := Lib.hid hc
  have HX := Lib.hid hx
  clear ha hb hc hy hx w0 w1 hk32 hk64
  go_enter Try.func6, Try.ntmps6
  go_wp2_with fail
  refine (l32 y k a hy32 HA.out _).mono ?_
  rintro e w1 ⟨rfl, n1, rfl⟩
  go_wp2_with fail
  refine (r32 y k b hy32 HB.out _).mono ?_
  rintro e w1 ⟨rfl, n2, rfl⟩
  go_wp2_with fail
  refine (l64 x k c HX.out HC.out _).mono ?_
  rintro e w1 ⟨rfl, n3, rfl⟩
  go_wp2_with fail
  refine (ll y 32 _ rfl k a (by omega) (by omega) hy32 HA.out _).mono ?_
  rintro e w1 ⟨rfl, rfl⟩
  go_wp2_with fail
  refine (ll x 64 _ rfl k c (by omega) (by omega) HX.out HC.out _).mono ?_
  rintro e w1 ⟨rfl, rfl⟩
  go_wp2_with fail
  refine (r32 a k y ha32 (by rw [HA.out, rol_back 32 y _ (by omega) hy32]) _).mono ?_
  rintro e w1 ⟨rfl, n4, rfl⟩
  go_wp2_with fail
  refine (l32 b k y hb32 (by rw [HB.out]; have h := rol_back 32 y (32 - (k % 32).toNat) (by omega) hy32; rw [show 32 - (32 - (k % 32).toNat) = (k % 32).toNat from by omega] at h; exact h.symm) _).mono ?_
  rintro e w1 ⟨rfl, n5, rfl⟩
  go_wp2_with fail
  refine (l64 c _ x HC64.out (by rw [HC.out]; exact HT.out.symm) _).mono ?_
  rintro e w1 ⟨rfl, n6, rfl⟩
  go_wp2_with fail
  refine (awake_calls _).mono ?_
  rintro e w3 ⟨rfl, hb3⟩
  go_wp2
  go_ret
  refine ⟨rfl, ?_⟩
  exact Below.trans (Below.refl _ _) ⟨hb3.os, hb3.tape, hb3.output, hb3.size, hb3.block⟩

set_option maxRecDepth 100000 in
theorem lifted (os : Os) (started : os.Started) (H : Type) (enc : TypeId × Value → H) :
    ReturnsInHanded {} Try.checked os 6 .any (Rows.octetTurnsSpec.pre6 enc Try.prog Try.f6 Rows.octetTurnsRow.domain false) (Rows.octetTurnsSpec.post enc Try.prog Try.f6 false true false false) := by
  refine returnsInHanded_of_change (C := Try.checked) own started (by kernel_rfl) Try.func6
    (ChangeSpec.witness6 (enc := enc) (C := Try.checked) false ⟨#[], #[.int .u64 0, .int .i64 0], []⟩ 8 (by kernel_rfl) (by kernel_rfl) (by kernel_rfl) (by kernel_rfl)) ?_
  intro W base args ds gs before hval0 hW hcnd _
  have hval : ∀ (j : Nat) t v, Try.f6.params[j]? = some t → args[j]? = some v → Value.okWide Try.prog W .any base t v := hval0
  have hW' := hW
  obtain ⟨p, q, hA0, hV, rfl, hfz, hnd⟩ := hW
  have hA : DataW.TrodAll enc Try.prog W 0 (fun _ => true) true Try.f6.params.toList args.toList ds p := hA0
  rw [Try.params6] at hA hval
  obtain ⟨v0, vs0, d0, ds0, p0, q0, hargs, rfl, rfl, h0, r0⟩ := trodAll_cons hA
  obtain ⟨v1, vs1, d1, ds1, p1, q1, rfl, rfl, rfl, h1, r1⟩ := trodAll_cons r0
  obtain ⟨rfl, rfl, rfl⟩ := trodAll_nil r1
  obtain rfl : args = #[v0, v1] := by cases args; simp_all
  obtain ⟨rfl, rfl⟩ := trodVars_none hV
  obtain ⟨a0, rfl, rfl, rfl, w0⟩ := open_int Try.underlying22 (hval 0 22 v0 rfl rfl) h0
  obtain ⟨a1, rfl, rfl, rfl, w1⟩ := open_int Try.underlying3 (hval 1 3 v1 rfl rfl) h1
  clear hA0 hval0
  refine (walk a0 a1 W w0 w1).mono fun e W' ⟨he, bel⟩ => ?_
  subst he
  exact ⟨_, rfl, _, _, _, [], _, [], hW', trodAll_mk1 (shut_bool Try.underlying4 _), (trodAll_cons_mk (shut_int Try.underlying22 w0) (trodAll_cons_mk (shut_int Try.underlying3 w1) trodAll_mk0)), rfl, bel.frame _, fun h => by cases h⟩

theorem over : Rows.octetTurnsRow.holds Try.pinned (OpenSpec.ofChange Rows.octetTurnsSpec) :=
  OpenClaim.holds_of_wide 6 Try.f6 rfl rfl rfl rfl rfl rfl rfl ⟨rfl, rfl, rfl, rfl, rfl⟩ rfl rfl rfl rfl rfl (by kernel_rfl) Try.func6 (by kernel_rfl)
    (of_decide_eq_true (by kernel_rfl)) (by unfold Func.isWrapper; first | (rw [if_pos (by decide +kernel)]; kernel_rfl) | (rw [if_neg (by decide +kernel)]; exact ⟨rfl, rfl⟩))
    (fun os started H enc _ => lifted os started H enc)

theorem proved : Rows.OctetTurnsSaid := over
end Go.Proofs.Ytgjpfkkonmibfaa.octetTurns
