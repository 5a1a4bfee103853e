/- Proved: for every wide number its Text is the decimal text that the document's digits give, and the argument reads as it did. No condition. -/
import Derived.Test.YthbbeknbdgkpkaaRows
import Derived.Test.YthbbeknbdgkpkaaWidK
import Derived.Test.YthbbeknbdgkpkaaBigN
import Derived.Test.YthbbeknbdgkpkaaArrW
import Derived.ProofKit
import Derived.OpenShut
import Derived.ShutString
import Derived.ChangeOld
import Derived.Test.YthbbeknbdgkpkaaOpen
namespace Go.Proofs.Ythbbeknbdgkpkaa.wideTexts
open Go.ChangeShapes Go.WideShapes Go.ChangeAt Go.RowKit
open Go.ChangeMaps (open_string shut_string)
set_option linter.unusedVariables false

theorem own : ownKnob Try.prog.godebug = none := by kernel_rfl
theorem laidOut : laidOutB Try.prog = true := by kernel_rfl

theorem pow_big (x k : Nat) (h : x < 2 ^ 256) (hk : 100 ≤ k) : x < 10 ^ k :=
  Nat.lt_of_lt_of_le (Nat.lt_of_lt_of_le h (by decide : 2 ^ 256 ≤ 10 ^ 100)) (Nat.pow_le_pow_right (by omega) hk)
set_option maxRecDepth 100000 in
set_option maxHeartbeats 4000000 in
theorem walkN (x : Nat) (w : World) (hx : x < 2 ^ 256) : Calls Try.prog 10 #[.agg (uA x)] w (Ret w (.bool true)) := by
  obtain ⟨W0, hW0⟩ : ∃ W0, W0 = w.alloc (.cells (uA x) 24) := ⟨_, rfl⟩
  have hb0 : Blk W0 w.heap.size (cellsW (wd x)) 24 := by rw [hW0]; exact Blk.new w (uA x) _
  have hbel : Below w.heap.size w W0 := by rw [hW0]; exact (Below.refl _ w).alloc (Nat.le_refl _) _
  obtain ⟨S, hS⟩ : ∃ S, S = str (decT x) := ⟨_, rfl⟩
  have C1 : Hid (∀ W, Still W0 W → Calls Try.prog 36 #[.agg (uA x)] W fun e W' => e = .returned (.string S) ∧ Below W.heap.size W W' ∧ Still W0 W') := Lib.hid fun W h => by
    rw [hS]; exact (text_calls x W hx).mono fun _ _ ⟨he, hb⟩ => ⟨he, hb, h.step hb⟩
  have C2 : Hid (∀ W, Still W0 W → Calls Try.prog 12 #[.agg (uA x)] W fun e W' => ∃ A n c, e = .returned (.slice A n c) ∧ RdI W' A n (digs x) ∧ n ≤ c ∧ c ≤ maxLen ∧ Below W.heap.size W W' ∧ Still W0 W') := Lib.hid fun W h => mk_still (big_callsN x W hx) h
  have hx10 : x < 10 ^ 1000 := pow_big x 1000 hx (by omega)
  have C3 : Hid (∀ W A n c, RdI W A n (digs x) → n ≤ c → c ≤ maxLen → Still W0 W → Calls Try.prog 37 #[.slice A n c] W fun e W' => e = .returned (.string S) ∧ Still W0 W') := Lib.hid fun W A n c hr h1 h2 h => by
    rw [hS]; exact ret_still (btext_calls A n c x W (by have := digs_le hr (k := 16) (by rw [p16]; exact hx); omega) h1 h2 hx10 hr) h
  have C4 : Hid (∀ W, Still W0 W → Calls Try.prog 20 #[] W fun e W' => e = .returned (.bool true) ∧ Still W0 W') := Lib.hid fun W h => ret_still (awake4_calls W) h
  have K0 : Hid (∀ W, Still W0 W → W.cell? ⟨w.heap.size, 0, none⟩ = some (.int .u64 (wd x 0 : Int)) ∧ W.cell? ⟨w.heap.size, 1, none⟩ = some (.int .u64 (wd x 1 : Int)) ∧ W.cell? ⟨w.heap.size, 2, none⟩ = some (.int .u64 (wd x 2 : Int)) ∧ W.cell? ⟨w.heap.size, 3, none⟩ = some (.int .u64 (wd x 3 : Int))) := Lib.hid fun W h =>
    ⟨(hb0.below h hb0.lt).cell 0, (hb0.below h hb0.lt).cell 1, (hb0.below h hb0.lt).cell 2, (hb0.below h hb0.lt).cell 3⟩
  have z0 : Still W0 W0.drew := (Still.refl W0).drew
  have HB := Lib.hid hbel
  unfold uA at *
  obtain ⟨k0, k1, k2, k3⟩ := K0.out W0 (Still.refl W0)
  clear hb0 hbel hS hx hx10
  go_enter Try.func10, Try.ntmps10
  go_wp2
  rw [← hW0]
  clear hW0
  go_region_with (first
    | (go_at_call 36; refine (C1.out _ (by assumption)).mono ?_; rintro e' w1 ⟨rfl, b1, S1⟩; obtain ⟨_, _, _, _⟩ := K0.out w1 S1)
    | (go_at_call 12; refine (C2.out _ (by assumption)).mono ?_; rintro e' w2 ⟨A2, n2, c2, rfl, h2, h2c, h2m, b2, S2⟩; obtain ⟨_, _, _, _⟩ := K0.out w2 S2)
    | (go_at_call 37; refine (C3.out _ _ _ _ (by first | exact h2 | exact h2.below b1) h2c h2m (by assumption)).mono ?_; rintro e' w3 ⟨rfl, S3⟩; obtain ⟨_, _, _, _⟩ := K0.out w3 S3)
    | (go_at_call 20; refine (C4.out _ (by assumption)).mono ?_; rintro e' w4 ⟨rfl, S4⟩))
  all_goals go_wp2
  all_goals go_ret
  all_goals exact ⟨rfl, HB.out.trans (Below.mono S4 HB.out.size)⟩
theorem walk (u : U4) (w : World) (hu : u.ok) : Calls Try.prog 10 #[.agg u.arr] w (Ret w (.bool true)) := by
  rw [u.uA hu]; exact walkN u.val w (u.val_lt hu)

set_option maxRecDepth 100000 in
theorem lifted (os : Os) (started : os.Started) (H : Type) (enc : TypeId × Value → H) :
    ReturnsInHanded {} Try.checked os 10 .any (Rows.wideTextsSpec.pre6 enc Try.prog Try.f10 Rows.wideTextsRow.domain false) (Rows.wideTextsSpec.post enc Try.prog Try.f10 false true false false) := by
  refine returnsInHanded_of_change (C := Try.checked) own started (by kernel_rfl) Try.func10
    (ChangeSpec.witness6 (enc := enc) (C := Try.checked) false ⟨#[], #[.agg #[.int .u64 0, .int .u64 0, .int .u64 0, .int .u64 0]], []⟩ 8 (by kernel_rfl) (by kernel_rfl) (by kernel_rfl) (by kernel_rfl)) ?_
  intro W base args ds gs before hval0 hW hcnd _
  have hval : ∀ (j : Nat) t v, Try.f10.params[j]? = some t → args[j]? = some v → Value.okWide Try.prog W .any base t v := hval0
  have hW' := hW
  obtain ⟨p, q, hA0, hV, rfl, hfz, hnd⟩ := hW
  have hA : DataW.TrodAll enc Try.prog W 0 (fun _ => true) true Try.f10.params.toList args.toList ds p := hA0
  rw [Try.params10] at hA hval
  obtain ⟨v0, vs0, d0, ds0, p0, q0, hargs, rfl, rfl, h0, r0⟩ := trodAll_cons hA
  obtain ⟨rfl, rfl, rfl⟩ := trodAll_nil r0
  obtain rfl : args = #[v0] := by cases args; simp_all
  obtain ⟨rfl, rfl⟩ := trodVars_none hV
  have k0 := h0
  have lt0 : ∀ x ∈ p0, x.block < W.heap.size := by obtain ⟨m, hm⟩ := k0; exact DataW.trod_lt m _ _ _ hm
  obtain ⟨a0, rfl, w0⟩ := arrW (hval 0 24 v0 rfl rfl) h0
  clear hA0 hval0
  refine (walk a0 W w0).mono fun e W' ⟨he, bel⟩ => ?_
  subst he
  exact ⟨_, rfl, _, _, _, [], _, [], hW', trodAll_mk1 (shut_bool Try.underlying4 _), (trodAll_cons_mk (Below.trod laidOut (by kernel_rfl) (of_decide_eq_true (by kernel_rfl)) k0 bel lt0) trodAll_mk0), rfl, bel.frame _, fun h => by cases h⟩

theorem over : Rows.wideTextsRow.holds Try.pinned (OpenSpec.ofChange Rows.wideTextsSpec) :=
  OpenClaim.holds_of_wide 10 Try.f10 rfl rfl rfl rfl rfl rfl rfl ⟨rfl, rfl, rfl, rfl, rfl⟩ rfl rfl rfl rfl rfl (by kernel_rfl) Try.func10 (by kernel_rfl)
    (of_decide_eq_true (by kernel_rfl)) (by unfold Func.isWrapper; first | (rw [if_pos (by decide +kernel)]; kernel_rfl) | (rw [if_neg (by decide +kernel)]; exact ⟨rfl, rfl⟩))
    (fun os started H enc _ => lifted os started H enc)

theorem proved : Rows.WideTextsSaid := over
end Go.Proofs.Ythbbeknbdgkpkaa.wideTexts
