/- Proved: for any key and any bytes, sip.Hash is the keyed sum that the document says; for byte slices longer than 300 nothing more than the document's examples is said. -/
import Derived.Test.YtomkebbocbbfjaaRows
import Derived.Test.YtomkebbocbbfjaaSipT
import Derived.Test.YtomkebbocbbfjaaArrS
import Derived.Test.YtomkebbocbbfjaaHold
import Derived.Test.YtomkebbocbbfjaaSipK
import Derived.Deep.RegionHeld3
import Derived.ProofKit
import Derived.OpenShut
import Derived.ShutString
import Derived.ChangeOld
import Derived.Test.YtomkebbocbbfjaaOpen
namespace Go.Proofs.Ytomkebbocbbfjaa.sipHashes
open Go.ChangeShapes Go.WideShapes Go.ChangeAt Go.RowKit
open Go.ChangeMaps (open_string shut_string)
set_option linter.unusedVariables false

theorem own : ownKnob Try.prog.godebug = none := by kernel_rfl
theorem laidOut : laidOutB Try.prog = true := by kernel_rfl

set_option maxRecDepth 100000 in
set_option maxHeartbeats 1000000 in
theorem walk (k l : Nat) (A : Option Addr) (n c : Nat) (b : List UInt8) (w : World) (h0 : k < 2 ^ 64 ∧ l < 2 ^ 64) (h1 : Rd w A n b ∧ n ≤ c ∧ c ≤ maxLen) :
    Calls Try.prog 3 #[.agg #[.int .u64 (k : Int), .int .u64 (l : Int)], .slice A n c] w (Ret w (.bool true)) := by
  obtain ⟨hk, hl⟩ := h0
  obtain ⟨hr, hnc, hcm⟩ := h1
  by_cases h300 : 300 < n
  · have hd : (300 : Int) < (n : Int) := by omega
    clear hr hnc hcm hk hl
    go_enter Try.func3, Try.ntmps3
    go_wp2_with (go_at_call 8; refine (awake3_calls _).mono ?_; rintro e' w4 ⟨rfl, hb4⟩)
    go_ret
    exact ⟨rfl, Below.trans ((Below.refl _ w).alloc (Nat.le_refl _) _) (hb4.mono (by simp))⟩
  · have hd : ¬ (300 : Int) < (n : Int) := by omega
    obtain ⟨H, hH⟩ : ∃ H, H = sipH k l b := ⟨_, rfl⟩
    have C1 : Hid (∀ W, Hold w w.heap.size [.int .u64 (k : Int), .int .u64 (l : Int)] 23 W → Calls Try.prog 9 #[.agg #[.int .u64 (k : Int), .int .u64 (l : Int)], .slice A n c] W (fun e W' => e = .returned (.int .u64 (H : Int)) ∧ Hold w w.heap.size [.int .u64 (k : Int), .int .u64 (l : Int)] 23 W')) := Lib.hid fun W h => by
      rw [hH]; exact ret_hold (shash_calls k l A n c b W hk hl (by omega) hnc (hr.below h.bel)) h
    have C2 : Hid (∀ W, Hold w w.heap.size [.int .u64 (k : Int), .int .u64 (l : Int)] 23 W → Calls Try.prog 10 #[.int .u64 (k : Int), .int .u64 (l : Int), .slice A n c] W (fun e W' => e = .returned (.int .u64 (H : Int)) ∧ Hold w w.heap.size [.int .u64 (k : Int), .int .u64 (l : Int)] 23 W')) := Lib.hid fun W h => by
      rw [hH]; exact ret_hold (rhash_calls k l A n c b W hk hl (by omega) (hr.below h.bel)) h
    have H0 : Hold w w.heap.size [.int .u64 (k : Int), .int .u64 (l : Int)] 23 (w.alloc (.cells #[.int .u64 (k : Int), .int .u64 (l : Int)] 23)).drew := (Hold.new w _ _).drew
    clear hr hnc hcm hk hl hH
    go_enter Try.func3, Try.ntmps3
    have K0 : Hid (∀ W, Hold w w.heap.size [.int .u64 (k : Int), .int .u64 (l : Int)] 23 W → W.cell? ⟨w.heap.size, 0, none⟩ = some (.int .u64 (k : Int)) ∧ W.cell? ⟨w.heap.size, 1, none⟩ = some (.int .u64 (l : Int)) ∧ W.rangeAt w.heap.size 0 [.int .u64 (k : Int), .int .u64 (l : Int)] ∧ Hold w w.heap.size [.int .u64 (k : Int), .int .u64 (l : Int)] 23 W) := Lib.hid fun W h => ⟨h.blk.cell 0, h.blk.cell 1, h.blk.range, h⟩
    go_wp2
    go_region_held3 (fun W => W.cell? ⟨w.heap.size, 0, none⟩ = some (.int .u64 (k : Int)) ∧ W.cell? ⟨w.heap.size, 1, none⟩ = some (.int .u64 (l : Int)) ∧ W.rangeAt w.heap.size 0 [.int .u64 (k : Int), .int .u64 (l : Int)] ∧ Hold w w.heap.size [.int .u64 (k : Int), .int .u64 (l : Int)] 23 W)
      (first | exact K0.out _ H0 | exact K0.out _ (by assumption))
      (first
      | (go_at_call 9; refine (C1.out _ (by assumption)).mono ?_; rintro e' w1 ⟨rfl, h1⟩)
      | (go_at_call 10; refine (C2.out _ (by assumption)).mono ?_; rintro e' w2 ⟨rfl, h2⟩)
      | (go_at_call 8; refine (ret_hold (awake3_calls _) (by assumption)).mono ?_; rintro e' w4 ⟨rfl, h4⟩))
    all_goals go_wp2
    all_goals go_ret
    all_goals exact ⟨rfl, h4.bel⟩

set_option maxRecDepth 100000 in
theorem lifted (os : Os) (started : os.Started) (H : Type) (enc : TypeId × Value → H) :
    ReturnsInHanded {} Try.checked os 3 .any (Rows.sipHashesSpec.pre6 enc Try.prog Try.f3 Rows.sipHashesRow.domain false) (Rows.sipHashesSpec.post enc Try.prog Try.f3 false true false false) := by
  refine returnsInHanded_of_change (C := Try.checked) own started (by kernel_rfl) Try.func3
    (ChangeSpec.witness6 (enc := enc) (C := Try.checked) false ⟨#[], #[.agg #[.int .u64 0, .int .u64 0], .slice none 0 0], []⟩ 8 (by kernel_rfl) (by kernel_rfl) (by kernel_rfl) (by kernel_rfl)) ?_
  intro W base args ds gs before hval0 hW hcnd _
  have hval : ∀ (j : Nat) t v, Try.f3.params[j]? = some t → args[j]? = some v → Value.okWide Try.prog W .any base t v := hval0
  have hW' := hW
  obtain ⟨p, q, hA0, hV, rfl, hfz, hnd⟩ := hW
  have hA : DataW.TrodAll enc Try.prog W 0 (fun _ => true) true Try.f3.params.toList args.toList ds p := hA0
  rw [Try.params3] at hA hval
  obtain ⟨v0, vs0, d0, ds0, p0, q0, hargs, rfl, rfl, h0, r0⟩ := trodAll_cons hA
  obtain ⟨v1, vs1, d1, ds1, p1, q1, rfl, rfl, rfl, h1, r1⟩ := trodAll_cons r0
  obtain ⟨rfl, rfl, rfl⟩ := trodAll_nil r1
  obtain rfl : args = #[v0, v1] := by cases args; simp_all
  obtain ⟨rfl, rfl⟩ := trodVars_none hV
  have k0 := h0
  have lt0 : ∀ x ∈ p0, x.block < W.heap.size := by obtain ⟨m, hm⟩ := k0; exact DataW.trod_lt m _ _ _ hm
  obtain ⟨a0, b0, rfl, w0⟩ := arr2 (hval 0 23 v0 rfl rfl) h0
  obtain ⟨a1, len1, cap1, rfl⟩ := okWide_slice Try.underlying24 (hval 1 24 v1 rfl rfl)
  have k1 := h1
  have lt1 : ∀ x ∈ p1, x.block < W.heap.size := by obtain ⟨m, hm⟩ := k1; exact DataW.trod_lt m _ _ _ hm
  obtain ⟨l1, w1⟩ : ∃ l, Rd W a1 len1 l ∧ len1 ≤ cap1 ∧ cap1 ≤ maxLen := by
    obtain ⟨fuel, hf⟩ := h1
    rcases open_ints Try.underlying24 Try.underlying5 (by kernel_rfl) hf with ⟨hcs, _⟩ | ⟨x, l, c, zs, hcs, _, hl, hm, hz, _, hcell, hwz⟩
    · simp [Value.cells] at hcs
      obtain ⟨rfl, rfl, rfl⟩ := hcs
      exact ⟨[], Rd.nil _ _, by omega, by unfold maxLen; omega⟩
    · simp [Value.cells] at hcs
      obtain ⟨rfl, rfl, rfl⟩ := hcs
      obtain ⟨l, hr⟩ := rd_ints hcell hl (by simpa using hz) hwz
      exact ⟨l, hr, hl, hm⟩
  clear hA0 hval0
  refine (walk a0 b0 a1 len1 cap1 l1 W w0 w1).mono fun e W' ⟨he, bel⟩ => ?_
  subst he
  exact ⟨_, rfl, _, _, _, [], _, [], hW', trodAll_mk1 (shut_bool Try.underlying4 _), (trodAll_cons_mk (Below.trod laidOut (by kernel_rfl) (of_decide_eq_true (by kernel_rfl)) k0 bel lt0) (trodAll_cons_mk (Below.trod laidOut (by kernel_rfl) (of_decide_eq_true (by kernel_rfl)) k1 bel lt1) trodAll_mk0)), rfl, bel.frame _, fun h => by cases h⟩

theorem over : Rows.sipHashesRow.holds Try.pinned (OpenSpec.ofChange Rows.sipHashesSpec) :=
  OpenClaim.holds_of_wide 3 Try.f3 rfl rfl rfl rfl rfl rfl rfl ⟨rfl, rfl, rfl, rfl, rfl⟩ rfl rfl rfl rfl rfl (by kernel_rfl) Try.func3 (by kernel_rfl)
    (of_decide_eq_true (by kernel_rfl)) (by unfold Func.isWrapper; first | (rw [if_pos (by decide +kernel)]; kernel_rfl) | (rw [if_neg (by decide +kernel)]; exact ⟨rfl, rfl⟩))
    (fun os started H enc _ => lifted os started H enc)

theorem proved : Rows.SipHashesSaid := over
end Go.Proofs.Ytomkebbocbbfjaa.sipHashes
