/- Proved: for every list of hashes, of up to 20: Root answers what the document says. The argument reads as it did. The condition is the card's own: sha2's two tables are as they are laid. -/
import Derived.Test.YtkhjadecichlkaaDoorRows
import Derived.Test.YtkhjadecichlkaaDoorMax
import Derived.Test.YtkhjadecichlkaaDoorMay
import Derived.Test.YtkhjadecichlkaaDoorMbe
import Derived.Deep.RegionHeld3
import Derived.ProofKit
import Derived.OpenShut
import Derived.ShutString
import Derived.ChangeOld
import Derived.Test.YtkhjadecichlkaaDoorMac
import Derived.Test.YtkhjadecichlkaaDoorMal
import Derived.Test.YtkhjadecichlkaaDoorTie
import Derived.Test.YtkhjadecichlkaaDoorCards
import Derived.SevenTiedAt
namespace Go.Proofs.YtkhjadecichlkaaDoor.merkleRoots
open Go.ChangeShapes Go.WideShapes Go.ChangeAt Go.RowKit
open Go.ChangeMaps (open_string shut_string)
set_option linter.unusedVariables false
set_option linter.unusedSimpArgs false

set_option maxRecDepth 100000 in
theorem own : ownKnob Tryd.prog.godebug = none := by kernel_rfl
set_option maxRecDepth 100000 in
theorem laidOut : laidOutB Tryd.prog = true := by kernel_rfl

set_option maxRecDepth 100000 in
set_option maxHeartbeats 4000000 in
theorem walk (A : Option Addr) (n c : Nat) (l : List (List UInt8)) (w : World) (hT : Tab w) (w0 : RdH w A n l ∧ n ≤ c ∧ c ≤ maxLen) : Calls Tryd.prog 3 #[.slice A n c] w (Ret w (.bool true)) := by
  obtain ⟨hr, hnc, hcm⟩ := w0
  have CA : Hid (∀ W, Below w.heap.size w W → Calls Tryd.prog 9 #[] W (Ret W (.bool true))) := Lib.hid fun W h => awake8_calls W (hT.all h)
  by_cases h20 : 20 < n
  · have hd : (20 : Int) < (n : Int) := by omega
    clear hr hcm hnc
    go_enter Tryd.func3, Tryd.ntmps3
    go_wp2_with (go_at_call 9; refine (CA.out _ (Below.refl _ _)).mono ?_; rintro e' v9 ⟨rfl, d9⟩)
    go_ret
    exact ⟨rfl, d9⟩
  · have hd : ¬ (20 : Int) < (n : Int) := by omega
    obtain ⟨V, hV⟩ : ∃ V, V = (rootH l).map B8 := ⟨_, rfl⟩
    have C1 : Hid (Calls Tryd.prog 10 #[.slice A n c] w (Ret w (.agg V.toArray))) := Lib.hid (by rw [hV]; exact groot_calls A n c l w hr hT (by omega) hnc hcm)
    have C2 : Hid (∀ W, Below w.heap.size w W → Calls Tryd.prog 12 #[.slice A n c] W fun e w' => ∃ A' c', e = .returned (.slice A' n c') ∧ Calls Tryd.prog 11 #[.slice A' n c'] w' (Ret w' (.agg V.toArray)) ∧ Below W.heap.size W w') := Lib.hid fun W h => by
      refine (refs_calls A n c l W (hr.below h) (by omega)).mono ?_
      rintro e w' ⟨A', c', rfl, h1, h2⟩
      exact ⟨A', c', rfl, by rw [hV]; exact droot_calls A' n c' l w' h1 (by omega), h2⟩
    have q1 : ∀ W, (Op.equalIn 10000 25 (.agg V.toArray) (.agg V.toArray)).run Tryd.prog W = .ok true W := fun W => by rw [hV]; exact eqG32 _ _ (rootH_len l hr.all) (rootH_len l hr.all) true (by simp) W
    clear hV hr hnc hcm hT
    go_enter Tryd.func3, Tryd.ntmps3
    go_wp2_with (first
      | (go_at_call 10; refine C1.out.mono ?_; rintro e' v1 ⟨rfl, d1⟩)
      | (go_at_call 12; refine (C2.out _ d1).mono ?_; rintro e' v2 ⟨A2, c2, rfl, ht2, d2⟩; have HT2 := Lib.hid ht2; clear ht2)
      | (go_at_call 11; refine HT2.out.mono ?_; rintro e' v3 ⟨rfl, d3⟩; have KA := below_more (below_more d1 d2) d3)
      | (go_at_call 9; refine (CA.out _ KA).mono ?_; rintro e' v9 ⟨rfl, d9⟩))
    go_ret
    exact ⟨rfl, below_more KA d9⟩

set_option maxRecDepth 100000 in
theorem lifted (os : Os) (started : os.Started) (H : Type) (enc : TypeId × Value → H) :
    ReturnsInHanded {} Tryd.checked os 3 .any (fun w args => (Rows.merkleRootsSpec.pre enc Tryd.prog Tryd.f3 [] false w args ∧ laidMetH Tryd.prog laidT w) ∧ sizedMet enc Tryd.prog Tryd.f3 (OpenSpec.ofChange Rows.merkleRootsSpec) false w args)
      (Rows.merkleRootsSpec.post enc Tryd.prog Tryd.f3 false true false false) := by
  refine returnsInHanded_of_change_and (C := Tryd.checked) (X := fun w _ => laidMetH Tryd.prog laidT w) (fun _ _ _ hh h => h.of_heap hh) own started (by kernel_rfl) Tryd.func3
    (ChangeSpec.witness_shaped (enc := enc) (C := Tryd.checked) (os := os) (X := fun w _ => laidMetH Tryd.prog laidT w) false (World.doorLaid Tryd.prog 400 os) #[.slice none 0 0] 8 rfl (World.shaped_of_RefB (by kernel_rfl) (by kernel_rfl)) (by kernel_rfl) (by kernel_rfl) (by kernel_rfl) (door_met os _)) ?_
  intro W base args ds gs before hval0 hW hcnd _ hL _
  have hval : ∀ (j : Nat) t v, Tryd.f3.params[j]? = some t → args[j]? = some v → Value.okWide Tryd.prog W .any base t v := hval0
  have hW' := hW
  obtain ⟨p, q, hA0, hV, rfl, hfz, hnd⟩ := hW
  have hA : DataW.TrodAll enc Tryd.prog W 0 (fun _ => true) true Tryd.f3.params.toList args.toList ds p := hA0
  rw [Tryd.params3] at hA hval
  obtain ⟨v0, vs0, d0, ds0, p0, q0, hargs, rfl, rfl, h0, r0⟩ := trodAll_cons hA
  obtain ⟨rfl, rfl, rfl⟩ := trodAll_nil r0
  obtain rfl : args = #[v0] := by cases args; simp_all
  obtain ⟨rfl, rfl⟩ := trodVars_none hV
  obtain ⟨a0, len0, cap0, rfl⟩ := okWide_slice Tryd.underlying22 (hval 0 22 v0 rfl rfl)
  have k0 := h0
  have lt0 : ∀ x ∈ p0, x.block < W.heap.size := by obtain ⟨m, hm⟩ := k0; exact DataW.trod_lt m _ _ _ hm
  obtain ⟨l0, w0⟩ := open_hashes h0
  clear hA0 hval0
  refine (walk a0 len0 cap0 l0 W (tab_of hL) w0).mono fun e W' ⟨he, bel⟩ => ?_
  subst he
  exact ⟨_, rfl, _, _, _, [], _, [], hW', trodAll_mk1 (shut_bool Tryd.underlying4 _), (trodAll_cons_mk (Below.trod laidOut (by kernel_rfl) (of_decide_eq_true (by kernel_rfl)) k0 bel lt0) trodAll_mk0), rfl, bel.frame _, fun h => by cases h⟩

set_option maxRecDepth 100000 in
theorem over : Rows.merkleRootsRow.holds Tryd.pinned (OpenSpec.ofChange Rows.merkleRootsSpec) :=
  OpenClaim.holds_of_wide 3 Tryd.f3 rfl rfl rfl rfl rfl rfl rfl ⟨rfl, rfl, rfl, rfl, rfl⟩ rfl rfl rfl rfl rfl (by kernel_rfl) Tryd.func3 (by kernel_rfl)
    (of_decide_eq_true (by kernel_rfl)) (by unfold Func.isWrapper; first | (rw [if_pos (by decide +kernel)]; kernel_rfl) | (rw [if_neg (by decide +kernel)]; exact ⟨rfl, rfl⟩))
    (fun os started H enc _ => lifted os started H enc)

set_option maxRecDepth 100000 in
theorem proved : Rows.MerkleRootsCardSaid :=
  Claim7.holds_tied_plain_at .later [] [.data, .data] true Rows.merkleRootsCard.stood.harness false
    over (fun _ h => by cases h) (by kernel_rfl) (fun _ h => by cases h) merkleRoots_row_tie rfl ⟨rfl, rfl⟩ (by kernel_rfl) rfl
    (fun f fn hf hfn => by
      obtain rfl : f = 3 := Option.some.inj ((show Tryd.prog.funcNamed "masthead/mastheadlaw08.MerkleRoots" = some 3 by kernel_rfl).symm.trans hf) |>.symm
      obtain rfl : fn = Tryd.f3 := (Option.some.inj (Tryd.func3.symm.trans hfn)).symm
      exact ⟨by kernel_rfl, fun j t ht => by
        rw [Tryd.params3] at ht
        have hm : t ∈ [22] := by simpa using Array.mem_of_getElem? ht
        have hall : ([22].all fun u => !Tryd.prog.wantsStandIn u) = true := by kernel_rfl
        exact (show Tryd.prog.wantsStandIn t = false by simpa using List.all_eq_true.1 hall t hm)⟩)
    (by kernel_rfl)
end Go.Proofs.YtkhjadecichlkaaDoor.merkleRoots
