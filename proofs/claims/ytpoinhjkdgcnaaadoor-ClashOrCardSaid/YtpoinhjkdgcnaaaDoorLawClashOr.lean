/- Proved: for every list of up to 9 texts of up to 200 bytes, none of 64 bytes, every text of up to 200 bytes and not of 64, and every branch with a path of up to 20 hashes that is taken from the text to the list's root: the text stands in the list at that place, or a clash is told. The argument reads as it did. The condition is the card's own: sha2's two tables are as they are laid. -/
import Derived.Test.YtpoinhjkdgcnaaaDoorRows
import Derived.Test.YtpoinhjkdgcnaaaDoorMbr
import Derived.Test.YtpoinhjkdgcnaaaDoorMbs
import Derived.ProofKit
import Derived.OpenShut
import Derived.ShutString
import Derived.ChangeOld
import Derived.Test.YtpoinhjkdgcnaaaDoorMab
import Derived.Test.YtpoinhjkdgcnaaaDoorMah
import Derived.Test.YtpoinhjkdgcnaaaDoorTie
import Derived.Test.YtpoinhjkdgcnaaaDoorCards
import Derived.SevenTiedAt
namespace Go.Proofs.YtpoinhjkdgcnaaaDoor.clashOr
open Go.ChangeShapes Go.WideShapes Go.ChangeAt Go.RowKit
open Go.ChangeMaps (open_string shut_string)
set_option linter.unusedVariables false
set_option linter.unusedSimpArgs false

set_option maxRecDepth 100000 in
theorem own : ownKnob Tryd.prog.godebug = none := by kernel_rfl
set_option maxRecDepth 100000 in
theorem laidOut : laidOutB Tryd.prog = true := by kernel_rfl

set_option maxRecDepth 100000 in
theorem walk (AL AT AP : Option Addr) (n cL k cT m cP : Nat) (c i : Int) (T : List (List UInt8)) (x : List UInt8) (P : List (List UInt8)) (w : World) (hT : Tab w) (w0 : (RdM w AL n T ∧ n ≤ cL ∧ cL ≤ maxLen) ∧ (Rd w AT k x ∧ k ≤ cT ∧ cT ≤ maxLen) ∧ (RdH w AP m P ∧ m ≤ cP ∧ cP ≤ maxLen) ∧ (Lit.int .i64 c).wf = true ∧ (Lit.int .i64 i).wf = true) : Calls Tryd.prog 6 #[.agg #[.slice AL n cL, .slice AT k cT, .int .i64 c, .int .i64 i, .slice AP m cP]] w (Ret w (.bool true)) :=
  clashOr_join AL AT AP n cL k cT m cP c i T x P w hT w0 awake10 extract10

set_option maxRecDepth 100000 in
theorem lifted (os : Os) (started : os.Started) (H : Type) (enc : TypeId × Value → H) :
    ReturnsInHanded {} Tryd.checked os 6 .any (fun w args => (Rows.clashOrSpec.pre enc Tryd.prog Tryd.f6 [] false w args ∧ laidMetH Tryd.prog laidT w) ∧ sizedMet enc Tryd.prog Tryd.f6 (OpenSpec.ofChange Rows.clashOrSpec) false w args)
      (Rows.clashOrSpec.post enc Tryd.prog Tryd.f6 false true false false) := by
  refine returnsInHanded_of_change_and (C := Tryd.checked) (X := fun w _ => laidMetH Tryd.prog laidT w) (fun _ _ _ hh h => h.of_heap hh) own started (by kernel_rfl) Tryd.func6
    (ChangeSpec.witness_shaped (enc := enc) (C := Tryd.checked) (os := os) (X := fun w _ => laidMetH Tryd.prog laidT w) false (World.doorLaid Tryd.prog 400 os) #[.agg #[.slice none 0 0, .slice none 0 0, .int .i64 0, .int .i64 0, .slice none 0 0]] 8 rfl (World.shaped_of_RefB (by kernel_rfl) (by kernel_rfl)) (by kernel_rfl) (by kernel_rfl) (by kernel_rfl) (door_met os _)) ?_
  intro W base args ds gs before hval0 hW hcnd _ hL _
  have hval : ∀ (j : Nat) t v, Tryd.f6.params[j]? = some t → args[j]? = some v → Value.okWide Tryd.prog W .any base t v := hval0
  have hW' := hW
  obtain ⟨p, q, hA0, hV, rfl, hfz, hnd⟩ := hW
  have hA : DataW.TrodAll enc Tryd.prog W 0 (fun _ => true) true Tryd.f6.params.toList args.toList ds p := hA0
  rw [Tryd.params6] at hA hval
  obtain ⟨v0, vs0, d0, ds0, p0, q0, hargs, rfl, rfl, h0, r0⟩ := trodAll_cons hA
  obtain ⟨rfl, rfl, rfl⟩ := trodAll_nil r0
  obtain rfl : args = #[v0] := by cases args; simp_all
  obtain ⟨rfl, rfl⟩ := trodVars_none hV
  have k0 := h0
  have lt0 : ∀ x ∈ p0, x.block < W.heap.size := by obtain ⟨m, hm⟩ := k0; exact DataW.trod_lt m _ _ _ hm
  obtain ⟨aL0, aT0, aP0, n0, cL0, k0', cT0, m0, cP0, c0, i0, rfl, T0, x0, P0, w0⟩ := open_case (hval 0 28 v0 rfl rfl) h0
  clear hA0 hval0
  refine (walk aL0 aT0 aP0 n0 cL0 k0' cT0 m0 cP0 c0 i0 T0 x0 P0 W (tab_of hL) w0).mono fun e W' ⟨he, bel⟩ => ?_
  subst he
  exact ⟨_, rfl, _, _, _, [], _, [], hW', trodAll_mk1 (shut_bool Tryd.underlying4 _), (trodAll_cons_mk (Below.trod laidOut (by kernel_rfl) (of_decide_eq_true (by kernel_rfl)) k0 bel lt0) trodAll_mk0), rfl, bel.frame _, fun h => by cases h⟩

set_option maxRecDepth 100000 in
theorem over : Rows.clashOrRow.holds Tryd.pinned (OpenSpec.ofChange Rows.clashOrSpec) :=
  OpenClaim.holds_of_wide 6 Tryd.f6 rfl rfl rfl rfl rfl rfl rfl ⟨rfl, rfl, rfl, rfl, rfl⟩ rfl rfl rfl rfl rfl (by kernel_rfl) Tryd.func6 (by kernel_rfl)
    (of_decide_eq_true (by kernel_rfl)) (by unfold Func.isWrapper; first | (rw [if_pos (by decide +kernel)]; kernel_rfl) | (rw [if_neg (by decide +kernel)]; exact ⟨rfl, rfl⟩))
    (fun os started H enc _ => lifted os started H enc)

set_option maxRecDepth 100000 in
theorem proved : Rows.ClashOrCardSaid :=
  Claim7.holds_tied_plain_at .later [] [.data, .data] true Rows.clashOrCard.stood.harness false
    over (fun _ h => by cases h) (by kernel_rfl) (fun _ h => by cases h) clashOr_row_tie rfl ⟨rfl, rfl⟩ (by kernel_rfl) rfl
    (fun f fn hf hfn => by
      obtain rfl : f = 6 := Option.some.inj ((show Tryd.prog.funcNamed "masthead/mastheadlaw10.ClashOr" = some 6 by kernel_rfl).symm.trans hf) |>.symm
      obtain rfl : fn = Tryd.f6 := (Option.some.inj (Tryd.func6.symm.trans hfn)).symm
      exact ⟨by kernel_rfl, fun j t ht => by
        rw [Tryd.params6] at ht
        have hm : t ∈ [28] := by simpa using Array.mem_of_getElem? ht
        have hall : ([28].all fun u => !Tryd.prog.wantsStandIn u) = true := by kernel_rfl
        exact (show Tryd.prog.wantsStandIn t = false by simpa using List.all_eq_true.1 hall t hm)⟩)
    (by kernel_rfl)
end Go.Proofs.YtpoinhjkdgcnaaaDoor.clashOr
