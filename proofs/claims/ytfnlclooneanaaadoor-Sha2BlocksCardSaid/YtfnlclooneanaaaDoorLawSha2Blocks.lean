/- Proved: the card Sha2BlocksCardSaid: from any state, by any block, sha2.Block is the step that the document says; condition: the listed tables start as the program's text lays them. -/
import Derived.Test.YtfnlclooneanaaaDoorRows
import Derived.Test.YtfnlclooneanaaaDoorShaQ
import Derived.Test.YtfnlclooneanaaaDoorShaY
import Derived.Test.YtfnlclooneanaaaDoorRefT
import Derived.Test.YtfnlclooneanaaaDoorStill
import Derived.Test.YtfnlclooneanaaaDoorArrH
import Derived.Deep.RegionHeld3
import Derived.ProofKit
import Derived.OpenShut
import Derived.ShutString
import Derived.ChangeOld
import Derived.Test.YtfnlclooneanaaaDoorOpen
import Derived.Test.YtfnlclooneanaaaDoorShaL
import Derived.Test.YtfnlclooneanaaaDoorTie
import Derived.Test.YtfnlclooneanaaaDoorCards
import Derived.SevenTiedAt
namespace Go.Proofs.YtfnlclooneanaaaDoor.sha2Blocks
open Go.ChangeShapes Go.WideShapes Go.ChangeAt Go.RowKit
open Go.ChangeMaps (open_string shut_string)
set_option linter.unusedVariables false

theorem own : ownKnob Tryd.prog.godebug = none := by kernel_rfl
theorem laidOut : laidOutB Tryd.prog = true := by kernel_rfl

theorem guard8 : Tryd.prog.eqGuardType Tryd.prog.depth 30 = false := by kernel_rfl
theorem u32_wf (n : Nat) (h : n < 4294967296) : (Lit.int .u32 (n : Int)).wf = true := by
  have h1 : IntKind.u32.min = 0 := rfl
  have h2 : IntKind.u32.max = 4294967295 := rfl
  simp [Lit.wf, h1, h2]
  omega
theorem st_self (s : St) (h : s.ok) (w : World) : (Op.equalIn 10000 30 (.agg s.vals.toArray) (.agg s.vals.toArray)).run Tryd.prog w = .ok true w :=
  equal_self 30 29 8 .u32 Tryd.underlying30 Tryd.underlying29 (by kernel_rfl) (by kernel_rfl) (by kernel_rfl) s.vals (vals_len s) (fun v hv => by
    simp only [St.vals, List.mem_map] at hv
    obtain ⟨x, hx, rfl⟩ := hv
    exact ⟨_, rfl, u32_wf _ (h x hx)⟩) w

set_option maxRecDepth 100000 in
set_option maxHeartbeats 2000000 in
theorem walk (s : St) (B : List UInt8) (w : World) (hT : Tab w) (hs : s.ok) (hB : B.length = 64) :
    Calls Tryd.prog 4 #[.agg s.arr, .agg (B.map B8).toArray] w (Ret w (.bool true)) := by
  obtain ⟨sa, sb, sc, sd, se, sf, sg, sh⟩ := s
  obtain ⟨V, hV⟩ : ∃ V, V = B.map B8 := ⟨_, rfl⟩
  have hVl : V.length = 64 := by rw [hV, List.length_map, hB]
  obtain ⟨R, hR⟩ : ∃ R, R = (comp ⟨sa, sb, sc, sd, se, sf, sg, sh⟩ B).vals := ⟨_, rfl⟩
  obtain ⟨W0, hW0⟩ : ∃ W0, W0 = (w.alloc (.cells #[.int .u32 (sa : Int), .int .u32 (sb : Int), .int .u32 (sc : Int), .int .u32 (sd : Int), .int .u32 (se : Int), .int .u32 (sf : Int), .int .u32 (sg : Int), .int .u32 (sh : Int)] 30)).alloc (.cells V.toArray 31) := ⟨_, rfl⟩
  have hb0 : Blk W0 w.heap.size (⟨sa, sb, sc, sd, se, sf, sg, sh⟩ : St).vals 30 := by rw [hW0]; exact (Blk.new w _ _).alloc _
  have hb1 : Blk W0 (w.heap.size + 1) V 31 := by rw [hW0]; exact Blk.new' (w.alloc _) V.toArray _ _ (by simp)
  have hbel : Below w.heap.size w W0 := by rw [hW0]; exact ((Below.refl _ w).alloc (Nat.le_refl _) _).alloc (by simp) _
  have hT0 := hT.all hbel
  have C1 : Hid (∀ W, Still W0 W → Calls Tryd.prog 14 #[.agg #[.int .u32 (sa : Int), .int .u32 (sb : Int), .int .u32 (sc : Int), .int .u32 (sd : Int), .int .u32 (se : Int), .int .u32 (sf : Int), .int .u32 (sg : Int), .int .u32 (sh : Int)], .agg V.toArray] W fun e W' => e = .returned (.agg R.toArray) ∧ Still W0 W') := Lib.hid fun W h => by
    rw [hV, hR]; exact ret_still (block_calls ⟨sa, sb, sc, sd, se, sf, sg, sh⟩ B W hs hB (hT0.all h)) h
  have C2 : Hid (∀ W, Still W0 W → Calls Tryd.prog 15 #[.agg #[.int .u32 (sa : Int), .int .u32 (sb : Int), .int .u32 (sc : Int), .int .u32 (sd : Int), .int .u32 (se : Int), .int .u32 (sf : Int), .int .u32 (sg : Int), .int .u32 (sh : Int)], .slice (some ⟨w.heap.size + 1, 0, none⟩) 64 64] W fun e W' => e = .returned (.agg R.toArray) ∧ Still W0 W') := Lib.hid fun W h => by
    rw [hR]
    refine ret_still (step_calls ⟨sa, sb, sc, sd, se, sf, sg, sh⟩ B _ 64 W hs hB ?_) h
    refine (hb1.below h hb1.lt).rd 0 64 B hB (fun j hj => ?_)
    rw [hV, Nat.zero_add, List.getElem?_map, List.getElem?_eq_getElem hj]
    rfl
  have C5 : Hid (∀ W, Still W0 W → Calls Tryd.prog 9 #[] W fun e W' => e = .returned (.bool true) ∧ Still W0 W') := Lib.hid fun W h => ret_still (awake2_calls W (hT0.all h)) h
  have K0 : Hid (∀ W, Still W0 W → W.cell? ⟨w.heap.size, 0, none⟩ = some (.int .u32 (sa : Int)) ∧ W.cell? ⟨w.heap.size, 1, none⟩ = some (.int .u32 (sb : Int)) ∧ W.cell? ⟨w.heap.size, 2, none⟩ = some (.int .u32 (sc : Int)) ∧ W.cell? ⟨w.heap.size, 3, none⟩ = some (.int .u32 (sd : Int)) ∧ W.cell? ⟨w.heap.size, 4, none⟩ = some (.int .u32 (se : Int)) ∧ W.cell? ⟨w.heap.size, 5, none⟩ = some (.int .u32 (sf : Int)) ∧ W.cell? ⟨w.heap.size, 6, none⟩ = some (.int .u32 (sg : Int)) ∧ W.cell? ⟨w.heap.size, 7, none⟩ = some (.int .u32 (sh : Int)) ∧ W.rangeAt (w.heap.size + 1) 0 V ∧ Still W0 W) := Lib.hid fun W h => ⟨(hb0.below h hb0.lt).cell 0, (hb0.below h hb0.lt).cell 1, (hb0.below h hb0.lt).cell 2, (hb0.below h hb0.lt).cell 3, (hb0.below h hb0.lt).cell 4, (hb0.below h hb0.lt).cell 5, (hb0.below h hb0.lt).cell 6, (hb0.below h hb0.lt).cell 7, (hb1.below h hb1.lt).range, h⟩
  have q1 : ∀ W, (Op.equalIn 10000 30 (.agg R.toArray) (.agg R.toArray)).run Tryd.prog W = .ok true W := by intro W; rw [hR]; exact st_self _ (comp_ok _ B) W
  have hgd := guard8
  have hu64 := Tryd.underlying31
  have hi64 : (Tryd.prog.info? 31).map (·.size) = some V.length := by rw [hVl]; exact ib64
  have hsl := fun W => run_sl_all (P := Tryd.prog) 31 5 64 Tryd.underlying31 size8 (w.heap.size + 1) 0 (by omega) W
  rw [← hV]
  unfold St.arr
  simp only
  have z0 : Still W0 W0.drew := (Still.refl W0).drew
  have HB := Lib.hid hbel
  have HW := Lib.hid hW0
  clear hV hR hb0 hb1 hbel hT0 hT hs hB
  go_enter Tryd.func4, Tryd.ntmps4
  go_wp2
  rw [← hW0]
  clear hW0
  go_region_held3 (fun W => W.cell? ⟨w.heap.size, 0, none⟩ = some (.int .u32 (sa : Int)) ∧ W.cell? ⟨w.heap.size, 1, none⟩ = some (.int .u32 (sb : Int)) ∧ W.cell? ⟨w.heap.size, 2, none⟩ = some (.int .u32 (sc : Int)) ∧ W.cell? ⟨w.heap.size, 3, none⟩ = some (.int .u32 (sd : Int)) ∧ W.cell? ⟨w.heap.size, 4, none⟩ = some (.int .u32 (se : Int)) ∧ W.cell? ⟨w.heap.size, 5, none⟩ = some (.int .u32 (sf : Int)) ∧ W.cell? ⟨w.heap.size, 6, none⟩ = some (.int .u32 (sg : Int)) ∧ W.cell? ⟨w.heap.size, 7, none⟩ = some (.int .u32 (sh : Int)) ∧ W.rangeAt (w.heap.size + 1) 0 V ∧ Still W0 W)
    (first | exact K0.out _ z0 | exact K0.out _ (by first | assumption | exact And.right (And.right (And.right (And.right (And.right (And.right (And.right (And.right (And.right (by assumption)))))))))))
    (first
    | (go_at_call 14; refine (C1.out _ (by first | assumption | exact And.right (And.right (And.right (And.right (And.right (And.right (And.right (And.right (And.right (by assumption))))))))))).mono ?_; rintro e' w1 ⟨rfl, h1⟩)
    | (go_at_call 15; refine (C2.out _ (by first | assumption | exact And.right (And.right (And.right (And.right (And.right (And.right (And.right (And.right (And.right (by assumption))))))))))).mono ?_; rintro e' w2 ⟨rfl, h2⟩)
    | (go_at_call 9; refine (C5.out _ (by first | assumption | exact And.right (And.right (And.right (And.right (And.right (And.right (And.right (And.right (And.right (by assumption))))))))))).mono ?_; rintro e' w4 ⟨rfl, h4⟩))
  all_goals go_wp2
  all_goals go_ret
  all_goals exact ⟨rfl, Still.trans HB.out h4⟩

set_option maxRecDepth 100000 in
theorem lifted (os : Os) (started : os.Started) (H : Type) (enc : TypeId × Value → H) :
    ReturnsInHanded {} Tryd.checked os 4 .any (fun w args => (Rows.sha2BlocksSpec.pre enc Tryd.prog Tryd.f4 [] false w args ∧ laidMetH Tryd.prog laidT w) ∧ sizedMet enc Tryd.prog Tryd.f4 (OpenSpec.ofChange Rows.sha2BlocksSpec) false w args)
      (Rows.sha2BlocksSpec.post enc Tryd.prog Tryd.f4 false true false false) := by
  refine returnsInHanded_of_change_and (C := Tryd.checked) (X := fun w _ => laidMetH Tryd.prog laidT w) (fun _ _ _ hh h => h.of_heap hh) own started (by kernel_rfl) Tryd.func4
    (ChangeSpec.witness_shaped (enc := enc) (C := Tryd.checked) (os := os) (X := fun w _ => laidMetH Tryd.prog laidT w) false (World.doorLaid Tryd.prog 400 os) #[.agg (Array.replicate 8 (.int .u32 0)), .agg (Array.replicate 64 (.int .u8 0))] 8 rfl (World.shaped_of_RefB (by kernel_rfl) (by kernel_rfl)) (by kernel_rfl) (by kernel_rfl) (by kernel_rfl) (door_met os _)) ?_
  intro W base args ds gs before hval0 hW hcnd _ hL _
  have hval : ∀ (j : Nat) t v, Tryd.f4.params[j]? = some t → args[j]? = some v → Value.okWide Tryd.prog W .any base t v := hval0
  have hW' := hW
  obtain ⟨p, q, hA0, hV, rfl, hfz, hnd⟩ := hW
  have hA : DataW.TrodAll enc Tryd.prog W 0 (fun _ => true) true Tryd.f4.params.toList args.toList ds p := hA0
  rw [Tryd.params4] at hA hval
  obtain ⟨v0, vs0, d0, ds0, p0, q0, hargs, rfl, rfl, h0, r0⟩ := trodAll_cons hA
  obtain ⟨v1, vs1, d1, ds1, p1, q1, rfl, rfl, rfl, h1, r1⟩ := trodAll_cons r0
  obtain ⟨rfl, rfl, rfl⟩ := trodAll_nil r1
  obtain rfl : args = #[v0, v1] := by cases args; simp_all
  obtain ⟨rfl, rfl⟩ := trodVars_none hV
  have k0 := h0
  have lt0 : ∀ x ∈ p0, x.block < W.heap.size := by obtain ⟨m, hm⟩ := k0; exact DataW.trod_lt m _ _ _ hm
  obtain ⟨a0, rfl, w0⟩ := arr8 (hval 0 30 v0 rfl rfl) h0
  have k1 := h1
  have lt1 : ∀ x ∈ p1, x.block < W.heap.size := by obtain ⟨m, hm⟩ := k1; exact DataW.trod_lt m _ _ _ hm
  obtain ⟨a1, rfl, w1⟩ := arr64 (hval 1 31 v1 rfl rfl) h1
  clear hA0 hval0
  refine (walk a0 a1 W (tab_of hL) w0 w1).mono fun e W' ⟨he, bel⟩ => ?_
  subst he
  exact ⟨_, rfl, _, _, _, [], _, [], hW', trodAll_mk1 (shut_bool Tryd.underlying4 _), (trodAll_cons_mk (Below.trod laidOut (by kernel_rfl) (of_decide_eq_true (by kernel_rfl)) k0 bel lt0) (trodAll_cons_mk (Below.trod laidOut (by kernel_rfl) (of_decide_eq_true (by kernel_rfl)) k1 bel lt1) trodAll_mk0)), rfl, bel.frame _, fun h => by cases h⟩

theorem over : Rows.sha2BlocksRow.holds Tryd.pinned (OpenSpec.ofChange Rows.sha2BlocksSpec) :=
  OpenClaim.holds_of_wide 4 Tryd.f4 rfl rfl rfl rfl rfl rfl rfl ⟨rfl, rfl, rfl, rfl, rfl⟩ rfl rfl rfl rfl rfl (by kernel_rfl) Tryd.func4 (by kernel_rfl)
    (of_decide_eq_true (by kernel_rfl)) (by unfold Func.isWrapper; first | (rw [if_pos (by decide +kernel)]; kernel_rfl) | (rw [if_neg (by decide +kernel)]; exact ⟨rfl, rfl⟩))
    (fun os started H enc _ => lifted os started H enc)

theorem proved : Rows.Sha2BlocksCardSaid :=
  Claim7.holds_tied_plain_at .later [] [.data, .data] true Rows.sha2BlocksCard.stood.harness false
    over (fun _ h => by cases h) (by kernel_rfl) (fun _ h => by cases h) sha2Blocks_row_tie rfl ⟨rfl, rfl⟩ (by kernel_rfl) rfl
    (fun f fn hf hfn => by
      obtain rfl : f = 4 := Option.some.inj ((show Tryd.prog.funcNamed "masthead/mastheadlaw02.Sha2Blocks" = some 4 by kernel_rfl).symm.trans hf) |>.symm
      obtain rfl : fn = Tryd.f4 := (Option.some.inj (Tryd.func4.symm.trans hfn)).symm
      exact ⟨by kernel_rfl, fun j t ht => by
        rw [Tryd.params4] at ht
        have hm : t ∈ [30, 31] := by simpa using Array.mem_of_getElem? ht
        have hall : ([30, 31].all fun u => !Tryd.prog.wantsStandIn u) = true := by kernel_rfl
        exact (show Tryd.prog.wantsStandIn t = false by simpa using List.all_eq_true.1 hall t hm)⟩)
    (by kernel_rfl)
end Go.Proofs.YtfnlclooneanaaaDoor.sha2Blocks
