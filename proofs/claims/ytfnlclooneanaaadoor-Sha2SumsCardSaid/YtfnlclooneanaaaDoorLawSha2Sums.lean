/- Proved: the card Sha2SumsCardSaid: any bytes have the sum and the double sum that the document says; for byte slices longer than 300 nothing more than the document's examples is said; condition: the listed tables start as the program's text lays them. -/
import Derived.Test.YtfnlclooneanaaaDoorRows
import Derived.Test.YtfnlclooneanaaaDoorShaQ
import Derived.Test.YtfnlclooneanaaaDoorShaY
import Derived.Test.YtfnlclooneanaaaDoorRefT
import Derived.Test.YtfnlclooneanaaaDoorStill
import Derived.Deep.RegionHeld3
import Derived.ProofKit
import Derived.OpenShut
import Derived.ShutString
import Derived.ChangeOld
import Derived.Test.YtfnlclooneanaaaDoorOpen
import Derived.Test.YtfnlclooneanaaaDoorShaL
import Derived.Test.YtfnlclooneanaaaDoorTie
import Derived.Test.YtfnlclooneanaaaDoorCards
import Derived.SevenTiedAt
namespace Go.Proofs.YtfnlclooneanaaaDoor.sha2Sums
open Go.ChangeShapes Go.WideShapes Go.ChangeAt Go.RowKit
open Go.ChangeMaps (open_string shut_string)
set_option linter.unusedVariables false

theorem own : ownKnob Tryd.prog.godebug = none := by kernel_rfl
theorem laidOut : laidOutB Tryd.prog = true := by kernel_rfl

theorem rdm_blk (W : World) (g : Nat) (A : Option Addr) (n c : Nat) (l : List UInt8) (t : TypeId) (hb : Blk W g [.slice A n c] t) (h : Rd W A n l) (hc : n ≤ c) (hm : c ≤ maxLen) : RdM W (some ⟨g, 0, none⟩) 1 [l] := by
  refine ⟨rfl, fun _ => ⟨g, 0, rfl, hb.lt, fun j hj => ?_⟩⟩
  have : j = 0 := by simp at hj; omega
  subst this
  exact ⟨A, n, c, hb.cell 0, hc, hm, h⟩
theorem blk_drew (W : World) (cs : List Value) (t : TypeId) : Blk (W.alloc (.cells cs.toArray t)).drew W.heap.size cs t := Blk.new W cs.toArray t
theorem blk_alloc (W : World) (cs : List Value) (t : TypeId) : Blk (W.alloc (.cells cs.toArray t)) W.heap.size cs t := Blk.new W cs.toArray t
set_option maxRecDepth 100000 in
set_option maxHeartbeats 2000000 in
theorem walk (A : Option Addr) (n c : Nat) (l : List UInt8) (w : World) (hT : Tab w) (hw : Rd w A n l ∧ n ≤ c ∧ c ≤ maxLen) :
    Calls Tryd.prog 3 #[.slice A n c] w (Ret w (.bool true)) := by
  obtain ⟨hr, hnc, hcm⟩ := hw
  by_cases h300 : 300 < n
  · have hd : (300 : Int) < (n : Int) := by omega
    have AW := Lib.hid (awake2_calls w hT)
    clear hr hnc hcm hT
    go_enter Tryd.func3, Tryd.ntmps3
    go_wp2_with (go_at_call 9; refine AW.out.mono ?_; rintro e' w4 ⟨rfl, hb4⟩)
    go_ret
    exact ⟨rfl, hb4⟩
  · have hd : ¬ (300 : Int) < (n : Int) := by omega
    obtain ⟨V, hV⟩ : ∃ V, V = (sha l).map B8 := ⟨_, rfl⟩
    obtain ⟨sb, hsb⟩ : ∃ sb : ByteArray, sb = ⟨l.toArray⟩ := ⟨_, rfl⟩
    have hsz : sb.size ≤ 100000 := by rw [hsb]; show l.toArray.size ≤ 100000; rw [List.size_toArray, hr.len]; omega
    have hsd : sb.data.toList = l := by rw [hsb]
    obtain ⟨V2, hV2⟩ : ∃ V, V = (sha (sha l)).map B8 := ⟨_, rfl⟩
    have C1 : Hid (∀ (W : World) (g : Nat), Blk W g [.slice A n c] 22 → Still w W → Calls Tryd.prog 10 #[.slice (some ⟨g, 0, none⟩) 1 1] W fun e W' => e = .returned (.agg V.toArray) ∧ Still w W') := Lib.hid fun W g hg h => by
      have h2 := sum_calls _ (some ⟨g, 0, none⟩) 1 1 [l] (rdm_blk W g A n c l _ hg (hr.below h) hnc hcm) (hT.all h) (by omega) (by simp; rw [hr.len]; omega)
      simp only [List.flatten_cons, List.flatten_nil, List.append_nil] at h2
      rw [hV]
      exact ret_still h2 h
    have C2 : Hid (∀ W, Still w W → Calls Tryd.prog 11 #[.string sb] W fun e W' => e = .returned (.agg V.toArray) ∧ Still w W') := Lib.hid fun W h => by
      have h2 := rsum_calls sb W hsz
      rw [hsd, ← hV] at h2
      exact ret_still h2 h
    have C3 : Hid (∀ (W : World) (g : Nat), Blk W g [.slice A n c] 22 → Still w W → Calls Tryd.prog 12 #[.slice (some ⟨g, 0, none⟩) 1 1] W fun e W' => e = .returned (.agg V2.toArray) ∧ Still w W') := Lib.hid fun W g hg h => by
      have h2 := twice_calls _ (some ⟨g, 0, none⟩) 1 1 [l] (rdm_blk W g A n c l _ hg (hr.below h) hnc hcm) (hT.all h) (by omega) (by simp; rw [hr.len]; omega)
      simp only [List.flatten_cons, List.flatten_nil, List.append_nil] at h2
      rw [hV2]
      exact ret_still h2 h
    have C4 : Hid (∀ W, Still w W → Calls Tryd.prog 13 #[.string sb] W fun e W' => e = .returned (.agg V2.toArray) ∧ Still w W') := Lib.hid fun W h => by
      have h2 := rtwice_calls sb W hsz
      rw [hsd, ← hV2] at h2
      exact ret_still h2 h
    have C5 : Hid (∀ W, Still w W → Calls Tryd.prog 9 #[] W fun e W' => e = .returned (.bool true) ∧ Still w W') := Lib.hid fun W h => ret_still (awake2_calls W (hT.all h)) h
    have K0 : Hid (∀ W, Still w W → (convert 22 9 (.slice A n c)).run Tryd.prog W = .ok (.string sb) W ∧ Still w W) := Lib.hid fun W h => ⟨by rw [hsb]; exact conv8 W A n c l (hr.below h), h⟩
    have q1 : ∀ W, (Op.equalIn 10000 25 (.agg V.toArray) (.agg V.toArray)).run Tryd.prog W = .ok true W := by intro W; rw [hV]; exact hash_self _ (sha_len _) W
    have q2 : ∀ W, (Op.equalIn 10000 25 (.agg V2.toArray) (.agg V2.toArray)).run Tryd.prog W = .ok true W := by intro W; rw [hV2]; exact hash_self _ (sha_len _) W
    have hgd := guardH
    have z0 := (Still.refl w).drew
    clear hr hnc hcm hT hV hV2 hsb hsz hsd
    go_enter Tryd.func3, Tryd.ntmps3
    go_wp2
    go_region_held3 (fun W => (convert 22 9 (.slice A n c)).run Tryd.prog W = .ok (.string sb) W ∧ Still w W)
      (first | exact K0.out _ z0 | exact K0.out _ (by first | assumption | exact And.right (by assumption)) | exact K0.out _ (Still.alloc (by first | assumption | exact And.right (by assumption)) _) | exact K0.out _ (Still.drew (Still.alloc (Still.refl w) _)))
      (first
      | (go_at_call 10; refine (C1.out _ _ (by first | exact blk_alloc _ _ _ | exact blk_drew _ _ _) (by first | assumption | exact And.right (by assumption))).mono ?_; rintro e' w1 ⟨rfl, h1⟩)
      | (go_at_call 11; refine (C2.out _ (by first | assumption | exact And.right (by assumption))).mono ?_; rintro e' w2 ⟨rfl, h2⟩)
      | (go_at_call 12; refine (C3.out _ _ (by first | exact blk_alloc _ _ _ | exact blk_drew _ _ _) (by first | assumption | exact And.right (by assumption))).mono ?_; rintro e' w3 ⟨rfl, h3⟩)
      | (go_at_call 13; refine (C4.out _ (by first | assumption | exact And.right (by assumption))).mono ?_; rintro e' w5 ⟨rfl, h5⟩)
      | (go_at_call 9; refine (C5.out _ (by first | assumption | exact And.right (by assumption))).mono ?_; rintro e' w4 ⟨rfl, h4⟩))
    all_goals go_wp2
    all_goals go_ret
    all_goals exact ⟨rfl, h4⟩

set_option maxRecDepth 100000 in
theorem lifted (os : Os) (started : os.Started) (H : Type) (enc : TypeId × Value → H) :
    ReturnsInHanded {} Tryd.checked os 3 .any (fun w args => (Rows.sha2SumsSpec.pre enc Tryd.prog Tryd.f3 [] false w args ∧ laidMetH Tryd.prog laidT w) ∧ sizedMet enc Tryd.prog Tryd.f3 (OpenSpec.ofChange Rows.sha2SumsSpec) false w args)
      (Rows.sha2SumsSpec.post enc Tryd.prog Tryd.f3 false true false false) := by
  refine returnsInHanded_of_change_and (C := Tryd.checked) (X := fun w _ => laidMetH Tryd.prog laidT w) (fun _ _ _ hh h => h.of_heap hh) own started (by kernel_rfl) Tryd.func3
    (ChangeSpec.witness_shaped (enc := enc) (C := Tryd.checked) (os := os) (X := fun w _ => laidMetH Tryd.prog laidT w) false (World.doorLaid Tryd.prog 400 os) #[.slice none 0 0] 8 rfl (World.shaped_of_RefB (by kernel_rfl) (by kernel_rfl)) (by kernel_rfl) (by kernel_rfl) (by kernel_rfl) (door_met os _)) ?_
  intro W base args ds gs before hval0 hW hcnd _ hL _
  have hval : ∀ (j : Nat) t v, Tryd.f3.params[j]? = some t → args[j]? = some v → Value.okWide Tryd.prog W .any base t v := hval0
  have hW' := hW
  obtain ⟨p, q, hA0, hV, rfl, hfz, hnd⟩ := hW
  have hA : DataW.TrodAll enc Tryd.prog W 0 (fun _ => true) true Tryd.f3.params.toList args.toList ds p := hA0
  rw [Tryd.params3] at hA hval
  obtain ⟨v0, vs0, d0, ds0, p0, q0, hargs, rfl, rfl, h0, r0⟩ := trodAll_cons hA
  obtain ⟨rfl, rfl, rfl⟩ := trodAll_nil r0
  obtain rfl : args = #[v0] := by cases args; simp_all
  obtain ⟨rfl, rfl⟩ := trodVars_none hV
  obtain ⟨a0, len0, cap0, rfl⟩ := okWide_slice Tryd.underlying22 (hval 0 22 v0 rfl rfl)
  have k0 := h0
  have lt0 : ∀ x ∈ p0, x.block < W.heap.size := by obtain ⟨m, hm⟩ := k0; exact DataW.trod_lt m _ _ _ hm
  obtain ⟨l0, w0⟩ : ∃ l, Rd W a0 len0 l ∧ len0 ≤ cap0 ∧ cap0 ≤ maxLen := by
    obtain ⟨fuel, hf⟩ := h0
    rcases open_ints Tryd.underlying22 Tryd.underlying5 (by kernel_rfl) hf with ⟨hcs, _⟩ | ⟨x, l, c, zs, hcs, _, hl, hm, hz, _, hcell, hwz⟩
    · simp [Value.cells] at hcs
      obtain ⟨rfl, rfl, rfl⟩ := hcs
      exact ⟨[], Rd.nil _ _, by omega, by unfold maxLen; omega⟩
    · simp [Value.cells] at hcs
      obtain ⟨rfl, rfl, rfl⟩ := hcs
      obtain ⟨l, hr⟩ := rd_ints hcell hl (by simpa using hz) hwz
      exact ⟨l, hr, hl, hm⟩
  clear hA0 hval0
  refine (walk a0 len0 cap0 l0 W (tab_of hL) w0).mono fun e W' ⟨he, bel⟩ => ?_
  subst he
  exact ⟨_, rfl, _, _, _, [], _, [], hW', trodAll_mk1 (shut_bool Tryd.underlying4 _), (trodAll_cons_mk (Below.trod laidOut (by kernel_rfl) (of_decide_eq_true (by kernel_rfl)) k0 bel lt0) trodAll_mk0), rfl, bel.frame _, fun h => by cases h⟩

theorem over : Rows.sha2SumsRow.holds Tryd.pinned (OpenSpec.ofChange Rows.sha2SumsSpec) :=
  OpenClaim.holds_of_wide 3 Tryd.f3 rfl rfl rfl rfl rfl rfl rfl ⟨rfl, rfl, rfl, rfl, rfl⟩ rfl rfl rfl rfl rfl (by kernel_rfl) Tryd.func3 (by kernel_rfl)
    (of_decide_eq_true (by kernel_rfl)) (by unfold Func.isWrapper; first | (rw [if_pos (by decide +kernel)]; kernel_rfl) | (rw [if_neg (by decide +kernel)]; exact ⟨rfl, rfl⟩))
    (fun os started H enc _ => lifted os started H enc)

theorem proved : Rows.Sha2SumsCardSaid :=
  Claim7.holds_tied_plain_at .later [] [.data, .data] true Rows.sha2SumsCard.stood.harness false
    over (fun _ h => by cases h) (by kernel_rfl) (fun _ h => by cases h) sha2Sums_row_tie rfl ⟨rfl, rfl⟩ (by kernel_rfl) rfl
    (fun f fn hf hfn => by
      obtain rfl : f = 3 := Option.some.inj ((show Tryd.prog.funcNamed "masthead/mastheadlaw02.Sha2Sums" = some 3 by kernel_rfl).symm.trans hf) |>.symm
      obtain rfl : fn = Tryd.f3 := (Option.some.inj (Tryd.func3.symm.trans hfn)).symm
      exact ⟨by kernel_rfl, fun j t ht => by
        rw [Tryd.params3] at ht
        have hm : t ∈ [22] := by simpa using Array.mem_of_getElem? ht
        have hall : ([22].all fun u => !Tryd.prog.wantsStandIn u) = true := by kernel_rfl
        exact (show Tryd.prog.wantsStandIn t = false by simpa using List.all_eq_true.1 hall t hm)⟩)
    (by kernel_rfl)
end Go.Proofs.YtfnlclooneanaaaDoor.sha2Sums
