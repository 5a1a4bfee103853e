/- Proved: the card Sha2EndsCardSaid: texts of one byte again and again have the sums that the document says; condition: the listed tables start as the program's text lays them. -/
import Derived.Test.YtfnlclooneanaaaDoorRows
import Derived.Test.YtfnlclooneanaaaDoorShaQ
import Derived.Test.YtfnlclooneanaaaDoorShaY
import Derived.Test.YtfnlclooneanaaaDoorRefT
import Derived.Test.YtfnlclooneanaaaDoorStill
import Derived.Deep.RegionHeld3
import Derived.ProofKit
import Derived.OpenShut
import Derived.ShutString
import Derived.ChangeOld
import Derived.Test.YtfnlclooneanaaaDoorOpen
import Derived.Test.YtfnlclooneanaaaDoorShaL
import Derived.Test.YtfnlclooneanaaaDoorTie
import Derived.Test.YtfnlclooneanaaaDoorCards
import Derived.SevenTiedAt
namespace Go.Proofs.YtfnlclooneanaaaDoor.sha2Ends
open Go.ChangeShapes Go.WideShapes Go.ChangeAt Go.RowKit
open Go.ChangeMaps (open_string shut_string)
set_option linter.unusedVariables false

theorem own : ownKnob Tryd.prog.godebug = none := by kernel_rfl
theorem laidOut : laidOutB Tryd.prog = true := by kernel_rfl

theorem rdm_blk (W : World) (g : Nat) (A : Option Addr) (n c : Nat) (l : List UInt8) (t : TypeId) (hb : Blk W g [.slice A n c] t) (h : Rd W A n l) (hc : n ≤ c) (hm : c ≤ maxLen) : RdM W (some ⟨g, 0, none⟩) 1 [l] := by
  refine ⟨rfl, fun _ => ⟨g, 0, rfl, hb.lt, fun j hj => ?_⟩⟩
  have : j = 0 := by simp at hj; omega
  subst this
  exact ⟨A, n, c, hb.cell 0, hc, hm, h⟩
theorem blk_drew (W : World) (cs : List Value) (t : TypeId) : Blk (W.alloc (.cells cs.toArray t)).drew W.heap.size cs t := Blk.new W cs.toArray t
theorem blk_alloc (W : World) (cs : List Value) (t : TypeId) : Blk (W.alloc (.cells cs.toArray t)) W.heap.size cs t := Blk.new W cs.toArray t
def filled (ch : UInt8) (m t : Nat) : List UInt8 := List.replicate t ch ++ List.replicate (m - t) 0
theorem filled_len (ch : UInt8) (m t : Nat) (h : t ≤ m) : (filled ch m t).length = m := by simp [filled]; omega
theorem filled_set (ch : UInt8) (m t : Nat) (h : t < m) : (filled ch m t).set t ch = filled ch m (t + 1) := by
  unfold filled
  rw [List.set_append_right _ _ (by simp), List.length_replicate, Nat.sub_self, show m - t = (m - (t + 1)) + 1 from by omega, List.replicate_succ, List.set_cons_zero, List.replicate_succ']
  simp

set_option maxRecDepth 100000 in
set_option maxHeartbeats 2000000 in
theorem walk_big (ch : UInt8) (nn : Nat) (w : World) (hT : Tab w) (hb : 200 < nn) (h8 : nn < 256) :
    Calls Tryd.prog 7 #[.int .u8 (ch.toNat : Int), .int .u8 (nn : Int)] w (Ret w (.bool true)) := by
  obtain ⟨x, hx⟩ : ∃ x : Int, x = (ch.toNat : Int) := ⟨_, rfl⟩
  have hmk : ∀ W, (Instr.makeSlice 22 (.int .i64 200) (.int .i64 200)).run Tryd.prog W = .ok (.slice (some ⟨W.heap.size, 0, none⟩) 200 200) (W.alloc (.cells (madeCells #[.int .u8 0] 200) 5)) := fun W => run_mk8 200 (by omega) W
  rw [← hx]
  have HX := Lib.hid hx
  have HT := Lib.hid hT
  clear hx hT
  go_enter Tryd.func7, Tryd.ntmps7
  go_wp2
  go_loopw [13] (fun i wr => ∃ t : Nat, t ≤ 200 ∧ i = .int .i64 t ∧ Own wr w.heap.size (some ⟨w.heap.size, 0, none⟩) 200 200 (filled ch 200 t) ∧ Below w.heap.size w wr) (fun i _ => 200 - (intOf i).toNat)
  case atStart =>
    refine ⟨0, Nat.zero_le _, rfl, ?_, (Below.refl _ _).alloc (Nat.le_refl _) _⟩
    have h := Own.made w 200 (by unfold maxLen; omega)
    simpa [filled] using h
  case round =>
    obtain ⟨t, ht, rfl, hown, hbel⟩ := hrel
    by_cases hlt : t < 200
    · have hc := hown.cell (k := t) (by rw [filled_len ch 200 t ht]; exact hlt)
      have hf := hown.free t
      have bt : (t : Int) < 200 := by omega
      have HO := Lib.hid hown
      clear hown
      go_wp2
      go_roundw
      case rel =>
        have h1 := HO.out.set t ch
        rw [filled_set ch 200 t hlt, ← HX.out] at h1
        exact ⟨t + 1, by omega, by go_num, h1, hbel.setCell (Nat.le_refl _) _⟩
      case measure => simp [intOf]; omega
    · have e : t = 200 := by omega
      rw [e] at hown
      have bt : ¬ (t : Int) < 200 := by omega
      obtain ⟨l, hl⟩ : ∃ l, l = filled ch 200 200 := ⟨_, rfl⟩
      rw [← hl] at hown
      have hr := hown.rd
      have hT := HT.out.all hbel
      obtain ⟨A, hA⟩ : ∃ A : Option Addr, A = some ⟨w.heap.size, 0, none⟩ := ⟨_, rfl⟩
      rw [← hA] at hr
      obtain ⟨V, hV⟩ : ∃ V, V = (sha l).map B8 := ⟨_, rfl⟩
      obtain ⟨sb, hsb⟩ : ∃ sb : ByteArray, sb = ⟨l.toArray⟩ := ⟨_, rfl⟩
      have hsz : sb.size ≤ 100000 := by rw [hsb]; show l.toArray.size ≤ 100000; rw [List.size_toArray, hr.len]; omega
      have hsd : sb.data.toList = l := by rw [hsb]
      have C1 : Hid (∀ (W : World) (g : Nat), Blk W g [.slice (some ⟨w.heap.size, 0, none⟩) 200 200] 22 → Still wr W → Calls Tryd.prog 10 #[.slice (some ⟨g, 0, none⟩) 1 1] W fun e W' => e = .returned (.agg V.toArray) ∧ Still wr W') := Lib.hid fun W g hg h => by
        rw [← hA] at hg
        have h2 := sum_calls _ (some ⟨g, 0, none⟩) 1 1 [l] (rdm_blk W g A 200 200 l _ hg (hr.below h) (Nat.le_refl _) (by unfold maxLen; omega)) (hT.all h) (by omega) (by simp; rw [hr.len]; omega)
        simp only [List.flatten_cons, List.flatten_nil, List.append_nil] at h2
        rw [hV]
        exact ret_still h2 h
      have C2 : Hid (∀ W, Still wr W → Calls Tryd.prog 11 #[.string sb] W fun e W' => e = .returned (.agg V.toArray) ∧ Still wr W') := Lib.hid fun W h => by
        have h2 := rsum_calls sb W hsz
        rw [hsd, ← hV] at h2
        exact ret_still h2 h
      have C5 : Hid (∀ W, Still wr W → Calls Tryd.prog 9 #[] W fun e W' => e = .returned (.bool true) ∧ Still wr W') := Lib.hid fun W h => ret_still (awake2_calls W (hT.all h)) h
      have K0 : Hid (∀ W, Still wr W → (convert 22 9 (.slice (some ⟨w.heap.size, 0, none⟩) 200 200)).run Tryd.prog W = .ok (.string sb) W ∧ Still wr W) := Lib.hid fun W h => ⟨by rw [hsb, ← hA]; exact conv8 W A 200 200 l (hr.below h), h⟩
      have q1 : ∀ W, (Op.equalIn 10000 25 (.agg V.toArray) (.agg V.toArray)).run Tryd.prog W = .ok true W := by intro W; rw [hV]; exact hash_self _ (sha_len _) W
      have hgd := guardH
      have z0 := (Still.refl wr).drew
      have HB := Lib.hid hbel
      clear hr hT hV hsb hsz hsd hA hl hown hbel e
      go_wp2
      go_region_held3 (fun W => (convert 22 9 (.slice (some ⟨w.heap.size, 0, none⟩) 200 200)).run Tryd.prog W = .ok (.string sb) W ∧ Still wr W)
        (first | exact K0.out _ z0 | exact K0.out _ (by first | assumption | exact And.right (by assumption)) | exact K0.out _ (Still.alloc (by first | assumption | exact And.right (by assumption)) _) | exact K0.out _ (Still.drew (Still.alloc (Still.refl wr) _)))
        (first
        | (go_at_call 10; refine (C1.out _ _ (by first | exact blk_alloc _ _ _ | exact blk_drew _ _ _) (by first | assumption | exact And.right (by assumption))).mono ?_; rintro e' w1 ⟨rfl, h1⟩)
        | (go_at_call 11; refine (C2.out _ (by first | assumption | exact And.right (by assumption))).mono ?_; rintro e' w2 ⟨rfl, h2⟩)
        | (go_at_call 9; refine (C5.out _ (by first | assumption | exact And.right (by assumption))).mono ?_; rintro e' w4 ⟨rfl, h4⟩))
      all_goals go_wp2
      all_goals go_ret
      all_goals exact ⟨rfl, Still.trans HB.out h4⟩

set_option maxRecDepth 100000 in
set_option maxHeartbeats 2000000 in
theorem walk_small (ch : UInt8) (nn : Nat) (w : World) (hT : Tab w) (hb : ¬ 200 < nn) (h8 : nn < 256) :
    Calls Tryd.prog 7 #[.int .u8 (ch.toNat : Int), .int .u8 (nn : Int)] w (Ret w (.bool true)) := by
  obtain ⟨x, hx⟩ : ∃ x : Int, x = (ch.toNat : Int) := ⟨_, rfl⟩
  have hmk : ∀ W, (Instr.makeSlice 22 (.int .i64 (nn : Int)) (.int .i64 (nn : Int))).run Tryd.prog W = .ok (.slice (some ⟨W.heap.size, 0, none⟩) nn nn) (W.alloc (.cells (madeCells #[.int .u8 0] nn) 5)) := fun W => run_mk8 nn (by omega) W
  rw [← hx]
  have HX := Lib.hid hx
  have HT := Lib.hid hT
  clear hx hT
  go_enter Tryd.func7, Tryd.ntmps7
  go_wp2
  go_loopw [13] (fun i wr => ∃ t : Nat, t ≤ nn ∧ i = .int .i64 t ∧ Own wr w.heap.size (some ⟨w.heap.size, 0, none⟩) nn nn (filled ch nn t) ∧ Below w.heap.size w wr) (fun i _ => nn - (intOf i).toNat)
  case atStart =>
    refine ⟨0, Nat.zero_le _, rfl, ?_, (Below.refl _ _).alloc (Nat.le_refl _) _⟩
    have h := Own.made w nn (by unfold maxLen; omega)
    simpa [filled] using h
  case round =>
    obtain ⟨t, ht, rfl, hown, hbel⟩ := hrel
    by_cases hlt : t < nn
    · have hc := hown.cell (k := t) (by rw [filled_len ch nn t ht]; exact hlt)
      have hf := hown.free t
      have bt : (t : Int) < (nn : Int) := by omega
      have HO := Lib.hid hown
      clear hown
      go_wp2
      go_roundw
      case rel =>
        have h1 := HO.out.set t ch
        rw [filled_set ch nn t hlt, ← HX.out] at h1
        exact ⟨t + 1, by omega, by go_num, h1, hbel.setCell (Nat.le_refl _) _⟩
      case measure => simp [intOf]; omega
    · have e : t = nn := by omega
      rw [e] at hown
      have bt : ¬ (t : Int) < (nn : Int) := by omega
      obtain ⟨l, hl⟩ : ∃ l, l = filled ch nn nn := ⟨_, rfl⟩
      rw [← hl] at hown
      have hr := hown.rd
      have hT := HT.out.all hbel
      obtain ⟨A, hA⟩ : ∃ A : Option Addr, A = some ⟨w.heap.size, 0, none⟩ := ⟨_, rfl⟩
      rw [← hA] at hr
      obtain ⟨V, hV⟩ : ∃ V, V = (sha l).map B8 := ⟨_, rfl⟩
      obtain ⟨sb, hsb⟩ : ∃ sb : ByteArray, sb = ⟨l.toArray⟩ := ⟨_, rfl⟩
      have hsz : sb.size ≤ 100000 := by rw [hsb]; show l.toArray.size ≤ 100000; rw [List.size_toArray, hr.len]; omega
      have hsd : sb.data.toList = l := by rw [hsb]
      have C1 : Hid (∀ (W : World) (g : Nat), Blk W g [.slice (some ⟨w.heap.size, 0, none⟩) nn nn] 22 → Still wr W → Calls Tryd.prog 10 #[.slice (some ⟨g, 0, none⟩) 1 1] W fun e W' => e = .returned (.agg V.toArray) ∧ Still wr W') := Lib.hid fun W g hg h => by
        rw [← hA] at hg
        have h2 := sum_calls _ (some ⟨g, 0, none⟩) 1 1 [l] (rdm_blk W g A nn nn l _ hg (hr.below h) (Nat.le_refl _) (by unfold maxLen; omega)) (hT.all h) (by omega) (by simp; rw [hr.len]; omega)
        simp only [List.flatten_cons, List.flatten_nil, List.append_nil] at h2
        rw [hV]
        exact ret_still h2 h
      have C2 : Hid (∀ W, Still wr W → Calls Tryd.prog 11 #[.string sb] W fun e W' => e = .returned (.agg V.toArray) ∧ Still wr W') := Lib.hid fun W h => by
        have h2 := rsum_calls sb W hsz
        rw [hsd, ← hV] at h2
        exact ret_still h2 h
      have C5 : Hid (∀ W, Still wr W → Calls Tryd.prog 9 #[] W fun e W' => e = .returned (.bool true) ∧ Still wr W') := Lib.hid fun W h => ret_still (awake2_calls W (hT.all h)) h
      have K0 : Hid (∀ W, Still wr W → (convert 22 9 (.slice (some ⟨w.heap.size, 0, none⟩) nn nn)).run Tryd.prog W = .ok (.string sb) W ∧ Still wr W) := Lib.hid fun W h => ⟨by rw [hsb, ← hA]; exact conv8 W A nn nn l (hr.below h), h⟩
      have q1 : ∀ W, (Op.equalIn 10000 25 (.agg V.toArray) (.agg V.toArray)).run Tryd.prog W = .ok true W := by intro W; rw [hV]; exact hash_self _ (sha_len _) W
      have hgd := guardH
      have z0 := (Still.refl wr).drew
      have HB := Lib.hid hbel
      clear hr hT hV hsb hsz hsd hA hl hown hbel e
      go_wp2
      go_region_held3 (fun W => (convert 22 9 (.slice (some ⟨w.heap.size, 0, none⟩) nn nn)).run Tryd.prog W = .ok (.string sb) W ∧ Still wr W)
        (first | exact K0.out _ z0 | exact K0.out _ (by first | assumption | exact And.right (by assumption)) | exact K0.out _ (Still.alloc (by first | assumption | exact And.right (by assumption)) _) | exact K0.out _ (Still.drew (Still.alloc (Still.refl wr) _)))
        (first
        | (go_at_call 10; refine (C1.out _ _ (by first | exact blk_alloc _ _ _ | exact blk_drew _ _ _) (by first | assumption | exact And.right (by assumption))).mono ?_; rintro e' w1 ⟨rfl, h1⟩)
        | (go_at_call 11; refine (C2.out _ (by first | assumption | exact And.right (by assumption))).mono ?_; rintro e' w2 ⟨rfl, h2⟩)
        | (go_at_call 9; refine (C5.out _ (by first | assumption | exact And.right (by assumption))).mono ?_; rintro e' w4 ⟨rfl, h4⟩))
      all_goals go_wp2
      all_goals go_ret
      all_goals exact ⟨rfl, Still.trans HB.out h4⟩

theorem walk (a0 a1 : Int) (w : World) (hT : Tab w) (w0 : (Lit.int .u8 a0).wf = true) (w1 : (Lit.int .u8 a1).wf = true) :
    Calls Tryd.prog 7 #[.int .u8 a0, .int .u8 a1] w (Ret w (.bool true)) := by
  have b0 := bounds_u8 w0
  have b1 := bounds_u8 w1
  obtain ⟨n, rfl⟩ : ∃ n : Nat, a1 = n := ⟨a1.toNat, by omega⟩
  have e0 : a0 = ((UInt8.ofNat a0.toNat).toNat : Int) := by rw [ofNat_toNat]; omega
  rw [e0]
  by_cases h : 200 < n
  · exact walk_big _ n w hT h (by omega)
  · exact walk_small _ n w hT h (by omega)

set_option maxRecDepth 100000 in
theorem lifted (os : Os) (started : os.Started) (H : Type) (enc : TypeId × Value → H) :
    ReturnsInHanded {} Tryd.checked os 7 .any (fun w args => (Rows.sha2EndsSpec.pre enc Tryd.prog Tryd.f7 [] false w args ∧ laidMetH Tryd.prog laidT w) ∧ sizedMet enc Tryd.prog Tryd.f7 (OpenSpec.ofChange Rows.sha2EndsSpec) false w args)
      (Rows.sha2EndsSpec.post enc Tryd.prog Tryd.f7 false true false false) := by
  refine returnsInHanded_of_change_and (C := Tryd.checked) (X := fun w _ => laidMetH Tryd.prog laidT w) (fun _ _ _ hh h => h.of_heap hh) own started (by kernel_rfl) Tryd.func7
    (ChangeSpec.witness_shaped (enc := enc) (C := Tryd.checked) (os := os) (X := fun w _ => laidMetH Tryd.prog laidT w) false (World.doorLaid Tryd.prog 400 os) #[.int .u8 0, .int .u8 0] 8 rfl (World.shaped_of_RefB (by kernel_rfl) (by kernel_rfl)) (by kernel_rfl) (by kernel_rfl) (by kernel_rfl) (door_met os _)) ?_
  intro W base args ds gs before hval0 hW hcnd _ hL _
  have hval : ∀ (j : Nat) t v, Tryd.f7.params[j]? = some t → args[j]? = some v → Value.okWide Tryd.prog W .any base t v := hval0
  have hW' := hW
  obtain ⟨p, q, hA0, hV, rfl, hfz, hnd⟩ := hW
  have hA : DataW.TrodAll enc Tryd.prog W 0 (fun _ => true) true Tryd.f7.params.toList args.toList ds p := hA0
  rw [Tryd.params7] at hA hval
  obtain ⟨v0, vs0, d0, ds0, p0, q0, hargs, rfl, rfl, h0, r0⟩ := trodAll_cons hA
  obtain ⟨v1, vs1, d1, ds1, p1, q1, rfl, rfl, rfl, h1, r1⟩ := trodAll_cons r0
  obtain ⟨rfl, rfl, rfl⟩ := trodAll_nil r1
  obtain rfl : args = #[v0, v1] := by cases args; simp_all
  obtain ⟨rfl, rfl⟩ := trodVars_none hV
  obtain ⟨a0, rfl, rfl, rfl, w0⟩ := open_int Tryd.underlying5 (hval 0 5 v0 rfl rfl) h0
  obtain ⟨a1, rfl, rfl, rfl, w1⟩ := open_int Tryd.underlying5 (hval 1 5 v1 rfl rfl) h1
  clear hA0 hval0
  refine (walk a0 a1 W (tab_of hL) w0 w1).mono fun e W' ⟨he, bel⟩ => ?_
  subst he
  exact ⟨_, rfl, _, _, _, [], _, [], hW', trodAll_mk1 (shut_bool Tryd.underlying4 _), (trodAll_cons_mk (shut_int Tryd.underlying5 w0) (trodAll_cons_mk (shut_int Tryd.underlying5 w1) trodAll_mk0)), rfl, bel.frame _, fun h => by cases h⟩

theorem over : Rows.sha2EndsRow.holds Tryd.pinned (OpenSpec.ofChange Rows.sha2EndsSpec) :=
  OpenClaim.holds_of_wide 7 Tryd.f7 rfl rfl rfl rfl rfl rfl rfl ⟨rfl, rfl, rfl, rfl, rfl⟩ rfl rfl rfl rfl rfl (by kernel_rfl) Tryd.func7 (by kernel_rfl)
    (of_decide_eq_true (by kernel_rfl)) (by unfold Func.isWrapper; first | (rw [if_pos (by decide +kernel)]; kernel_rfl) | (rw [if_neg (by decide +kernel)]; exact ⟨rfl, rfl⟩))
    (fun os started H enc _ => lifted os started H enc)

theorem proved : Rows.Sha2EndsCardSaid :=
  Claim7.holds_tied_plain_at .later [] [.data, .data] true Rows.sha2EndsCard.stood.harness false
    over (fun _ h => by cases h) (by kernel_rfl) (fun _ h => by cases h) sha2Ends_row_tie rfl ⟨rfl, rfl⟩ (by kernel_rfl) rfl
    (fun f fn hf hfn => by
      obtain rfl : f = 7 := Option.some.inj ((show Tryd.prog.funcNamed "masthead/mastheadlaw02.Sha2Ends" = some 7 by kernel_rfl).symm.trans hf) |>.symm
      obtain rfl : fn = Tryd.f7 := (Option.some.inj (Tryd.func7.symm.trans hfn)).symm
      exact ⟨by kernel_rfl, fun j t ht => by
        rw [Tryd.params7] at ht
        have hm : t ∈ [5, 5] := by simpa using Array.mem_of_getElem? ht
        have hall : ([5, 5].all fun u => !Tryd.prog.wantsStandIn u) = true := by kernel_rfl
        exact (show Tryd.prog.wantsStandIn t = false by simpa using List.all_eq_true.1 hall t hm)⟩)
    (by kernel_rfl)
end Go.Proofs.YtfnlclooneanaaaDoor.sha2Ends
