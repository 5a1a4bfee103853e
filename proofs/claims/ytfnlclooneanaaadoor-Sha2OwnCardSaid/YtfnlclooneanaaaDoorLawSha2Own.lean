/- Proved: the card Sha2OwnCardSaid: what is handed to Write stays as it is, and isn't kept; for byte slices longer than 150 nothing more than the document's examples is said; condition: the listed tables start as the program's text lays them. -/
import Derived.Test.YtfnlclooneanaaaDoorRows
import Derived.Test.YtfnlclooneanaaaDoorShaQ
import Derived.Test.YtfnlclooneanaaaDoorShaY
import Derived.Test.YtfnlclooneanaaaDoorRefT
import Derived.Test.YtfnlclooneanaaaDoorStill
import Derived.Deep.RegionHeld3
import Derived.ProofKit
import Derived.OpenShut
import Derived.ShutString
import Derived.ChangeOld
import Derived.Test.YtfnlclooneanaaaDoorOpen
import Derived.Test.YtfnlclooneanaaaDoorShaL
import Derived.Test.YtfnlclooneanaaaDoorTie
import Derived.Test.YtfnlclooneanaaaDoorCards
import Derived.SevenTiedAt
namespace Go.Proofs.YtfnlclooneanaaaDoor.sha2Own
open Go.ChangeShapes Go.WideShapes Go.ChangeAt Go.RowKit
open Go.ChangeMaps (open_string shut_string)
set_option linter.unusedVariables false

theorem own : ownKnob Tryd.prog.godebug = none := by kernel_rfl
theorem laidOut : laidOutB Tryd.prog = true := by kernel_rfl

theorem own_keep {w w' : World} {base n c : Nat} {A : Option Addr} {l : List UInt8} (h : Own w base A n c l) (hk : ∀ g, base ≤ g → g < w.heap.size → w'.heap[g]? = w.heap[g]?) : Own w' base A n c l := by
  obtain ⟨hl, h0, h | ⟨g, cap, cur, hv, hbg, hg, hr⟩⟩ := h
  · exact ⟨hl, h0, Or.inl h⟩
  · exact ⟨hl, h0, Or.inr ⟨g, cap, cur, hv, hbg, (hk g hbg (Array.getElem?_eq_some_iff.1 hg).1).trans hg, hr⟩⟩
theorem hs_other {w : World} {b : Nat} {l : List UInt8} (h : Hs w b l) (a : Addr) (v : Value) (hne : b ≠ a.block) : Hs (w.setCell a v) b l := by
  obtain ⟨B, h1, h2, h3⟩ := h
  exact ⟨B, h1, h2, h3.set_other a v hne⟩
theorem inc8 (x : UInt8) : ∃ y : UInt8, IntKind.u8.wrap ((x.toNat : Int) + 1) = (y.toNat : Int) := by
  refine ⟨UInt8.ofNat (x.toNat + 1), ?_⟩
  rw [ofNat_toNat, IntKind.wrap_u8]
  omega
theorem hs_lt {w : World} {b : Nat} {l : List UInt8} (h : Hs w b l) : b < w.heap.size := by
  obtain ⟨B, _, _, h3⟩ := h
  exact h3.lt

set_option maxRecDepth 100000 in
set_option maxHeartbeats 4000000 in
theorem walk (A : Option Addr) (n c : Nat) (l : List UInt8) (w : World) (hT : Tab w) (hw : Rd w A n l ∧ n ≤ c ∧ c ≤ maxLen) :
    Calls Tryd.prog 8 #[.slice A n c] w (Ret w (.bool true)) := by
  obtain ⟨hr, hnc, hcm⟩ := hw
  have CN := Lib.hid (new_calls w hT)
  have HT := Lib.hid hT
  have HR := Lib.hid hr
  have HL := Lib.hid hr.len
  by_cases h150 : 150 < n
  · have hd : (150 : Int) < (n : Int) := by omega
    clear hr hnc hcm hT
    go_enter Tryd.func8, Tryd.ntmps8
    go_wp2_with (first
      | (go_at_call 16; refine CN.out.mono ?_; rintro e' w1 ⟨b, rfl, hbge, hH, hbel1⟩)
      | (go_at_call 9; refine (awake2_calls _ (HT.out.all hbel1)).mono ?_; rintro e' w4 ⟨rfl, hb4⟩))
    go_ret
    exact ⟨rfl, hbel1.trans (hb4.mono hbel1.size)⟩
  · have hd : ¬ (150 : Int) < (n : Int) := by omega
    have hn : n ≤ 150 := by omega
    clear hr hcm hT
    go_enter Tryd.func8, Tryd.ntmps8
    go_wp2_with (first
      | (go_at_call 16; refine CN.out.mono ?_; rintro e' w1 ⟨b, rfl, hbge, hH, hbel1⟩
         have hE : Own (w1.alloc (.cells #[] 5)) w1.heap.size (some ⟨w1.heap.size, 0, none⟩) 0 0 [] := by
           have h := Own.room w1 0 (by unfold maxLen; omega)
           rw [show madeCells #[Value.int .u8 0] 0 = #[] from Array.eq_empty_of_size_eq_zero (by rw [size_madeCells])] at h
           exact h
         have HE := Lib.hid hE
         have HH := Lib.hid hH
         have HB1 := Lib.hid hbel1
         have hbl := hs_lt hH
         clear hH hE hbel1)
      | (at_builtin; refine app8_all _ rfl _ _ rfl w1.heap.size (some ⟨w1.heap.size, 0, none⟩) 0 0 [] A n c l rfl rfl HE.out ((HR.out.below HB1.out).below ((Below.refl _ w1).alloc (Nat.le_refl _) _)) (by omega) (by simp) ?_; intro C cc w3 hown3 hbel3
         simp only [List.nil_append, Nat.zero_add] at hown3
         have hB13 : Below w1.heap.size w1 w3 := ((Below.refl _ w1).alloc (Nat.le_refl _) _).trans hbel3
         have hB3 : Below w.heap.size w w3 := HB1.out.trans (hB13.mono HB1.out.size)
         have hH3 : Hs w3 b [] := HH.out.below hB13 hbl
         have hcap := own_cap hown3
         have htl := HT.out.lt
         have CW := Lib.hid (write_calls block_calls w3 b [] l C n cc hH3 (RdX.of hown3.rd (fun g off e h0 => by have := (own_ge hown3 e h0).1; omega)) (HT.out.all hB3) (by omega) (by omega) (by simp; omega) hcap.1)
         have HO3 := Lib.hid hown3
         have HB3 := Lib.hid hB3
         have HS3 := Lib.hid hB13.size
         clear hown3 hbel3 hB13 hB3 hH3 htl)
      | (go_at_call 17; refine CW.out.mono ?_; rintro e' w4 ⟨rfl, hH4, hbes⟩
         have hs13 := HS3.out
         have hown4 : Own w4 w1.heap.size C n cc l := own_keep HO3.out (fun g h1 h2 => hbes.block g h2 (by omega))
         have hB4 : Below w.heap.size w w4 := HB3.out.trans (hbes.below (by omega) (by have := HB3.out.size; omega))
         have cv1 := conv8 w4 C n cc l hown4.rd
         have cv2 := conv8 w4 A n c l (HR.out.below hB4)
         rw [List.nil_append] at hH4
         have HO4 := Lib.hid hown4
         have HB4 := Lib.hid hB4
         have HH4 := Lib.hid hH4
         clear hown4 hB4 hH4 hbes hs13))
    go_loopw [26] (fun i wr => ∃ (t : Nat) (m : List UInt8), t ≤ n ∧ i = .int .i64 t ∧ Own wr w1.heap.size C n cc m ∧ Hs wr b l ∧ Below w.heap.size w wr) (fun i _ => n - (intOf i).toNat)
    case atStart => exact ⟨0, l, Nat.zero_le _, rfl, HO4.out, HH4.out, HB4.out⟩
    case round =>
      clear cv1 cv2
      obtain ⟨t, m, ht, rfl, hown, hH, hbel⟩ := hrel
      by_cases hlt : t < n
      · have hml := hown.len
        obtain ⟨gc, off, e, _, _⟩ := hown.rd.2 (by omega)
        obtain ⟨hgc, rfl, _⟩ := own_ge hown e (by omega)
        subst e
        have hc := hown.cell (k := t) (by omega)
        have hf := hown.free t
        obtain ⟨y, hy⟩ := inc8 (m[t]'(by omega))
        obtain ⟨x, hx⟩ : ∃ x : Int, x = ((m[t]'(by omega)).toNat : Int) := ⟨_, rfl⟩
        rw [← hx] at hc hy
        have hy2 : (x + 1) % 256 = (y.toNat : Int) := by rw [IntKind.wrap_u8] at hy; exact hy
        have bt : (t : Int) < (n : Int) := by omega
        have K1 := Lib.hid (hown.set t y)
        have K2 := Lib.hid (hs_other hH ⟨gc, t, none⟩ (.int .u8 (y.toNat : Int)) (by show b ≠ gc; omega))
        have K3 := Lib.hid (hbel.setCell (p := ⟨gc, t, none⟩) (by show w.heap.size ≤ gc; have := HB1.out.size; omega) (.int .u8 (y.toNat : Int)))
        clear hown hH hbel hx hml
        go_wp2
        go_roundw
        case rel => exact ⟨t + 1, m.set t y, by omega, by go_num, K1.out, K2.out, K3.out⟩
        case measure => simp [intOf]; omega
      · have bt : ¬ (t : Int) < (n : Int) := by omega
        have hr := HR.out.below hbel
        have hT := HT.out.all hbel
        obtain ⟨V, hV⟩ : ∃ V, V = (sha l).map B8 := ⟨_, rfl⟩
        obtain ⟨sb, hsb⟩ : ∃ sb : ByteArray, sb = ⟨l.toArray⟩ := ⟨_, rfl⟩
        have hsz : sb.size ≤ 100000 := by rw [hsb]; show l.toArray.size ≤ 100000; rw [List.size_toArray, HL.out]; omega
        have hsd : sb.data.toList = l := by rw [hsb]
        have C1 : Hid (∀ W, Still wr W → Calls Tryd.prog 19 #[.pointer (some ⟨b, 0, none⟩)] W fun e W' => e = .returned (.agg V.toArray) ∧ Still wr W') := Lib.hid fun W h => by
          rw [hV]; exact ret_still (hsum_calls W b l (hH.below h (hs_lt hH)) (hT.all h) (by rw [HL.out]; omega)) h
        have C2 : Hid (∀ W, Still wr W → Calls Tryd.prog 11 #[.string sb] W fun e W' => e = .returned (.agg V.toArray) ∧ Still wr W') := Lib.hid fun W h => by
          have h2 := rsum_calls sb W hsz
          rw [hsd, ← hV] at h2
          exact ret_still h2 h
        have C5 : Hid (∀ W, Still wr W → Calls Tryd.prog 9 #[] W fun e W' => e = .returned (.bool true) ∧ Still wr W') := Lib.hid fun W h => ret_still (awake2_calls W (hT.all h)) h
        have K0 : Hid (∀ W, Still wr W → (convert 22 9 (.slice A n c)).run Tryd.prog W = .ok (.string sb) W ∧ Still wr W) := Lib.hid fun W h => ⟨by rw [hsb]; exact conv8 W A n c l (hr.below h), h⟩
        have q1 : ∀ W, (Op.equalIn 10000 25 (.agg V.toArray) (.agg V.toArray)).run Tryd.prog W = .ok true W := by intro W; rw [hV]; exact hash_self _ (sha_len _) W
        have hgd := guardH
        have z0 := (Still.refl wr).drew
        have HB := Lib.hid hbel
        clear hr hT hV hsb hsz hsd hown hH hbel
        go_wp2
        go_region_held3 (fun W => (convert 22 9 (.slice A n c)).run Tryd.prog W = .ok (.string sb) W ∧ Still wr W)
          (first | exact K0.out _ z0 | exact K0.out _ (by first | assumption | exact And.right (by assumption)))
          (first
          | (go_at_call 19; refine (C1.out _ (by first | assumption | exact And.right (by assumption))).mono ?_; rintro e' w1 ⟨rfl, h1⟩)
          | (go_at_call 11; refine (C2.out _ (by first | assumption | exact And.right (by assumption))).mono ?_; rintro e' w2 ⟨rfl, h2⟩)
          | (go_at_call 9; refine (C5.out _ (by first | assumption | exact And.right (by assumption))).mono ?_; rintro e' w4 ⟨rfl, h4⟩))
        all_goals go_wp2
        all_goals go_ret
        all_goals exact ⟨rfl, Still.trans HB.out h4⟩

set_option maxRecDepth 100000 in
theorem lifted (os : Os) (started : os.Started) (H : Type) (enc : TypeId × Value → H) :
    ReturnsInHanded {} Tryd.checked os 8 .any (fun w args => (Rows.sha2OwnSpec.pre enc Tryd.prog Tryd.f8 [] false w args ∧ laidMetH Tryd.prog laidT w) ∧ sizedMet enc Tryd.prog Tryd.f8 (OpenSpec.ofChange Rows.sha2OwnSpec) false w args)
      (Rows.sha2OwnSpec.post enc Tryd.prog Tryd.f8 false true false false) := by
  refine returnsInHanded_of_change_and (C := Tryd.checked) (X := fun w _ => laidMetH Tryd.prog laidT w) (fun _ _ _ hh h => h.of_heap hh) own started (by kernel_rfl) Tryd.func8
    (ChangeSpec.witness_shaped (enc := enc) (C := Tryd.checked) (os := os) (X := fun w _ => laidMetH Tryd.prog laidT w) false (World.doorLaid Tryd.prog 400 os) #[.slice none 0 0] 8 rfl (World.shaped_of_RefB (by kernel_rfl) (by kernel_rfl)) (by kernel_rfl) (by kernel_rfl) (by kernel_rfl) (door_met os _)) ?_
  intro W base args ds gs before hval0 hW hcnd _ hL _
  have hval : ∀ (j : Nat) t v, Tryd.f8.params[j]? = some t → args[j]? = some v → Value.okWide Tryd.prog W .any base t v := hval0
  have hW' := hW
  obtain ⟨p, q, hA0, hV, rfl, hfz, hnd⟩ := hW
  have hA : DataW.TrodAll enc Tryd.prog W 0 (fun _ => true) true Tryd.f8.params.toList args.toList ds p := hA0
  rw [Tryd.params8] at hA hval
  obtain ⟨v0, vs0, d0, ds0, p0, q0, hargs, rfl, rfl, h0, r0⟩ := trodAll_cons hA
  obtain ⟨rfl, rfl, rfl⟩ := trodAll_nil r0
  obtain rfl : args = #[v0] := by cases args; simp_all
  obtain ⟨rfl, rfl⟩ := trodVars_none hV
  obtain ⟨a0, len0, cap0, rfl⟩ := okWide_slice Tryd.underlying22 (hval 0 22 v0 rfl rfl)
  have k0 := h0
  have lt0 : ∀ x ∈ p0, x.block < W.heap.size := by obtain ⟨m, hm⟩ := k0; exact DataW.trod_lt m _ _ _ hm
  obtain ⟨l0, w0⟩ : ∃ l, Rd W a0 len0 l ∧ len0 ≤ cap0 ∧ cap0 ≤ maxLen := by
    obtain ⟨fuel, hf⟩ := h0
    rcases open_ints Tryd.underlying22 Tryd.underlying5 (by kernel_rfl) hf with ⟨hcs, _⟩ | ⟨x, l, c, zs, hcs, _, hl, hm, hz, _, hcell, hwz⟩
    · simp [Value.cells] at hcs
      obtain ⟨rfl, rfl, rfl⟩ := hcs
      exact ⟨[], Rd.nil _ _, by omega, by unfold maxLen; omega⟩
    · simp [Value.cells] at hcs
      obtain ⟨rfl, rfl, rfl⟩ := hcs
      obtain ⟨l, hr⟩ := rd_ints hcell hl (by simpa using hz) hwz
      exact ⟨l, hr, hl, hm⟩
  clear hA0 hval0
  refine (walk a0 len0 cap0 l0 W (tab_of hL) w0).mono fun e W' ⟨he, bel⟩ => ?_
  subst he
  exact ⟨_, rfl, _, _, _, [], _, [], hW', trodAll_mk1 (shut_bool Tryd.underlying4 _), (trodAll_cons_mk (Below.trod laidOut (by kernel_rfl) (of_decide_eq_true (by kernel_rfl)) k0 bel lt0) trodAll_mk0), rfl, bel.frame _, fun h => by cases h⟩

theorem over : Rows.sha2OwnRow.holds Tryd.pinned (OpenSpec.ofChange Rows.sha2OwnSpec) :=
  OpenClaim.holds_of_wide 8 Tryd.f8 rfl rfl rfl rfl rfl rfl rfl ⟨rfl, rfl, rfl, rfl, rfl⟩ rfl rfl rfl rfl rfl (by kernel_rfl) Tryd.func8 (by kernel_rfl)
    (of_decide_eq_true (by kernel_rfl)) (by unfold Func.isWrapper; first | (rw [if_pos (by decide +kernel)]; kernel_rfl) | (rw [if_neg (by decide +kernel)]; exact ⟨rfl, rfl⟩))
    (fun os started H enc _ => lifted os started H enc)

theorem proved : Rows.Sha2OwnCardSaid :=
  Claim7.holds_tied_plain_at .later [] [.data, .data] true Rows.sha2OwnCard.stood.harness false
    over (fun _ h => by cases h) (by kernel_rfl) (fun _ h => by cases h) sha2Own_row_tie rfl ⟨rfl, rfl⟩ (by kernel_rfl) rfl
    (fun f fn hf hfn => by
      obtain rfl : f = 8 := Option.some.inj ((show Tryd.prog.funcNamed "masthead/mastheadlaw02.Sha2Own" = some 8 by kernel_rfl).symm.trans hf) |>.symm
      obtain rfl : fn = Tryd.f8 := (Option.some.inj (Tryd.func8.symm.trans hfn)).symm
      exact ⟨by kernel_rfl, fun j t ht => by
        rw [Tryd.params8] at ht
        have hm : t ∈ [22] := by simpa using Array.mem_of_getElem? ht
        have hall : ([22].all fun u => !Tryd.prog.wantsStandIn u) = true := by kernel_rfl
        exact (show Tryd.prog.wantsStandIn t = false by simpa using List.all_eq_true.1 hall t hm)⟩)
    (by kernel_rfl)
end Go.Proofs.YtfnlclooneanaaaDoor.sha2Own
