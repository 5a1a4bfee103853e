/- Proved: the card Sha2GoesCardSaid: a Hasher that is given a text part by part tells, behind each part, the sum and the length of what it was given; for more than 12 parts, or parts longer than 90 bytes, nothing more than the document's examples is said; condition: the listed tables start as the program's text lays them. -/
import Derived.Test.YtfnlclooneanaaaDoorRows
import Derived.Test.YtfnlclooneanaaaDoorShaQ
import Derived.Test.YtfnlclooneanaaaDoorShaY
import Derived.Test.YtfnlclooneanaaaDoorRefT
import Derived.Test.YtfnlclooneanaaaDoorStill
import Derived.Deep.RegionHeld3
import Derived.Deep.Matrix
import Derived.ProofKit
import Derived.OpenShut
import Derived.ShutString
import Derived.ChangeOld
import Derived.Test.YtfnlclooneanaaaDoorOpen
import Derived.Test.YtfnlclooneanaaaDoorShaL
import Derived.Test.YtfnlclooneanaaaDoorTie
import Derived.Test.YtfnlclooneanaaaDoorCards
import Derived.SevenTiedAt
namespace Go.Proofs.YtfnlclooneanaaaDoor.sha2Goes
open Go.ChangeShapes Go.WideShapes Go.ChangeAt Go.RowKit
open Go.ChangeMaps (open_string shut_string)
set_option linter.unusedVariables false

theorem own : ownKnob Tryd.prog.godebug = none := by kernel_rfl
theorem laidOut : laidOutB Tryd.prog = true := by kernel_rfl

theorem rdm_blk (W : World) (g : Nat) (A : Option Addr) (n c : Nat) (l : List UInt8) (t : TypeId) (hb : Blk W g [.slice A n c] t) (h : Rd W A n l) (hc : n ≤ c) (hm : c ≤ maxLen) : RdM W (some ⟨g, 0, none⟩) 1 [l] := by
  refine ⟨rfl, fun _ => ⟨g, 0, rfl, hb.lt, fun j hj => ?_⟩⟩
  have : j = 0 := by simp at hj; omega
  subst this
  exact ⟨A, n, c, hb.cell 0, hc, hm, h⟩
theorem blk_drew (W : World) (cs : List Value) (t : TypeId) : Blk (W.alloc (.cells cs.toArray t)).drew W.heap.size cs t := Blk.new W cs.toArray t
theorem blk_alloc (W : World) (cs : List Value) (t : TypeId) : Blk (W.alloc (.cells cs.toArray t)) W.heap.size cs t := Blk.new W cs.toArray t
theorem flat_bound (L : List (List UInt8)) (h : ∀ x ∈ L, x.length ≤ 90) : L.flatten.length ≤ 90 * L.length := by
  induction L with
  | nil => simp
  | cons x L ih =>
    have h1 := h x (by simp)
    have h2 := ih (fun y hy => h y (by simp [hy]))
    simp only [List.flatten_cons, List.length_append, List.length_cons]
    omega
theorem hs_lt {w : World} {b : Nat} {l : List UInt8} (h : Hs w b l) : b < w.heap.size := by
  obtain ⟨B, _, _, h3⟩ := h
  exact h3.lt
/-- Bytes as a string holds them. -/
def str (l : List UInt8) : ByteArray := ⟨l.toArray⟩
theorem str_size (l : List UInt8) : (str l).size = l.length := by show l.toArray.size = _; simp
theorem str_cat (l r : List UInt8) : str l ++ str r = str (l ++ r) := by
  apply ByteArray.ext
  simp [str, ByteArray.data_append]

set_option maxRecDepth 100000 in
set_option maxHeartbeats 4000000 in
theorem walk (A : Option Addr) (n c : Nat) (L : List (List UInt8)) (w : World) (hT : Tab w) (hw : RdM w A n L ∧ n ≤ c ∧ c ≤ maxLen) :
    Calls Tryd.prog 6 #[.slice A n c] w (Ret w (.bool true)) := by
  obtain ⟨hR, hnc, hcm⟩ := hw
  have CN := Lib.hid (new_calls w hT)
  have HT := Lib.hid hT
  have HR := Lib.hid hR
  have HL := Lib.hid hR.len
  have hnm : (n : Int) ≤ 9223372036854775807 := by unfold maxLen at hcm; omega
  clear hT hR hcm hnc
  go_enter Tryd.func6, Tryd.ntmps6
  go_wp2_with (go_at_call 16; refine CN.out.mono ?_; rintro e' w1 ⟨b, rfl, hbge, hH, hbel1⟩)
  have HH := Lib.hid hH
  have HB1 := Lib.hid hbel1
  clear hH hbel1
  go_loopw [4, 12] (fun s i wr => ∃ t : Nat, t ≤ n ∧ t ≤ 12 ∧ i = .int .i64 t ∧ s = .string (str (L.take t).flatten) ∧ Hs wr b (L.take t).flatten ∧ (∀ x ∈ L.take t, x.length ≤ 90) ∧ Below w.heap.size w wr) (fun _ i _ => n - (intOf i).toNat)
  case atStart => exact ⟨0, Nat.zero_le _, by omega, rfl, rfl, HH.out, fun x hx => by simp at hx, HB1.out⟩
  case round =>
    obtain ⟨t, ht, ht12, rfl, rfl, hH, h90, hbel⟩ := hrel
    have hfb := flat_bound _ h90
    rw [List.length_take] at hfb
    obtain ⟨F, hF⟩ : ∃ F, F = (L.take t).flatten := ⟨_, rfl⟩
    rw [← hF] at hH hfb ⊢
    by_cases hlt : t < n
    · obtain ⟨bb, off, A', m, c', hl, rfl, hcell0, hmc, hcm', hrd⟩ := HR.out.at_ (k := t) hlt
      have hcell : wr.cell? ⟨bb, off + t, none⟩ = some (.slice A' m c') := by
        obtain ⟨b3, o3, e3, hb3, _⟩ := HR.out.2 (by omega)
        cases e3
        exact (hbel.cell (p := ⟨bb, off + t, none⟩) hb3).trans hcell0
      have AW := Lib.hid (awake2_calls wr (HT.out.all hbel))
      have hbt : (t : Int) < (n : Int) := by omega
      by_cases h11 : 11 < t
      · have HO := Lib.hid hbel
        clear hH hrd hbel hF hcell0
        go_wp2_with (go_at_call 9; refine AW.out.mono ?_; rintro e' w' ⟨rfl, hb'⟩)
        go_ret
        exact ⟨rfl, HO.out.trans (hb'.mono HO.out.size)⟩
      · by_cases hm90 : 90 < m
        · have HO := Lib.hid hbel
          clear hH hrd hbel hF hcell0
          go_wp2_with (go_at_call 9; refine AW.out.mono ?_; rintro e' w' ⟨rfl, hb'⟩)
          go_ret
          exact ⟨rfl, HO.out.trans (hb'.mono HO.out.size)⟩
        · have htl := HT.out.lt
          have CW := Lib.hid (write_calls block_calls wr b F L[t] A' m c' hH (RdX.of (hrd.below hbel) (fun g off' e h0 => by
            obtain ⟨b4, o4, e4, hb4, _⟩ := hrd.2 h0
            rw [e] at e4
            cases e4
            omega)) (HT.out.all hbel) (by omega) (by omega) (by omega) hmc)
          obtain ⟨F2, hF2⟩ : ∃ F2, F2 = F ++ L[t] := ⟨_, rfl⟩
          rw [← hF2] at CW
          have hcat : str F ++ str L[t] = str F2 := by rw [hF2]; exact str_cat _ _
          have hlen2 : F2.length ≤ 2000 := by rw [hF2, List.length_append, hrd.len]; omega
          have hsz2 : (str F2).size = F2.length := str_size F2
          obtain ⟨N2, hN2⟩ : ∃ N2, N2 = F2.length := ⟨_, rfl⟩
          rw [← hN2] at hsz2
          obtain ⟨V, hV⟩ : ∃ V, V = (sha F2).map B8 := ⟨_, rfl⟩
          have q1 : ∀ W, (Op.equalIn 10000 25 (.agg V.toArray) (.agg V.toArray)).run Tryd.prog W = .ok true W := by intro W; rw [hV]; exact hash_self _ (sha_len _) W
          have hgd := guardH
          have HV := Lib.hid (And.intro hV (And.intro hN2 hlen2))
          obtain ⟨T2, hT2⟩ : ∃ T2, T2 = str F2 := ⟨_, rfl⟩
          have C2 : Hid (∀ W, Calls Tryd.prog 11 #[.string T2] W (Ret W (.agg V.toArray))) := Lib.hid fun W => by
            have h2 := rsum_calls (str F2) W (by rw [str_size]; omega)
            rw [hV, hT2]
            exact h2
          rw [← hT2] at hcat hsz2
          obtain ⟨T1, hT1⟩ : ∃ T1, T1 = str F := ⟨_, rfl⟩
          obtain ⟨T0, hT0⟩ : ∃ T0, T0 = str L[t] := ⟨_, rfl⟩
          rw [← hT1, ← hT0] at hcat
          have hs01 : T1.size + T0.size ≤ 2000 := by rw [hT1, hT0, str_size, str_size, hrd.len]; omega
          rw [← hT1]
          have HCV : Hid (∀ W, Below w.heap.size w W → (convert 22 9 (.slice A' m c')).run Tryd.prog W = .ok (.string T0) W) := Lib.hid fun W h => by rw [hT0]; exact conv8 W A' m c' L[t] (hrd.below h)
          have HF2 : Hid (F2 = (L.take (t + 1)).flatten ∧ T2 = str F2 ∧ ∀ x ∈ L.take (t + 1), x.length ≤ 90) := Lib.hid ⟨by rw [hF2, hF, flat_take L t hl], hT2, fun x hx => by
            rw [List.take_succ_eq_append_getElem hl, List.mem_append] at hx
            rcases hx with hx | hx
            · exact h90 x hx
            · simp only [List.mem_singleton] at hx
              rw [hx, hrd.len]
              omega⟩
          have HBL := Lib.hid hbel
          have h11' : (t : Int) ≤ 11 := by omega
          have hm90' : (m : Int) ≤ 90 := by omega
          have hN2b : N2 ≤ 2000 := by omega
          clear hH hrd hbel hF hcell0 hfb h90 hV hF2 hT2 hT1 hT0 hlen2 hN2 htl
          go_wp2_with (first
            | (go_at_call 17; refine CW.out.mono ?_; rintro e' w3 ⟨rfl, hH3, hbes⟩
               have hB3 : Below w.heap.size w w3 := HBL.out.trans (hbes.below hbge HBL.out.size)
               have hcv := HCV.out w3 hB3
               have HH3 := Lib.hid hH3
               have HB3 := Lib.hid hB3
               clear hH3 hbes hB3)
            | (go_at_call 18; refine (len_calls _ b F2 HH3.out).mono ?_; rintro e' w4 ⟨rfl, rfl⟩; rw [← HV.out.2.1])
            | (go_at_call 19; refine (hsum_calls _ b F2 HH3.out (HT.out.all HB3.out) (by have := HV.out.2.2; omega)).mono ?_; rintro e' w5 ⟨rfl, hb5⟩; rw [← HV.out.1]
               have HH5 := Lib.hid (HH3.out.below hb5 (hs_lt HH3.out))
               have HB5 := Lib.hid (HB3.out.trans (hb5.mono HB3.out.size))
               clear hb5)
            | (go_at_call 11; refine (C2.out _).mono ?_; rintro e' w6 ⟨rfl, hb6⟩
               have HH6 := Lib.hid (HH5.out.below hb6 (hs_lt HH5.out))
               have HB6 := Lib.hid (HB5.out.trans (hb6.mono HB5.out.size))
               clear hb6))
          refine ⟨⟨t + 1, by omega, by omega, by go_num, by rw [← HF2.out.1, ← HF2.out.2.1], by rw [← HF2.out.1]; exact HH6.out, HF2.out.2.2, HB6.out⟩, by simp [intOf]; omega⟩
    · have e : t = n := by omega
      have hbt : ¬ (t : Int) < (n : Int) := by omega
      have hlF : F.length ≤ 2000 := by omega
      obtain ⟨V, hV⟩ : ∃ V, V = (sha F).map B8 := ⟨_, rfl⟩
      have q1 : ∀ W, (Op.equalIn 10000 25 (.agg V.toArray) (.agg V.toArray)).run Tryd.prog W = .ok true W := by intro W; rw [hV]; exact hash_self _ (sha_len _) W
      have hgd := guardH
      have hT := HT.out.all hbel
      obtain ⟨T1, hT1⟩ : ∃ T1, T1 = str F := ⟨_, rfl⟩
      obtain ⟨N, hN⟩ : ∃ N, N = T1.size := ⟨_, rfl⟩
      have hNF : N = F.length := by rw [hN, hT1, str_size]
      have hTd : T1.data.toList = F := by rw [hT1]; rfl
      rw [← hT1]
      have C1 : Hid (Calls Tryd.prog 19 #[.pointer (some ⟨b, 0, none⟩)] wr (Ret wr (.agg V.toArray))) := Lib.hid (by
        rw [hV]; exact hsum_calls wr b F hH hT (by omega))
      have HCS : Hid (∀ W, Still wr W → ∃ c0 row, (convert 9 22 (.string T1)).run Tryd.prog W = .ok (.slice (some ⟨W.heap.size, 0, none⟩) N c0) (W.drew.alloc (.cells row 5 (row.size, row.size + 1))) ∧ N ≤ c0 ∧ c0 ≤ maxLen ∧ Rd (W.drew.alloc (.cells row 5 (row.size, row.size + 1))) (some ⟨W.heap.size, 0, none⟩) N F) := Lib.hid fun W h => by
        obtain ⟨c0, row, h1, h2⟩ := conv_str W T1 (by rw [← hN]; unfold maxLen; omega)
        rw [← hN] at h1 h2
        rw [hTd] at h2
        exact ⟨c0, row, h1, h2.cap.1, h2.cap.2, h2.rd⟩
      have C2 : Hid (∀ (W : World) (g : Nat) (A : Option Addr) (c0 : Nat), Blk W g [.slice A N c0] 22 → Rd W A N F → N ≤ c0 → c0 ≤ maxLen → Still wr W → Calls Tryd.prog 10 #[.slice (some ⟨g, 0, none⟩) 1 1] W fun e W' => e = .returned (.agg V.toArray) ∧ Still wr W') := Lib.hid fun W g A c0 hg h1 h2 h3 h => by
        have h4 := sum_calls _ (some ⟨g, 0, none⟩) 1 1 [F] (rdm_blk W g A N c0 F _ hg h1 h2 h3) (hT.all h) (by omega) (by simp; omega)
        simp only [List.flatten_cons, List.flatten_nil, List.append_nil] at h4
        rw [hV]
        exact ret_still h4 h
      have C5 : Hid (∀ W, Still wr W → Calls Tryd.prog 9 #[] W fun e W' => e = .returned (.bool true) ∧ Still wr W') := Lib.hid fun W h => ret_still (awake2_calls W (hT.all h)) h
      have HB := Lib.hid hbel
      clear hH hbel hT hV hT1 hF hTd hfb hN hNF h90
      go_wp2_with (first
        | (go_at_call 19; refine C1.out.mono ?_; rintro e' w5 ⟨rfl, hb5⟩
           have S5 : Still wr w5 := hb5
           obtain ⟨c0, row, hcv, hc1, hc2, hrd⟩ := HCS.out w5 S5
           have CC : Hid (Calls Tryd.prog 10 #[.slice (some ⟨w5.heap.size + 1, 0, none⟩) 1 1] ((w5.alloc (.cells row 5 (row.size, row.size + 1))).alloc (.cells #[.slice (some ⟨w5.heap.size, 0, none⟩) N c0] 22)).drew fun e W' => e = .returned (.agg V.toArray) ∧ Still wr W') := Lib.hid (by
             have ew : ((w5.alloc (.cells row 5 (row.size, row.size + 1))).alloc (.cells #[.slice (some ⟨w5.heap.size, 0, none⟩) N c0] 22)).drew = (w5.drew.alloc (.cells row 5 (row.size, row.size + 1))).alloc (.cells #[.slice (some ⟨w5.heap.size, 0, none⟩) N c0] 22) := rfl
             rw [ew]
             exact C2.out _ _ _ c0 (Blk.new' (w5.drew.alloc _) _ _ _ (by simp)) (hrd.below ((Below.refl _ _).alloc (Nat.le_refl _) _)) hc1 hc2 ((S5.drew.alloc _).alloc _))
           clear hrd)
        | (go_at_call 10; refine CC.out.mono ?_; rintro e' w6 ⟨rfl, h6⟩)
        | (go_at_call 9; refine (C5.out _ h6).mono ?_; rintro e' w4 ⟨rfl, h4⟩))
      go_ret
      exact ⟨rfl, Still.trans HB.out h4⟩

set_option maxRecDepth 100000 in
theorem lifted (os : Os) (started : os.Started) (H : Type) (enc : TypeId × Value → H) :
    ReturnsInHanded {} Tryd.checked os 6 .any (fun w args => (Rows.sha2GoesSpec.pre enc Tryd.prog Tryd.f6 [] false w args ∧ laidMetH Tryd.prog laidT w) ∧ sizedMet enc Tryd.prog Tryd.f6 (OpenSpec.ofChange Rows.sha2GoesSpec) false w args)
      (Rows.sha2GoesSpec.post enc Tryd.prog Tryd.f6 false true false false) := by
  refine returnsInHanded_of_change_and (C := Tryd.checked) (X := fun w _ => laidMetH Tryd.prog laidT w) (fun _ _ _ hh h => h.of_heap hh) own started (by kernel_rfl) Tryd.func6
    (ChangeSpec.witness_shaped (enc := enc) (C := Tryd.checked) (os := os) (X := fun w _ => laidMetH Tryd.prog laidT w) false (World.doorLaid Tryd.prog 400 os) #[.slice none 0 0] 8 rfl (World.shaped_of_RefB (by kernel_rfl) (by kernel_rfl)) (by kernel_rfl) (by kernel_rfl) (by kernel_rfl) (door_met os _)) ?_
  intro W base args ds gs before hval0 hW hcnd _ hL _
  have hval : ∀ (j : Nat) t v, Tryd.f6.params[j]? = some t → args[j]? = some v → Value.okWide Tryd.prog W .any base t v := hval0
  have hW' := hW
  obtain ⟨p, q, hA0, hV, rfl, hfz, hnd⟩ := hW
  have hA : DataW.TrodAll enc Tryd.prog W 0 (fun _ => true) true Tryd.f6.params.toList args.toList ds p := hA0
  rw [Tryd.params6] at hA hval
  obtain ⟨v0, vs0, d0, ds0, p0, q0, hargs, rfl, rfl, h0, r0⟩ := trodAll_cons hA
  obtain ⟨rfl, rfl, rfl⟩ := trodAll_nil r0
  obtain rfl : args = #[v0] := by cases args; simp_all
  obtain ⟨rfl, rfl⟩ := trodVars_none hV
  obtain ⟨a0, len0, cap0, rfl⟩ := okWide_slice Tryd.underlying35 (hval 0 35 v0 rfl rfl)
  have k0 := h0
  have lt0 : ∀ x ∈ p0, x.block < W.heap.size := by obtain ⟨m, hm⟩ := k0; exact DataW.trod_lt m _ _ _ hm
  obtain ⟨l0, w0⟩ : ∃ l, RdM W a0 len0 l ∧ len0 ≤ cap0 ∧ cap0 ≤ maxLen := by
    obtain ⟨fuel, hf⟩ := h0
    rcases Go.Deep.open_int_rows Tryd.underlying35 Tryd.underlying22 Tryd.underlying5 (by kernel_rfl) (by kernel_rfl) hf with ⟨hcs, _⟩ | ⟨x, l, c, AA, LL, CC, ZZ, hcs, _, hl, hm, _, hrow⟩
    · simp [Value.cells] at hcs
      obtain ⟨rfl, rfl, rfl⟩ := hcs
      exact ⟨[], ⟨rfl, fun h => absurd h (by omega)⟩, by omega, by unfold maxLen; omega⟩
    · simp [Value.cells] at hcs
      obtain ⟨rfl, rfl, rfl⟩ := hcs
      obtain ⟨l, hr⟩ := rdm_rows hl hrow
      exact ⟨l, hr, hl, hm⟩
  clear hA0 hval0
  refine (walk a0 len0 cap0 l0 W (tab_of hL) w0).mono fun e W' ⟨he, bel⟩ => ?_
  subst he
  exact ⟨_, rfl, _, _, _, [], _, [], hW', trodAll_mk1 (shut_bool Tryd.underlying4 _), (trodAll_cons_mk (Below.trod laidOut (by kernel_rfl) (of_decide_eq_true (by kernel_rfl)) k0 bel lt0) trodAll_mk0), rfl, bel.frame _, fun h => by cases h⟩

theorem over : Rows.sha2GoesRow.holds Tryd.pinned (OpenSpec.ofChange Rows.sha2GoesSpec) :=
  OpenClaim.holds_of_wide 6 Tryd.f6 rfl rfl rfl rfl rfl rfl rfl ⟨rfl, rfl, rfl, rfl, rfl⟩ rfl rfl rfl rfl rfl (by kernel_rfl) Tryd.func6 (by kernel_rfl)
    (of_decide_eq_true (by kernel_rfl)) (by unfold Func.isWrapper; first | (rw [if_pos (by decide +kernel)]; kernel_rfl) | (rw [if_neg (by decide +kernel)]; exact ⟨rfl, rfl⟩))
    (fun os started H enc _ => lifted os started H enc)

theorem proved : Rows.Sha2GoesCardSaid :=
  Claim7.holds_tied_plain_at .later [] [.data, .data] true Rows.sha2GoesCard.stood.harness false
    over (fun _ h => by cases h) (by kernel_rfl) (fun _ h => by cases h) sha2Goes_row_tie rfl ⟨rfl, rfl⟩ (by kernel_rfl) rfl
    (fun f fn hf hfn => by
      obtain rfl : f = 6 := Option.some.inj ((show Tryd.prog.funcNamed "masthead/mastheadlaw02.Sha2Goes" = some 6 by kernel_rfl).symm.trans hf) |>.symm
      obtain rfl : fn = Tryd.f6 := (Option.some.inj (Tryd.func6.symm.trans hfn)).symm
      exact ⟨by kernel_rfl, fun j t ht => by
        rw [Tryd.params6] at ht
        have hm : t ∈ [35] := by simpa using Array.mem_of_getElem? ht
        have hall : ([35].all fun u => !Tryd.prog.wantsStandIn u) = true := by kernel_rfl
        exact (show Tryd.prog.wantsStandIn t = false by simpa using List.all_eq_true.1 hall t hm)⟩)
    (by kernel_rfl)
end Go.Proofs.YtfnlclooneanaaaDoor.sha2Goes
