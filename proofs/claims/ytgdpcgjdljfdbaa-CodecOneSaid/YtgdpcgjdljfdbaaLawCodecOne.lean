/- Proved: for every byte slice: if its beginning is taken as a count, the count's bytes and what is left are all of it; else nothing is taken; of more than 12 bytes nothing more than the document's example is said. The argument reads as it did. No condition. -/
import Derived.Test.YtgdpcgjdljfdbaaRows
import Derived.Test.YtgdpcgjdljfdbaaCodA
import Derived.Deep.RegionHeld3
import Derived.ProofKit
import Derived.OpenShut
import Derived.ShutString
import Derived.ChangeOld
import Derived.SizedLaws
import Derived.Test.YtgdpcgjdljfdbaaOpen
namespace Go.Proofs.Ytgdpcgjdljfdbaa.codecOne
open Go.ChangeShapes Go.WideShapes Go.ChangeAt Go.RowKit
open Go.ChangeMaps (open_string shut_string)
set_option linter.unusedVariables false
set_option linter.unusedSimpArgs false

theorem own : ownKnob Try.prog.godebug = none := by kernel_rfl
theorem laidOut : laidOutB Try.prog = true := by kernel_rfl

set_option maxRecDepth 100000 in
set_option maxHeartbeats 2000000 in
theorem walk (A : Option Addr) (n c : Nat) (l : List UInt8) (w : World) (w0 : Rd w A n l ∧ n ≤ c ∧ c ≤ maxLen ∧ n ≤ 140737488355328) :
    Calls Try.prog 6 #[.slice A n c] w (Ret w (.bool true)) := by
  obtain ⟨hr, hnc, hcm, h47⟩ := w0
  have hl := hr.len
  have HO := Lib.hid (of_calls A n c l w h47 hr)
  have HR := Lib.hid hr
  clear hr hcm
  by_cases h12 : 12 < n
  · have hd : (12 : Int) < (n : Int) := by omega
    go_enter Try.func6, Try.ntmps6
    go_wp2_with fail
    refine HO.out.mono ?_
    rintro e' w1 ⟨q, rfl, hq, hr1, hb1⟩
    go_wp2_with fail
    refine (awake_calls _).mono ?_
    rintro e' w2 ⟨rfl, hb2⟩
    go_wp2
    go_ret
    exact ⟨rfl, below_more hb1 hb2⟩
  · have hd : ¬ (12 : Int) < (n : Int) := by omega
    obtain ⟨v, hv⟩ : ∃ v, v = cvV l 0 18446744073709551615 := ⟨_, rfl⟩
    obtain ⟨x, hx⟩ : ∃ x, x = cvE l 0 18446744073709551615 := ⟨_, rfl⟩
    obtain ⟨r, hrr⟩ : ∃ r, r = cvL l 0 18446744073709551615 := ⟨_, rfl⟩
    have CV : Hid (∀ W q, Rr W q l 0 → Calls Try.prog 23 #[.pointer (some ⟨q, 0, none⟩), .int .u64 18446744073709551615] W fun en w' => en = .returned (.int .u64 (v : Int)) ∧ Rr w' q r x ∧ Frm (fun i => i = q) W w') := Lib.hid fun W q h => by
      have := rvar_calls W q l 0 h 18446744073709551615
      rw [← hv, ← hx, ← hrr] at this
      exact this
    simp only [cvV, cvE, cvL, if_true] at hv hx hrr
    by_cases hx0 : x = 0
    · have hok := first_ok (l := l) (most := 18446744073709551615) (by rw [← hx]; exact hx0)
      rw [← hv, ← hrr] at hok
      subst hx0
      obtain ⟨hlr, _, hrl, hv64⟩ := hok
      have hrlen : r.length ≤ 12 := by rw [hrr, List.length_drop]; omega
      have HLR := Lib.hid hlr
      clear hv hx hrr hlr hrl
      go_enter Try.func6, Try.ntmps6
      go_wp2_with fail
      refine HO.out.mono ?_
      rintro e' w1 ⟨q, rfl, hq, hr1, hb1⟩
      have H1 := Lib.hid (CV.out w1 q hr1)
      clear hr1
      go_wp2_with fail
      refine H1.out.mono ?_
      rintro e' w2 ⟨rfl, hr2, hf2⟩
      have hb2 : Below w.heap.size w w2 := below_frm hb1 hf2 (fun i hi => by omega)
      have H2 := Lib.hid (err_calls w2 q r 0 hr2)
      go_wp2_with fail
      refine H2.out.mono ?_
      rintro e' w2' ⟨rfl, rfl⟩
      go_wp2_with fail
      refine (new_calls _).mono ?_
      rintro e' w3 ⟨p, rfl, hp, hw3, hb3⟩
      have hr3 := hr2.below hb3
      have hqp : q ≠ p := by have := hr2.lt; omega
      have H3 := Lib.hid (wvar_calls w3 p none 0 [] hw3 v (by simp))
      go_wp2_with fail
      refine H3.out.mono ?_
      rintro e' w4 ⟨rfl, A4, c4, hw4, hf4, hn4⟩
      have hb34 : Below w2.heap.size w2 w4 := below_frm hb3 hf4 (ws_new (by omega))
      have hA4 : ∀ g, blkOf A4 = some g → w2.heap.size ≤ g := fun g hg => by
        rcases hn4 g hg with h | h
        · simp [blkOf] at h
        · have := hb3.size; omega
      have hr4 := hr2.below hb34
      have hb4 := below_more hb2 hb34
      have H4 := Lib.hid (left_calls w4 q r 0 hr4)
      go_wp2_with fail
      refine H4.out.mono ?_
      rintro e' w4' ⟨rfl, rfl⟩
      have H5 := Lib.hid (take_calls w4 q r 0 hr4 (r.length : Int) r.length (by simp))
      go_wp2_with fail
      refine H5.out.mono ?_
      rintro e' w5 ⟨A5, n5, c5, rfl, ho5, hr5, hf5⟩
      have hq2 := hr2.lt
      have hw5 : Wr w5 p A4 c4 ([] ++ cnt v) := hw4.frm hf5 (fun e => hqp e.symm) (fun g hg e => by have := hA4 g hg; omega)
      have hb5 : Below w.heap.size w w5 := below_frm hb4 hf5 (fun i hi => by omega)
      have hX := rdlf1 w5 (WS p A4) w5.heap.size rfl hw5.lt A5 n5 c5 _ (RdF.own ho5 hw4.lt) 26
      have hW5 := hw5.below (below_al (Below.refl _ w5) (.cells #[.slice A5 n5 c5] 26))
      have H6 := Lib.hid (put_calls _ p A4 c4 _ hW5 _ 1 1 _ hX (by omega) (by have := tkV_len r 0 r.length; have := more_le v; simp; omega))
      have hb5' := below_al hb5 (.cells #[.slice A5 n5 c5] 26)
      have hS4 : ∀ i, WS p A4 i → w.heap.size ≤ i := fun i hi => by
        rcases hi with rfl | hi
        · have := hb2.size; omega
        · have := hA4 i hi; have := hb2.size; omega
      clear hX hW5 ho5 hw5 hr5 hw4
      go_wp2_with fail
      refine H6.out.mono ?_
      rintro e' w6 ⟨rfl, A6, c6, hw6, hf6, hn6⟩
      have hb6 : Below w.heap.size w w6 := below_frm hb5' hf6 hS4
      have hall : [] ++ cnt v ++ [tkV r 0 r.length].flatten = l := by
        have : tkV r 0 r.length = r := by simp [tkV]
        rw [this]
        simpa using HLR.out.symm
      rw [hall] at hw6
      obtain ⟨sb, hsb⟩ : ∃ sb : ByteArray, sb = ⟨l.toArray⟩ := ⟨_, rfl⟩
      have C1 : Hid (∀ W, Below w6.heap.size w6 W → Calls Try.prog 17 #[.pointer (some ⟨p, 0, none⟩)] W fun e W' => ∃ A' n' c', e = .returned (.slice A' n' c') ∧ (convert 26 9 (.slice A' n' c')).run Try.prog W' = .ok (.string sb) W' ∧ Below w6.heap.size w6 W') := Lib.hid fun W h => by
        refine (wbytes_calls W p A6 c6 l (hw6.below h) (by omega)).mono ?_
        rintro e W' ⟨A', n', c', rfl, ho, hb⟩
        exact ⟨A', n', c', rfl, by rw [hsb]; exact conv8 W' A' n' c' _ ho.rd, below_more h hb⟩
      have C2 : Hid (∀ W, Below w6.heap.size w6 W → Calls Try.prog 18 #[] W fun e W' => e = .returned (.bool true) ∧ Below w6.heap.size w6 W') := Lib.hid fun W h => (awake_calls W).mono fun _ _ hh => ⟨hh.1, below_more h hh.2⟩
      have K0 : Hid (∀ W, Below w6.heap.size w6 W → (convert 26 9 (.slice A n c)).run Try.prog W = .ok (.string sb) W ∧ Below w6.heap.size w6 W) := Lib.hid fun W h => ⟨by rw [hsb]; exact conv8 W A n c l (HR.out.below (below_more hb6 h)), h⟩
      have z0 : Below w6.heap.size w6 w6.drew := (Below.refl _ _).drew
      have HB6 := Lib.hid hb6
      clear hw6 hf6 hn6 hall hsb H1 H2 H3 H4 H5 H6 hb5' hb6 hS4 hA4 hn4 hf4 hb34 hr4 hb4 hr3 hf5 hb5 hr2 hf2 hb1 hb2 hb3 hw3 HO HR HLR
      go_wp2
      refine wp_region_held_drew (S := fun W => (convert 26 9 (.slice A n c)).run Try.prog W = .ok (.string sb) W ∧ Below w6.heap.size w6 W) (by kernel_rfl) ?_ (fun hHeld => ?_)
      · (first | exact K0.out _ z0 | exact K0.out _ (by first | assumption | exact And.right (by assumption)))
      refine wpAnyH_take (i := 0) (v := ?_) rfl (by kernel_rfl) (by kernel_rfl) (by kernel_rfl) (fun _ _ _ h => h) (Or.inl ⟨by rfl, ?_⟩) (by assumption) ?_
      rotate_left 1
      · intro w hSw; (try dsimp only at hSw); simp only [List.getElem_toArray, List.getElem_cons_succ, List.getElem_cons_zero]; go_simp; try (with_reducible rfl)
      (try simp only [List.getElem_toArray, List.getElem_cons_succ, List.getElem_cons_zero, Act.put, List.setIfInBounds_toArray, List.set_cons_succ, List.set_cons_zero])
      refine wpAnyH_take (i := 3) (v := ?_) rfl (by kernel_rfl) (by kernel_rfl) (by kernel_rfl) (fun _ _ _ h => h) (Or.inl ⟨by rfl, ?_⟩) (by assumption) ?_
      rotate_left 1
      · intro w hSw; (try dsimp only at hSw); simp only [List.getElem_toArray, List.getElem_cons_succ, List.getElem_cons_zero]; go_simp; try (with_reducible rfl)
      (try simp only [List.getElem_toArray, List.getElem_cons_succ, List.getElem_cons_zero, Act.put, List.setIfInBounds_toArray, List.set_cons_succ, List.set_cons_zero])
      refine wpAnyH_take (i := 4) (v := ?_) rfl (by kernel_rfl) (by kernel_rfl) (by kernel_rfl) (fun _ _ _ h => h) (Or.inl ⟨by rfl, ?_⟩) (by assumption) ?_
      rotate_left 1
      · intro w hSw; (try dsimp only at hSw); simp only [List.getElem_toArray, List.getElem_cons_succ, List.getElem_cons_zero]; go_simp; try (with_reducible rfl)
      (try simp only [List.getElem_toArray, List.getElem_cons_succ, List.getElem_cons_zero, Act.put, List.setIfInBounds_toArray, List.set_cons_succ, List.set_cons_zero])
      refine wpAnyH_ready (rs := [1]) (by kernel_rfl) (by simp) ?_
      refine AllReadyH.cons rfl (fun K hK => ?_) AllReadyH.nil
      (try simp only [List.getElem_toArray, List.getElem_cons_succ, List.getElem_cons_zero])
      go_simp
      go_at_call 17; refine (C1.out _ (by first | assumption | exact And.right (by assumption))).mono ?_; rintro e' w7 ⟨A7, n7, c7, rfl, hcv7, h7⟩
      (try (go_wp2_with fail))
      refine hK.out _ _ ?_ (fun hHeld => ?_)
      · (first | exact K0.out _ z0 | exact K0.out _ (by first | assumption | exact And.right (by assumption)))
      clear hK K
      (try simp only [Act.put, List.setIfInBounds_toArray, List.set_cons_succ, List.set_cons_zero])
      refine wpAnyH_ready (rs := [2]) (by kernel_rfl) (by simp) ?_
      refine AllReadyH.cons rfl (fun K hK => ?_) AllReadyH.nil
      (try simp only [List.getElem_toArray, List.getElem_cons_succ, List.getElem_cons_zero])
      go_simp
      skip
      (try (go_wp2_with fail))
      refine hK.out _ _ ?_ (fun hHeld => ?_)
      · (first | exact K0.out _ z0 | exact K0.out _ (by first | assumption | exact And.right (by assumption)))
      clear hK K
      (try simp only [Act.put, List.setIfInBounds_toArray, List.set_cons_succ, List.set_cons_zero])
      refine wpAnyH_take (i := 5) (v := ?_) rfl (by kernel_rfl) (by kernel_rfl) (by kernel_rfl) (fun _ _ _ h => h) (Or.inl ⟨by rfl, ?_⟩) (by assumption) ?_
      rotate_left 1
      · intro w hSw; (try dsimp only at hSw); simp only [List.getElem_toArray, List.getElem_cons_succ, List.getElem_cons_zero]; go_simp; try (with_reducible rfl)
      (try simp only [List.getElem_toArray, List.getElem_cons_succ, List.getElem_cons_zero, Act.put, List.setIfInBounds_toArray, List.set_cons_succ, List.set_cons_zero])
      refine wpAnyH_take (i := 6) (v := ?_) rfl (by kernel_rfl) (by kernel_rfl) (by kernel_rfl) (fun _ _ _ h => h) (Or.inl ⟨by rfl, ?_⟩) (by assumption) ?_
      rotate_left 1
      · intro w hSw; (try dsimp only at hSw); simp only [List.getElem_toArray, List.getElem_cons_succ, List.getElem_cons_zero]; go_simp; try (with_reducible rfl)
      (try simp only [List.getElem_toArray, List.getElem_cons_succ, List.getElem_cons_zero, Act.put, List.setIfInBounds_toArray, List.set_cons_succ, List.set_cons_zero])
      refine wpAnyH_ready (rs := [7]) (by kernel_rfl) (by simp) ?_
      refine AllReadyH.cons rfl (fun K hK => ?_) AllReadyH.nil
      (try simp only [List.getElem_toArray, List.getElem_cons_succ, List.getElem_cons_zero])
      go_simp
      go_at_call 18; refine (C2.out _ (by first | assumption | exact And.right (by assumption))).mono ?_; rintro e' w8 ⟨rfl, h8⟩
      (try (go_wp2_with fail))
      refine hK.out _ _ ?_ (fun hHeld => ?_)
      · (first | exact K0.out _ z0 | exact K0.out _ (by first | assumption | exact And.right (by assumption)))
      clear hK K
      (try simp only [Act.put, List.setIfInBounds_toArray, List.set_cons_succ, List.set_cons_zero])
      refine wpAnyH_take (i := 8) (v := ?_) rfl (by kernel_rfl) (by kernel_rfl) (by kernel_rfl) (fun _ _ _ h => h) (Or.inl ⟨by rfl, ?_⟩) (by assumption) ?_
      rotate_left 1
      · intro w hSw; (try dsimp only at hSw); simp only [List.getElem_toArray, List.getElem_cons_succ, List.getElem_cons_zero]; go_simp; try (with_reducible rfl)
      (try simp only [List.getElem_toArray, List.getElem_cons_succ, List.getElem_cons_zero, Act.put, List.setIfInBounds_toArray, List.set_cons_succ, List.set_cons_zero])
      refine wpAnyH_take (i := 9) (v := ?_) rfl (by kernel_rfl) (by kernel_rfl) (by kernel_rfl) (fun _ _ _ h => h) (Or.inl ⟨by rfl, ?_⟩) (by assumption) ?_
      rotate_left 1
      · intro w hSw; (try dsimp only at hSw); simp only [List.getElem_toArray, List.getElem_cons_succ, List.getElem_cons_zero]; go_simp; try (with_reducible rfl)
      (try simp only [List.getElem_toArray, List.getElem_cons_succ, List.getElem_cons_zero, Act.put, List.setIfInBounds_toArray, List.set_cons_succ, List.set_cons_zero])
      refine wpAnyH_done (by kernel_rfl) ?_ _
      go_wp2
      go_ret
      exact ⟨rfl, below_more HB6.out h8⟩
    · have her := first_err (l := l) (most := 18446744073709551615) (by rw [← hx]; exact hx0)
      have hv0 : v = 0 := hv.trans her.1
      have hr0 : r = l := by rw [hrr, her.2]; rfl
      subst hv0 hr0
      clear hv hx hrr her
      go_enter Try.func6, Try.ntmps6
      go_wp2_with fail
      refine HO.out.mono ?_
      rintro e' w1 ⟨q, rfl, hq, hr1, hb1⟩
      have H1 := Lib.hid (CV.out w1 q hr1)
      clear hr1
      go_wp2_with fail
      refine H1.out.mono ?_
      rintro e' w2 ⟨rfl, hr2, hf2⟩
      have hb2 : Below w.heap.size w w2 := below_frm hb1 hf2 (fun i hi => by omega)
      have H2 := Lib.hid (err_calls w2 q r x hr2)
      have H3 := Lib.hid (left_calls w2 q r x hr2)
      go_wp2_with fail
      refine H2.out.mono ?_
      rintro e' w2' ⟨rfl, rfl⟩
      go_wp2_with fail
      refine H3.out.mono ?_
      rintro e' w2' ⟨rfl, rfl⟩
      go_wp2_with fail
      refine (awake_calls _).mono ?_
      rintro e' w3 ⟨rfl, hb3⟩
      go_wp2
      go_ret
      exact ⟨rfl, below_more hb2 hb3⟩

set_option maxRecDepth 100000 in
theorem lifted (os : Os) (started : os.Started) (H : Type) (enc : TypeId × Value → H) :
    ReturnsInHanded {} Try.checked os 6 .any (Rows.codecOneSpec.pre6 enc Try.prog Try.f6 Rows.codecOneRow.domain false) (Rows.codecOneSpec.post enc Try.prog Try.f6 false true false false) := by
  refine returnsInHanded_of_change_sized (C := Try.checked) own started (by kernel_rfl) Try.func6
    (ChangeSpec.witness6 (enc := enc) (C := Try.checked) false ⟨#[], #[.slice none 0 0], []⟩ 8 (by kernel_rfl) (by kernel_rfl) (by kernel_rfl) (by kernel_rfl)) ?_
  intro W base args ds gs before hval0 hW hcnd hsz0 _
  have hval : ∀ (j : Nat) t v, Try.f6.params[j]? = some t → args[j]? = some v → Value.okWide Try.prog W .any base t v := hval0
  have hW' := hW
  obtain ⟨p, q, hA0, hV, rfl, hfz, hnd⟩ := hW
  have hA : DataW.TrodAll enc Try.prog W 0 (fun _ => true) true Try.f6.params.toList args.toList ds p := hA0
  have hsz : (DataW.weightsEach Try.prog (Try.f6.params.toList ++ Rows.codecOneSpec.plain.varTypes Try.prog) (ds ++ gs)).all (· ≤ reachBytes) = true := hsz0
  rw [Try.params6] at hA hval hsz
  obtain ⟨v0, vs0, d0, ds0, p0, q0, hargs, rfl, rfl, h0, r0⟩ := trodAll_cons hA
  obtain ⟨rfl, rfl, rfl⟩ := trodAll_nil r0
  obtain rfl : args = #[v0] := by cases args; simp_all
  obtain ⟨rfl, rfl⟩ := trodVars_none hV
  obtain ⟨a0, len0, cap0, rfl⟩ := okWide_slice Try.underlying26 (hval 0 26 v0 rfl rfl)
  have k0 := h0
  have lt0 : ∀ x ∈ p0, x.block < W.heap.size := by obtain ⟨m, hm⟩ := k0; exact DataW.trod_lt m _ _ _ hm
  obtain ⟨l0, w0⟩ : ∃ l, Rd W a0 len0 l ∧ len0 ≤ cap0 ∧ cap0 ≤ maxLen ∧ len0 ≤ 140737488355328 := by
    obtain ⟨fuel, hf⟩ := h0
    rcases open_ints Try.underlying26 Try.underlying5 (by kernel_rfl) hf with ⟨hcs, _⟩ | ⟨x, l, c, zs, hcs, _, hl, hm, hz, hx, hcell, hwz⟩
    · simp [Value.cells] at hcs
      obtain ⟨rfl, rfl, rfl⟩ := hcs
      exact ⟨[], Rd.nil _ _, by omega, by unfold maxLen; omega, by omega⟩
    · simp [Value.cells] at hcs
      obtain ⟨rfl, rfl, rfl⟩ := hcs
      have hzc : zs.length = cap0 := by simpa using hz
      have hd := congrArg Prod.fst hx
      simp only at hd
      have hr := sized_slice (j := 0) (t := 26) (e := 5) (elems := lits .u8 (zs.take len0)) (spare := lits .u8 (zs.drop len0)) hsz rfl (by rw [hd]; rfl) Try.underlying26
      rw [show (Try.prog.bytesOf 5) = 1 from by kernel_rfl] at hr
      have h1 : (lits (H := H) .u8 (zs.take len0)).length = (zs.take len0).length := by simp [lits]
      rw [h1, List.length_take, hzc, Nat.min_eq_left hl] at hr
      unfold reachBytes at hr
      obtain ⟨l, hr2⟩ := rd_ints hcell hl (by simpa using hz) hwz
      exact ⟨l, hr2, hl, hm, by omega⟩
  clear hA0 hval0
  refine (walk a0 len0 cap0 l0 W w0).mono fun e W' ⟨he, bel⟩ => ?_
  subst he
  exact ⟨_, rfl, _, _, _, [], _, [], hW', trodAll_mk1 (shut_bool Try.underlying4 _), (trodAll_cons_mk (Below.trod laidOut (by kernel_rfl) (of_decide_eq_true (by kernel_rfl)) k0 bel lt0) trodAll_mk0), rfl, bel.frame _, fun h => by cases h⟩

theorem over : Rows.codecOneRow.holds Try.pinned (OpenSpec.ofChange Rows.codecOneSpec) :=
  OpenClaim.holds_of_wide 6 Try.f6 rfl rfl rfl rfl rfl rfl rfl ⟨rfl, rfl, rfl, rfl, rfl⟩ rfl rfl rfl rfl rfl (by kernel_rfl) Try.func6 (by kernel_rfl)
    (of_decide_eq_true (by kernel_rfl)) (by unfold Func.isWrapper; first | (rw [if_pos (by decide +kernel)]; kernel_rfl) | (rw [if_neg (by decide +kernel)]; exact ⟨rfl, rfl⟩))
    (fun os started H enc _ => lifted os started H enc)

theorem proved : Rows.CodecOneSaid := over
end Go.Proofs.Ytgdpcgjdljfdbaa.codecOne
