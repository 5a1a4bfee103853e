/- Proved: the card Sha2PartsCardSaid: whatever the parts, sha2.Sum and Twice of them are those of the whole, the law answers true and leaves its argument; condition: the listed tables start as the program's text lays them. -/
import Derived.Test.YtkajjcpnohgoeaaDoorRows
import Derived.Test.YtkajjcpnohgoeaaDoorShaQ
import Derived.Test.YtkajjcpnohgoeaaDoorShaY
import Derived.Deep.Matrix
import Derived.ProofKit
import Derived.OpenShut
import Derived.ShutString
import Derived.ChangeOld
import Derived.Test.YtkajjcpnohgoeaaDoorOpen
import Derived.Test.YtkajjcpnohgoeaaDoorShaL
import Derived.Test.YtkajjcpnohgoeaaDoorTie
import Derived.Test.YtkajjcpnohgoeaaDoorCards
import Derived.SevenTiedAt
namespace Go.Proofs.YtkajjcpnohgoeaaDoor.sha2Parts
open Go.ChangeShapes Go.WideShapes Go.ChangeAt Go.RowKit
open Go.ChangeMaps (open_string shut_string)
set_option linter.unusedVariables false

theorem own : ownKnob Tryd.prog.godebug = none := by kernel_rfl
theorem laidOut : laidOutB Tryd.prog = true := by kernel_rfl

theorem own_cap {w : World} {base n c : Nat} {A : Option Addr} {l : List UInt8} (h : Own w base A n c l) : n ≤ c ∧ c ≤ maxLen := by
  obtain ⟨hl, h1, h | ⟨g', cap, cur, hv, hb, _, hc, hm, _⟩⟩ := h
  · obtain ⟨h, h0⟩ := h
    injection h with e1 e2 e3
    exact ⟨by omega, by unfold maxLen; omega⟩
  · injection hv with e1 e2 e3
    exact ⟨by omega, by omega⟩
theorem flat_bound (L : List (List UInt8)) (h : ∀ x ∈ L, x.length ≤ 90) : L.flatten.length ≤ 90 * L.length := by
  induction L with
  | nil => simp
  | cons x L ih =>
    have h1 := h x (by simp)
    have h2 := ih (fun y hy => h y (by simp [hy]))
    simp only [List.flatten_cons, List.length_append, List.length_cons]
    omega
set_option maxRecDepth 100000 in
set_option maxHeartbeats 1000000 in
theorem walk (A : Option Addr) (n c : Nat) (L : List (List UInt8)) (w : World) (hT : Tab w) (hw : RdM w A n L ∧ n ≤ c ∧ c ≤ maxLen) :
    Calls Tryd.prog 5 #[.slice A n c] w (Ret w (.bool true)) := by
  obtain ⟨hR, hnc, hcm⟩ := hw
  have HT := Lib.hid hT
  have HR := Lib.hid hR
  have HL := Lib.hid hR.len
  have hnm : (n : Int) ≤ 9223372036854775807 := by unfold maxLen at hcm; omega
  clear hT hR
  go_enter Tryd.func5, Tryd.ntmps5
  go_wp2
  go_loopw [3, 9] (fun o i wr => ∃ (t p : Nat) (B : Option Addr) (d : Nat), t ≤ n ∧ t ≤ 20 ∧ i = .int .i64 t ∧ o = .slice B p d ∧ Own wr w.heap.size B p d (L.take t).flatten ∧ (∀ x ∈ L.take t, x.length ≤ 90) ∧ Below w.heap.size w wr) (fun _ i _ => n - (intOf i).toNat)
  case atStart => exact ⟨0, 0, _, _, Nat.zero_le _, by omega, rfl, rfl, by have h := Own.room w 0 (by unfold maxLen; omega); rw [show madeCells #[Value.int .u8 0] 0 = #[] from Array.eq_empty_of_size_eq_zero (by rw [size_madeCells])] at h; exact h, fun x hx => by simp at hx, (Below.refl _ _).alloc (Nat.le_refl _) _⟩
  case round =>
    obtain ⟨t, p, B, d, ht, ht20, rfl, rfl, hown, h90, hbel⟩ := hrel
    by_cases hlt : t < n
    · obtain ⟨b, off, A', m, c', hl, rfl, hcell, hmc, hcm', hrd⟩ := (HR.out.below hbel).at_ (k := t) hlt
      have AW := Lib.hid (awake2_calls wr (HT.out.all hbel))
      have hbt : (t : Int) < (n : Int) := by omega
      by_cases h19 : 19 < t
      · have HO := Lib.hid hbel
        clear hown hrd hbel
        go_wp2_with (go_at_call 9; refine AW.out.mono ?_; rintro e' w' ⟨rfl, hb'⟩)
        go_ret
        exact ⟨rfl, HO.out.trans (hb'.mono HO.out.size)⟩
      · by_cases hm90 : 90 < m
        · have HO := Lib.hid hbel
          clear hown hrd hbel
          go_wp2_with (go_at_call 9; refine AW.out.mono ?_; rintro e' w' ⟨rfl, hb'⟩)
          go_ret
          exact ⟨rfl, HO.out.trans (hb'.mono HO.out.size)⟩
        · have hpl := hown.len
          have hpb : p ≤ 90 * 20 := by
            have := flat_bound (L.take t) h90
            rw [hpl, List.length_take] at this
            omega
          have hm90' : (m : Int) ≤ 90 := by omega
          have h19' : (t : Int) ≤ 19 := by omega
          have HM := Lib.hid hrd.len
          go_wp2_with (at_builtin; refine app8_all _ rfl _ _ rfl w.heap.size B p d _ A' m c' _ rfl rfl hown hrd (by omega) hbel.size ?_; intro A2 c2 w2 hown' hbel')
          go_roundw
          case rel =>
            rw [← flat_take L t hl] at hown'
            refine ⟨t + 1, p + m, A2, c2, by omega, by omega, by go_num, rfl, hown', ?_, hbel.trans hbel'⟩
            intro x hx
            rw [List.take_succ_eq_append_getElem hl, List.mem_append] at hx
            rcases hx with hx | hx
            · exact h90 x hx
            · simp only [List.mem_singleton] at hx
              rw [hx, HM.out]
              omega
          case measure => simp [intOf]; omega
    · have e : t = n := by omega
      subst e
      rw [List.take_of_length_le (by rw [HL.out]; exact Nat.le_refl _)] at hown h90
      have hfb := flat_bound L h90
      rw [HL.out] at hfb
      have hcap := own_cap hown
      have hpl := hown.len
      have hrd := hown.rd
      obtain ⟨V, hV⟩ : ∃ V, V = (sha L.flatten).map B8 := ⟨_, rfl⟩
      obtain ⟨V2, hV2⟩ : ∃ V, V = (sha (sha L.flatten)).map B8 := ⟨_, rfl⟩
      have hRw := HR.out.below hbel
      have hTw := HT.out.all hbel
      have C1 : Hid (∀ W, Below wr.heap.size wr W → Calls Tryd.prog 10 #[.slice A t c] W (Ret W (.agg V.toArray))) := Lib.hid fun W hW => by
        rw [hV]; exact sum_calls W A t c L (hRw.below hW) (hTw.all hW) (by omega) (by omega)
      have C2 : Hid (∀ W g, W.heap.size = g → Below wr.heap.size wr W → Calls Tryd.prog 10 #[.slice (some ⟨g, 0, none⟩) 1 1] (W.alloc (.cells #[.slice B p d] 22)) (Ret (W.alloc (.cells #[.slice B p d] 22)) (.agg V.toArray))) := Lib.hid fun W g hg hW => by
        rw [hV]; exact sum1_calls W g hg B p d _ (hrd.below hW) hcap.1 hcap.2 (by omega) (hTw.all hW)
      have C3 : Hid (∀ W, Below wr.heap.size wr W → Calls Tryd.prog 12 #[.slice A t c] W (Ret W (.agg V2.toArray))) := Lib.hid fun W hW => by
        rw [hV2]; exact twice_calls W A t c L (hRw.below hW) (hTw.all hW) (by omega) (by omega)
      have C4 : Hid (∀ W g, W.heap.size = g → Below wr.heap.size wr W → Calls Tryd.prog 12 #[.slice (some ⟨g, 0, none⟩) 1 1] (W.alloc (.cells #[.slice B p d] 22)) (Ret (W.alloc (.cells #[.slice B p d] 22)) (.agg V2.toArray))) := Lib.hid fun W g hg hW => by
        have h := twice_calls (W.alloc (.cells #[.slice B p d] 22)) (some ⟨g, 0, none⟩) 1 1 [L.flatten] (rdm_one W g hg B p d _ _ (hrd.below hW) hcap.1 hcap.2) ((hTw.all hW).all ((Below.refl _ W).alloc (Nat.le_refl _) _)) (by omega) (by rw [List.flatten_cons, List.flatten_nil, List.append_nil]; omega)
        rw [hV2]
        simpa using h
      have C5 : Hid (∀ W, Below wr.heap.size wr W → Calls Tryd.prog 9 #[] W (Ret W (.bool true))) := Lib.hid fun W hW => awake2_calls W (hTw.all hW)
      have q1 : ∀ W, (Op.equalIn 10000 25 (.agg V.toArray) (.agg V.toArray)).run Tryd.prog W = .ok true W := by intro W; rw [hV]; exact hash_self _ (sha_len _) W
      have q2 : ∀ W, (Op.equalIn 10000 25 (.agg V2.toArray) (.agg V2.toArray)).run Tryd.prog W = .ok true W := by intro W; rw [hV2]; exact hash_self _ (sha_len _) W
      have hgd := guardH
      have HB := Lib.hid hbel
      have down : Hid (∀ (W w' : World) (o : Obj), Below wr.heap.size wr W → Below (W.alloc o).heap.size (W.alloc o) w' → Below wr.heap.size wr w') := Lib.hid fun W w' o h1 h2 => (h1.alloc h1.size o).trans (h2.mono (by have := h1.size; simp; omega))
      clear hown h90 hbel hfb hcap hpl hrd hV hV2 hRw hTw
      have b0 := Lib.hid (Below.refl wr.heap.size wr)
      go_wp2_with (first
        | (go_at_call_of 10 A; refine (C1.out _ b0.out).mono ?_; rintro e' w1 ⟨rfl, h1⟩; have b1 := Lib.hid h1; clear h1)
        | (go_at_call 10; refine (C2.out _ _ rfl b1.out).mono ?_; rintro e' w2 ⟨rfl, h2⟩; have b2 := Lib.hid (down.out _ _ _ b1.out h2); clear h2)
        | (go_at_call_of 12 A; refine (C3.out _ b2.out).mono ?_; rintro e' w3 ⟨rfl, h3⟩; have b3 := Lib.hid (b2.out.trans (h3.mono b2.out.size)); clear h3)
        | (go_at_call 12; refine (C4.out _ _ rfl b3.out).mono ?_; rintro e' w4 ⟨rfl, h4⟩; have b4 := Lib.hid (down.out _ _ _ b3.out h4); clear h4)
        | (go_at_call 9; refine (C5.out _ b4.out).mono ?_; rintro e' w5 ⟨rfl, h5⟩; have b5 := Lib.hid (b4.out.trans (h5.mono b4.out.size)); clear h5))
      go_ret
      exact ⟨rfl, HB.out.trans (b5.out.mono HB.out.size)⟩

set_option maxRecDepth 100000 in
theorem lifted (os : Os) (started : os.Started) (H : Type) (enc : TypeId × Value → H) :
    ReturnsInHanded {} Tryd.checked os 5 .any (fun w args => (Rows.sha2PartsSpec.pre enc Tryd.prog Tryd.f5 [] false w args ∧ laidMetH Tryd.prog laidT w) ∧ sizedMet enc Tryd.prog Tryd.f5 (OpenSpec.ofChange Rows.sha2PartsSpec) false w args)
      (Rows.sha2PartsSpec.post enc Tryd.prog Tryd.f5 false true false false) := by
  refine returnsInHanded_of_change_and (C := Tryd.checked) (X := fun w _ => laidMetH Tryd.prog laidT w) (fun _ _ _ hh h => h.of_heap hh) own started (by kernel_rfl) Tryd.func5
    (ChangeSpec.witness_shaped (enc := enc) (C := Tryd.checked) (os := os) (X := fun w _ => laidMetH Tryd.prog laidT w) false (World.doorLaid Tryd.prog 400 os) #[.slice none 0 0] 8 rfl (World.shaped_of_RefB (by kernel_rfl) (by kernel_rfl)) (by kernel_rfl) (by kernel_rfl) (by kernel_rfl) (door_met os _)) ?_
  intro W base args ds gs before hval0 hW hcnd _ hL _
  have hval : ∀ (j : Nat) t v, Tryd.f5.params[j]? = some t → args[j]? = some v → Value.okWide Tryd.prog W .any base t v := hval0
  have hW' := hW
  obtain ⟨p, q, hA0, hV, rfl, hfz, hnd⟩ := hW
  have hA : DataW.TrodAll enc Tryd.prog W 0 (fun _ => true) true Tryd.f5.params.toList args.toList ds p := hA0
  rw [Tryd.params5] at hA hval
  obtain ⟨v0, vs0, d0, ds0, p0, q0, hargs, rfl, rfl, h0, r0⟩ := trodAll_cons hA
  obtain ⟨rfl, rfl, rfl⟩ := trodAll_nil r0
  obtain rfl : args = #[v0] := by cases args; simp_all
  obtain ⟨rfl, rfl⟩ := trodVars_none hV
  obtain ⟨a0, len0, cap0, rfl⟩ := okWide_slice Tryd.underlying35 (hval 0 35 v0 rfl rfl)
  have k0 := h0
  have lt0 : ∀ x ∈ p0, x.block < W.heap.size := by obtain ⟨m, hm⟩ := k0; exact DataW.trod_lt m _ _ _ hm
  obtain ⟨l0, w0⟩ : ∃ l, RdM W a0 len0 l ∧ len0 ≤ cap0 ∧ cap0 ≤ maxLen := by
    obtain ⟨fuel, hf⟩ := h0
    rcases Go.Deep.open_int_rows Tryd.underlying35 Tryd.underlying22 Tryd.underlying5 (by kernel_rfl) (by kernel_rfl) hf with ⟨hcs, _⟩ | ⟨x, l, c, AA, LL, CC, ZZ, hcs, _, hl, hm, _, hrow⟩
    · simp [Value.cells] at hcs
      obtain ⟨rfl, rfl, rfl⟩ := hcs
      exact ⟨[], ⟨rfl, fun h => absurd h (by omega)⟩, by omega, by unfold maxLen; omega⟩
    · simp [Value.cells] at hcs
      obtain ⟨rfl, rfl, rfl⟩ := hcs
      obtain ⟨l, hr⟩ := rdm_rows hl hrow
      exact ⟨l, hr, hl, hm⟩
  clear hA0 hval0
  refine (walk a0 len0 cap0 l0 W (tab_of hL) w0).mono fun e W' ⟨he, bel⟩ => ?_
  subst he
  exact ⟨_, rfl, _, _, _, [], _, [], hW', trodAll_mk1 (shut_bool Tryd.underlying4 _), (trodAll_cons_mk (Below.trod laidOut (by kernel_rfl) (of_decide_eq_true (by kernel_rfl)) k0 bel lt0) trodAll_mk0), rfl, bel.frame _, fun h => by cases h⟩

theorem over : Rows.sha2PartsRow.holds Tryd.pinned (OpenSpec.ofChange Rows.sha2PartsSpec) :=
  OpenClaim.holds_of_wide 5 Tryd.f5 rfl rfl rfl rfl rfl rfl rfl ⟨rfl, rfl, rfl, rfl, rfl⟩ rfl rfl rfl rfl rfl (by kernel_rfl) Tryd.func5 (by kernel_rfl)
    (of_decide_eq_true (by kernel_rfl)) (by unfold Func.isWrapper; first | (rw [if_pos (by decide +kernel)]; kernel_rfl) | (rw [if_neg (by decide +kernel)]; exact ⟨rfl, rfl⟩))
    (fun os started H enc _ => lifted os started H enc)

theorem proved : Rows.Sha2PartsCardSaid :=
  Claim7.holds_tied_plain_at .later [] [.data, .data] true Rows.sha2PartsCard.stood.harness false
    over (fun _ h => by cases h) (by kernel_rfl) (fun _ h => by cases h) sha2Parts_row_tie rfl ⟨rfl, rfl⟩ (by kernel_rfl) rfl
    (fun f fn hf hfn => by
      obtain rfl : f = 5 := Option.some.inj ((show Tryd.prog.funcNamed "masthead/mastheadlaw02.Sha2Parts" = some 5 by kernel_rfl).symm.trans hf) |>.symm
      obtain rfl : fn = Tryd.f5 := (Option.some.inj (Tryd.func5.symm.trans hfn)).symm
      exact ⟨by kernel_rfl, fun j t ht => by
        rw [Tryd.params5] at ht
        have hm : t ∈ [35] := by simpa using Array.mem_of_getElem? ht
        have hall : ([35].all fun u => !Tryd.prog.wantsStandIn u) = true := by kernel_rfl
        exact (show Tryd.prog.wantsStandIn t = false by simpa using List.all_eq_true.1 hall t hm)⟩)
    (by kernel_rfl)
end Go.Proofs.YtkajjcpnohgoeaaDoor.sha2Parts
