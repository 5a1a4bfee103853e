/- Proved: for every number: the depth is what the document says, and going up so often leaves one hash. The condition is the card's own: sha2's two tables are as they are laid. -/
import Derived.Test.YtkhjadecichlkaaDoorRows
import Derived.Test.YtkhjadecichlkaaDoorMbd
import Derived.Test.YtkhjadecichlkaaDoorMay
import Derived.Test.YtkhjadecichlkaaDoorMbe
import Derived.Test.YtkhjadecichlkaaDoorMac
import Derived.Deep.RegionHeld3
import Derived.ProofKit
import Derived.OpenShut
import Derived.ShutString
import Derived.ChangeOld
import Derived.Test.YtkhjadecichlkaaDoorMal
import Derived.Test.YtkhjadecichlkaaDoorTie
import Derived.Test.YtkhjadecichlkaaDoorCards
import Derived.SevenTiedAt
namespace Go.Proofs.YtkhjadecichlkaaDoor.merkleDepths
open Go.ChangeShapes Go.WideShapes Go.ChangeAt Go.RowKit
open Go.ChangeMaps (open_string shut_string)
set_option linter.unusedVariables false
set_option linter.unusedSimpArgs false

set_option maxRecDepth 100000 in
theorem own : ownKnob Tryd.prog.godebug = none := by kernel_rfl
set_option maxRecDepth 100000 in
theorem laidOut : laidOutB Tryd.prog = true := by kernel_rfl

set_option maxRecDepth 100000 in
theorem run_mkN (n : Nat) (hn : n ≤ 1000) (w : World) :
    (Instr.makeSlice 22 (.int .i64 (n : Int)) (.int .i64 (n : Int))).run Tryd.prog w = .ok (.slice (some ⟨w.heap.size, 0, none⟩) n n) (w.alloc (.cells (madeCells z32.toArray (n * 32)) 25)) := by
  obtain ⟨i, hi, hzz⟩ := Option.map_eq_some_iff.1 infoG
  simp only [Prod.mk.injEq] at hzz
  obtain ⟨hz, hs, hb⟩ := hzz
  have hr := run_make (P := Tryd.prog) w 22 25 i (.agg z32.toArray) Tryd.underlying22 hi hz .i64 .i64 n n (by omega) (by omega) (by rw [hb]; omega) (by omega)
  simp only [Int.toNat_natCast, hs] at hr
  exact hr
set_option maxRecDepth 100000 in
theorem z32_at (j : Nat) (hj : j < 32) : z32.toArray[j]! = .int .u8 0 := by
  have : z32[j]? = some (.int .u8 0) := by rw [← z32_rep, List.getElem?_map, List.getElem?_replicate, if_pos hj]; rfl
  rw [List.getElem!_toArray, List.getElem!_eq_getElem?_getD, this]
  rfl
set_option maxRecDepth 100000 in
theorem made_at (n j : Nat) (hj : j < n) : (madeCells z32.toArray n)[j]? = some (.int .u8 0) := by
  unfold madeCells
  rw [Array.getElem?_map, Array.getElem?_range, if_pos hj]
  show some (z32.toArray[j % 32]!) = _
  rw [z32_at _ (Nat.mod_lt _ (by omega))]
set_option maxRecDepth 100000 in
theorem rdh_made {W : World} {g n : Nat} {t : TypeId} {C : List Value} (hC : C = (madeCells z32.toArray (n * 32)).toList) (h : Blk W g C t) : RdH W (some ⟨g, 0, none⟩) n (List.replicate n (List.replicate 32 0)) := by
  refine ⟨List.length_replicate .., fun x hx => by rw [(List.mem_replicate.1 hx).2]; rfl, fun hn => ⟨g, 0, rfl, h.lt, fun i hi j v hv => ?_⟩⟩
  have e : hat (List.replicate n (List.replicate 32 (0 : UInt8))) i = List.replicate 32 0 := by
    unfold hat
    rw [List.getD_eq_getElem?_getD, List.getElem?_replicate, if_pos hi]
    rfl
  rw [e] at hv
  have hj : j < 32 := by have := (List.getElem?_eq_some_iff.1 hv).1; simpa using this
  have hv' : v = .int .u8 0 := by
    rw [List.getElem?_map, List.getElem?_replicate, if_pos hj] at hv
    exact (Option.some.inj hv).symm
  rw [h.cell, hv', hC, Array.getElem?_toList]
  exact made_at _ _ (by omega)
set_option maxRecDepth 100000 in
set_option maxHeartbeats 4000000 in
theorem walkA (n D E P Q : Nat) (w : World) (CA : Hid (∀ W, Below w.heap.size w W → Calls Tryd.prog 9 #[] W (Ret W (.bool true)))) (CD : Hid (∀ W, Calls Tryd.prog 18 #[.int .i64 (n : Int)] W (Ret W (.int .i64 (D : Int))))) (b1 : ¬ (n : Int) < 2) (b2 : ¬ (D : Int) < 1) (b3 : ¬ (63 : Int) < (D : Int)) (c1 : IntKind.i64.wrap ((D : Int) - 1) = (E : Int)) (c2 : (2 : Int) ^ E = (Q : Int)) (c3 : IntKind.i64.wrap (Q : Int) = (Q : Int)) (c3' : wrap64 (Q : Int) = (Q : Int)) (m1 : min E 64 = E) (c4 : ¬ (n : Int) ≤ (Q : Int)) (c5 : ¬ n ≤ Q) (b4 : (D : Int) < 63) (c6 : (2 : Int) ^ D = (P : Int)) (c7 : IntKind.i64.wrap (P : Int) = (P : Int)) (c7' : wrap64 (P : Int) = (P : Int)) (m2 : min D 64 = D) (c8 : ¬ (P : Int) < (n : Int)) (c9 : ¬ P < n) (hn64 : (64 : Int) < (n : Int)) : Calls Tryd.prog 7 #[.int .i64 (n : Int)] w (Ret w (.bool true)) := by
  go_enter Tryd.func7, Tryd.ntmps7
  go_wp2_with (first
    | (go_at_call 18; refine (CD.out _).mono ?_; rintro e' v1 ⟨rfl, d1⟩; have KA := d1)
    | (go_at_call 9; refine (CA.out _ KA).mono ?_; rintro e' v9 ⟨rfl, d9⟩))
  go_ret
  exact ⟨rfl, below_more d1 d9⟩
set_option maxRecDepth 100000 in
set_option maxHeartbeats 4000000 in
theorem walkB (n D E Q : Nat) (w : World) (CA : Hid (∀ W, Below w.heap.size w W → Calls Tryd.prog 9 #[] W (Ret W (.bool true)))) (CD : Hid (∀ W, Calls Tryd.prog 18 #[.int .i64 (n : Int)] W (Ret W (.int .i64 (D : Int))))) (b1 : ¬ (n : Int) < 2) (b2 : ¬ (D : Int) < 1) (b3 : ¬ (63 : Int) < (D : Int)) (c1 : IntKind.i64.wrap ((D : Int) - 1) = (E : Int)) (c2 : (2 : Int) ^ E = (Q : Int)) (c3 : IntKind.i64.wrap (Q : Int) = (Q : Int)) (c3' : wrap64 (Q : Int) = (Q : Int)) (m1 : min E 64 = E) (c4 : ¬ (n : Int) ≤ (Q : Int)) (c5 : ¬ n ≤ Q) (b4 : ¬ (D : Int) < 63) (hn64 : (64 : Int) < (n : Int)) : Calls Tryd.prog 7 #[.int .i64 (n : Int)] w (Ret w (.bool true)) := by
  go_enter Tryd.func7, Tryd.ntmps7
  go_wp2_with (first
    | (go_at_call 18; refine (CD.out _).mono ?_; rintro e' v1 ⟨rfl, d1⟩; have KA := d1)
    | (go_at_call 9; refine (CA.out _ KA).mono ?_; rintro e' v9 ⟨rfl, d9⟩))
  go_ret
  exact ⟨rfl, below_more d1 d9⟩
set_option maxRecDepth 100000 in
set_option maxHeartbeats 4000000 in
theorem walkC (n D E P Q : Nat) (w : World) (CA : Hid (∀ W, Below w.heap.size w W → Calls Tryd.prog 9 #[] W (Ret W (.bool true)))) (CD : Hid (∀ W, Calls Tryd.prog 18 #[.int .i64 (n : Int)] W (Ret W (.int .i64 (D : Int))))) (C0 : Hid (∀ (W : World) (A' : Option Addr) (n' c' : Nat) (l' : List (List UInt8)), Below w.heap.size w W → RdH W A' n' l' → n' ≤ 64 → n' ≤ c' → c' ≤ maxLen → Calls Tryd.prog 13 #[.slice A' n' c'] W fun e w' => ∃ A2 c2, e = .returned (.slice A2 ((n' + 1) / 2) c2) ∧ (RdH w' A2 ((n' + 1) / 2) (abv l') ∧ (n' + 1) / 2 ≤ c2 ∧ c2 ≤ maxLen) ∧ Below W.heap.size W w')) (b1 : ¬ (n : Int) < 2) (b2 : ¬ (D : Int) < 1) (b3 : ¬ (63 : Int) < (D : Int)) (c1 : IntKind.i64.wrap ((D : Int) - 1) = (E : Int)) (c2 : (2 : Int) ^ E = (Q : Int)) (c3 : IntKind.i64.wrap (Q : Int) = (Q : Int)) (c3' : wrap64 (Q : Int) = (Q : Int)) (m1 : min E 64 = E) (c4 : ¬ (n : Int) ≤ (Q : Int)) (c5 : ¬ n ≤ Q) (b4 : (D : Int) < 63) (c6 : (2 : Int) ^ D = (P : Int)) (c7 : IntKind.i64.wrap (P : Int) = (P : Int)) (c7' : wrap64 (P : Int) = (P : Int)) (m2 : min D 64 = D) (c8 : ¬ (P : Int) < (n : Int)) (c9 : ¬ P < n) (hn64 : ¬ (64 : Int) < (n : Int)) (HW : Hid (wide n D = 1 ∧ ∀ k, wide n k ≤ 64)) : Calls Tryd.prog 7 #[.int .i64 (n : Int)] w (Ret w (.bool true)) := by
  have hmk := fun W => run_mkN n (by omega) W
  have HC : Hid (n ≤ maxLen) := Lib.hid (by unfold maxLen; omega)
  go_enter Tryd.func7, Tryd.ntmps7
  go_wp2_with (go_at_call 18; refine (CD.out _).mono ?_; rintro e' v1 ⟨rfl, d1⟩; have KA := d1)
  go_loopw [43, 4] (fun i v wr => ∃ (t m : Nat) (A' : Option Addr) (c' : Nat), i = .int .i64 (t : Int) ∧ t ≤ D ∧ v = .slice A' m c' ∧ m = wide n t ∧ (RdH wr A' m (lev t (List.replicate n (List.replicate 32 0))) ∧ m ≤ c' ∧ c' ≤ maxLen) ∧ Below w.heap.size w wr) (fun i _ _ => D - (intOf i).toNat)
  case atStart =>
    have hbk := Blk.new v1 (madeCells z32.toArray (n * 32)) 25
    have hmd := rdh_made rfl hbk
    exact ⟨0, n, _, n, by first | rfl | go_num, Nat.zero_le _, rfl, rfl, ⟨hmd, Nat.le_refl _, HC.out⟩, below_al d1 _⟩
  case round =>
    obtain ⟨t, m, A', c', rfl, htD, rfl, hm, hrd, hbr⟩ := hrel
    have HRD := Lib.hid hrd
    have HM := Lib.hid hm
    clear hrd hm
    by_cases ht : t < D
    · have ht' : (t : Int) < (D : Int) := by omega
      have C1 := Lib.hid (C0.out wr A' m c' _ hbr HRD.out.1 (by rw [HM.out]; exact HW.out.2 t) HRD.out.2.1 HRD.out.2.2)
      go_wp2_with (go_at_call 13; refine C1.out.mono ?_; rintro e' v2 ⟨A2, c2, rfl, hr2, d2⟩; have HR2 := Lib.hid hr2; clear hr2)
      go_roundw
      case rel => exact ⟨t + 1, (m + 1) / 2, A2, c2, by go_num, by omega, rfl, by rw [HM.out]; rfl, HR2.out, below_more hbr d2⟩
      case measure => simp [intOf]; omega
    · have ht' : ¬ (t : Int) < (D : Int) := by omega
      have e : t = D := by omega
      have e1 : m = 1 := by rw [HM.out, e]; exact HW.out.1
      subst e1
      clear e
      have KA := hbr
      go_wp2_with (go_at_call 9; refine (CA.out _ KA).mono ?_; rintro e' v9 ⟨rfl, d9⟩)
      go_ret
      exact ⟨rfl, below_more hbr d9⟩
set_option maxRecDepth 100000 in
theorem six {E Q : Nat} (hQ : Q = 2 ^ E) (h : Q < 64) : E < 6 := by
  rcases Nat.lt_or_ge E 6 with h1 | h1
  · exact h1
  · have h3 := Nat.pow_le_pow_right (n := 2) (by omega) h1
    rw [← hQ] at h3
    omega
set_option maxRecDepth 100000 in
theorem big63 {D P : Nat} (hP : P = 2 ^ D) (h : D < 63) : P < 9223372036854775808 := by
  rw [hP, show (9223372036854775808 : Nat) = 2 ^ 63 from rfl]
  exact Nat.pow_lt_pow_right (by omega) h
set_option maxRecDepth 100000 in
set_option maxHeartbeats 4000000 in
theorem walk (k : Int) (w : World) (hT : Tab w) (w0 : (Lit.int .i64 k).wf = true) : Calls Tryd.prog 7 #[.int .i64 k] w (Ret w (.bool true)) := by
  have CA : Hid (∀ W, Below w.heap.size w W → Calls Tryd.prog 9 #[] W (Ret W (.bool true))) := Lib.hid fun W h => awake8_calls W (hT.all h)
  have hlo : -9223372036854775808 ≤ k ∧ k ≤ 9223372036854775807 := by have := bounds_i64 w0; omega
  clear w0
  have CD : Hid (∀ W, Calls Tryd.prog 18 #[.int .i64 k] W (Ret W (.int .i64 (depth k.toNat : Int)))) := Lib.hid fun W => gdepth_calls k hlo.2 hlo.1 W
  by_cases h2 : k < 2
  · have e0 : depth k.toNat = 0 := depth_small _ (by omega)
    rw [e0] at CD
    clear e0 hlo
    go_enter Tryd.func7, Tryd.ntmps7
    go_wp2_with (first
      | (go_at_call 18; refine (CD.out _).mono ?_; rintro e' v1 ⟨rfl, d1⟩; have KA := d1)
      | (go_at_call 9; refine (CA.out _ KA).mono ?_; rintro e' v9 ⟨rfl, d9⟩))
    go_ret
    exact ⟨rfl, below_more d1 d9⟩
  obtain ⟨n, hn⟩ : ∃ n : Nat, n = k.toNat := ⟨_, rfl⟩
  have hkn : k = (n : Int) := by omega
  rw [← hn] at CD
  subst hkn
  have hn2 : 2 ≤ n := by omega
  have hup := depth_up n
  have hlow := depth_low n (by omega)
  have h63 := depth_le63 n (by omega)
  have h1 : 1 ≤ depth n := by rw [depth_big n (by omega)]; omega
  have hw1 := wide_one n (by omega)
  have hwp := wide_64 n
  obtain ⟨D, hD⟩ : ∃ D, D = depth n := ⟨_, rfl⟩
  obtain ⟨E, hE⟩ : ∃ E, E = D - 1 := ⟨_, rfl⟩
  rw [← hD] at CD hup hlow h63 h1 hw1
  rw [← hE] at hlow
  obtain ⟨Q, hQ⟩ : ∃ Q, Q = 2 ^ E := ⟨_, rfl⟩
  obtain ⟨P, hP⟩ : ∃ P, P = 2 ^ D := ⟨_, rfl⟩
  have c2 : Hid ((2 : Int) ^ E = (Q : Int)) := Lib.hid (by rw [hQ]; simp)
  have c6 : Hid ((2 : Int) ^ D = (P : Int)) := Lib.hid (by rw [hP]; simp)
  have hQn : Q < n := by rw [hQ]; exact hlow
  have hPn : n ≤ P := by rw [hP]; exact hup
  have hE6 := fun h => six hQ h
  have hP2 := fun h => big63 hP h
  clear hn hlow hup hQ hP hD
  have C0 : Hid (∀ (W : World) (A' : Option Addr) (n' c' : Nat) (l' : List (List UInt8)), Below w.heap.size w W → RdH W A' n' l' → n' ≤ 64 → n' ≤ c' → c' ≤ maxLen → Calls Tryd.prog 13 #[.slice A' n' c'] W fun e w' => ∃ A2 c2, e = .returned (.slice A2 ((n' + 1) / 2) c2) ∧ (RdH w' A2 ((n' + 1) / 2) (abv l') ∧ (n' + 1) / 2 ≤ c2 ∧ c2 ≤ maxLen) ∧ Below W.heap.size W w') := Lib.hid fun W A' n' c' l' h1 h2 h3 h4 h5 => by
    refine (gabove_calls A' n' c' l' W h2 (hT.all h1) h3 h4 h5).mono ?_
    rintro e w' ⟨A2, c2, rfl, k1, k2, k3, k4⟩
    exact ⟨A2, c2, rfl, ⟨k1, k2, k3⟩, k4⟩
  have b1 : ¬ (n : Int) < 2 := by omega
  have b2 : ¬ (D : Int) < 1 := by omega
  have b3 : ¬ (63 : Int) < (D : Int) := by omega
  have c1 : Hid (IntKind.i64.wrap ((D : Int) - 1) = (E : Int)) := Lib.hid (by rw [IntKind.wrap_i64]; omega)
  have c3 : Hid (IntKind.i64.wrap (Q : Int) = (Q : Int)) := Lib.hid (by rw [IntKind.wrap_i64]; omega)
  have c3' : Hid (wrap64 (Q : Int) = (Q : Int)) := Lib.hid (by unfold wrap64; omega)
  have m1 : min E 64 = E := by omega
  have m2 : min D 64 = D := by omega
  have c4 : ¬ (n : Int) ≤ (Q : Int) := by omega
  have c5 : ¬ n ≤ Q := by omega
  by_cases hD63 : D < 63
  · have hPb := hP2 hD63
    have c7 : Hid (IntKind.i64.wrap (P : Int) = (P : Int)) := Lib.hid (by rw [IntKind.wrap_i64]; omega)
    have c7' : Hid (wrap64 (P : Int) = (P : Int)) := Lib.hid (by unfold wrap64; omega)
    by_cases hn64 : 64 < n
    · exact walkA n D E P Q w CA CD b1 b2 b3 c1.out c2.out c3.out c3'.out m1 c4 c5 (by omega) c6.out c7.out c7'.out m2 (by omega) (by omega) (by omega)
    · exact walkC n D E P Q w CA CD C0 b1 b2 b3 c1.out c2.out c3.out c3'.out m1 c4 c5 (by omega) c6.out c7.out c7'.out m2 (by omega) (by omega) (by omega) (Lib.hid ⟨hw1, hwp (by omega)⟩)
  · refine walkB n D E Q w CA CD b1 b2 b3 c1.out c2.out c3.out c3'.out m1 c4 c5 (by omega) ?_
    rcases Nat.lt_or_ge Q 64 with h | h
    · have := hE6 h
      omega
    · omega

set_option maxRecDepth 100000 in
theorem lifted (os : Os) (started : os.Started) (H : Type) (enc : TypeId × Value → H) :
    ReturnsInHanded {} Tryd.checked os 7 .any (fun w args => (Rows.merkleDepthsSpec.pre enc Tryd.prog Tryd.f7 [] false w args ∧ laidMetH Tryd.prog laidT w) ∧ sizedMet enc Tryd.prog Tryd.f7 (OpenSpec.ofChange Rows.merkleDepthsSpec) false w args)
      (Rows.merkleDepthsSpec.post enc Tryd.prog Tryd.f7 false true false false) := by
  refine returnsInHanded_of_change_and (C := Tryd.checked) (X := fun w _ => laidMetH Tryd.prog laidT w) (fun _ _ _ hh h => h.of_heap hh) own started (by kernel_rfl) Tryd.func7
    (ChangeSpec.witness_shaped (enc := enc) (C := Tryd.checked) (os := os) (X := fun w _ => laidMetH Tryd.prog laidT w) false (World.doorLaid Tryd.prog 400 os) #[.int .i64 0] 8 rfl (World.shaped_of_RefB (by kernel_rfl) (by kernel_rfl)) (by kernel_rfl) (by kernel_rfl) (by kernel_rfl) (door_met os _)) ?_
  intro W base args ds gs before hval0 hW hcnd _ hL _
  have hval : ∀ (j : Nat) t v, Tryd.f7.params[j]? = some t → args[j]? = some v → Value.okWide Tryd.prog W .any base t v := hval0
  have hW' := hW
  obtain ⟨p, q, hA0, hV, rfl, hfz, hnd⟩ := hW
  have hA : DataW.TrodAll enc Tryd.prog W 0 (fun _ => true) true Tryd.f7.params.toList args.toList ds p := hA0
  rw [Tryd.params7] at hA hval
  obtain ⟨v0, vs0, d0, ds0, p0, q0, hargs, rfl, rfl, h0, r0⟩ := trodAll_cons hA
  obtain ⟨rfl, rfl, rfl⟩ := trodAll_nil r0
  obtain rfl : args = #[v0] := by cases args; simp_all
  obtain ⟨rfl, rfl⟩ := trodVars_none hV
  obtain ⟨a0, rfl, rfl, rfl, w0⟩ := open_int Tryd.underlying3 (hval 0 3 v0 rfl rfl) h0
  clear hA0 hval0
  refine (walk a0 W (tab_of hL) w0).mono fun e W' ⟨he, bel⟩ => ?_
  subst he
  exact ⟨_, rfl, _, _, _, [], _, [], hW', trodAll_mk1 (shut_bool Tryd.underlying4 _), (trodAll_cons_mk (shut_int Tryd.underlying3 w0) trodAll_mk0), rfl, bel.frame _, fun h => by cases h⟩

set_option maxRecDepth 100000 in
theorem over : Rows.merkleDepthsRow.holds Tryd.pinned (OpenSpec.ofChange Rows.merkleDepthsSpec) :=
  OpenClaim.holds_of_wide 7 Tryd.f7 rfl rfl rfl rfl rfl rfl rfl ⟨rfl, rfl, rfl, rfl, rfl⟩ rfl rfl rfl rfl rfl (by kernel_rfl) Tryd.func7 (by kernel_rfl)
    (of_decide_eq_true (by kernel_rfl)) (by unfold Func.isWrapper; first | (rw [if_pos (by decide +kernel)]; kernel_rfl) | (rw [if_neg (by decide +kernel)]; exact ⟨rfl, rfl⟩))
    (fun os started H enc _ => lifted os started H enc)

set_option maxRecDepth 100000 in
theorem proved : Rows.MerkleDepthsCardSaid :=
  Claim7.holds_tied_plain_at .later [] [.data, .data] true Rows.merkleDepthsCard.stood.harness false
    over (fun _ h => by cases h) (by kernel_rfl) (fun _ h => by cases h) merkleDepths_row_tie rfl ⟨rfl, rfl⟩ (by kernel_rfl) rfl
    (fun f fn hf hfn => by
      obtain rfl : f = 7 := Option.some.inj ((show Tryd.prog.funcNamed "masthead/mastheadlaw08.MerkleDepths" = some 7 by kernel_rfl).symm.trans hf) |>.symm
      obtain rfl : fn = Tryd.f7 := (Option.some.inj (Tryd.func7.symm.trans hfn)).symm
      exact ⟨by kernel_rfl, fun j t ht => by
        rw [Tryd.params7] at ht
        have hm : t ∈ [3] := by simpa using Array.mem_of_getElem? ht
        have hall : ([3].all fun u => !Tryd.prog.wantsStandIn u) = true := by kernel_rfl
        exact (show Tryd.prog.wantsStandIn t = false by simpa using List.all_eq_true.1 hall t hm)⟩)
    (by kernel_rfl)
end Go.Proofs.YtkhjadecichlkaaDoor.merkleDepths
