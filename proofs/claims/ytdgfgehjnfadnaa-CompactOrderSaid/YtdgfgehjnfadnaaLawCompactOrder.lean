/- Proved: of all two canonical compacts the greater one has the greater target. No condition. -/
import Derived.Test.YtdgfgehjnfadnaaRows
import Derived.Test.YtdgfgehjnfadnaaCmpA
import Derived.Test.YtdgfgehjnfadnaaCmpA
import Derived.Test.YtdgfgehjnfadnaaArrW
import Derived.Test.YtdgfgehjnfadnaaWidG
import Derived.ProofKit
import Derived.Deep.RegionHeld3
import Derived.Deep.CutRange
import Derived.Deep.DeepCutAuto
import Derived.OpenShut
import Derived.ShutString
import Derived.ChangeOld
import Derived.Test.YtdgfgehjnfadnaaOpen
namespace Go.Proofs.Ytdgfgehjnfadnaa.compactOrder
open Go.ChangeShapes Go.WideShapes Go.ChangeAt Go.RowKit
open Go.ChangeMaps (open_string shut_string)
set_option linter.unusedVariables false
set_option linter.unusedSimpArgs false

theorem own : ownKnob Try.prog.godebug = none := by kernel_rfl
theorem laidOut : laidOutB Try.prog = true := by kernel_rfl

set_option maxRecDepth 100000 in
set_option maxHeartbeats 4000000 in
theorem walk1 (c d : Nat) (hc : c < 2 ^ 32) (hd : d < 2 ^ 32) (k1 : canonC c = false) (w : World) : Calls Try.prog 9 #[.int .u32 (c : Int), .int .u32 (d : Int)] w (Ret w (.bool true)) := by
  have C1 : Hid (∀ W, Calls Try.prog 12 #[.int .u32 (c : Int)] W (Ret W (.bool false))) := Lib.hid fun W => by rw [← k1]; exact canon_calls c W hc
  clear hc hd k1
  go_enter Try.func9, Try.ntmps9
  go_wp2_with (first
    | (go_at_call 12; (with_reducible refine (C1.out _).mono ?_); rintro e' v1 ⟨rfl, d1⟩)
    | (go_at_call 13; refine (awake5_calls _).mono ?_; rintro e' va ⟨rfl, da⟩))
  all_goals go_ret
  all_goals exact ⟨rfl, show Still w va by ((repeat (first | with_reducible exact Still.refl _ | with_reducible assumption | with_reducible apply Still.alloc | with_reducible apply Still.drew | with_reducible refine Still.step ?_ (by assumption) | with_reducible refine Still.trans ?_ (by assumption))))⟩
set_option maxRecDepth 100000 in
set_option maxHeartbeats 4000000 in
theorem walk2 (c d : Nat) (hc : c < 2 ^ 32) (hd : d < 2 ^ 32) (k1 : canonC c = true) (k2 : canonC d = false) (w : World) : Calls Try.prog 9 #[.int .u32 (c : Int), .int .u32 (d : Int)] w (Ret w (.bool true)) := by
  have C1 : Hid (∀ W, Calls Try.prog 12 #[.int .u32 (c : Int)] W (Ret W (.bool true))) := Lib.hid fun W => by rw [← k1]; exact canon_calls c W hc
  have C2 : Hid (∀ W, Calls Try.prog 12 #[.int .u32 (d : Int)] W (Ret W (.bool false))) := Lib.hid fun W => by rw [← k2]; exact canon_calls d W hd
  clear hc hd k1 k2
  go_enter Try.func9, Try.ntmps9
  go_wp2_with (first
    | (go_at_call 12; (with_reducible refine (C1.out _).mono ?_); rintro e' v1 ⟨rfl, d1⟩)
    | (go_at_call 12; (with_reducible refine (C2.out _).mono ?_); rintro e' v2 ⟨rfl, d2⟩)
    | (go_at_call 13; refine (awake5_calls _).mono ?_; rintro e' va ⟨rfl, da⟩))
  all_goals go_ret
  all_goals exact ⟨rfl, show Still w va by ((repeat (first | with_reducible exact Still.refl _ | with_reducible assumption | with_reducible apply Still.alloc | with_reducible apply Still.drew | with_reducible refine Still.step ?_ (by assumption) | with_reducible refine Still.trans ?_ (by assumption))))⟩
theorem canon_parts {c : Nat} (h : canonC c = true) : tgt c = true ∧ bitsN (valC c) = c ∧ valC c < 2 ^ 256 := by
  unfold canonC at h
  simp only [Bool.and_eq_true, decide_eq_true_eq] at h
  have h2 := h.1
  unfold tgt at h2
  simp only [Bool.and_eq_true, decide_eq_true_eq] at h2
  exact ⟨h.1, h.2, h2.2⟩
theorem cmp_lt (x y : Nat) : cmpN x y < 0 ↔ x < y := by
  unfold cmpN
  by_cases h : x = y
  · simp [h]
  · rw [if_neg h]
    by_cases h2 : x < y
    · rw [if_pos h2]; simp [h2]
    · rw [if_neg h2]; simp [h2]
set_option maxRecDepth 100000 in
set_option maxHeartbeats 4000000 in
theorem walk3 (c d : Nat) (hc : c < 2 ^ 32) (hd : d < 2 ^ 32) (k1 : canonC c = true) (k2 : canonC d = true) (w : World) : Calls Try.prog 9 #[.int .u32 (c : Int), .int .u32 (d : Int)] w (Ret w (.bool true)) := by
  obtain ⟨t1, b1, l1⟩ := canon_parts k1
  obtain ⟨t2, b2, l2⟩ := canon_parts k2
  have ho := canon_order b1 b2
  obtain ⟨N, hN⟩ : ∃ N, N = valC c := ⟨_, rfl⟩
  obtain ⟨M, hM⟩ : ∃ M, M = valC d := ⟨_, rfl⟩
  rw [← hN, ← hM] at ho
  rw [← hN] at l1
  rw [← hM] at l2
  obtain ⟨z, hz⟩ : ∃ z, z = cmpN N M := ⟨_, rfl⟩
  obtain ⟨B, hB⟩ : ∃ B, B = decide (c < d) := ⟨_, rfl⟩
  obtain ⟨V, hV⟩ : ∃ X, X = cellsW (wd N) := ⟨_, rfl⟩
  have IV : Hid ((Try.prog.info? 25).map (·.size) = some V.length) := Lib.hid (by rw [hV]; exact sizeW _)
  have LV : Hid (zerosW.length = V.length) := Lib.hid (by rw [hV]; rfl)
  have OV : Hid (∀ v ∈ V, v.oneCell' = true) := Lib.hid (by rw [hV]; exact cellsW_one _)
  obtain ⟨Y, hY⟩ : ∃ X, X = cellsW (wd M) := ⟨_, rfl⟩
  have IY : Hid ((Try.prog.info? 25).map (·.size) = some Y.length) := Lib.hid (by rw [hY]; exact sizeW _)
  have LY : Hid (zerosW.length = Y.length) := Lib.hid (by rw [hY]; rfl)
  have OY : Hid (∀ v ∈ Y, v.oneCell' = true) := Lib.hid (by rw [hY]; exact cellsW_one _)
  have C1 : Hid (∀ W, Calls Try.prog 12 #[.int .u32 (c : Int)] W (Ret W (.bool true))) := Lib.hid fun W => by rw [← k1]; exact canon_calls c W hc
  have C2 : Hid (∀ W, Calls Try.prog 12 #[.int .u32 (d : Int)] W (Ret W (.bool true))) := Lib.hid fun W => by rw [← k2]; exact canon_calls d W hd
  have CT1 : Hid (∀ W, Calls Try.prog 10 #[.int .u32 (c : Int)] W (Ret W (.tuple #[.agg V.toArray, .int .i64 0]))) := Lib.hid fun W => by rw [hV, hN]; exact ctarget_yes c W hc t1
  have CT2 : Hid (∀ W, Calls Try.prog 10 #[.int .u32 (d : Int)] W (Ret W (.tuple #[.agg Y.toArray, .int .i64 0]))) := Lib.hid fun W => by rw [hY, hM]; exact ctarget_yes d W hd t2
  have CP : Hid (∀ W, Calls Try.prog 19 #[.agg V.toArray, .agg Y.toArray] W (Ret W (.int .i64 z))) := Lib.hid fun W => by rw [hV, hY, hz]; exact cmp_calls N M W l1 l2
  have e1 : decide ((c : Int) < (d : Int)) = B := by rw [hB]; apply decide_eq_decide.2; omega
  have e2 : decide (c < d) = B := hB.symm
  have e3 : decide (z < 0) = B := by rw [hB, hz]; apply decide_eq_decide.2; rw [cmp_lt, ho]
  clear hV hY hN hM hz hB ho t1 b1 l1 t2 b2 l2 k1 k2 hc hd
  go_enter Try.func9, Try.ntmps9
  go_wp2_with (first
    | (go_at_call 12; (with_reducible refine (C1.out _).mono ?_); rintro e' v1 ⟨rfl, d1⟩)
    | (go_at_call 12; (with_reducible refine (C2.out _).mono ?_); rintro e' v2 ⟨rfl, d2⟩)
    | (go_at_call 10; (with_reducible refine (CT1.out _).mono ?_); rintro e' v3 ⟨rfl, d3⟩)
    | ((with_reducible refine at_store 25 (.tmp 5) (.tmp 21) ?_); refine wpList_store_blk rfl 25 (.tmp 5) (.tmp 21) rfl v3.heap.size zerosW V _ rfl rfl (Blk.new v3 _ _) LV.out IV.out OV.out ?_; intro w4 hbw4 how4; have dw4 := Only.still how4; clear how4)
    | (go_at_call 10; (with_reducible refine (CT2.out _).mono ?_); rintro e' v5 ⟨rfl, d5⟩)
    | ((with_reducible refine at_store 25 (.tmp 7) (.tmp 26) ?_); refine wpList_store_blk rfl 25 (.tmp 7) (.tmp 26) rfl v5.heap.size zerosW Y _ rfl rfl (Blk.new v5 _ _) LY.out IY.out OY.out ?_; intro w6 hbw6 how6; have dw6 := Only.still how6; clear how6)
    | ((with_reducible refine at_load 25 (.tmp 5) ?_); refine wpList_load_mid rfl 25 (.tmp 5) rfl (v3.heap.size) 0 rfl V _ (Blk.range (t := 25) (by ((repeat (first | with_reducible assumption | with_reducible apply Blk.alloc | with_reducible apply Blk.drew | with_reducible refine Blk.step ?_ (by assumption) | with_reducible refine Blk.stepS ?_ (by assumption)))))) Try.underlying25 rfl IV.out ?_)
    | ((with_reducible refine at_load 25 (.tmp 7) ?_); refine wpList_load_mid rfl 25 (.tmp 7) rfl (v5.heap.size) 0 rfl Y _ (Blk.range (t := 25) (by ((repeat (first | with_reducible assumption | with_reducible apply Blk.alloc | with_reducible apply Blk.drew | with_reducible refine Blk.step ?_ (by assumption) | with_reducible refine Blk.stepS ?_ (by assumption)))))) Try.underlying25 rfl IY.out ?_)
    | (go_at_call 19; refine (CP.out _).mono ?_; rintro e' v7 ⟨rfl, d7⟩)
    | (go_at_call 13; refine (awake5_calls _).mono ?_; rintro e' va ⟨rfl, da⟩))
  all_goals go_ret
  all_goals exact ⟨rfl, show Still w va by ((repeat (first | with_reducible exact Still.refl _ | with_reducible assumption | with_reducible apply Still.alloc | with_reducible apply Still.drew | with_reducible refine Still.step ?_ (by assumption) | with_reducible refine Still.trans ?_ (by assumption))))⟩
theorem walk (x y : Int) (w : World) (hx : (Lit.int .u32 x).wf = true) (hy : (Lit.int .u32 y).wf = true) : Calls Try.prog 9 #[.int .u32 x, .int .u32 y] w (Ret w (.bool true)) := by
  have h1 := bounds_u32 hx
  have h2 := bounds_u32 hy
  obtain ⟨c, rfl⟩ : ∃ n : Nat, x = (n : Int) := ⟨x.toNat, by omega⟩
  obtain ⟨d, rfl⟩ : ∃ n : Nat, y = (n : Int) := ⟨y.toNat, by omega⟩
  cases k1 : canonC c
  · exact walk1 c d (by omega) (by omega) k1 w
  · cases k2 : canonC d
    · exact walk2 c d (by omega) (by omega) k1 k2 w
    · exact walk3 c d (by omega) (by omega) k1 k2 w

set_option maxRecDepth 100000 in
theorem lifted (os : Os) (started : os.Started) (H : Type) (enc : TypeId × Value → H) :
    ReturnsInHanded {} Try.checked os 9 .any (Rows.compactOrderSpec.pre6 enc Try.prog Try.f9 Rows.compactOrderRow.domain false) (Rows.compactOrderSpec.post enc Try.prog Try.f9 false true false false) := by
  refine returnsInHanded_of_change (C := Try.checked) own started (by kernel_rfl) Try.func9
    (ChangeSpec.witness6 (enc := enc) (C := Try.checked) false ⟨#[], #[.int .u32 0, .int .u32 0], []⟩ 8 (by kernel_rfl) (by kernel_rfl) (by kernel_rfl) (by kernel_rfl)) ?_
  intro W base args ds gs before hval0 hW hcnd _
  have hval : ∀ (j : Nat) t v, Try.f9.params[j]? = some t → args[j]? = some v → Value.okWide Try.prog W .any base t v := hval0
  have hW' := hW
  obtain ⟨p, q, hA0, hV, rfl, hfz, hnd⟩ := hW
  have hA : DataW.TrodAll enc Try.prog W 0 (fun _ => true) true Try.f9.params.toList args.toList ds p := hA0
  rw [Try.params9] at hA hval
  obtain ⟨v0, vs0, d0, ds0, p0, q0, hargs, rfl, rfl, h0, r0⟩ := trodAll_cons hA
  obtain ⟨v1, vs1, d1, ds1, p1, q1, rfl, rfl, rfl, h1, r1⟩ := trodAll_cons r0
  obtain ⟨rfl, rfl, rfl⟩ := trodAll_nil r1
  obtain rfl : args = #[v0, v1] := by cases args; simp_all
  obtain ⟨rfl, rfl⟩ := trodVars_none hV
  obtain ⟨a0, rfl, rfl, rfl, w0⟩ := open_int Try.underlying22 (hval 0 22 v0 rfl rfl) h0
  obtain ⟨a1, rfl, rfl, rfl, w1⟩ := open_int Try.underlying22 (hval 1 22 v1 rfl rfl) h1
  clear hA0 hval0
  refine (walk a0 a1 W w0 w1).mono fun e W' ⟨he, bel⟩ => ?_
  subst he
  exact ⟨_, rfl, _, _, _, [], _, [], hW', trodAll_mk1 (shut_bool Try.underlying4 _), (trodAll_cons_mk (shut_int Try.underlying22 w0) (trodAll_cons_mk (shut_int Try.underlying22 w1) trodAll_mk0)), rfl, bel.frame _, fun h => by cases h⟩

theorem over : Rows.compactOrderRow.holds Try.pinned (OpenSpec.ofChange Rows.compactOrderSpec) :=
  OpenClaim.holds_of_wide 9 Try.f9 rfl rfl rfl rfl rfl rfl rfl ⟨rfl, rfl, rfl, rfl, rfl⟩ rfl rfl rfl rfl rfl (by kernel_rfl) Try.func9 (by kernel_rfl)
    (of_decide_eq_true (by kernel_rfl)) (by unfold Func.isWrapper; first | (rw [if_pos (by decide +kernel)]; kernel_rfl) | (rw [if_neg (by decide +kernel)]; exact ⟨rfl, rfl⟩))
    (fun os started H enc _ => lifted os started H enc)

theorem proved : Rows.CompactOrderSaid := over
end Go.Proofs.Ytdgfgehjnfadnaa.compactOrder
