/- Proved: for all 32 bits with a target the compact of that target has it too and is canonical, and they are canonical just if they are that one. No condition. -/
import Derived.Test.YtdgfgehjnfadnaaRows
import Derived.Test.YtdgfgehjnfadnaaCmpA
import Derived.Test.YtdgfgehjnfadnaaCmpA
import Derived.Test.YtdgfgehjnfadnaaArrW
import Derived.ProofKit
import Derived.Deep.RegionHeld3
import Derived.Deep.CutRange
import Derived.Deep.DeepCutAuto
import Derived.OpenShut
import Derived.ShutString
import Derived.ChangeOld
import Derived.Test.YtdgfgehjnfadnaaOpen
namespace Go.Proofs.Ytdgfgehjnfadnaa.compactBack
open Go.ChangeShapes Go.WideShapes Go.ChangeAt Go.RowKit
open Go.ChangeMaps (open_string shut_string)
set_option linter.unusedVariables false
set_option linter.unusedSimpArgs false

theorem own : ownKnob Try.prog.godebug = none := by kernel_rfl
theorem laidOut : laidOutB Try.prog = true := by kernel_rfl

set_option maxRecDepth 100000 in
set_option maxHeartbeats 4000000 in
theorem walkNo (c : Nat) (hc : c < 2 ^ 32) (ht : tgt c = false) (w : World) : Calls Try.prog 6 #[.int .u32 (c : Int)] w (Ret w (.bool true)) := by
  obtain ⟨z, hz⟩ : ∃ z, z = 0 := ⟨_, rfl⟩
  obtain ⟨V, hV⟩ : ∃ X, X = cellsW (wd z) := ⟨_, rfl⟩
  have IV : Hid ((Try.prog.info? 25).map (·.size) = some V.length) := Lib.hid (by rw [hV]; exact sizeW _)
  have LV : Hid (zerosW.length = V.length) := Lib.hid (by rw [hV]; rfl)
  have OV : Hid (∀ v ∈ V, v.oneCell' = true) := Lib.hid (by rw [hV]; exact cellsW_one _)
  have CT : Hid (∀ W, Calls Try.prog 10 #[.int .u32 (c : Int)] W (Ret W (.tuple #[.agg V.toArray, .int .i64 5]))) := Lib.hid fun W => by rw [hV, hz]; exact ctarget_no c W hc ht
  clear hV hz hc ht
  go_enter Try.func6, Try.ntmps6
  go_wp2_with (first
    | (go_at_call 10; refine (CT.out _).mono ?_; rintro e' v1 ⟨rfl, d1⟩)
    | ((with_reducible refine at_store 25 (.tmp 3) (.tmp 11) ?_); refine wpList_store_blk rfl 25 (.tmp 3) (.tmp 11) rfl v1.heap.size zerosW V _ rfl rfl (Blk.new v1 _ _) LV.out IV.out OV.out ?_; intro w2 hbw2 how2; have dw2 := Only.still how2; clear how2)
    | (go_at_call 13; refine (awake5_calls _).mono ?_; rintro e' va ⟨rfl, da⟩))
  all_goals go_ret
  all_goals exact ⟨rfl, show Still w va by ((repeat (first | with_reducible exact Still.refl _ | with_reducible assumption | with_reducible apply Still.alloc | with_reducible apply Still.drew | with_reducible refine Still.step ?_ (by assumption) | with_reducible refine Still.trans ?_ (by assumption))))⟩
set_option maxRecDepth 100000 in
set_option maxHeartbeats 4000000 in
theorem walkYes (c : Nat) (hc : c < 2 ^ 32) (ht : tgt c = true) (w : World) : Calls Try.prog 6 #[.int .u32 (c : Int)] w (Ret w (.bool true)) := by
  have gU := guardU
  obtain ⟨N, hN⟩ : ∃ N, N = valC c := ⟨_, rfl⟩
  obtain ⟨b, hb⟩ : ∃ b, b = bitsN N := ⟨_, rfl⟩
  obtain ⟨K, hK⟩ : ∃ K, K = canonC c := ⟨_, rfl⟩
  have h3 : N ≠ 0 ∧ N < 2 ^ 256 := by
    have h := ht
    unfold tgt at h
    simp only [Bool.and_eq_true, decide_eq_true_eq] at h
    rw [hN]; exact ⟨h.1.2, h.2⟩
  obtain ⟨hN0, bN⟩ := h3
  have bb : b < 2 ^ 32 := by rw [hb]; exact bits_lt bN
  have tb : tgt b = true := by rw [hb]; exact tgt_bits hN0 bN
  have vb : valC b = N := by rw [hb, hN]; exact val_back c (by rw [← hN]; exact hN0)
  obtain ⟨V, hV⟩ : ∃ X, X = cellsW (wd N) := ⟨_, rfl⟩
  have IV : Hid ((Try.prog.info? 25).map (·.size) = some V.length) := Lib.hid (by rw [hV]; exact sizeW _)
  have LV : Hid (zerosW.length = V.length) := Lib.hid (by rw [hV]; rfl)
  have OV : Hid (∀ v ∈ V, v.oneCell' = true) := Lib.hid (by rw [hV]; exact cellsW_one _)
  have CT : Hid (∀ W, Calls Try.prog 10 #[.int .u32 (c : Int)] W (Ret W (.tuple #[.agg V.toArray, .int .i64 0]))) := Lib.hid fun W => by rw [hV, hN]; exact ctarget_yes c W hc ht
  have CT2 : Hid (∀ W, Calls Try.prog 10 #[.int .u32 (b : Int)] W (Ret W (.tuple #[.agg V.toArray, .int .i64 0]))) := Lib.hid fun W => by rw [hV, ← vb]; exact ctarget_yes b W bb tb
  have CB : Hid (∀ W, Calls Try.prog 16 #[.agg V.toArray] W (Ret W (.int .u32 (b : Int)))) := Lib.hid fun W => by rw [hV, hb]; exact cbits_calls N W bN
  have CC : Hid (∀ W, Calls Try.prog 12 #[.int .u32 (c : Int)] W (Ret W (.bool K))) := Lib.hid fun W => by rw [hK]; exact canon_calls c W hc
  have CC2 : Hid (∀ W, Calls Try.prog 12 #[.int .u32 (b : Int)] W (Ret W (.bool true))) := Lib.hid fun W => by
    have h := canon_calls b W bb
    unfold canonC at h
    rw [tb, vb, ← hb, decide_eq_true rfl] at h
    exact h
  have e1 : decide ((b : Int) = (c : Int)) = K := by
    rw [hK, hb, hN]
    unfold canonC
    rw [ht, Bool.true_and]
    apply decide_eq_decide.2
    omega
  have e2 : ((b : Int) == (c : Int)) = K := e1
  have e3 : decide (b = c) = K := by rw [← e1]; apply decide_eq_decide.2; omega
  have e4 : (b == c) = K := e3
  have heq : ∀ W, (Op.equalIn 10000 25 (.agg V.toArray) (.agg V.toArray)).run Try.prog W = .ok true W := fun W => by rw [hV]; exact u_same N W
  clear hV hN hb hK bN hN0 hc ht bb tb vb
  go_enter Try.func6, Try.ntmps6
  go_wp2_with (first
    | (go_at_call 10; (with_reducible refine (CT2.out _).mono ?_); rintro e' v3 ⟨rfl, d3⟩)
    | (go_at_call 10; (with_reducible refine (CT.out _).mono ?_); rintro e' v1 ⟨rfl, d1⟩)
    | ((with_reducible refine at_store 25 (.tmp 3) (.tmp 11) ?_); refine wpList_store_blk rfl 25 (.tmp 3) (.tmp 11) rfl v1.heap.size zerosW V _ rfl rfl (Blk.new v1 _ _) LV.out IV.out OV.out ?_; intro w2 hbw2 how2; have dw2 := Only.still how2; clear how2)
    | ((with_reducible refine at_load 25 (.tmp 3) ?_); refine wpList_load_mid rfl 25 (.tmp 3) rfl (v1.heap.size) 0 rfl V _ (Blk.range (t := 25) (by ((repeat (first | with_reducible assumption | with_reducible apply Blk.alloc | with_reducible apply Blk.drew | with_reducible refine Blk.step ?_ (by assumption) | with_reducible refine Blk.stepS ?_ (by assumption)))))) Try.underlying25 rfl IV.out ?_)
    | (go_at_call 16; refine (CB.out _).mono ?_; rintro e' v2 ⟨rfl, d2⟩)
    | ((with_reducible refine at_store 25 (.tmp 6) (.tmp 21) ?_); refine wpList_store_blk rfl 25 (.tmp 6) (.tmp 21) rfl v3.heap.size zerosW V _ rfl rfl (Blk.new v3 _ _) LV.out IV.out OV.out ?_; intro w4 hbw4 how4; have dw4 := Only.still how4; clear how4)
    | ((with_reducible refine at_loadg 25 (.tmp 6) ?_); refine wpList_load_midg ?_ 25 (.tmp 6) rfl (v3.heap.size) 0 rfl V _ (Blk.range (t := 25) (by ((repeat (first | with_reducible assumption | with_reducible apply Blk.alloc | with_reducible apply Blk.drew | with_reducible refine Blk.step ?_ (by assumption) | with_reducible refine Blk.stepS ?_ (by assumption)))))) Try.underlying25 rfl IV.out ?_; (focus (simp [Region.wanted, yielded, Act.put]; done)))
    | ((with_reducible refine at_loadg 25 (.tmp 3) ?_); refine wpList_load_midg ?_ 25 (.tmp 3) rfl (v1.heap.size) 0 rfl V _ (Blk.range (t := 25) (by ((repeat (first | with_reducible assumption | with_reducible apply Blk.alloc | with_reducible apply Blk.drew | with_reducible refine Blk.step ?_ (by assumption) | with_reducible refine Blk.stepS ?_ (by assumption)))))) Try.underlying25 rfl IV.out ?_; (focus (simp [Region.wanted, yielded, Act.put]; done)))
    | (go_at_call 12; (with_reducible refine (CC2.out _).mono ?_); rintro e' v5 ⟨rfl, d5⟩)
    | (go_at_call 12; (with_reducible refine (CC.out _).mono ?_); rintro e' v6 ⟨rfl, d6⟩)
    | (go_at_call 13; refine (awake5_calls _).mono ?_; rintro e' va ⟨rfl, da⟩))
  all_goals go_ret
  all_goals exact ⟨rfl, show Still w va by ((repeat (first | with_reducible exact Still.refl _ | with_reducible assumption | with_reducible apply Still.alloc | with_reducible apply Still.drew | with_reducible refine Still.step ?_ (by assumption) | with_reducible refine Still.trans ?_ (by assumption))))⟩
theorem walk (z : Int) (w : World) (hz : (Lit.int .u32 z).wf = true) : Calls Try.prog 6 #[.int .u32 z] w (Ret w (.bool true)) := by
  have hb := bounds_u32 hz
  obtain ⟨n, rfl⟩ : ∃ n : Nat, z = (n : Int) := ⟨z.toNat, by omega⟩
  cases ht : tgt n
  · exact walkNo n (by omega) ht w
  · exact walkYes n (by omega) ht w

set_option maxRecDepth 100000 in
theorem lifted (os : Os) (started : os.Started) (H : Type) (enc : TypeId × Value → H) :
    ReturnsInHanded {} Try.checked os 6 .any (Rows.compactBackSpec.pre6 enc Try.prog Try.f6 Rows.compactBackRow.domain false) (Rows.compactBackSpec.post enc Try.prog Try.f6 false true false false) := by
  refine returnsInHanded_of_change (C := Try.checked) own started (by kernel_rfl) Try.func6
    (ChangeSpec.witness6 (enc := enc) (C := Try.checked) false ⟨#[], #[.int .u32 0], []⟩ 8 (by kernel_rfl) (by kernel_rfl) (by kernel_rfl) (by kernel_rfl)) ?_
  intro W base args ds gs before hval0 hW hcnd _
  have hval : ∀ (j : Nat) t v, Try.f6.params[j]? = some t → args[j]? = some v → Value.okWide Try.prog W .any base t v := hval0
  have hW' := hW
  obtain ⟨p, q, hA0, hV, rfl, hfz, hnd⟩ := hW
  have hA : DataW.TrodAll enc Try.prog W 0 (fun _ => true) true Try.f6.params.toList args.toList ds p := hA0
  rw [Try.params6] at hA hval
  obtain ⟨v0, vs0, d0, ds0, p0, q0, hargs, rfl, rfl, h0, r0⟩ := trodAll_cons hA
  obtain ⟨rfl, rfl, rfl⟩ := trodAll_nil r0
  obtain rfl : args = #[v0] := by cases args; simp_all
  obtain ⟨rfl, rfl⟩ := trodVars_none hV
  obtain ⟨a0, rfl, rfl, rfl, w0⟩ := open_int Try.underlying22 (hval 0 22 v0 rfl rfl) h0
  clear hA0 hval0
  refine (walk a0 W w0).mono fun e W' ⟨he, bel⟩ => ?_
  subst he
  exact ⟨_, rfl, _, _, _, [], _, [], hW', trodAll_mk1 (shut_bool Try.underlying4 _), (trodAll_cons_mk (shut_int Try.underlying22 w0) trodAll_mk0), rfl, bel.frame _, fun h => by cases h⟩

theorem over : Rows.compactBackRow.holds Try.pinned (OpenSpec.ofChange Rows.compactBackSpec) :=
  OpenClaim.holds_of_wide 6 Try.f6 rfl rfl rfl rfl rfl rfl rfl ⟨rfl, rfl, rfl, rfl, rfl⟩ rfl rfl rfl rfl rfl (by kernel_rfl) Try.func6 (by kernel_rfl)
    (of_decide_eq_true (by kernel_rfl)) (by unfold Func.isWrapper; first | (rw [if_pos (by decide +kernel)]; kernel_rfl) | (rw [if_neg (by decide +kernel)]; exact ⟨rfl, rfl⟩))
    (fun os started H enc _ => lifted os started H enc)

theorem proved : Rows.CompactBackSaid := over
end Go.Proofs.Ytdgfgehjnfadnaa.compactBack
