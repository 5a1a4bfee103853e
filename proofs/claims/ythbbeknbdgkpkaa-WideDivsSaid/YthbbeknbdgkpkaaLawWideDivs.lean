/- Proved: for every wide number and every divisor the quotient and the rest are what the document's digits say, by 0 too, and the arguments read as they did. No condition. -/
import Derived.Test.YthbbeknbdgkpkaaRows
import Derived.Test.YthbbeknbdgkpkaaWidK
import Derived.Test.YthbbeknbdgkpkaaBigN
import Derived.Test.YthbbeknbdgkpkaaArrW
import Derived.ProofKit
import Derived.Deep.RegionHeld3
import Derived.Deep.CutRange
import Derived.Deep.DeepCutAuto
import Derived.OpenShut
import Derived.ShutString
import Derived.ChangeOld
import Derived.Test.YthbbeknbdgkpkaaOpen
namespace Go.Proofs.Ythbbeknbdgkpkaa.wideDivs
open Go.ChangeShapes Go.WideShapes Go.ChangeAt Go.RowKit
open Go.ChangeMaps (open_string shut_string)
set_option linter.unusedVariables false

theorem own : ownKnob Try.prog.godebug = none := by kernel_rfl
theorem laidOut : laidOutB Try.prog = true := by kernel_rfl

theorem one_rdu {w W : World} (r : Nat) (g : Nat) (h : Blk W g [.int .u64 (r : Int)] 22) : RdU W (some ⟨g, 0, none⟩) 1 [r] :=
  ⟨rfl, fun _ => ⟨g, 0, rfl, h.lt, fun j hj => by
    have : j = 0 := by simpa using hj
    subst this
    rw [h.cell]; rfl⟩⟩
theorem of1_calls (r : Nat) (hr : r < 2 ^ 64) (W w : World) (g : Nat) (h : Blk W g [.int .u64 (r : Int)] 22) : Calls Try.prog 23 #[.slice (some ⟨g, 0, none⟩) 1 1] W (MkB W r) := by
  have hc := of_calls (some ⟨g, 0, none⟩) 1 1 [r] W (by omega) (fun x hx => by simp at hx; omega) (one_rdu (w := w) r g h)
  have e : valW [r] = r := by simp [valW]
  rw [e] at hc
  exact hc
theorem blk_one (W : World) (r : Nat) (t : TypeId) : Blk (W.alloc (.cells #[.int .u64 (r : Int)] t)) W.heap.size [.int .u64 (r : Int)] t := Blk.new W _ t
theorem blk_one2 (W : World) (r : Nat) (t : TypeId) (g : Nat) (h : W.heap.size = g) : Blk (W.alloc (.cells #[.int .u64 (r : Int)] t)) g [.int .u64 (r : Int)] t := Blk.new' W _ t g h
theorem blk_step {w w' : World} {g : Nat} {cs : List Value} {t : TypeId} (h : Blk w g cs t) (hb : Below w.heap.size w w') : Blk w' g cs t := h.below hb h.lt
set_option maxRecDepth 100000 in
set_option maxHeartbeats 8000000 in
theorem walk0 (x : Nat) (w : World) (hx : x < 2 ^ 256) : Calls Try.prog 5 #[.agg (uA x), .int .u64 0] w (Ret w (.bool true)) := by
  have gU := guardU
  have heq : ∀ W, (Op.equalIn 10000 24 (.agg (cellsW (wd 0)).toArray) (.agg #[.int .u64 0, .int .u64 0, .int .u64 0, .int .u64 0])).run Try.prog W = .ok true W := fun W => u_same 0 W
  have CD : Hid (∀ W, Calls Try.prog 26 #[.agg (cellsW (wd x)).toArray, .int .u64 0] W (Ret W (.tuple #[.agg (cellsW (wd 0)).toArray, .int .u64 0]))) := Lib.hid fun W => div0_calls x W
  have HA : Hid (Blk (w.alloc (.cells (uA x) 24)) w.heap.size (cellsW (wd x)) 24 ∧ Below w.heap.size w (w.alloc (.cells (uA x) 24))) := Lib.hid ⟨Blk.new w (uA x) _, (Below.refl _ w).alloc (Nat.le_refl _) _⟩
  obtain ⟨F, hF⟩ : ∃ F, F = wd 0 := ⟨_, rfl⟩
  rw [← hF] at heq CD
  clear hF
  go_enter Try.func5, Try.ntmps5
  go_wp2_with (first
    | (refine at_load 24 (.tmp 2) ?_; refine wpList_load_mid rfl 24 (.tmp 2) rfl w.heap.size 0 rfl (cellsW (wd x)) _ HA.out.1.range Try.underlying24 rfl (sizeW _) ?_)
    | (go_at_call 26; refine (CD.out _).mono ?_; rintro e' w1 ⟨rfl, b1⟩)
    | (refine at_store 24 (.tmp 5) (.tmp 11) ?_; refine wpList_store_blk rfl 24 (.tmp 5) (.tmp 11) rfl w1.heap.size zerosW (cellsW F) _ rfl rfl (Blk.new w1 _ _) rfl (sizeW _) (cellsW_one _) ?_; intro w2 hb2 ho2)
    | (refine at_load 24 (.tmp 5) ?_; refine wpList_load_mid rfl 24 (.tmp 5) rfl w1.heap.size 0 rfl (cellsW F) _ hb2.range Try.underlying24 rfl (sizeW _) ?_)
    | (go_at_call 20; refine (awake4_calls _).mono ?_; rintro e' w4 ⟨rfl, b4⟩))
  go_ret
  refine ⟨rfl, Below.trans (b := w2) ?_ (b4.mono ?_)⟩
  · exact ((HA.out.2.trans (b1.mono HA.out.2.size)).alloc (by have := b1.size; have := HA.out.2.size; omega) _).trans (ho2.below (by have := b1.size; have := HA.out.2.size; omega))
  · have := ho2.size; have := b1.size; have := HA.out.2.size; simp at *; omega
set_option maxRecDepth 100000 in
set_option maxHeartbeats 16000000 in
theorem walkN (x n : Nat) (w : World) (hx : x < 2 ^ 256) (hn : n < 2 ^ 64) (hn0 : n ≠ 0) : Calls Try.prog 5 #[.agg (uA x), .int .u64 (n : Int)] w (Ret w (.bool true)) := by
  obtain ⟨q, hq⟩ : ∃ q, q = x / n := ⟨_, rfl⟩
  obtain ⟨r, hr⟩ : ∃ r, r = x % n := ⟨_, rfl⟩
  have hq256 : q < 2 ^ 256 := by rw [hq]; exact Nat.lt_of_le_of_lt (Nat.div_le_self _ _) hx
  have hrn : r < n := by rw [hr]; exact Nat.mod_lt _ (by omega)
  have hdm : q * n + r = x := by rw [hq, hr, Nat.mul_comm]; exact Nat.div_add_mod x n
  have nb : ((n : Int) == 0) = false := by simp; omega
  have nn : ¬ (n : Int) = 0 := by omega
  have CD : Hid (∀ W, Calls Try.prog 26 #[.agg (cellsW (wd x)).toArray, .int .u64 (n : Int)] W (Ret W (.tuple #[.agg (cellsW (wd q)).toArray, .int .u64 (r : Int)]))) := Lib.hid fun W => by rw [hq, hr]; exact div_calls x n W hx hn hn0
  have HA : Hid (Blk (w.alloc (.cells (uA x) 24)) w.heap.size (cellsW (wd x)) 24 ∧ Below w.heap.size w (w.alloc (.cells (uA x) 24))) := Lib.hid ⟨Blk.new w (uA x) _, (Below.refl _ w).alloc (Nat.le_refl _) _⟩
  have FX : Hid (∀ w1 w2, Below (w.alloc (.cells (uA x) 24)).heap.size (w.alloc (.cells (uA x) 24)) w1 → Only w1.heap.size (w1.alloc (.cells #[.int .u64 0, .int .u64 0, .int .u64 0, .int .u64 0] 24)) w2 → Blk w2 w.heap.size (cellsW (wd x)) 24 ∧ Below w.heap.size w w2) := Lib.hid fun w1 w2 b1 ho => by
    have l1 := b1.size
    have l2 := HA.out.1.lt
    exact ⟨ho.blk ((HA.out.1.below b1 HA.out.1.lt).alloc _) (by omega), ((HA.out.2.trans (b1.mono HA.out.2.size)).alloc (by have := HA.out.2.size; omega) _).trans (ho.below (by have := HA.out.2.size; omega))⟩
  have CB1 : Hid (∀ W, Calls Try.prog 12 #[.agg #[.int .u64 (wd q 0 : Int), .int .u64 (wd q 1 : Int), .int .u64 (wd q 2 : Int), .int .u64 (wd q 3 : Int)]] W (MkB W q)) := Lib.hid fun W => big_callsN q W hq256
  have CB2 : Hid (∀ W, Calls Try.prog 12 #[.agg #[.int .u64 (wd x 0 : Int), .int .u64 (wd x 1 : Int), .int .u64 (wd x 2 : Int), .int .u64 (wd x 3 : Int)]] W (MkB W x)) := Lib.hid fun W => big_callsN x W hx
  have CO1 : Hid (∀ W g, Blk W g [.int .u64 (r : Int)] 22 → Calls Try.prog 23 #[.slice (some ⟨g, 0, none⟩) 1 1] W (MkB W r)) := Lib.hid fun W g h => of1_calls r (by omega) W W g h
  have CO2 : Hid (∀ W g, Blk W g [.int .u64 (n : Int)] 22 → Calls Try.prog 23 #[.slice (some ⟨g, 0, none⟩) 1 1] W (MkB W n)) := Lib.hid fun W g h => of1_calls n hn W W g h
  have CI : Hid (∀ W A1 n1 c1 A2 n2 c2 A3 n3 c3 A4 n4 c4, RdI W A1 n1 (digs q) → RdI W A2 n2 (digs r) → RdI W A3 n3 (digs x) → RdI W A4 n4 (digs n) → Calls Try.prog 27 #[.slice A1 n1 c1, .slice A2 n2 c2, .slice A3 n3 c3, .slice A4 n4 c4] W (Ret W (.bool true))) := Lib.hid fun W A1 n1 c1 A2 n2 c2 A3 n3 c3 A4 n4 c4 h1 h2 h3 h4 =>
    bis_calls A1 A2 A3 A4 n1 n2 n3 n4 c1 c2 c3 c4 q r x n W (by have := digs_le h1 (k := 16) (by rw [p16]; exact hq256); omega) (by have := digs_le h2 (k := 16) (by rw [p16]; omega); omega) (by have := digs_le h3 (k := 16) (by rw [p16]; exact hx); omega) (by have := digs_le h4 (k := 16) (by rw [p16]; omega); omega) h1 h2 h3 h4 hrn hdm
  clear hq hr hq256 hrn hdm hx hn hn0
  go_enter Try.func5, Try.ntmps5
  go_upto_region 4 with (first
    | (refine at_load 24 (.tmp 2) ?_; refine wpList_load_mid rfl 24 (.tmp 2) rfl w.heap.size 0 rfl (cellsW (wd x)) _ HA.out.1.range Try.underlying24 rfl (sizeW _) ?_)
    | (go_at_call 26; refine (CD.out _).mono ?_; rintro e' w1 ⟨rfl, b1⟩)
    | (refine at_store 24 (.tmp 5) (.tmp 11) ?_; refine wpList_store_blk rfl 24 (.tmp 5) (.tmp 11) rfl w1.heap.size zerosW (cellsW (wd q)) _ rfl rfl (Blk.new w1 _ _) rfl (sizeW _) (cellsW_one _) ?_; intro w2 hb2 ho2; obtain ⟨hbx, hbel⟩ := FX.out w1 w2 b1 ho2))
  have K0 : Hid (∀ W, Still w2 W → W.cell? ⟨w1.heap.size, 0, none⟩ = some (.int .u64 (wd q 0 : Int)) ∧ W.cell? ⟨w1.heap.size, 1, none⟩ = some (.int .u64 (wd q 1 : Int)) ∧ W.cell? ⟨w1.heap.size, 2, none⟩ = some (.int .u64 (wd q 2 : Int)) ∧ W.cell? ⟨w1.heap.size, 3, none⟩ = some (.int .u64 (wd q 3 : Int)) ∧ W.cell? ⟨w.heap.size, 0, none⟩ = some (.int .u64 (wd x 0 : Int)) ∧ W.cell? ⟨w.heap.size, 1, none⟩ = some (.int .u64 (wd x 1 : Int)) ∧ W.cell? ⟨w.heap.size, 2, none⟩ = some (.int .u64 (wd x 2 : Int)) ∧ W.cell? ⟨w.heap.size, 3, none⟩ = some (.int .u64 (wd x 3 : Int)) ∧ Still w2 W) := Lib.hid fun W h =>
    ⟨(hb2.below h hb2.lt).cell 0, (hb2.below h hb2.lt).cell 1, (hb2.below h hb2.lt).cell 2, (hb2.below h hb2.lt).cell 3, (hbx.below h hbx.lt).cell 0, (hbx.below h hbx.lt).cell 1, (hbx.below h hbx.lt).cell 2, (hbx.below h hbx.lt).cell 3, h⟩
  have HB := Lib.hid hbel
  clear hb2 ho2 hbx hbel b1
  go_region_held3 (fun W => W.cell? ⟨w1.heap.size, 0, none⟩ = some (.int .u64 (wd q 0 : Int)) ∧ W.cell? ⟨w1.heap.size, 1, none⟩ = some (.int .u64 (wd q 1 : Int)) ∧ W.cell? ⟨w1.heap.size, 2, none⟩ = some (.int .u64 (wd q 2 : Int)) ∧ W.cell? ⟨w1.heap.size, 3, none⟩ = some (.int .u64 (wd q 3 : Int)) ∧ W.cell? ⟨w.heap.size, 0, none⟩ = some (.int .u64 (wd x 0 : Int)) ∧ W.cell? ⟨w.heap.size, 1, none⟩ = some (.int .u64 (wd x 1 : Int)) ∧ W.cell? ⟨w.heap.size, 2, none⟩ = some (.int .u64 (wd x 2 : Int)) ∧ W.cell? ⟨w.heap.size, 3, none⟩ = some (.int .u64 (wd x 3 : Int)) ∧ Still w2 W)
    (exact K0.out _ (by ((repeat (first | exact Still.refl _ | apply Still.alloc | apply Still.drew | refine Still.step ?_ (by assumption))))))
    (first
    | (go_at_call_of 12 (wd q 0); refine (CB1.out _).mono ?_; rintro e' v1 ⟨A1, n1, c1, rfl, h1, h1c, h1m, d1⟩)
    | (go_at_call_of 12 (wd x 0); refine (CB2.out _).mono ?_; rintro e' v3 ⟨A3, n3, c3, rfl, h3, h3c, h3m, d3⟩)
    | (go_at_call 23; refine (CO1.out _ _ ?_).mono ?_; (focus (((repeat (first | exact blk_one _ _ _ | (refine blk_one2 _ _ _ _ ?_; (simp; done)) | apply Blk.alloc | refine blk_step ?_ (by assumption)))); done)); rintro e' v2 ⟨A2, n2, c2, rfl, h2, h2c, h2m, d2⟩)
    | (go_at_call 23; refine (CO2.out _ _ ?_).mono ?_; (focus (((repeat (first | exact blk_one _ _ _ | (refine blk_one2 _ _ _ _ ?_; (simp; done)) | apply Blk.alloc | refine blk_step ?_ (by assumption)))); done)); rintro e' v4 ⟨A4, n4, c4, rfl, h4, h4c, h4m, d4⟩)
    | (go_at_call 27; refine (CI.out _ _ _ _ _ _ _ _ _ _ _ _ _ (h1.below (by ((repeat (first | exact Still.refl _ | apply Still.alloc | apply Still.drew | refine Still.step ?_ (by assumption)))))) (h2.below (by ((repeat (first | exact Still.refl _ | apply Still.alloc | apply Still.drew | refine Still.step ?_ (by assumption)))))) (h3.below (by ((repeat (first | exact Still.refl _ | apply Still.alloc | apply Still.drew | refine Still.step ?_ (by assumption)))))) (h4.below (by ((repeat (first | exact Still.refl _ | apply Still.alloc | apply Still.drew | refine Still.step ?_ (by assumption))))))).mono ?_; rintro e' v5 ⟨rfl, d5⟩)
    | (go_at_call 20; refine (awake4_calls _).mono ?_; rintro e' v6 ⟨rfl, d6⟩))
  all_goals go_wp2
  all_goals go_ret
  all_goals (refine ⟨rfl, HB.out.trans (Below.mono (show Still w2 v6 by ((repeat (first | exact Still.refl _ | apply Still.alloc | apply Still.drew | refine Still.step ?_ (by assumption))))) HB.out.size)⟩)
theorem walk (u : U4) (z : Int) (w : World) (hu : u.ok) (hz : (Lit.int .u64 z).wf = true) : Calls Try.prog 5 #[.agg u.arr, .int .u64 z] w (Ret w (.bool true)) := by
  have hb := bounds_u64 hz
  obtain ⟨n, rfl⟩ : ∃ n : Nat, z = (n : Int) := ⟨z.toNat, by omega⟩
  rw [u.uA hu]
  by_cases h0 : n = 0
  · subst h0; exact walk0 u.val w (u.val_lt hu)
  · exact walkN u.val n w (u.val_lt hu) (by omega) h0

set_option maxRecDepth 100000 in
theorem lifted (os : Os) (started : os.Started) (H : Type) (enc : TypeId × Value → H) :
    ReturnsInHanded {} Try.checked os 5 .any (Rows.wideDivsSpec.pre6 enc Try.prog Try.f5 Rows.wideDivsRow.domain false) (Rows.wideDivsSpec.post enc Try.prog Try.f5 false true false false) := by
  refine returnsInHanded_of_change (C := Try.checked) own started (by kernel_rfl) Try.func5
    (ChangeSpec.witness6 (enc := enc) (C := Try.checked) false ⟨#[], #[.agg #[.int .u64 0, .int .u64 0, .int .u64 0, .int .u64 0], .int .u64 0], []⟩ 8 (by kernel_rfl) (by kernel_rfl) (by kernel_rfl) (by kernel_rfl)) ?_
  intro W base args ds gs before hval0 hW hcnd _
  have hval : ∀ (j : Nat) t v, Try.f5.params[j]? = some t → args[j]? = some v → Value.okWide Try.prog W .any base t v := hval0
  have hW' := hW
  obtain ⟨p, q, hA0, hV, rfl, hfz, hnd⟩ := hW
  have hA : DataW.TrodAll enc Try.prog W 0 (fun _ => true) true Try.f5.params.toList args.toList ds p := hA0
  rw [Try.params5] at hA hval
  obtain ⟨v0, vs0, d0, ds0, p0, q0, hargs, rfl, rfl, h0, r0⟩ := trodAll_cons hA
  obtain ⟨v1, vs1, d1, ds1, p1, q1, rfl, rfl, rfl, h1, r1⟩ := trodAll_cons r0
  obtain ⟨rfl, rfl, rfl⟩ := trodAll_nil r1
  obtain rfl : args = #[v0, v1] := by cases args; simp_all
  obtain ⟨rfl, rfl⟩ := trodVars_none hV
  have k0 := h0
  have lt0 : ∀ x ∈ p0, x.block < W.heap.size := by obtain ⟨m, hm⟩ := k0; exact DataW.trod_lt m _ _ _ hm
  obtain ⟨a0, rfl, w0⟩ := arrW (hval 0 24 v0 rfl rfl) h0
  obtain ⟨a1, rfl, rfl, rfl, w1⟩ := open_int Try.underlying22 (hval 1 22 v1 rfl rfl) h1
  clear hA0 hval0
  refine (walk a0 a1 W w0 w1).mono fun e W' ⟨he, bel⟩ => ?_
  subst he
  exact ⟨_, rfl, _, _, _, [], _, [], hW', trodAll_mk1 (shut_bool Try.underlying4 _), (trodAll_cons_mk (Below.trod laidOut (by kernel_rfl) (of_decide_eq_true (by kernel_rfl)) k0 bel lt0) (trodAll_cons_mk (shut_int Try.underlying22 w1) trodAll_mk0)), rfl, bel.frame _, fun h => by cases h⟩

theorem over : Rows.wideDivsRow.holds Try.pinned (OpenSpec.ofChange Rows.wideDivsSpec) :=
  OpenClaim.holds_of_wide 5 Try.f5 rfl rfl rfl rfl rfl rfl rfl ⟨rfl, rfl, rfl, rfl, rfl⟩ rfl rfl rfl rfl rfl (by kernel_rfl) Try.func5 (by kernel_rfl)
    (of_decide_eq_true (by kernel_rfl)) (by unfold Func.isWrapper; first | (rw [if_pos (by decide +kernel)]; kernel_rfl) | (rw [if_neg (by decide +kernel)]; exact ⟨rfl, rfl⟩))
    (fun os started H enc _ => lifted os started H enc)

theorem proved : Rows.WideDivsSaid := over
end Go.Proofs.Ythbbeknbdgkpkaa.wideDivs
