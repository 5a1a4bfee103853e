/- Proved: for every wide number and every number of 64 bits the product, and what is above 256 bits, are what the document's digits say, and the arguments read as they did. No condition. -/
import Derived.Test.YthbbeknbdgkpkaaRows
import Derived.Test.YthbbeknbdgkpkaaWidK
import Derived.Test.YthbbeknbdgkpkaaBigN
import Derived.Test.YthbbeknbdgkpkaaArrW
import Derived.ProofKit
import Derived.Deep.RegionHeld3
import Derived.Deep.CutRange
import Derived.Deep.DeepCutAuto
import Derived.OpenShut
import Derived.ShutString
import Derived.ChangeOld
import Derived.Test.YthbbeknbdgkpkaaOpen
namespace Go.Proofs.Ythbbeknbdgkpkaa.wideMuls
open Go.ChangeShapes Go.WideShapes Go.ChangeAt Go.RowKit
open Go.ChangeMaps (open_string shut_string)
set_option linter.unusedVariables false

theorem own : ownKnob Try.prog.godebug = none := by kernel_rfl
theorem laidOut : laidOutB Try.prog = true := by kernel_rfl

theorem one_rdu {w W : World} (r : Nat) (g : Nat) (h : Blk W g [.int .u64 (r : Int)] 22) : RdU W (some ⟨g, 0, none⟩) 1 [r] :=
  ⟨rfl, fun _ => ⟨g, 0, rfl, h.lt, fun j hj => by
    have : j = 0 := by simpa using hj
    subst this
    rw [h.cell]; rfl⟩⟩
theorem of1_calls (r : Nat) (hr : r < 2 ^ 64) (W w : World) (g : Nat) (h : Blk W g [.int .u64 (r : Int)] 22) : Calls Try.prog 23 #[.slice (some ⟨g, 0, none⟩) 1 1] W (MkB W r) := by
  have hc := of_calls (some ⟨g, 0, none⟩) 1 1 [r] W (by omega) (fun x hx => by simp at hx; omega) (one_rdu (w := w) r g h)
  have e : valW [r] = r := by simp [valW]
  rw [e] at hc
  exact hc
theorem blk_one (W : World) (r : Nat) (t : TypeId) : Blk (W.alloc (.cells #[.int .u64 (r : Int)] t)) W.heap.size [.int .u64 (r : Int)] t := Blk.new W _ t
set_option maxRecDepth 100000 in
set_option maxHeartbeats 16000000 in
theorem walkN (x n : Nat) (w : World) (hx : x < 2 ^ 256) (hn : n < 2 ^ 64) : Calls Try.prog 4 #[.agg (uA x), .int .u64 (n : Int)] w (Ret w (.bool true)) := by
  have hxn : x * n < 65536 ^ 20 := two_digs (j := 16) (k := 4) (by rw [p16]; exact hx) (by omega)
  have hHl : x * n / 2 ^ 256 < 2 ^ 64 := by
    apply Nat.div_lt_of_lt_mul
    calc x * n ≤ x * 2 ^ 64 := Nat.mul_le_mul_left _ (by omega)
      _ < 2 ^ 256 * 2 ^ 64 := Nat.mul_lt_mul_of_pos_right hx (by decide)
  have CM0 : ∀ W, Calls Try.prog 21 #[.agg (cellsW (wd x)).toArray, .int .u64 (n : Int)] W (Ret W (.tuple #[.agg (cellsW (wd (x * n))).toArray, .int .u64 ((x * n / 2 ^ 256 : Nat) : Int)])) := fun W => mul_calls x n W hx hn
  obtain ⟨N, hN⟩ : ∃ N, N = x * n := ⟨_, rfl⟩
  obtain ⟨Hh, hHh⟩ : ∃ Hh, Hh = N / 2 ^ 256 := ⟨_, rfl⟩
  rw [← hN, ← hHh] at CM0
  rw [← hN] at hxn hHl
  rw [← hHh] at hHl
  obtain ⟨L, hL⟩ : ∃ L, L = N % 2 ^ 256 := ⟨_, rfl⟩
  have hLl : L < 2 ^ 256 := by rw [hL]; exact Nat.mod_lt _ (by decide)
  have hLN : uA L = uA N := by rw [hL]; exact uA_mod N
  have CM := Lib.hid CM0
  have CB : Hid (∀ W, Calls Try.prog 12 #[.agg (cellsW (wd x)).toArray] W (MkB W x)) := Lib.hid fun W => big_callsN x W hx
  have CO : Hid (∀ W g, Blk W g [.int .u64 (n : Int)] 22 → Calls Try.prog 23 #[.slice (some ⟨g, 0, none⟩) 1 1] W (MkB W n)) := Lib.hid fun W g h => of1_calls n hn W W g h
  have CU : Hid (∀ W A1 n1 c1 A2 n2 c2, RdI W A1 n1 (digs x) → RdI W A2 n2 (digs n) → Calls Try.prog 22 #[.slice A1 n1 c1, .slice A2 n2 c2] W (MkB W N)) := Lib.hid fun W A1 n1 c1 A2 n2 c2 h1 h2 => by
    rw [hN]; exact bmul_calls A1 A2 n1 n2 c1 c2 x n W (by have := digs_le h1 (k := 16) (by rw [p16]; exact hx); omega) (by have := digs_le h2 (k := 16) (by rw [p16]; omega); omega) h1 h2
  have CL : Hid (∀ W A n1 c, RdI W A n1 (digs N) → n1 ≤ c → Calls Try.prog 16 #[.slice A n1 c] W (MkB W L)) := Lib.hid fun W A n1 c h hc => by
    rw [hL]; exact low_calls A n1 c N W (by have := digs_le h hxn; omega) hc h
  have CH : Hid (∀ W A n1 c, RdI W A n1 (digs N) → n1 ≤ c → Calls Try.prog 25 #[.slice A n1 c] W (MkB W Hh)) := Lib.hid fun W A n1 c h hc => by
    rw [hHh]; exact high_calls A n1 c N W (by have := digs_le h hxn; omega) hc h
  have CS : Hid (∀ W A n1 c, RdI W A n1 (digs L) → Calls Try.prog 15 #[.agg #[.int .u64 (wd N 0 : Int), .int .u64 (wd N 1 : Int), .int .u64 (wd N 2 : Int), .int .u64 (wd N 3 : Int)], .slice A n1 c] W (Ret W (.bool true))) := Lib.hid fun W A n1 c h => by
    have h2 := is_callsN L A n1 c W hLl h
    rw [hLN] at h2
    exact h2
  obtain ⟨a1, a2, a3, hws⟩ : ∃ a1 a2 a3 : Int, ws4 (digs Hh) 0 = [.int .u64 (Hh : Int), .int .u64 a1, .int .u64 a2, .int .u64 a3] := by
    refine ⟨(wk (digs Hh) 0 1 : Int), (wk (digs Hh) 0 2 : Int), (wk (digs Hh) 0 3 : Int), ?_⟩
    unfold ws4
    rw [wk_val _ 0 (digs_lt Hh), val_digs, Nat.mul_zero, Nat.pow_zero, Nat.div_one, Nat.mod_eq_of_lt hHl]
  have CW : Hid (∀ W A n1 c, RdI W A n1 (digs Hh) → Calls Try.prog 24 #[.slice A n1 c] W (Ret W (.agg #[.int .u64 (Hh : Int), .int .u64 a1, .int .u64 a2, .int .u64 a3]))) := Lib.hid fun W A n1 c h => by
    have h2 := bwords_calls A n1 c (digs Hh) W (digs_le h (by rw [p16]; omega)) (digs_lt _) h
    rw [hws] at h2
    exact h2
  have hix : ∀ W, (Instr.index 23 (.agg #[.int .u64 (Hh : Int), .int .u64 a1, .int .u64 a2, .int .u64 a3]) (.int .i64 0)).run Try.prog W = .ok (.int .u64 (Hh : Int)) W := fun W => run_idx (P := Try.prog) 23 22 4 Try.underlying23 .u64 Try.underlying22 (by kernel_rfl) [.int .u64 (Hh : Int), .int .u64 a1, .int .u64 a2, .int .u64 a3] 0 _ (by decide) rfl W
  have HA : Hid (Blk (w.alloc (.cells (uA x) 24)) w.heap.size (cellsW (wd x)) 24 ∧ Below w.heap.size w (w.alloc (.cells (uA x) 24))) := Lib.hid ⟨Blk.new w (uA x) _, (Below.refl _ w).alloc (Nat.le_refl _) _⟩
  have FX : Hid (∀ w1 w2, Below (w.alloc (.cells (uA x) 24)).heap.size (w.alloc (.cells (uA x) 24)) w1 → Only w1.heap.size (w1.alloc (.cells #[.int .u64 0, .int .u64 0, .int .u64 0, .int .u64 0] 24)) w2 → Blk w2 w.heap.size (cellsW (wd x)) 24 ∧ Below w.heap.size w w2) := Lib.hid fun w1 w2 b1 ho => by
    have l1 := b1.size
    have l2 := HA.out.1.lt
    exact ⟨ho.blk ((HA.out.1.below b1 HA.out.1.lt).alloc _) (by omega), ((HA.out.2.trans (b1.mono HA.out.2.size)).alloc (by have := HA.out.2.size; omega) _).trans (ho.below (by have := HA.out.2.size; omega))⟩
  clear hN hHh hL hLl hLN hx hn hxn hHl CM0 hws
  go_enter Try.func4, Try.ntmps4
  go_upto_region 3 with (first
    | (refine at_load 24 (.tmp 2) ?_; refine wpList_load_mid rfl 24 (.tmp 2) rfl w.heap.size 0 rfl (cellsW (wd x)) _ (by first | exact hbx.range | exact HA.out.1.range) Try.underlying24 rfl (sizeW _) ?_)
    | (go_at_call 21; refine (CM.out _).mono ?_; rintro e' w1 ⟨rfl, b1⟩)
    | (refine at_store 24 (.tmp 5) (.tmp 12) ?_; refine wpList_store_blk rfl 24 (.tmp 5) (.tmp 12) rfl w1.heap.size zerosW (cellsW (wd N)) _ rfl rfl (Blk.new w1 _ _) rfl (sizeW _) (cellsW_one _) ?_; intro w2 hb2 ho2; obtain ⟨hbx, hbel⟩ := FX.out w1 w2 b1 ho2)
    | (go_at_call 12; refine (CB.out _).mono ?_; rintro e' v1 ⟨A1, n1, c1, rfl, h1, h1c, h1m, d1⟩)
    | (go_at_call 23; refine (CO.out _ _ (blk_one _ _ _)).mono ?_; rintro e' v2 ⟨A2, n2, c2, rfl, h2, h2c, h2m, d2⟩)
    | (go_at_call 22; refine (CU.out _ _ _ _ _ _ _ (h1.below (by ((repeat (first | exact Still.refl _ | apply Still.alloc | apply Still.drew | refine Still.step ?_ (by assumption)))))) h2).mono ?_; rintro e' v3 ⟨A3, n3, c3, rfl, h3, h3c, h3m, d3⟩))
  have s3 : Still w2 v3 := by ((repeat (first | exact Still.refl _ | apply Still.alloc | apply Still.drew | refine Still.step ?_ (by assumption))))
  have hb5 := hb2.below s3 hb2.lt
  have K0 : Hid (∀ W, Still v3 W → W.cell? ⟨w1.heap.size, 0, none⟩ = some (.int .u64 (wd N 0 : Int)) ∧ W.cell? ⟨w1.heap.size, 1, none⟩ = some (.int .u64 (wd N 1 : Int)) ∧ W.cell? ⟨w1.heap.size, 2, none⟩ = some (.int .u64 (wd N 2 : Int)) ∧ W.cell? ⟨w1.heap.size, 3, none⟩ = some (.int .u64 (wd N 3 : Int)) ∧ Still v3 W) := Lib.hid fun W h => ⟨(hb5.below h hb5.lt).cell 0, (hb5.below h hb5.lt).cell 1, (hb5.below h hb5.lt).cell 2, (hb5.below h hb5.lt).cell 3, h⟩
  have HB := Lib.hid (Below.trans hbel (Below.mono s3 hbel.size))
  clear hb2 hb5 ho2 hbx hbel b1 d1 d2 d3 s3 h1 h2
  go_region_held3 (fun W => W.cell? ⟨w1.heap.size, 0, none⟩ = some (.int .u64 (wd N 0 : Int)) ∧ W.cell? ⟨w1.heap.size, 1, none⟩ = some (.int .u64 (wd N 1 : Int)) ∧ W.cell? ⟨w1.heap.size, 2, none⟩ = some (.int .u64 (wd N 2 : Int)) ∧ W.cell? ⟨w1.heap.size, 3, none⟩ = some (.int .u64 (wd N 3 : Int)) ∧ Still v3 W)
    (exact K0.out _ (by ((repeat (first | exact Still.refl _ | apply Still.alloc | apply Still.drew | refine Still.step ?_ (by assumption))))))
    (first
    | (go_at_call 16; refine (CL.out _ _ _ _ (h3.below (by ((repeat (first | exact Still.refl _ | apply Still.alloc | apply Still.drew | refine Still.step ?_ (by assumption)))))) h3c).mono ?_; rintro e' v4 ⟨A4, n4, c4, rfl, h4, h4c, h4m, d4⟩)
    | (go_at_call 15; refine (CS.out _ _ _ _ h4).mono ?_; rintro e' v5 ⟨rfl, d5⟩)
    | (go_at_call 25; refine (CH.out _ _ _ _ (h3.below (by ((repeat (first | exact Still.refl _ | apply Still.alloc | apply Still.drew | refine Still.step ?_ (by assumption)))))) h3c).mono ?_; rintro e' v6 ⟨A6, n6, c6, rfl, h6, h6c, h6m, d6⟩)
    | (go_at_call 24; refine (CW.out _ _ _ _ h6).mono ?_; rintro e' v7 ⟨rfl, d7⟩)
    | (go_at_call 20; refine (awake4_calls _).mono ?_; rintro e' v8 ⟨rfl, d8⟩))
  all_goals go_wp2
  all_goals go_ret
  all_goals (refine ⟨rfl, HB.out.trans (Below.mono (show Still v3 v8 by ((repeat (first | exact Still.refl _ | apply Still.alloc | apply Still.drew | refine Still.step ?_ (by assumption))))) HB.out.size)⟩)
theorem walk (u : U4) (z : Int) (w : World) (hu : u.ok) (hz : (Lit.int .u64 z).wf = true) : Calls Try.prog 4 #[.agg u.arr, .int .u64 z] w (Ret w (.bool true)) := by
  have hb := bounds_u64 hz
  obtain ⟨n, rfl⟩ : ∃ n : Nat, z = (n : Int) := ⟨z.toNat, by omega⟩
  rw [u.uA hu]
  exact walkN u.val n w (u.val_lt hu) (by omega)

set_option maxRecDepth 100000 in
theorem lifted (os : Os) (started : os.Started) (H : Type) (enc : TypeId × Value → H) :
    ReturnsInHanded {} Try.checked os 4 .any (Rows.wideMulsSpec.pre6 enc Try.prog Try.f4 Rows.wideMulsRow.domain false) (Rows.wideMulsSpec.post enc Try.prog Try.f4 false true false false) := by
  refine returnsInHanded_of_change (C := Try.checked) own started (by kernel_rfl) Try.func4
    (ChangeSpec.witness6 (enc := enc) (C := Try.checked) false ⟨#[], #[.agg #[.int .u64 0, .int .u64 0, .int .u64 0, .int .u64 0], .int .u64 0], []⟩ 8 (by kernel_rfl) (by kernel_rfl) (by kernel_rfl) (by kernel_rfl)) ?_
  intro W base args ds gs before hval0 hW hcnd _
  have hval : ∀ (j : Nat) t v, Try.f4.params[j]? = some t → args[j]? = some v → Value.okWide Try.prog W .any base t v := hval0
  have hW' := hW
  obtain ⟨p, q, hA0, hV, rfl, hfz, hnd⟩ := hW
  have hA : DataW.TrodAll enc Try.prog W 0 (fun _ => true) true Try.f4.params.toList args.toList ds p := hA0
  rw [Try.params4] at hA hval
  obtain ⟨v0, vs0, d0, ds0, p0, q0, hargs, rfl, rfl, h0, r0⟩ := trodAll_cons hA
  obtain ⟨v1, vs1, d1, ds1, p1, q1, rfl, rfl, rfl, h1, r1⟩ := trodAll_cons r0
  obtain ⟨rfl, rfl, rfl⟩ := trodAll_nil r1
  obtain rfl : args = #[v0, v1] := by cases args; simp_all
  obtain ⟨rfl, rfl⟩ := trodVars_none hV
  have k0 := h0
  have lt0 : ∀ x ∈ p0, x.block < W.heap.size := by obtain ⟨m, hm⟩ := k0; exact DataW.trod_lt m _ _ _ hm
  obtain ⟨a0, rfl, w0⟩ := arrW (hval 0 24 v0 rfl rfl) h0
  obtain ⟨a1, rfl, rfl, rfl, w1⟩ := open_int Try.underlying22 (hval 1 22 v1 rfl rfl) h1
  clear hA0 hval0
  refine (walk a0 a1 W w0 w1).mono fun e W' ⟨he, bel⟩ => ?_
  subst he
  exact ⟨_, rfl, _, _, _, [], _, [], hW', trodAll_mk1 (shut_bool Try.underlying4 _), (trodAll_cons_mk (Below.trod laidOut (by kernel_rfl) (of_decide_eq_true (by kernel_rfl)) k0 bel lt0) (trodAll_cons_mk (shut_int Try.underlying22 w1) trodAll_mk0)), rfl, bel.frame _, fun h => by cases h⟩

theorem over : Rows.wideMulsRow.holds Try.pinned (OpenSpec.ofChange Rows.wideMulsSpec) :=
  OpenClaim.holds_of_wide 4 Try.f4 rfl rfl rfl rfl rfl rfl rfl ⟨rfl, rfl, rfl, rfl, rfl⟩ rfl rfl rfl rfl rfl (by kernel_rfl) Try.func4 (by kernel_rfl)
    (of_decide_eq_true (by kernel_rfl)) (by unfold Func.isWrapper; first | (rw [if_pos (by decide +kernel)]; kernel_rfl) | (rw [if_neg (by decide +kernel)]; exact ⟨rfl, rfl⟩))
    (fun os started H enc _ => lifted os started H enc)

theorem proved : Rows.WideMulsSaid := over
end Go.Proofs.Ythbbeknbdgkpkaa.wideMuls
