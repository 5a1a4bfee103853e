/- Proved: for every two wide numbers and every number of 64 bits sums may be taken in any order, a product is shared out over them, shifts by one are twice and half, and the arguments read as they did. No condition. -/
import Derived.Test.YthbbeknbdgkpkaaRows
import Derived.Test.YthbbeknbdgkpkaaWidK
import Derived.Test.YthbbeknbdgkpkaaWidH
import Derived.Test.YthbbeknbdgkpkaaWidG
import Derived.Test.YthbbeknbdgkpkaaArrW
import Derived.ProofKit
import Derived.Deep.RegionHeld3
import Derived.Deep.CutRange
import Derived.Deep.DeepCutAuto
import Derived.OpenShut
import Derived.ShutString
import Derived.ChangeOld
import Derived.Test.YthbbeknbdgkpkaaOpen
namespace Go.Proofs.Ythbbeknbdgkpkaa.wideLaws
open Go.ChangeShapes Go.WideShapes Go.ChangeAt Go.RowKit
open Go.ChangeMaps (open_string shut_string)
set_option linter.unusedVariables false
set_option linter.unusedSimpArgs false

theorem own : ownKnob Try.prog.godebug = none := by kernel_rfl
theorem laidOut : laidOutB Try.prog = true := by kernel_rfl

theorem mul_out (x y n : Nat) : (x * n % 2 ^ 256 + y * n % 2 ^ 256) % 2 ^ 256 = (x + y) % 2 ^ 256 * n % 2 ^ 256 := by
  rw [← Nat.add_mod, ← Nat.add_mul, Nat.mod_mul_mod]
theorem half_words (x : Nat) (hx : x < 2 ^ 256) : wd ((x + x) % 2 ^ 256 / 2 ^ 1) 0 = wd x 0 ∧ wd ((x + x) % 2 ^ 256 / 2 ^ 1) 1 = wd x 1 ∧ wd ((x + x) % 2 ^ 256 / 2 ^ 1) 2 = wd x 2 ∧ wd ((x + x) % 2 ^ 256 / 2 ^ 1) 3 = wd x 3 * 2 % 2 ^ 64 / 2 := by
  have e : (x + x) % 2 ^ 256 / 2 ^ 1 = x % 2 ^ 255 := by omega
  rw [e]
  unfold wd
  refine ⟨?_, ?_, ?_, ?_⟩ <;> simp only [Nat.mul_zero, Nat.mul_one, Nat.pow_zero, Nat.div_one, show 64 * 2 = 128 from rfl, show 64 * 3 = 192 from rfl] <;> omega
theorem cmp_neg (x y : Nat) : - cmpN y x = cmpN x y := by
  unfold cmpN
  by_cases h : x = y
  · simp [h]
  · rw [if_neg h, if_neg (fun e => h e.symm)]
    by_cases h2 : x < y
    · rw [if_pos h2, if_neg (by omega)]
    · rw [if_neg h2, if_pos (by omega)]; rfl
theorem cmp_in (x y : Nat) : -1 ≤ cmpN x y ∧ cmpN x y ≤ 1 := by unfold cmpN; split <;> (try split) <;> omega
set_option maxRecDepth 100000 in
set_option maxHeartbeats 16000000 in
theorem walkN (x y n : Nat) (bx : x < 2 ^ 256) (by2 : y < 2 ^ 256) (bn : n < 2 ^ 64) (w : World) : Calls Try.prog 11 #[.agg (cellsW (wd x)).toArray, .agg (cellsW (wd y)).toArray, .int .u64 (n : Int)] w (Ret w (.bool true)) := by
  have gU := guardU
  obtain ⟨s, hs⟩ : ∃ s, s = (x + y) % 2 ^ 256 := ⟨_, rfl⟩
  obtain ⟨m, hm⟩ : ∃ m, m = s * n % 2 ^ 256 := ⟨_, rfl⟩
  obtain ⟨c, hc⟩ : ∃ c, c = x * n % 2 ^ 256 := ⟨_, rfl⟩
  obtain ⟨d, hd⟩ : ∃ d, d = y * n % 2 ^ 256 := ⟨_, rfl⟩
  obtain ⟨t, ht⟩ : ∃ t, t = (x + x) % 2 ^ 256 := ⟨_, rfl⟩
  obtain ⟨e, he⟩ : ∃ e, e = t / 2 ^ 1 := ⟨_, rfl⟩
  obtain ⟨O, hO⟩ : ∃ O, O = decide (2 ^ 256 ≤ x + y) := ⟨_, rfl⟩
  obtain ⟨O2, hO2⟩ : ∃ O, O = decide (2 ^ 256 ≤ x + x) := ⟨_, rfl⟩
  obtain ⟨O3, hO3⟩ : ∃ O, O = decide (2 ^ 256 ≤ c + d) := ⟨_, rfl⟩
  obtain ⟨L, hL⟩ : ∃ L, L = bl x := ⟨_, rfl⟩
  obtain ⟨z1, hz1⟩ : ∃ z, z = cmpN x y := ⟨_, rfl⟩
  obtain ⟨z2, hz2⟩ : ∃ z, z = cmpN y x := ⟨_, rfl⟩
  have p256 : 0 < 2 ^ 256 := by decide
  have bs : s < 2 ^ 256 := by rw [hs]; exact Nat.mod_lt _ p256
  have bc : c < 2 ^ 256 := by rw [hc]; exact Nat.mod_lt _ p256
  have bd : d < 2 ^ 256 := by rw [hd]; exact Nat.mod_lt _ p256
  have bt : t < 2 ^ 256 := by rw [ht]; exact Nat.mod_lt _ p256
  have hsum : (c + d) % 2 ^ 256 = m := by rw [hc, hd, hm, hs]; exact mul_out x y n
  obtain ⟨h1, h2, h3, h4⟩ := half_words x bx
  rw [← ht, ← he] at h1 h2 h3 h4
  obtain ⟨X, hX⟩ : ∃ X, X = cellsW (wd x) := ⟨_, rfl⟩
  have IX : Hid ((Try.prog.info? 24).map (·.size) = some X.length) := Lib.hid (by rw [hX]; exact sizeW _)
  have LX : Hid (zerosW.length = X.length) := Lib.hid (by rw [hX]; rfl)
  have OX : Hid (∀ v ∈ X, v.oneCell' = true) := Lib.hid (by rw [hX]; exact cellsW_one _)
  obtain ⟨Y, hY⟩ : ∃ X, X = cellsW (wd y) := ⟨_, rfl⟩
  have IY : Hid ((Try.prog.info? 24).map (·.size) = some Y.length) := Lib.hid (by rw [hY]; exact sizeW _)
  have LY : Hid (zerosW.length = Y.length) := Lib.hid (by rw [hY]; rfl)
  have OY : Hid (∀ v ∈ Y, v.oneCell' = true) := Lib.hid (by rw [hY]; exact cellsW_one _)
  obtain ⟨V, hV⟩ : ∃ X, X = cellsW (wd s) := ⟨_, rfl⟩
  have IV : Hid ((Try.prog.info? 24).map (·.size) = some V.length) := Lib.hid (by rw [hV]; exact sizeW _)
  have LV : Hid (zerosW.length = V.length) := Lib.hid (by rw [hV]; rfl)
  have OV : Hid (∀ v ∈ V, v.oneCell' = true) := Lib.hid (by rw [hV]; exact cellsW_one _)
  obtain ⟨M, hM⟩ : ∃ X, X = cellsW (wd m) := ⟨_, rfl⟩
  have IM : Hid ((Try.prog.info? 24).map (·.size) = some M.length) := Lib.hid (by rw [hM]; exact sizeW _)
  have LM : Hid (zerosW.length = M.length) := Lib.hid (by rw [hM]; rfl)
  have OM : Hid (∀ v ∈ M, v.oneCell' = true) := Lib.hid (by rw [hM]; exact cellsW_one _)
  obtain ⟨C, hC⟩ : ∃ X, X = cellsW (wd c) := ⟨_, rfl⟩
  have IC : Hid ((Try.prog.info? 24).map (·.size) = some C.length) := Lib.hid (by rw [hC]; exact sizeW _)
  have LC : Hid (zerosW.length = C.length) := Lib.hid (by rw [hC]; rfl)
  have OC : Hid (∀ v ∈ C, v.oneCell' = true) := Lib.hid (by rw [hC]; exact cellsW_one _)
  obtain ⟨D, hD⟩ : ∃ X, X = cellsW (wd d) := ⟨_, rfl⟩
  have ID : Hid ((Try.prog.info? 24).map (·.size) = some D.length) := Lib.hid (by rw [hD]; exact sizeW _)
  have LD : Hid (zerosW.length = D.length) := Lib.hid (by rw [hD]; rfl)
  have OD : Hid (∀ v ∈ D, v.oneCell' = true) := Lib.hid (by rw [hD]; exact cellsW_one _)
  obtain ⟨Tw, hTw⟩ : ∃ X, X = cellsW (wd t) := ⟨_, rfl⟩
  have ITw : Hid ((Try.prog.info? 24).map (·.size) = some Tw.length) := Lib.hid (by rw [hTw]; exact sizeW _)
  have LTw : Hid (zerosW.length = Tw.length) := Lib.hid (by rw [hTw]; rfl)
  have OTw : Hid (∀ v ∈ Tw, v.oneCell' = true) := Lib.hid (by rw [hTw]; exact cellsW_one _)
  obtain ⟨E, hE⟩ : ∃ X, X = cellsW (wd e) := ⟨_, rfl⟩
  have IE : Hid ((Try.prog.info? 24).map (·.size) = some E.length) := Lib.hid (by rw [hE]; exact sizeW _)
  have LE : Hid (zerosW.length = E.length) := Lib.hid (by rw [hE]; rfl)
  have OE : Hid (∀ v ∈ E, v.oneCell' = true) := Lib.hid (by rw [hE]; exact cellsW_one _)
  have CA1 : Hid (∀ W, Calls Try.prog 14 #[.agg X.toArray, .agg Y.toArray] W (Ret W (.tuple #[.agg V.toArray, .bool O]))) := Lib.hid fun W => by
    have h := add_calls x y W bx by2
    rw [← uA_mod (x + y), ← hs] at h
    rw [hX, hY, hV, hO]
    exact h
  have CA2 : Hid (∀ W, Calls Try.prog 14 #[.agg Y.toArray, .agg X.toArray] W (Ret W (.tuple #[.agg V.toArray, .bool O]))) := Lib.hid fun W => by
    have h := add_calls y x W by2 bx
    rw [Nat.add_comm y x, ← uA_mod (x + y), ← hs] at h
    rw [hX, hY, hV, hO]
    exact h
  have CA3 : Hid (∀ W, Calls Try.prog 14 #[.agg C.toArray, .agg D.toArray] W (Ret W (.tuple #[.agg M.toArray, .bool O3]))) := Lib.hid fun W => by
    have h := add_calls c d W bc bd
    rw [← uA_mod (c + d), hsum] at h
    rw [hC, hD, hM, hO3]
    exact h
  have CA4 : Hid (∀ W, Calls Try.prog 14 #[.agg X.toArray, .agg X.toArray] W (Ret W (.tuple #[.agg Tw.toArray, .bool O2]))) := Lib.hid fun W => by
    have h := add_calls x x W bx bx
    rw [← uA_mod (x + x), ← ht] at h
    rw [hX, hTw, hO2]
    exact h
  obtain ⟨r1, hr1⟩ : ∃ r, r = s * n / 2 ^ 256 := ⟨_, rfl⟩
  obtain ⟨r2, hr2⟩ : ∃ r, r = x * n / 2 ^ 256 := ⟨_, rfl⟩
  obtain ⟨r3, hr3⟩ : ∃ r, r = y * n / 2 ^ 256 := ⟨_, rfl⟩
  have CM1 : Hid (∀ W, Calls Try.prog 21 #[.agg V.toArray, .int .u64 (n : Int)] W (Ret W (.tuple #[.agg M.toArray, .int .u64 (r1 : Int)]))) := Lib.hid fun W => by
    have h := mul_calls s n W bs bn
    rw [← uA_mod (s * n), ← hm] at h
    rw [hV, hM, hr1]
    exact h
  have CM2 : Hid (∀ W, Calls Try.prog 21 #[.agg X.toArray, .int .u64 (n : Int)] W (Ret W (.tuple #[.agg C.toArray, .int .u64 (r2 : Int)]))) := Lib.hid fun W => by
    have h := mul_calls x n W bx bn
    rw [← uA_mod (x * n), ← hc] at h
    rw [hX, hC, hr2]
    exact h
  have CM3 : Hid (∀ W, Calls Try.prog 21 #[.agg Y.toArray, .int .u64 (n : Int)] W (Ret W (.tuple #[.agg D.toArray, .int .u64 (r3 : Int)]))) := Lib.hid fun W => by
    have h := mul_calls y n W by2 bn
    rw [← uA_mod (y * n), ← hd] at h
    rw [hY, hD, hr3]
    exact h
  have CSL : Hid (∀ W, Calls Try.prog 30 #[.agg X.toArray, .int .i64 1] W (Ret W (.agg Tw.toArray))) := Lib.hid fun W => by
    have h := shl_calls x 1 1 W bx (by decide) (by decide)
    rw [← uA_mod (x * 2 ^ 1), show x * 2 ^ 1 = x + x from by omega, ← ht] at h
    rw [hX, hTw]
    exact h
  have CSR : Hid (∀ W, Calls Try.prog 31 #[.agg Tw.toArray, .int .i64 1] W (Ret W (.agg E.toArray))) := Lib.hid fun W => by
    have h := shr_calls t 1 1 W bt (by decide) (by decide)
    rw [← he] at h
    rw [hTw, hE]
    exact h
  have CLE : Hid (∀ W, Calls Try.prog 34 #[.agg X.toArray] W (Ret W (.int .i64 (L : Int)))) := Lib.hid fun W => by rw [hX, hL]; exact wlen_calls x W bx
  have CC1 : Hid (∀ W, Calls Try.prog 33 #[.agg X.toArray, .agg Y.toArray] W (Ret W (.int .i64 z1))) := Lib.hid fun W => by rw [hX, hY, hz1]; exact cmp_calls x y W bx by2
  have CC2 : Hid (∀ W, Calls Try.prog 33 #[.agg Y.toArray, .agg X.toArray] W (Ret W (.int .i64 z2))) := Lib.hid fun W => by rw [hX, hY, hz2]; exact cmp_calls y x W by2 bx
  have hzz : -z2 = z1 := by rw [hz1, hz2]; exact cmp_neg x y
  have hzi : -1 ≤ z1 ∧ z1 ≤ 1 := by rw [hz1]; exact cmp_in x y
  have hzw : IntKind.i64.wrap (-z2) = z1 := by rw [hzz, IntKind.wrap_i64]; omega
  have hLO : decide ((L : Int) = 256) = O2 := by
    rw [hO2]
    have h8 : L ≤ 256 := by rw [hL]; exact (bl_le x 256).2 bx
    have h9 := bl_le x 255
    rw [← hL] at h9
    apply decide_eq_decide.2
    omega
  have hLO2 : decide (L = 256) = O2 := by rw [← hLO]; apply decide_eq_decide.2; omega
  have hLO3 : ((L : Int) == 256) = O2 := by rw [← hLO]; rfl
  have hLO4 : (L == 256) = O2 := by rw [← hLO2]; rfl
  have heqV : ∀ W, (Op.equalIn 10000 24 (.agg V.toArray) (.agg V.toArray)).run Try.prog W = .ok true W := fun W => by rw [hV]; exact u_same s W
  have heqM : ∀ W, (Op.equalIn 10000 24 (.agg M.toArray) (.agg M.toArray)).run Try.prog W = .ok true W := fun W => by rw [hM]; exact u_same m W
  have heqT : ∀ W, (Op.equalIn 10000 24 (.agg Tw.toArray) (.agg Tw.toArray)).run Try.prog W = .ok true W := fun W => by rw [hTw]; exact u_same t W
  obtain ⟨a0, ha0⟩ : ∃ a, a = wd x 0 := ⟨_, rfl⟩
  obtain ⟨a1, ha1⟩ : ∃ a, a = wd x 1 := ⟨_, rfl⟩
  obtain ⟨a2, ha2⟩ : ∃ a, a = wd x 2 := ⟨_, rfl⟩
  obtain ⟨a3, ha3⟩ : ∃ a, a = wd x 3 := ⟨_, rfl⟩
  obtain ⟨b3, hb3⟩ : ∃ b, b = a3 * 2 % 2 ^ 64 := ⟨_, rfl⟩
  obtain ⟨c3, hc3⟩ : ∃ c, c = b3 / 2 := ⟨_, rfl⟩
  have heqE : ∀ W, (Op.equalIn 10000 24 (.agg E.toArray) (.agg #[.int .u64 (a0 : Int), .int .u64 (a1 : Int), .int .u64 (a2 : Int), .int .u64 (c3 : Int)])).run Try.prog W = .ok true W := fun W => by
    have h := u_same e W
    have e4 : uA e = #[.int .u64 (a0 : Int), .int .u64 (a1 : Int), .int .u64 (a2 : Int), .int .u64 (c3 : Int)] := by unfold uA; rw [h1, h2, h3, h4, ha0, ha1, ha2, hc3, hb3, ha3]
    rw [hE]
    have e5 : (cellsW (wd e)).toArray = uA e := rfl
    rw [e5]
    rw [← e4]
    exact h
  have q1 : IntKind.u64.wrap ((a3 : Int) * 2) = (b3 : Int) := by rw [hb3, IntKind.wrap_u64]; omega
  have q2 : (b3 : Int) / 2 = (c3 : Int) := by omega
  have q3 : (2 : Int) ^ 1 = 2 := rfl
  have HXC : Hid (∀ W, Blk W w.heap.size X 24 → W.cell? ⟨w.heap.size, 0, none⟩ = some (.int .u64 (a0 : Int)) ∧ W.cell? ⟨w.heap.size, 1, none⟩ = some (.int .u64 (a1 : Int)) ∧ W.cell? ⟨w.heap.size, 2, none⟩ = some (.int .u64 (a2 : Int)) ∧ W.cell? ⟨w.heap.size, 3, none⟩ = some (.int .u64 (a3 : Int))) := Lib.hid fun W h => by rw [hX] at h; exact ⟨by rw [h.cell 0, ha0]; rfl, by rw [h.cell 1, ha1]; rfl, by rw [h.cell 2, ha2]; rfl, by rw [h.cell 3, ha3]; rfl⟩
  rw [← hX, ← hY]
  obtain ⟨w0, hw0⟩ : ∃ w0, w0 = ((w.alloc (.cells X.toArray 24)).alloc (.cells Y.toArray 24)) := ⟨_, rfl⟩
  have hbX : Blk w0 (w.heap.size) X 24 := by rw [hw0]; exact Blk.alloc (Blk.new' w X.toArray 24 (w.heap.size) (by simp)) _
  have hbY : Blk w0 (w.heap.size + 1) Y 24 := by rw [hw0]; exact Blk.new' (w.alloc _) Y.toArray 24 (w.heap.size + 1) (by simp)
  have HB : Hid (Still w w0) := Lib.hid (by rw [hw0]; exact Still.alloc (Still.alloc (Still.refl w) _) _)
  clear hX hY hV hM hC hD hTw hE hs hm hc hd ht he hO hO2 hO3 hL hz1 hz2 p256 bs bc bd bt hsum h1 h2 h3 h4 hr1 hr2 hr3 ha0 ha1 ha2 ha3 hb3 hc3 hzz hzi bx by2 bn
  go_enter Try.func11, Try.ntmps11
  go_upto_region 1 with fail
  rw [← hw0]
  clear hw0
  go_upto_region 10 with (first
    | ((with_reducible refine at_load 24 (.tmp 3) ?_); refine wpList_load_mid rfl 24 (.tmp 3) rfl (w.heap.size) 0 rfl X _ (Blk.range (t := 24) (by ((repeat (first | with_reducible assumption | with_reducible apply Blk.alloc | with_reducible apply Blk.drew | with_reducible refine Blk.step ?_ (by assumption) | with_reducible refine Blk.stepS ?_ (by assumption)))))) Try.underlying24 rfl IX.out ?_)
    | ((with_reducible refine at_load 24 (.tmp 4) ?_); refine wpList_load_mid rfl 24 (.tmp 4) rfl (w.heap.size + 1) 0 rfl Y _ (Blk.range (t := 24) (by ((repeat (first | with_reducible assumption | with_reducible apply Blk.alloc | with_reducible apply Blk.drew | with_reducible refine Blk.step ?_ (by assumption) | with_reducible refine Blk.stepS ?_ (by assumption)))))) Try.underlying24 rfl IY.out ?_)
    | ((with_reducible refine at_load 24 (.tmp 7) ?_); refine wpList_load_mid rfl 24 (.tmp 7) rfl (v1.heap.size) 0 rfl V _ (Blk.range (t := 24) (by ((repeat (first | with_reducible assumption | with_reducible apply Blk.alloc | with_reducible apply Blk.drew | with_reducible refine Blk.step ?_ (by assumption) | with_reducible refine Blk.stepS ?_ (by assumption)))))) Try.underlying24 rfl IV.out ?_)
    | ((with_reducible refine at_load 24 (.tmp 9) ?_); refine wpList_load_mid rfl 24 (.tmp 9) rfl (v2.heap.size) 0 rfl V _ (Blk.range (t := 24) (by ((repeat (first | with_reducible assumption | with_reducible apply Blk.alloc | with_reducible apply Blk.drew | with_reducible refine Blk.step ?_ (by assumption) | with_reducible refine Blk.stepS ?_ (by assumption)))))) Try.underlying24 rfl IV.out ?_)
    | ((with_reducible refine at_load 24 (.tmp 13) ?_); refine wpList_load_mid rfl 24 (.tmp 13) rfl (v4.heap.size) 0 rfl C _ (Blk.range (t := 24) (by ((repeat (first | with_reducible assumption | with_reducible apply Blk.alloc | with_reducible apply Blk.drew | with_reducible refine Blk.step ?_ (by assumption) | with_reducible refine Blk.stepS ?_ (by assumption)))))) Try.underlying24 rfl IC.out ?_)
    | ((with_reducible refine at_load 24 (.tmp 15) ?_); refine wpList_load_mid rfl 24 (.tmp 15) rfl (v5.heap.size) 0 rfl D _ (Blk.range (t := 24) (by ((repeat (first | with_reducible assumption | with_reducible apply Blk.alloc | with_reducible apply Blk.drew | with_reducible refine Blk.step ?_ (by assumption) | with_reducible refine Blk.stepS ?_ (by assumption)))))) Try.underlying24 rfl ID.out ?_)
    | (go_at_call 14; (with_reducible refine (CA1.out _).mono ?_); rintro e' v1 ⟨rfl, d1⟩)
    | (go_at_call 14; (with_reducible refine (CA2.out _).mono ?_); rintro e' v2 ⟨rfl, d2⟩)
    | (go_at_call 14; (with_reducible refine (CA3.out _).mono ?_); rintro e' v6 ⟨rfl, d6⟩)
    | (go_at_call 14; (with_reducible refine (CA4.out _).mono ?_); rintro e' v7 ⟨rfl, d7⟩)
    | (go_at_call 21; (with_reducible refine (CM1.out _).mono ?_); rintro e' v3 ⟨rfl, d3⟩)
    | (go_at_call 21; (with_reducible refine (CM2.out _).mono ?_); rintro e' v4 ⟨rfl, d4⟩)
    | (go_at_call 21; (with_reducible refine (CM3.out _).mono ?_); rintro e' v5 ⟨rfl, d5⟩)
    | ((with_reducible refine at_store 24 (.tmp 7) (.tmp 25) ?_); refine wpList_store_blk rfl 24 (.tmp 7) (.tmp 25) rfl v1.heap.size zerosW V _ rfl rfl (Blk.new v1 _ _) LV.out IV.out OV.out ?_; intro w1 hbw1 how1; have dw1 := Only.still how1; clear how1)
    | ((with_reducible refine at_store 24 (.tmp 9) (.tmp 31) ?_); refine wpList_store_blk rfl 24 (.tmp 9) (.tmp 31) rfl v2.heap.size zerosW V _ rfl rfl (Blk.new v2 _ _) LV.out IV.out OV.out ?_; intro w2 hbw2 how2; have dw2 := Only.still how2; clear how2)
    | ((with_reducible refine at_store 24 (.tmp 11) (.tmp 45) ?_); refine wpList_store_blk rfl 24 (.tmp 11) (.tmp 45) rfl v3.heap.size zerosW M _ rfl rfl (Blk.new v3 _ _) LM.out IM.out OM.out ?_; intro w3 hbw3 how3; have dw3 := Only.still how3; clear how3)
    | ((with_reducible refine at_store 24 (.tmp 13) (.tmp 51) ?_); refine wpList_store_blk rfl 24 (.tmp 13) (.tmp 51) rfl v4.heap.size zerosW C _ rfl rfl (Blk.new v4 _ _) LC.out IC.out OC.out ?_; intro w4 hbw4 how4; have dw4 := Only.still how4; clear how4)
    | ((with_reducible refine at_store 24 (.tmp 15) (.tmp 57) ?_); refine wpList_store_blk rfl 24 (.tmp 15) (.tmp 57) rfl v5.heap.size zerosW D _ rfl rfl (Blk.new v5 _ _) LD.out ID.out OD.out ?_; intro w5 hbw5 how5; have dw5 := Only.still how5; clear how5)
    | ((with_reducible refine at_store 24 (.tmp 17) (.tmp 63) ?_); refine wpList_store_blk rfl 24 (.tmp 17) (.tmp 63) rfl v6.heap.size zerosW M _ rfl rfl (Blk.new v6 _ _) LM.out IM.out OM.out ?_; intro w6 hbw6 how6; have dw6 := Only.still how6; clear how6)
    | ((with_reducible refine at_store 24 (.tmp 19) (.tmp 69) ?_); refine wpList_store_blk rfl 24 (.tmp 19) (.tmp 69) rfl v7.heap.size zerosW Tw _ rfl rfl (Blk.new v7 _ _) LTw.out ITw.out OTw.out ?_; intro w7 hbw7 how7; have dw7 := Only.still how7; clear how7))
  have kX : Blk w7 w.heap.size X 24 := by ((repeat (first | with_reducible assumption | with_reducible apply Blk.alloc | with_reducible apply Blk.drew | with_reducible refine Blk.step ?_ (by assumption) | with_reducible refine Blk.stepS ?_ (by assumption))))
  have kY : Blk w7 (w.heap.size + 1) Y 24 := by ((repeat (first | with_reducible assumption | with_reducible apply Blk.alloc | with_reducible apply Blk.drew | with_reducible refine Blk.step ?_ (by assumption) | with_reducible refine Blk.stepS ?_ (by assumption))))
  have kM1 : Blk w7 v3.heap.size M 24 := by ((repeat (first | with_reducible assumption | with_reducible apply Blk.alloc | with_reducible apply Blk.drew | with_reducible refine Blk.step ?_ (by assumption) | with_reducible refine Blk.stepS ?_ (by assumption))))
  have kM2 : Blk w7 v6.heap.size M 24 := by ((repeat (first | with_reducible assumption | with_reducible apply Blk.alloc | with_reducible apply Blk.drew | with_reducible refine Blk.step ?_ (by assumption) | with_reducible refine Blk.stepS ?_ (by assumption))))
  have kT : Blk w7 v7.heap.size Tw 24 := by ((repeat (first | with_reducible assumption | with_reducible apply Blk.alloc | with_reducible apply Blk.drew | with_reducible refine Blk.step ?_ (by assumption) | with_reducible refine Blk.stepS ?_ (by assumption))))
  have HB2 : Hid (Still w w7) := Lib.hid (HB.out.trans (show Still w0 w7 by ((repeat (first | with_reducible exact Still.refl _ | with_reducible assumption | with_reducible apply Still.alloc | with_reducible apply Still.drew | with_reducible refine Still.step ?_ (by assumption) | with_reducible refine Still.trans ?_ (by assumption))))))
  have K0 : Hid (∀ W, Still w7 W → (W.rangeAt v3.heap.size 0 M ∧ W.rangeAt v6.heap.size 0 M ∧ W.rangeAt v7.heap.size 0 Tw ∧ W.rangeAt w.heap.size 0 X ∧ W.rangeAt (w.heap.size + 1) 0 Y ∧ W.cell? ⟨w.heap.size, 0, none⟩ = some (.int .u64 (a0 : Int)) ∧ W.cell? ⟨w.heap.size, 1, none⟩ = some (.int .u64 (a1 : Int)) ∧ W.cell? ⟨w.heap.size, 2, none⟩ = some (.int .u64 (a2 : Int)) ∧ W.cell? ⟨w.heap.size, 3, none⟩ = some (.int .u64 (a3 : Int)) ∧ Still w7 W)) := Lib.hid fun W h => by
    obtain ⟨i0, i1, i2, i3⟩ := HXC.out W (Blk.stepS kX h)
    exact ⟨(Blk.stepS kM1 h).range, (Blk.stepS kM2 h).range, (Blk.stepS kT h).range, (Blk.stepS kX h).range, (Blk.stepS kY h).range, i0, i1, i2, i3, h⟩
  clear kX kY kM1 kM2 kT hbX hbY hbw1 hbw2 hbw3 hbw4 hbw5 hbw6 hbw7 d1 d2 d3 d4 d5 d6 d7 dw1 dw2 dw3 dw4 dw5 dw6 dw7 HB CA1 CA2 CA3 CA4 CM1 CM2 CM3 heqV
  refine wp_region_held_drew (S := fun W => W.rangeAt v3.heap.size 0 M ∧ W.rangeAt v6.heap.size 0 M ∧ W.rangeAt v7.heap.size 0 Tw ∧ W.rangeAt w.heap.size 0 X ∧ W.rangeAt (w.heap.size + 1) 0 Y ∧ W.cell? ⟨w.heap.size, 0, none⟩ = some (.int .u64 (a0 : Int)) ∧ W.cell? ⟨w.heap.size, 1, none⟩ = some (.int .u64 (a1 : Int)) ∧ W.cell? ⟨w.heap.size, 2, none⟩ = some (.int .u64 (a2 : Int)) ∧ W.cell? ⟨w.heap.size, 3, none⟩ = some (.int .u64 (a3 : Int)) ∧ Still w7 W) (by kernel_rfl) ?_ (fun hHeld => ?_)
  · exact K0.out _ (by ((repeat (first | with_reducible exact Still.refl _ | with_reducible assumption | with_reducible apply Still.alloc | with_reducible apply Still.drew | with_reducible refine Still.step ?_ (by assumption) | with_reducible refine Still.trans ?_ (by assumption)))))
  refine wpAnyH_take (i := 0) rfl (by kernel_rfl) (by kernel_rfl) (by kernel_rfl) (fun _ _ _ h => h) (yieldsIf_load_mid (by rfl) _ _ rfl _ _ rfl M _ (fun w hSw => by (try dsimp only at hSw); go_split_ands; assumption) Try.underlying24 rfl IM.out) (by assumption) ?_
  (try simp only [List.getElem_toArray, List.getElem_cons_succ, List.getElem_cons_zero, Act.put, List.setIfInBounds_toArray, List.set_cons_succ, List.set_cons_zero])
  refine wpAnyH_take (i := 1) rfl (by kernel_rfl) (by kernel_rfl) (by kernel_rfl) (fun _ _ _ h => h) (yieldsIf_load_mid (by rfl) _ _ rfl _ _ rfl M _ (fun w hSw => by (try dsimp only at hSw); go_split_ands; assumption) Try.underlying24 rfl IM.out) (by assumption) ?_
  (try simp only [List.getElem_toArray, List.getElem_cons_succ, List.getElem_cons_zero, Act.put, List.setIfInBounds_toArray, List.set_cons_succ, List.set_cons_zero])
  refine wpAnyH_take (i := 2) (v := ?_) rfl (by kernel_rfl) (by kernel_rfl) (by kernel_rfl) (fun _ _ _ h => h) (Or.inl ⟨by rfl, ?_⟩) (by assumption) ?_
  rotate_left 1
  · intro w hSw; (try dsimp only at hSw); simp only [List.getElem_toArray, List.getElem_cons_succ, List.getElem_cons_zero]; go_simp; try (with_reducible rfl)
  (try simp only [List.getElem_toArray, List.getElem_cons_succ, List.getElem_cons_zero, Act.put, List.setIfInBounds_toArray, List.set_cons_succ, List.set_cons_zero])
  refine wpAnyH_take (i := 3) (v := ?_) rfl (by kernel_rfl) (by kernel_rfl) (by kernel_rfl) (fun _ _ _ h => h) (Or.inl ⟨by rfl, ?_⟩) (by assumption) ?_
  rotate_left 1
  · intro w hSw; (try dsimp only at hSw); simp only [List.getElem_toArray, List.getElem_cons_succ, List.getElem_cons_zero]; go_simp; try (with_reducible rfl)
  (try simp only [List.getElem_toArray, List.getElem_cons_succ, List.getElem_cons_zero, Act.put, List.setIfInBounds_toArray, List.set_cons_succ, List.set_cons_zero])
  refine wpAnyH_take (i := 4) rfl (by kernel_rfl) (by kernel_rfl) (by kernel_rfl) (fun _ _ _ h => h) (yieldsIf_load_mid (by rfl) _ _ rfl _ _ rfl X _ (fun w hSw => by (try dsimp only at hSw); go_split_ands; assumption) Try.underlying24 rfl IX.out) (by assumption) ?_
  (try simp only [List.getElem_toArray, List.getElem_cons_succ, List.getElem_cons_zero, Act.put, List.setIfInBounds_toArray, List.set_cons_succ, List.set_cons_zero])
  refine wpAnyH_take (i := 6) rfl (by kernel_rfl) (by kernel_rfl) (by kernel_rfl) (fun _ _ _ h => h) (yieldsIf_load_mid (by rfl) _ _ rfl _ _ rfl Tw _ (fun w hSw => by (try dsimp only at hSw); go_split_ands; assumption) Try.underlying24 rfl ITw.out) (by assumption) ?_
  (try simp only [List.getElem_toArray, List.getElem_cons_succ, List.getElem_cons_zero, Act.put, List.setIfInBounds_toArray, List.set_cons_succ, List.set_cons_zero])
  refine wpAnyH_ready (rs := [5]) (by kernel_rfl) (by simp) ?_
  refine AllReadyH.cons rfl (fun K hK => ?_) AllReadyH.nil
  (try simp only [List.getElem_toArray, List.getElem_cons_succ, List.getElem_cons_zero])
  go_simp
  go_at_call 30; refine (CSL.out _).mono ?_; rintro e' u5 ⟨rfl, e5⟩
  (try (go_wp2_with fail))
  refine hK.out _ _ ?_ (fun hHeld => ?_)
  · exact K0.out _ (by ((repeat (first | with_reducible exact Still.refl _ | with_reducible assumption | with_reducible apply Still.alloc | with_reducible apply Still.drew | with_reducible refine Still.step ?_ (by assumption) | with_reducible refine Still.trans ?_ (by assumption)))))
  clear hK K
  (try simp only [Act.put, List.setIfInBounds_toArray, List.set_cons_succ, List.set_cons_zero])
  refine wpAnyH_take (i := 7) (v := ?_) rfl (by kernel_rfl) (by kernel_rfl) (by kernel_rfl) (fun _ _ _ h => h) (Or.inl ⟨by rfl, ?_⟩) (by assumption) ?_
  rotate_left 1
  · intro w hSw; (try dsimp only at hSw); simp only [List.getElem_toArray, List.getElem_cons_succ, List.getElem_cons_zero]; go_simp; try (with_reducible rfl)
  (try simp only [List.getElem_toArray, List.getElem_cons_succ, List.getElem_cons_zero, Act.put, List.setIfInBounds_toArray, List.set_cons_succ, List.set_cons_zero])
  refine wpAnyH_take (i := 8) (v := ?_) rfl (by kernel_rfl) (by kernel_rfl) (by kernel_rfl) (fun _ _ _ h => h) (Or.inl ⟨by rfl, ?_⟩) (by assumption) ?_
  rotate_left 1
  · intro w hSw; (try dsimp only at hSw); simp only [List.getElem_toArray, List.getElem_cons_succ, List.getElem_cons_zero]; go_simp; try (with_reducible rfl)
  (try simp only [List.getElem_toArray, List.getElem_cons_succ, List.getElem_cons_zero, Act.put, List.setIfInBounds_toArray, List.set_cons_succ, List.set_cons_zero])
  refine wpAnyH_take (i := 9) (v := ?_) rfl (by kernel_rfl) (by kernel_rfl) (by kernel_rfl) (fun _ _ _ h => h) (Or.inl ⟨by rfl, ?_⟩) (by assumption) ?_
  rotate_left 1
  · intro w hSw; (try dsimp only at hSw); simp only [List.getElem_toArray, List.getElem_cons_succ, List.getElem_cons_zero]; go_simp; try (with_reducible rfl)
  (try simp only [List.getElem_toArray, List.getElem_cons_succ, List.getElem_cons_zero, Act.put, List.setIfInBounds_toArray, List.set_cons_succ, List.set_cons_zero])
  refine wpAnyH_take (i := 10) (v := ?_) rfl (by kernel_rfl) (by kernel_rfl) (by kernel_rfl) (fun _ _ _ h => h) (Or.inl ⟨by rfl, ?_⟩) (by assumption) ?_
  rotate_left 1
  · intro w hSw; (try dsimp only at hSw); simp only [List.getElem_toArray, List.getElem_cons_succ, List.getElem_cons_zero]; go_simp; try (with_reducible rfl)
  (try simp only [List.getElem_toArray, List.getElem_cons_succ, List.getElem_cons_zero, Act.put, List.setIfInBounds_toArray, List.set_cons_succ, List.set_cons_zero])
  refine wpAnyH_take (i := 11) rfl (by kernel_rfl) (by kernel_rfl) (by kernel_rfl) (fun _ _ _ h => h) (yieldsIf_load_mid (by rfl) _ _ rfl _ _ rfl X _ (fun w hSw => by (try dsimp only at hSw); go_split_ands; assumption) Try.underlying24 rfl IX.out) (by assumption) ?_
  (try simp only [List.getElem_toArray, List.getElem_cons_succ, List.getElem_cons_zero, Act.put, List.setIfInBounds_toArray, List.set_cons_succ, List.set_cons_zero])
  refine wpAnyH_ready (rs := [12]) (by kernel_rfl) (by simp) ?_
  refine AllReadyH.cons rfl (fun K hK => ?_) AllReadyH.nil
  (try simp only [List.getElem_toArray, List.getElem_cons_succ, List.getElem_cons_zero])
  go_simp
  go_at_call 34; refine (CLE.out _).mono ?_; rintro e' u12 ⟨rfl, e12⟩
  (try (go_wp2_with fail))
  refine hK.out _ _ ?_ (fun hHeld => ?_)
  · exact K0.out _ (by ((repeat (first | with_reducible exact Still.refl _ | with_reducible assumption | with_reducible apply Still.alloc | with_reducible apply Still.drew | with_reducible refine Still.step ?_ (by assumption) | with_reducible refine Still.trans ?_ (by assumption)))))
  clear hK K
  (try simp only [Act.put, List.setIfInBounds_toArray, List.set_cons_succ, List.set_cons_zero])
  refine wpAnyH_take (i := 13) (v := ?_) rfl (by kernel_rfl) (by kernel_rfl) (by kernel_rfl) (fun _ _ _ h => h) (Or.inl ⟨by rfl, ?_⟩) (by assumption) ?_
  rotate_left 1
  · intro w hSw; (try dsimp only at hSw); simp only [List.getElem_toArray, List.getElem_cons_succ, List.getElem_cons_zero]; go_simp; try (with_reducible rfl)
  (try simp only [List.getElem_toArray, List.getElem_cons_succ, List.getElem_cons_zero, Act.put, List.setIfInBounds_toArray, List.set_cons_succ, List.set_cons_zero])
  refine wpAnyH_take (i := 14) (v := ?_) rfl (by kernel_rfl) (by kernel_rfl) (by kernel_rfl) (fun _ _ _ h => h) (Or.inl ⟨by rfl, ?_⟩) (by assumption) ?_
  rotate_left 1
  · intro w hSw; (try dsimp only at hSw); simp only [List.getElem_toArray, List.getElem_cons_succ, List.getElem_cons_zero]; go_simp; try (with_reducible rfl)
  (try simp only [List.getElem_toArray, List.getElem_cons_succ, List.getElem_cons_zero, Act.put, List.setIfInBounds_toArray, List.set_cons_succ, List.set_cons_zero])
  refine wpAnyH_take (i := 15) (v := ?_) rfl (by kernel_rfl) (by kernel_rfl) (by kernel_rfl) (fun _ _ _ h => h) (Or.inl ⟨by rfl, ?_⟩) (by assumption) ?_
  rotate_left 1
  · intro w hSw; (try dsimp only at hSw); simp only [List.getElem_toArray, List.getElem_cons_succ, List.getElem_cons_zero]; go_simp; try (with_reducible rfl)
  (try simp only [List.getElem_toArray, List.getElem_cons_succ, List.getElem_cons_zero, Act.put, List.setIfInBounds_toArray, List.set_cons_succ, List.set_cons_zero])
  refine wpAnyH_take (i := 16) (v := ?_) rfl (by kernel_rfl) (by kernel_rfl) (by kernel_rfl) (fun _ _ _ h => h) (Or.inl ⟨by rfl, ?_⟩) (by assumption) ?_
  rotate_left 1
  · intro w hSw; (try dsimp only at hSw); simp only [List.getElem_toArray, List.getElem_cons_succ, List.getElem_cons_zero]; go_simp; try (with_reducible rfl)
  (try simp only [List.getElem_toArray, List.getElem_cons_succ, List.getElem_cons_zero, Act.put, List.setIfInBounds_toArray, List.set_cons_succ, List.set_cons_zero])
  refine wpAnyH_take (i := 17) rfl (by kernel_rfl) (by kernel_rfl) (by kernel_rfl) (fun _ _ _ h => h) (yieldsIf_load_mid (by rfl) _ _ rfl _ _ rfl X _ (fun w hSw => by (try dsimp only at hSw); go_split_ands; assumption) Try.underlying24 rfl IX.out) (by assumption) ?_
  (try simp only [List.getElem_toArray, List.getElem_cons_succ, List.getElem_cons_zero, Act.put, List.setIfInBounds_toArray, List.set_cons_succ, List.set_cons_zero])
  refine wpAnyH_take (i := 20) (v := ?_) rfl (by kernel_rfl) (by kernel_rfl) (by kernel_rfl) (fun _ _ _ h => h) (Or.inl ⟨by rfl, ?_⟩) (by assumption) ?_
  rotate_left 1
  · intro w hSw; (try dsimp only at hSw); simp only [List.getElem_toArray, List.getElem_cons_succ, List.getElem_cons_zero]; go_simp; try (with_reducible rfl)
  (try simp only [List.getElem_toArray, List.getElem_cons_succ, List.getElem_cons_zero, Act.put, List.setIfInBounds_toArray, List.set_cons_succ, List.set_cons_zero])
  refine wpAnyH_take (i := 21) (v := ?_) rfl (by kernel_rfl) (by kernel_rfl) (by kernel_rfl) (fun _ _ _ h => h) (Or.inl ⟨by rfl, ?_⟩) (by assumption) ?_
  rotate_left 1
  · intro w hSw; (try dsimp only at hSw); simp only [List.getElem_toArray, List.getElem_cons_succ, List.getElem_cons_zero]; go_simp; try (with_reducible rfl)
  (try simp only [List.getElem_toArray, List.getElem_cons_succ, List.getElem_cons_zero, Act.put, List.setIfInBounds_toArray, List.set_cons_succ, List.set_cons_zero])
  refine wpAnyH_take (i := 22) (v := ?_) rfl (by kernel_rfl) (by kernel_rfl) (by kernel_rfl) (fun _ _ _ h => h) (Or.inl ⟨by rfl, ?_⟩) (by assumption) ?_
  rotate_left 1
  · intro w hSw; (try dsimp only at hSw); simp only [List.getElem_toArray, List.getElem_cons_succ, List.getElem_cons_zero]; go_simp; try (with_reducible rfl)
  (try simp only [List.getElem_toArray, List.getElem_cons_succ, List.getElem_cons_zero, Act.put, List.setIfInBounds_toArray, List.set_cons_succ, List.set_cons_zero])
  refine wpAnyH_take (i := 23) (v := ?_) rfl (by kernel_rfl) (by kernel_rfl) (by kernel_rfl) (fun _ _ _ h => h) (Or.inl ⟨by rfl, ?_⟩) (by assumption) ?_
  rotate_left 1
  · intro w hSw; (try dsimp only at hSw); simp only [List.getElem_toArray, List.getElem_cons_succ, List.getElem_cons_zero]; go_simp; try (with_reducible rfl)
  (try simp only [List.getElem_toArray, List.getElem_cons_succ, List.getElem_cons_zero, Act.put, List.setIfInBounds_toArray, List.set_cons_succ, List.set_cons_zero])
  refine wpAnyH_take (i := 24) (v := ?_) rfl (by kernel_rfl) (by kernel_rfl) (by kernel_rfl) (fun _ _ _ h => h) (Or.inl ⟨by rfl, ?_⟩) (by assumption) ?_
  rotate_left 1
  · intro w hSw; (try dsimp only at hSw); simp only [List.getElem_toArray, List.getElem_cons_succ, List.getElem_cons_zero]; go_simp; try (with_reducible rfl)
  (try simp only [List.getElem_toArray, List.getElem_cons_succ, List.getElem_cons_zero, Act.put, List.setIfInBounds_toArray, List.set_cons_succ, List.set_cons_zero])
  refine wpAnyH_take (i := 25) (v := ?_) rfl (by kernel_rfl) (by kernel_rfl) (by kernel_rfl) (fun _ _ _ h => h) (Or.inl ⟨by rfl, ?_⟩) (by assumption) ?_
  rotate_left 1
  · intro w hSw; (try dsimp only at hSw); simp only [List.getElem_toArray, List.getElem_cons_succ, List.getElem_cons_zero]; go_simp; try (with_reducible rfl)
  (try simp only [List.getElem_toArray, List.getElem_cons_succ, List.getElem_cons_zero, Act.put, List.setIfInBounds_toArray, List.set_cons_succ, List.set_cons_zero])
  refine wpAnyH_take (i := 26) (v := ?_) rfl (by kernel_rfl) (by kernel_rfl) (by kernel_rfl) (fun _ _ _ h => h) (Or.inl ⟨by rfl, ?_⟩) (by assumption) ?_
  rotate_left 1
  · intro w hSw; (try dsimp only at hSw); simp only [List.getElem_toArray, List.getElem_cons_succ, List.getElem_cons_zero]; go_simp; try (with_reducible rfl)
  (try simp only [List.getElem_toArray, List.getElem_cons_succ, List.getElem_cons_zero, Act.put, List.setIfInBounds_toArray, List.set_cons_succ, List.set_cons_zero])
  refine wpAnyH_take (i := 27) (v := ?_) rfl (by kernel_rfl) (by kernel_rfl) (by kernel_rfl) (fun _ _ _ h => h) (Or.inl ⟨by rfl, ?_⟩) (by assumption) ?_
  rotate_left 1
  · intro w hSw; (try dsimp only at hSw); simp only [List.getElem_toArray, List.getElem_cons_succ, List.getElem_cons_zero]; go_simp; try (with_reducible rfl)
  (try simp only [List.getElem_toArray, List.getElem_cons_succ, List.getElem_cons_zero, Act.put, List.setIfInBounds_toArray, List.set_cons_succ, List.set_cons_zero])
  refine wpAnyH_take (i := 28) (v := ?_) rfl (by kernel_rfl) (by kernel_rfl) (by kernel_rfl) (fun _ _ _ h => h) (Or.inl ⟨by rfl, ?_⟩) (by assumption) ?_
  rotate_left 1
  · intro w hSw; (try dsimp only at hSw); simp only [List.getElem_toArray, List.getElem_cons_succ, List.getElem_cons_zero]; go_simp; try (with_reducible rfl)
  (try simp only [List.getElem_toArray, List.getElem_cons_succ, List.getElem_cons_zero, Act.put, List.setIfInBounds_toArray, List.set_cons_succ, List.set_cons_zero])
  refine wpAnyH_take (i := 29) (v := ?_) rfl (by kernel_rfl) (by kernel_rfl) (by kernel_rfl) (fun _ _ _ h => h) (Or.inl ⟨by rfl, ?_⟩) (by assumption) ?_
  rotate_left 1
  · intro w hSw; (try dsimp only at hSw); simp only [List.getElem_toArray, List.getElem_cons_succ, List.getElem_cons_zero]; go_simp; try (with_reducible rfl)
  (try simp only [List.getElem_toArray, List.getElem_cons_succ, List.getElem_cons_zero, Act.put, List.setIfInBounds_toArray, List.set_cons_succ, List.set_cons_zero])
  refine wpAnyH_take (i := 30) (v := ?_) rfl (by kernel_rfl) (by kernel_rfl) (by kernel_rfl) (fun _ _ _ h => h) (Or.inl ⟨by rfl, ?_⟩) (by assumption) ?_
  rotate_left 1
  · intro w hSw; (try dsimp only at hSw); simp only [List.getElem_toArray, List.getElem_cons_succ, List.getElem_cons_zero]; go_simp; try (with_reducible rfl)
  (try simp only [List.getElem_toArray, List.getElem_cons_succ, List.getElem_cons_zero, Act.put, List.setIfInBounds_toArray, List.set_cons_succ, List.set_cons_zero])
  refine wpAnyH_ready (rs := [18]) (by kernel_rfl) (by simp) ?_
  refine AllReadyH.cons rfl (fun K hK => ?_) AllReadyH.nil
  (try simp only [List.getElem_toArray, List.getElem_cons_succ, List.getElem_cons_zero])
  go_simp
  go_at_call 30; refine (CSL.out _).mono ?_; rintro e' u18 ⟨rfl, e18⟩
  (try (go_wp2_with fail))
  refine hK.out _ _ ?_ (fun hHeld => ?_)
  · exact K0.out _ (by ((repeat (first | with_reducible exact Still.refl _ | with_reducible assumption | with_reducible apply Still.alloc | with_reducible apply Still.drew | with_reducible refine Still.step ?_ (by assumption) | with_reducible refine Still.trans ?_ (by assumption)))))
  clear hK K
  (try simp only [Act.put, List.setIfInBounds_toArray, List.set_cons_succ, List.set_cons_zero])
  refine wpAnyH_ready (rs := [19]) (by kernel_rfl) (by simp) ?_
  refine AllReadyH.cons rfl (fun K hK => ?_) AllReadyH.nil
  (try simp only [List.getElem_toArray, List.getElem_cons_succ, List.getElem_cons_zero])
  go_simp
  go_at_call 31; refine (CSR.out _).mono ?_; rintro e' u19 ⟨rfl, e19⟩
  (try (go_wp2_with fail))
  refine hK.out _ _ ?_ (fun hHeld => ?_)
  · exact K0.out _ (by ((repeat (first | with_reducible exact Still.refl _ | with_reducible assumption | with_reducible apply Still.alloc | with_reducible apply Still.drew | with_reducible refine Still.step ?_ (by assumption) | with_reducible refine Still.trans ?_ (by assumption)))))
  clear hK K
  (try simp only [Act.put, List.setIfInBounds_toArray, List.set_cons_succ, List.set_cons_zero])
  refine wpAnyH_take (i := 31) (v := ?_) rfl (by kernel_rfl) (by kernel_rfl) (by kernel_rfl) (fun _ _ _ h => h) (Or.inl ⟨by rfl, ?_⟩) (by assumption) ?_
  rotate_left 1
  · intro w hSw; (try dsimp only at hSw); simp only [List.getElem_toArray, List.getElem_cons_succ, List.getElem_cons_zero]; go_simp; try (with_reducible rfl)
  (try simp only [List.getElem_toArray, List.getElem_cons_succ, List.getElem_cons_zero, Act.put, List.setIfInBounds_toArray, List.set_cons_succ, List.set_cons_zero])
  refine wpAnyH_take (i := 32) (v := ?_) rfl (by kernel_rfl) (by kernel_rfl) (by kernel_rfl) (fun _ _ _ h => h) (Or.inl ⟨by rfl, ?_⟩) (by assumption) ?_
  rotate_left 1
  · intro w hSw; (try dsimp only at hSw); simp only [List.getElem_toArray, List.getElem_cons_succ, List.getElem_cons_zero]; go_simp; try (with_reducible rfl)
  (try simp only [List.getElem_toArray, List.getElem_cons_succ, List.getElem_cons_zero, Act.put, List.setIfInBounds_toArray, List.set_cons_succ, List.set_cons_zero])
  refine wpAnyH_take (i := 33) (v := ?_) rfl (by kernel_rfl) (by kernel_rfl) (by kernel_rfl) (fun _ _ _ h => h) (Or.inl ⟨by rfl, ?_⟩) (by assumption) ?_
  rotate_left 1
  · intro w hSw; (try dsimp only at hSw); simp only [List.getElem_toArray, List.getElem_cons_succ, List.getElem_cons_zero]; go_simp; try (with_reducible rfl)
  (try simp only [List.getElem_toArray, List.getElem_cons_succ, List.getElem_cons_zero, Act.put, List.setIfInBounds_toArray, List.set_cons_succ, List.set_cons_zero])
  refine wpAnyH_take (i := 34) rfl (by kernel_rfl) (by kernel_rfl) (by kernel_rfl) (fun _ _ _ h => h) (yieldsIf_load_mid (by rfl) _ _ rfl _ _ rfl X _ (fun w hSw => by (try dsimp only at hSw); go_split_ands; assumption) Try.underlying24 rfl IX.out) (by assumption) ?_
  (try simp only [List.getElem_toArray, List.getElem_cons_succ, List.getElem_cons_zero, Act.put, List.setIfInBounds_toArray, List.set_cons_succ, List.set_cons_zero])
  refine wpAnyH_take (i := 35) rfl (by kernel_rfl) (by kernel_rfl) (by kernel_rfl) (fun _ _ _ h => h) (yieldsIf_load_mid (by rfl) _ _ rfl _ _ rfl Y _ (fun w hSw => by (try dsimp only at hSw); go_split_ands; assumption) Try.underlying24 rfl IY.out) (by assumption) ?_
  (try simp only [List.getElem_toArray, List.getElem_cons_succ, List.getElem_cons_zero, Act.put, List.setIfInBounds_toArray, List.set_cons_succ, List.set_cons_zero])
  refine wpAnyH_take (i := 37) rfl (by kernel_rfl) (by kernel_rfl) (by kernel_rfl) (fun _ _ _ h => h) (yieldsIf_load_mid (by rfl) _ _ rfl _ _ rfl Y _ (fun w hSw => by (try dsimp only at hSw); go_split_ands; assumption) Try.underlying24 rfl IY.out) (by assumption) ?_
  (try simp only [List.getElem_toArray, List.getElem_cons_succ, List.getElem_cons_zero, Act.put, List.setIfInBounds_toArray, List.set_cons_succ, List.set_cons_zero])
  refine wpAnyH_take (i := 38) rfl (by kernel_rfl) (by kernel_rfl) (by kernel_rfl) (fun _ _ _ h => h) (yieldsIf_load_mid (by rfl) _ _ rfl _ _ rfl X _ (fun w hSw => by (try dsimp only at hSw); go_split_ands; assumption) Try.underlying24 rfl IX.out) (by assumption) ?_
  (try simp only [List.getElem_toArray, List.getElem_cons_succ, List.getElem_cons_zero, Act.put, List.setIfInBounds_toArray, List.set_cons_succ, List.set_cons_zero])
  refine wpAnyH_ready (rs := [36]) (by kernel_rfl) (by simp) ?_
  refine AllReadyH.cons rfl (fun K hK => ?_) AllReadyH.nil
  (try simp only [List.getElem_toArray, List.getElem_cons_succ, List.getElem_cons_zero])
  go_simp
  go_at_call 33; refine (CC1.out _).mono ?_; rintro e' u36 ⟨rfl, e36⟩
  (try (go_wp2_with fail))
  refine hK.out _ _ ?_ (fun hHeld => ?_)
  · exact K0.out _ (by ((repeat (first | with_reducible exact Still.refl _ | with_reducible assumption | with_reducible apply Still.alloc | with_reducible apply Still.drew | with_reducible refine Still.step ?_ (by assumption) | with_reducible refine Still.trans ?_ (by assumption)))))
  clear hK K
  (try simp only [Act.put, List.setIfInBounds_toArray, List.set_cons_succ, List.set_cons_zero])
  refine wpAnyH_ready (rs := [39]) (by kernel_rfl) (by simp) ?_
  refine AllReadyH.cons rfl (fun K hK => ?_) AllReadyH.nil
  (try simp only [List.getElem_toArray, List.getElem_cons_succ, List.getElem_cons_zero])
  go_simp
  go_at_call 33; refine (CC2.out _).mono ?_; rintro e' u39 ⟨rfl, e39⟩
  (try (go_wp2_with fail))
  refine hK.out _ _ ?_ (fun hHeld => ?_)
  · exact K0.out _ (by ((repeat (first | with_reducible exact Still.refl _ | with_reducible assumption | with_reducible apply Still.alloc | with_reducible apply Still.drew | with_reducible refine Still.step ?_ (by assumption) | with_reducible refine Still.trans ?_ (by assumption)))))
  clear hK K
  (try simp only [Act.put, List.setIfInBounds_toArray, List.set_cons_succ, List.set_cons_zero])
  refine wpAnyH_take (i := 40) (v := ?_) rfl (by kernel_rfl) (by kernel_rfl) (by kernel_rfl) (fun _ _ _ h => h) (Or.inl ⟨by rfl, ?_⟩) (by assumption) ?_
  rotate_left 1
  · intro w hSw; (try dsimp only at hSw); simp only [List.getElem_toArray, List.getElem_cons_succ, List.getElem_cons_zero]; go_simp; try (with_reducible rfl)
  (try simp only [List.getElem_toArray, List.getElem_cons_succ, List.getElem_cons_zero, Act.put, List.setIfInBounds_toArray, List.set_cons_succ, List.set_cons_zero])
  refine wpAnyH_take (i := 41) (v := ?_) rfl (by kernel_rfl) (by kernel_rfl) (by kernel_rfl) (fun _ _ _ h => h) (Or.inl ⟨by rfl, ?_⟩) (by assumption) ?_
  rotate_left 1
  · intro w hSw; (try dsimp only at hSw); simp only [List.getElem_toArray, List.getElem_cons_succ, List.getElem_cons_zero]; go_simp; try (with_reducible rfl)
  (try simp only [List.getElem_toArray, List.getElem_cons_succ, List.getElem_cons_zero, Act.put, List.setIfInBounds_toArray, List.set_cons_succ, List.set_cons_zero])
  refine wpAnyH_take (i := 42) (v := ?_) rfl (by kernel_rfl) (by kernel_rfl) (by kernel_rfl) (fun _ _ _ h => h) (Or.inl ⟨by rfl, ?_⟩) (by assumption) ?_
  rotate_left 1
  · intro w hSw; (try dsimp only at hSw); simp only [List.getElem_toArray, List.getElem_cons_succ, List.getElem_cons_zero]; go_simp; try (with_reducible rfl)
  (try simp only [List.getElem_toArray, List.getElem_cons_succ, List.getElem_cons_zero, Act.put, List.setIfInBounds_toArray, List.set_cons_succ, List.set_cons_zero])
  refine wpAnyH_take (i := 43) (v := ?_) rfl (by kernel_rfl) (by kernel_rfl) (by kernel_rfl) (fun _ _ _ h => h) (Or.inl ⟨by rfl, ?_⟩) (by assumption) ?_
  rotate_left 1
  · intro w hSw; (try dsimp only at hSw); simp only [List.getElem_toArray, List.getElem_cons_succ, List.getElem_cons_zero]; go_simp; try (with_reducible rfl)
  (try simp only [List.getElem_toArray, List.getElem_cons_succ, List.getElem_cons_zero, Act.put, List.setIfInBounds_toArray, List.set_cons_succ, List.set_cons_zero])
  refine wpAnyH_ready (rs := [44]) (by kernel_rfl) (by simp) ?_
  refine AllReadyH.cons rfl (fun K hK => ?_) AllReadyH.nil
  (try simp only [List.getElem_toArray, List.getElem_cons_succ, List.getElem_cons_zero])
  go_simp
  go_at_call 20; refine (awake4_calls _).mono ?_; rintro e' u44 ⟨rfl, e44⟩
  (try (go_wp2_with fail))
  refine hK.out _ _ ?_ (fun hHeld => ?_)
  · exact K0.out _ (by ((repeat (first | with_reducible exact Still.refl _ | with_reducible assumption | with_reducible apply Still.alloc | with_reducible apply Still.drew | with_reducible refine Still.step ?_ (by assumption) | with_reducible refine Still.trans ?_ (by assumption)))))
  clear hK K
  (try simp only [Act.put, List.setIfInBounds_toArray, List.set_cons_succ, List.set_cons_zero])
  refine wpAnyH_take (i := 45) (v := ?_) rfl (by kernel_rfl) (by kernel_rfl) (by kernel_rfl) (fun _ _ _ h => h) (Or.inl ⟨by rfl, ?_⟩) (by assumption) ?_
  rotate_left 1
  · intro w hSw; (try dsimp only at hSw); simp only [List.getElem_toArray, List.getElem_cons_succ, List.getElem_cons_zero]; go_simp; try (with_reducible rfl)
  (try simp only [List.getElem_toArray, List.getElem_cons_succ, List.getElem_cons_zero, Act.put, List.setIfInBounds_toArray, List.set_cons_succ, List.set_cons_zero])
  refine wpAnyH_take (i := 46) (v := ?_) rfl (by kernel_rfl) (by kernel_rfl) (by kernel_rfl) (fun _ _ _ h => h) (Or.inl ⟨by rfl, ?_⟩) (by assumption) ?_
  rotate_left 1
  · intro w hSw; (try dsimp only at hSw); simp only [List.getElem_toArray, List.getElem_cons_succ, List.getElem_cons_zero]; go_simp; try (with_reducible rfl)
  (try simp only [List.getElem_toArray, List.getElem_cons_succ, List.getElem_cons_zero, Act.put, List.setIfInBounds_toArray, List.set_cons_succ, List.set_cons_zero])
  refine wpAnyH_done (by kernel_rfl) ?_ _
  go_wp2_with fail
  go_ret
  exact ⟨rfl, HB2.out.trans (show Still w7 u44 by ((repeat (first | with_reducible exact Still.refl _ | with_reducible assumption | with_reducible apply Still.alloc | with_reducible apply Still.drew | with_reducible refine Still.step ?_ (by assumption) | with_reducible refine Still.trans ?_ (by assumption)))))⟩
theorem walk (u v : U4) (z : Int) (w : World) (hu : u.ok) (hv : v.ok) (hz : (Lit.int .u64 z).wf = true) : Calls Try.prog 11 #[.agg u.arr, .agg v.arr, .int .u64 z] w (Ret w (.bool true)) := by
  have hb := bounds_u64 hz
  obtain ⟨n, rfl⟩ : ∃ n : Nat, z = (n : Int) := ⟨z.toNat, by omega⟩
  rw [u.uA hu, v.uA hv]
  exact walkN u.val v.val n (u.val_lt hu) (v.val_lt hv) (by omega) w

set_option maxRecDepth 100000 in
theorem lifted (os : Os) (started : os.Started) (H : Type) (enc : TypeId × Value → H) :
    ReturnsInHanded {} Try.checked os 11 .any (Rows.wideLawsSpec.pre6 enc Try.prog Try.f11 Rows.wideLawsRow.domain false) (Rows.wideLawsSpec.post enc Try.prog Try.f11 false true false false) := by
  refine returnsInHanded_of_change (C := Try.checked) own started (by kernel_rfl) Try.func11
    (ChangeSpec.witness6 (enc := enc) (C := Try.checked) false ⟨#[], #[.agg #[.int .u64 0, .int .u64 0, .int .u64 0, .int .u64 0], .agg #[.int .u64 0, .int .u64 0, .int .u64 0, .int .u64 0], .int .u64 0], []⟩ 8 (by kernel_rfl) (by kernel_rfl) (by kernel_rfl) (by kernel_rfl)) ?_
  intro W base args ds gs before hval0 hW hcnd _
  have hval : ∀ (j : Nat) t v, Try.f11.params[j]? = some t → args[j]? = some v → Value.okWide Try.prog W .any base t v := hval0
  have hW' := hW
  obtain ⟨p, q, hA0, hV, rfl, hfz, hnd⟩ := hW
  have hA : DataW.TrodAll enc Try.prog W 0 (fun _ => true) true Try.f11.params.toList args.toList ds p := hA0
  rw [Try.params11] at hA hval
  obtain ⟨v0, vs0, d0, ds0, p0, q0, hargs, rfl, rfl, h0, r0⟩ := trodAll_cons hA
  obtain ⟨v1, vs1, d1, ds1, p1, q1, rfl, rfl, rfl, h1, r1⟩ := trodAll_cons r0
  obtain ⟨v2, vs2, d2, ds2, p2, q2, rfl, rfl, rfl, h2, r2⟩ := trodAll_cons r1
  obtain ⟨rfl, rfl, rfl⟩ := trodAll_nil r2
  obtain rfl : args = #[v0, v1, v2] := by cases args; simp_all
  obtain ⟨rfl, rfl⟩ := trodVars_none hV
  have k0 := h0
  have lt0 : ∀ x ∈ p0, x.block < W.heap.size := by obtain ⟨m, hm⟩ := k0; exact DataW.trod_lt m _ _ _ hm
  obtain ⟨a0, rfl, w0⟩ := arrW (hval 0 24 v0 rfl rfl) h0
  have k1 := h1
  have lt1 : ∀ x ∈ p1, x.block < W.heap.size := by obtain ⟨m, hm⟩ := k1; exact DataW.trod_lt m _ _ _ hm
  obtain ⟨a1, rfl, w1⟩ := arrW (hval 1 24 v1 rfl rfl) h1
  obtain ⟨a2, rfl, rfl, rfl, w2⟩ := open_int Try.underlying22 (hval 2 22 v2 rfl rfl) h2
  clear hA0 hval0
  refine (walk a0 a1 a2 W w0 w1 w2).mono fun e W' ⟨he, bel⟩ => ?_
  subst he
  exact ⟨_, rfl, _, _, _, [], _, [], hW', trodAll_mk1 (shut_bool Try.underlying4 _), (trodAll_cons_mk (Below.trod laidOut (by kernel_rfl) (of_decide_eq_true (by kernel_rfl)) k0 bel lt0) (trodAll_cons_mk (Below.trod laidOut (by kernel_rfl) (of_decide_eq_true (by kernel_rfl)) k1 bel lt1) (trodAll_cons_mk (shut_int Try.underlying22 w2) trodAll_mk0))), rfl, bel.frame _, fun h => by cases h⟩

theorem over : Rows.wideLawsRow.holds Try.pinned (OpenSpec.ofChange Rows.wideLawsSpec) :=
  OpenClaim.holds_of_wide 11 Try.f11 rfl rfl rfl rfl rfl rfl rfl ⟨rfl, rfl, rfl, rfl, rfl⟩ rfl rfl rfl rfl rfl (by kernel_rfl) Try.func11 (by kernel_rfl)
    (of_decide_eq_true (by kernel_rfl)) (by unfold Func.isWrapper; first | (rw [if_pos (by decide +kernel)]; kernel_rfl) | (rw [if_neg (by decide +kernel)]; exact ⟨rfl, rfl⟩))
    (fun os started H enc _ => lifted os started H enc)

theorem proved : Rows.WideLawsSaid := over
end Go.Proofs.Ythbbeknbdgkpkaa.wideLaws
