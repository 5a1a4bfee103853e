/- Proved: for every wide number and every wide divisor the quotient and the rest are what the document's digits say, by 0 too, and the arguments read as they did. No condition. -/
import Derived.Test.YthbbeknbdgkpkaaRows
import Derived.Test.YthbbeknbdgkpkaaWidK
import Derived.Test.YthbbeknbdgkpkaaWidV
import Derived.Test.YthbbeknbdgkpkaaBigN
import Derived.Test.YthbbeknbdgkpkaaArrW
import Derived.ProofKit
import Derived.Deep.RegionHeld3
import Derived.Deep.CutRange
import Derived.Deep.DeepCutAuto
import Derived.OpenShut
import Derived.ShutString
import Derived.ChangeOld
import Derived.Test.YthbbeknbdgkpkaaOpen
namespace Go.Proofs.Ythbbeknbdgkpkaa.wideQuos
open Go.ChangeShapes Go.WideShapes Go.ChangeAt Go.RowKit
open Go.ChangeMaps (open_string shut_string)
set_option linter.unusedVariables false
set_option linter.unusedSimpArgs false

theorem own : ownKnob Try.prog.godebug = none := by kernel_rfl
theorem laidOut : laidOutB Try.prog = true := by kernel_rfl

set_option maxRecDepth 100000 in
set_option maxHeartbeats 6000000 in
theorem walk0 (x y : Nat) (hx : x < 2 ^ 256) (hy : y = 0) (w : World) : Calls Try.prog 6 #[.agg (cellsW (wd x)).toArray, .agg (cellsW (wd y)).toArray] w (Ret w (.bool true)) := by
  have gU := guardU
  have CQ : Hid (∀ W, Calls Try.prog 28 #[.agg (cellsW (wd x)).toArray, .agg (cellsW (wd y)).toArray] W (Ret W (.tuple #[.agg (cellsW (wd y)).toArray, .agg (cellsW (wd x)).toArray]))) := Lib.hid fun W => by
    have h := quo0_calls x y hy W
    rw [show (cellsW (wd y)).toArray = #[.int .u64 0, .int .u64 0, .int .u64 0, .int .u64 0] from by rw [hy]; rfl] at h ⊢
    exact h
  obtain ⟨X, hX⟩ : ∃ X, X = cellsW (wd x) := ⟨_, rfl⟩
  have IX : Hid ((Try.prog.info? 24).map (·.size) = some X.length) := Lib.hid (by rw [hX]; exact sizeW _)
  have LX : Hid (zerosW.length = X.length) := Lib.hid (by rw [hX]; rfl)
  have OX : Hid (∀ v ∈ X, v.oneCell' = true) := Lib.hid (by rw [hX]; exact cellsW_one _)
  obtain ⟨Y, hY⟩ : ∃ X, X = cellsW (wd y) := ⟨_, rfl⟩
  have IY : Hid ((Try.prog.info? 24).map (·.size) = some Y.length) := Lib.hid (by rw [hY]; exact sizeW _)
  have LY : Hid (zerosW.length = Y.length) := Lib.hid (by rw [hY]; rfl)
  have OY : Hid (∀ v ∈ Y, v.oneCell' = true) := Lib.hid (by rw [hY]; exact cellsW_one _)
  have heq : ∀ W, (Op.equalIn 10000 24 (.agg Y.toArray) (.agg #[.int .u64 0, .int .u64 0, .int .u64 0, .int .u64 0])).run Try.prog W = .ok true W := fun W => by rw [hY, hy]; exact u_same 0 W
  have heq2 : ∀ W, (Op.equalIn 10000 24 (.agg X.toArray) (.agg X.toArray)).run Try.prog W = .ok true W := fun W => by rw [hX]; exact u_same x W
  rw [← hX, ← hY] at CQ
  rw [← hX, ← hY]
  obtain ⟨w0, hw0⟩ : ∃ w0, w0 = ((w.alloc (.cells X.toArray 24)).alloc (.cells Y.toArray 24)) := ⟨_, rfl⟩
  have hbX : Blk w0 (w.heap.size) X 24 := by rw [hw0]; exact Blk.alloc (Blk.new' w X.toArray 24 (w.heap.size) (by simp)) _
  have hbY : Blk w0 (w.heap.size + 1) Y 24 := by rw [hw0]; exact Blk.new' (w.alloc _) Y.toArray 24 (w.heap.size + 1) (by simp)
  have HB : Hid (Still w w0) := Lib.hid (by rw [hw0]; exact Still.alloc (Still.alloc (Still.refl w) _) _)
  clear hX hY hy hx
  go_enter Try.func6, Try.ntmps6
  go_upto_region 1 with fail
  rw [← hw0]
  clear hw0
  go_wp2_with (first
    | (refine at_load 24 (.tmp 2) ?_; refine wpList_load_mid rfl 24 (.tmp 2) rfl (w.heap.size) 0 rfl X _ (Blk.range (t := 24) (by ((repeat (first | with_reducible assumption | with_reducible apply Blk.alloc | with_reducible apply Blk.drew | with_reducible refine Blk.step ?_ (by assumption)))))) Try.underlying24 rfl IX.out ?_)
    | (refine at_load 24 (.tmp 3) ?_; refine wpList_load_mid rfl 24 (.tmp 3) rfl (w.heap.size + 1) 0 rfl Y _ (Blk.range (t := 24) (by ((repeat (first | with_reducible assumption | with_reducible apply Blk.alloc | with_reducible apply Blk.drew | with_reducible refine Blk.step ?_ (by assumption)))))) Try.underlying24 rfl IY.out ?_)
    | (refine at_load 24 (.tmp 5) ?_; refine wpList_load_mid rfl 24 (.tmp 5) rfl (w1.heap.size) 0 rfl Y _ (Blk.range (t := 24) (by ((repeat (first | with_reducible assumption | with_reducible apply Blk.alloc | with_reducible apply Blk.drew | with_reducible refine Blk.step ?_ (by assumption)))))) Try.underlying24 rfl IY.out ?_)
    | (refine at_loadg 24 (.tmp 6) ?_; refine wpList_load_midg (by simp [Region.wanted, yielded, Act.put]) 24 (.tmp 6) rfl (w1.heap.size + 1) 0 rfl X _ (Blk.range (t := 24) (by ((repeat (first | with_reducible assumption | with_reducible apply Blk.alloc | with_reducible apply Blk.drew | with_reducible refine Blk.step ?_ (by assumption)))))) Try.underlying24 rfl IX.out ?_)
    | (refine at_loadg 24 (.tmp 2) ?_; refine wpList_load_midg (by simp [Region.wanted, yielded, Act.put]) 24 (.tmp 2) rfl (w.heap.size) 0 rfl X _ (Blk.range (t := 24) (by ((repeat (first | with_reducible assumption | with_reducible apply Blk.alloc | with_reducible apply Blk.drew | with_reducible refine Blk.step ?_ (by assumption)))))) Try.underlying24 rfl IX.out ?_)
    | (go_at_call 28; refine (CQ.out _).mono ?_; rintro e' w1 ⟨rfl, d1⟩)
    | (refine at_store 24 (.tmp 5) (.tmp 11) ?_; refine wpList_store_blk rfl 24 (.tmp 5) (.tmp 11) rfl w1.heap.size zerosW Y _ rfl rfl ((Blk.new w1 _ _).alloc _) LY.out IY.out OY.out ?_; intro w2 hbw2 how2)
    | (refine at_store 24 (.tmp 6) (.tmp 12) ?_; refine wpList_store_blk rfl 24 (.tmp 6) (.tmp 12) rfl (w1.heap.size + 1) zerosW X _ rfl rfl (how2.blk (Blk.new' _ _ _ _ (by simp)) (by omega)) LX.out IX.out OX.out ?_; intro w3 hbw3 how3; have hqw3 := how3.blk hbw2 (by omega); have dw3 : Below w1.heap.size w1 w3 := Below.trans (Below.trans (((Below.refl _ w1).alloc (Nat.le_refl _) _).alloc (by simp) _) (how2.below (Nat.le_refl _))) (how3.below (by omega)); clear hbw2 how2 how3)
    | (go_at_call 20; refine (awake4_calls _).mono ?_; rintro e' w4 ⟨rfl, d4⟩))
  all_goals go_ret
  all_goals exact ⟨rfl, HB.out.trans (show Still w0 w4 by ((repeat (first | with_reducible exact Still.refl _ | with_reducible assumption | with_reducible apply Still.alloc | with_reducible apply Still.drew | with_reducible refine Still.step ?_ (by assumption)))))⟩
set_option maxRecDepth 100000 in
set_option maxHeartbeats 6000000 in
theorem walkN (x y : Nat) (bx : x < 2 ^ 256) (by' : y < 2 ^ 256) (hy0 : y ≠ 0) (w : World) : Calls Try.prog 6 #[.agg (cellsW (wd x)).toArray, .agg (cellsW (wd y)).toArray] w (Ret w (.bool true)) := by
  have by2 := by'
  have gU := guardU
  obtain ⟨q, hq⟩ : ∃ q, q = x / y := ⟨_, rfl⟩
  obtain ⟨r, hr⟩ : ∃ r, r = x % y := ⟨_, rfl⟩
  have bq : q < 2 ^ 256 := by rw [hq]; exact Nat.lt_of_le_of_lt (Nat.div_le_self _ _) bx
  have hry : r < y := by rw [hr]; exact Nat.mod_lt _ (by omega)
  have br : r < 2 ^ 256 := by omega
  have hdm : q * y + r = x := by rw [hq, hr, Nat.mul_comm]; exact Nat.div_add_mod x y
  have CQ : Hid (∀ W, Calls Try.prog 28 #[.agg (cellsW (wd x)).toArray, .agg (cellsW (wd y)).toArray] W (Ret W (.tuple #[.agg (cellsW (wd q)).toArray, .agg (cellsW (wd r)).toArray]))) := Lib.hid fun W => by rw [hq, hr]; exact quo_calls x y W bx by2 hy0
  have CB : Hid (∀ (n : Nat) (V : List Value), (n < 2 ^ 256 ∧ V = cellsW (wd n)) → ∀ W, Calls Try.prog 12 #[.agg V.toArray] W (MkB W n)) := Lib.hid fun n V h W => by rw [h.2]; exact big_callsN n W h.1
  have CI : Hid (∀ W A1 n1 c1 A2 n2 c2 A3 n3 c3 A4 n4 c4, RdI W A1 n1 (digs q) → RdI W A2 n2 (digs r) → RdI W A3 n3 (digs x) → RdI W A4 n4 (digs y) → Calls Try.prog 27 #[.slice A1 n1 c1, .slice A2 n2 c2, .slice A3 n3 c3, .slice A4 n4 c4] W (Ret W (.bool true))) := Lib.hid fun W A1 n1 c1 A2 n2 c2 A3 n3 c3 A4 n4 c4 h1 h2 h3 h4 =>
    bis_calls A1 A2 A3 A4 n1 n2 n3 n4 c1 c2 c3 c4 q r x y W (by have := digs_le h1 (k := 16) (by rw [p16]; exact bq); omega) (by have := digs_le h2 (k := 16) (by rw [p16]; exact br); omega) (by have := digs_le h3 (k := 16) (by rw [p16]; exact bx); omega) (by have := digs_le h4 (k := 16) (by rw [p16]; exact by2); omega) h1 h2 h3 h4 hry hdm
  obtain ⟨X, hX⟩ : ∃ X, X = cellsW (wd x) := ⟨_, rfl⟩
  have IX : Hid ((Try.prog.info? 24).map (·.size) = some X.length) := Lib.hid (by rw [hX]; exact sizeW _)
  have LX : Hid (zerosW.length = X.length) := Lib.hid (by rw [hX]; rfl)
  have OX : Hid (∀ v ∈ X, v.oneCell' = true) := Lib.hid (by rw [hX]; exact cellsW_one _)
  obtain ⟨Y, hY⟩ : ∃ X, X = cellsW (wd y) := ⟨_, rfl⟩
  have IY : Hid ((Try.prog.info? 24).map (·.size) = some Y.length) := Lib.hid (by rw [hY]; exact sizeW _)
  have LY : Hid (zerosW.length = Y.length) := Lib.hid (by rw [hY]; rfl)
  have OY : Hid (∀ v ∈ Y, v.oneCell' = true) := Lib.hid (by rw [hY]; exact cellsW_one _)
  obtain ⟨Q, hQ⟩ : ∃ X, X = cellsW (wd q) := ⟨_, rfl⟩
  have IQ : Hid ((Try.prog.info? 24).map (·.size) = some Q.length) := Lib.hid (by rw [hQ]; exact sizeW _)
  have LQ : Hid (zerosW.length = Q.length) := Lib.hid (by rw [hQ]; rfl)
  have OQ : Hid (∀ v ∈ Q, v.oneCell' = true) := Lib.hid (by rw [hQ]; exact cellsW_one _)
  obtain ⟨R, hR⟩ : ∃ X, X = cellsW (wd r) := ⟨_, rfl⟩
  have IR : Hid ((Try.prog.info? 24).map (·.size) = some R.length) := Lib.hid (by rw [hR]; exact sizeW _)
  have LR : Hid (zerosW.length = R.length) := Lib.hid (by rw [hR]; rfl)
  have OR : Hid (∀ v ∈ R, v.oneCell' = true) := Lib.hid (by rw [hR]; exact cellsW_one _)
  have heq : ∀ W, (Op.equalIn 10000 24 (.agg Y.toArray) (.agg #[.int .u64 0, .int .u64 0, .int .u64 0, .int .u64 0])).run Try.prog W = .ok false W := fun W => by
    have h := u_equal y 0 by2 (by decide) W
    rw [decide_eq_false hy0] at h
    rw [hY]
    exact h
  have Hx : Hid (x < 2 ^ 256 ∧ X = cellsW (wd x)) := Lib.hid ⟨bx, hX⟩
  have Hy : Hid (y < 2 ^ 256 ∧ Y = cellsW (wd y)) := Lib.hid ⟨by2, hY⟩
  have Hq : Hid (q < 2 ^ 256 ∧ Q = cellsW (wd q)) := Lib.hid ⟨bq, hQ⟩
  have Hr : Hid (r < 2 ^ 256 ∧ R = cellsW (wd r)) := Lib.hid ⟨br, hR⟩
  rw [← hX, ← hY, ← hQ, ← hR] at CQ
  rw [← hX, ← hY]
  obtain ⟨w0, hw0⟩ : ∃ w0, w0 = ((w.alloc (.cells X.toArray 24)).alloc (.cells Y.toArray 24)) := ⟨_, rfl⟩
  have hbX : Blk w0 (w.heap.size) X 24 := by rw [hw0]; exact Blk.alloc (Blk.new' w X.toArray 24 (w.heap.size) (by simp)) _
  have hbY : Blk w0 (w.heap.size + 1) Y 24 := by rw [hw0]; exact Blk.new' (w.alloc _) Y.toArray 24 (w.heap.size + 1) (by simp)
  have HB : Hid (Still w w0) := Lib.hid (by rw [hw0]; exact Still.alloc (Still.alloc (Still.refl w) _) _)
  clear hX hY hQ hR hq hr bq br bx by' by2 hy0 hry hdm
  go_enter Try.func6, Try.ntmps6
  go_upto_region 1 with fail
  rw [← hw0]
  clear hw0
  go_upto_region 4 with (first
    | (refine at_load 24 (.tmp 2) ?_; refine wpList_load_mid rfl 24 (.tmp 2) rfl (w.heap.size) 0 rfl X _ (Blk.range (t := 24) (by ((repeat (first | with_reducible assumption | with_reducible apply Blk.alloc | with_reducible apply Blk.drew | with_reducible refine Blk.step ?_ (by assumption)))))) Try.underlying24 rfl IX.out ?_)
    | (refine at_load 24 (.tmp 3) ?_; refine wpList_load_mid rfl 24 (.tmp 3) rfl (w.heap.size + 1) 0 rfl Y _ (Blk.range (t := 24) (by ((repeat (first | with_reducible assumption | with_reducible apply Blk.alloc | with_reducible apply Blk.drew | with_reducible refine Blk.step ?_ (by assumption)))))) Try.underlying24 rfl IY.out ?_)
    | (go_at_call 28; refine (CQ.out _).mono ?_; rintro e' w1 ⟨rfl, d1⟩)
    | (refine at_store 24 (.tmp 5) (.tmp 11) ?_; refine wpList_store_blk rfl 24 (.tmp 5) (.tmp 11) rfl w1.heap.size zerosW Q _ rfl rfl ((Blk.new w1 _ _).alloc _) LQ.out IQ.out OQ.out ?_; intro w2 hbw2 how2)
    | (refine at_store 24 (.tmp 6) (.tmp 12) ?_; refine wpList_store_blk rfl 24 (.tmp 6) (.tmp 12) rfl (w1.heap.size + 1) zerosW R _ rfl rfl (how2.blk (Blk.new' _ _ _ _ (by simp)) (by omega)) LR.out IR.out OR.out ?_; intro w3 hbw3 how3; have hqw3 := how3.blk hbw2 (by omega); have dw3 : Below w1.heap.size w1 w3 := Below.trans (Below.trans (((Below.refl _ w1).alloc (Nat.le_refl _) _).alloc (by simp) _) (how2.below (Nat.le_refl _))) (how3.below (by omega)); clear hbw2 how2 how3))
  have K0 : Hid (∀ W, Still w3 W → (W.rangeAt w1.heap.size 0 Q ∧ W.rangeAt (w1.heap.size + 1) 0 R ∧ W.rangeAt w.heap.size 0 X ∧ W.rangeAt (w.heap.size + 1) 0 Y ∧ Still w3 W)) := Lib.hid fun W h => ⟨(Blk.step hqw3 h).range, (Blk.step hbw3 h).range, (Blk.step (by ((repeat (first | with_reducible assumption | with_reducible apply Blk.alloc | with_reducible apply Blk.drew | with_reducible refine Blk.step ?_ (by assumption))))) h).range, (Blk.step (by ((repeat (first | with_reducible assumption | with_reducible apply Blk.alloc | with_reducible apply Blk.drew | with_reducible refine Blk.step ?_ (by assumption))))) h).range, h⟩
  refine wp_region_held_drew (S := fun W => W.rangeAt w1.heap.size 0 Q ∧ W.rangeAt (w1.heap.size + 1) 0 R ∧ W.rangeAt w.heap.size 0 X ∧ W.rangeAt (w.heap.size + 1) 0 Y ∧ Still w3 W) (by kernel_rfl) ?_ (fun hHeld => ?_)
  · exact K0.out _ (by ((repeat (first | with_reducible exact Still.refl _ | with_reducible assumption | with_reducible apply Still.alloc | with_reducible apply Still.drew | with_reducible refine Still.step ?_ (by assumption)))))
  refine wpAnyH_take (i := 0) rfl (by kernel_rfl) (by kernel_rfl) (by kernel_rfl) (fun _ _ _ h => h) (yieldsIf_load_mid (by rfl) _ _ rfl _ _ rfl Q _ (fun w hSw => by (try dsimp only at hSw); go_split_ands; assumption) Try.underlying24 rfl IQ.out) (by assumption) ?_
  (try simp only [List.getElem_toArray, List.getElem_cons_succ, List.getElem_cons_zero, Act.put, List.setIfInBounds_toArray, List.set_cons_succ, List.set_cons_zero])
  refine wpAnyH_take (i := 2) rfl (by kernel_rfl) (by kernel_rfl) (by kernel_rfl) (fun _ _ _ h => h) (yieldsIf_load_mid (by rfl) _ _ rfl _ _ rfl R _ (fun w hSw => by (try dsimp only at hSw); go_split_ands; assumption) Try.underlying24 rfl IR.out) (by assumption) ?_
  (try simp only [List.getElem_toArray, List.getElem_cons_succ, List.getElem_cons_zero, Act.put, List.setIfInBounds_toArray, List.set_cons_succ, List.set_cons_zero])
  refine wpAnyH_take (i := 4) rfl (by kernel_rfl) (by kernel_rfl) (by kernel_rfl) (fun _ _ _ h => h) (yieldsIf_load_mid (by rfl) _ _ rfl _ _ rfl X _ (fun w hSw => by (try dsimp only at hSw); go_split_ands; assumption) Try.underlying24 rfl IX.out) (by assumption) ?_
  (try simp only [List.getElem_toArray, List.getElem_cons_succ, List.getElem_cons_zero, Act.put, List.setIfInBounds_toArray, List.set_cons_succ, List.set_cons_zero])
  refine wpAnyH_take (i := 6) rfl (by kernel_rfl) (by kernel_rfl) (by kernel_rfl) (fun _ _ _ h => h) (yieldsIf_load_mid (by rfl) _ _ rfl _ _ rfl Y _ (fun w hSw => by (try dsimp only at hSw); go_split_ands; assumption) Try.underlying24 rfl IY.out) (by assumption) ?_
  (try simp only [List.getElem_toArray, List.getElem_cons_succ, List.getElem_cons_zero, Act.put, List.setIfInBounds_toArray, List.set_cons_succ, List.set_cons_zero])
  refine wpAnyH_ready (rs := [1]) (by kernel_rfl) (by simp) ?_
  refine AllReadyH.cons rfl (fun K hK => ?_) AllReadyH.nil
  (try simp only [List.getElem_toArray, List.getElem_cons_succ, List.getElem_cons_zero])
  go_simp
  go_at_call 12; refine (CB.out q Q Hq.out _).mono ?_; rintro e' v4 ⟨A4, n4, c4, rfl, h4, h4c, h4m, d4⟩
  (try (go_wp2_with fail))
  refine hK.out _ _ ?_ (fun hHeld => ?_)
  · exact K0.out _ (by ((repeat (first | with_reducible exact Still.refl _ | with_reducible assumption | with_reducible apply Still.alloc | with_reducible apply Still.drew | with_reducible refine Still.step ?_ (by assumption)))))
  clear hK K
  (try simp only [Act.put, List.setIfInBounds_toArray, List.set_cons_succ, List.set_cons_zero])
  refine wpAnyH_ready (rs := [3]) (by kernel_rfl) (by simp) ?_
  refine AllReadyH.cons rfl (fun K hK => ?_) AllReadyH.nil
  (try simp only [List.getElem_toArray, List.getElem_cons_succ, List.getElem_cons_zero])
  go_simp
  go_at_call 12; refine (CB.out r R Hr.out _).mono ?_; rintro e' v5 ⟨A5, n5, c5, rfl, h5, h5c, h5m, d5⟩
  (try (go_wp2_with fail))
  refine hK.out _ _ ?_ (fun hHeld => ?_)
  · exact K0.out _ (by ((repeat (first | with_reducible exact Still.refl _ | with_reducible assumption | with_reducible apply Still.alloc | with_reducible apply Still.drew | with_reducible refine Still.step ?_ (by assumption)))))
  clear hK K
  (try simp only [Act.put, List.setIfInBounds_toArray, List.set_cons_succ, List.set_cons_zero])
  refine wpAnyH_ready (rs := [5]) (by kernel_rfl) (by simp) ?_
  refine AllReadyH.cons rfl (fun K hK => ?_) AllReadyH.nil
  (try simp only [List.getElem_toArray, List.getElem_cons_succ, List.getElem_cons_zero])
  go_simp
  go_at_call 12; refine (CB.out x X Hx.out _).mono ?_; rintro e' v6 ⟨A6, n6, c6, rfl, h6, h6c, h6m, d6⟩
  (try (go_wp2_with fail))
  refine hK.out _ _ ?_ (fun hHeld => ?_)
  · exact K0.out _ (by ((repeat (first | with_reducible exact Still.refl _ | with_reducible assumption | with_reducible apply Still.alloc | with_reducible apply Still.drew | with_reducible refine Still.step ?_ (by assumption)))))
  clear hK K
  (try simp only [Act.put, List.setIfInBounds_toArray, List.set_cons_succ, List.set_cons_zero])
  refine wpAnyH_ready (rs := [7]) (by kernel_rfl) (by simp) ?_
  refine AllReadyH.cons rfl (fun K hK => ?_) AllReadyH.nil
  (try simp only [List.getElem_toArray, List.getElem_cons_succ, List.getElem_cons_zero])
  go_simp
  go_at_call 12; refine (CB.out y Y Hy.out _).mono ?_; rintro e' v7 ⟨A7, n7, c7, rfl, h7, h7c, h7m, d7⟩
  (try (go_wp2_with fail))
  refine hK.out _ _ ?_ (fun hHeld => ?_)
  · exact K0.out _ (by ((repeat (first | with_reducible exact Still.refl _ | with_reducible assumption | with_reducible apply Still.alloc | with_reducible apply Still.drew | with_reducible refine Still.step ?_ (by assumption)))))
  clear hK K
  (try simp only [Act.put, List.setIfInBounds_toArray, List.set_cons_succ, List.set_cons_zero])
  refine wpAnyH_ready (rs := [8]) (by kernel_rfl) (by simp) ?_
  refine AllReadyH.cons rfl (fun K hK => ?_) AllReadyH.nil
  (try simp only [List.getElem_toArray, List.getElem_cons_succ, List.getElem_cons_zero])
  go_simp
  go_at_call 27; refine (CI.out _ _ _ _ _ _ _ _ _ _ _ _ _ (h4.still (by ((repeat (first | with_reducible exact Still.refl _ | with_reducible assumption | with_reducible apply Still.alloc | with_reducible apply Still.drew | with_reducible refine Still.step ?_ (by assumption)))))) (h5.still (by ((repeat (first | with_reducible exact Still.refl _ | with_reducible assumption | with_reducible apply Still.alloc | with_reducible apply Still.drew | with_reducible refine Still.step ?_ (by assumption)))))) (h6.still (by ((repeat (first | with_reducible exact Still.refl _ | with_reducible assumption | with_reducible apply Still.alloc | with_reducible apply Still.drew | with_reducible refine Still.step ?_ (by assumption)))))) (h7.still (by ((repeat (first | with_reducible exact Still.refl _ | with_reducible assumption | with_reducible apply Still.alloc | with_reducible apply Still.drew | with_reducible refine Still.step ?_ (by assumption))))))).mono ?_; rintro e' v8 ⟨rfl, d8⟩
  (try (go_wp2_with fail))
  refine hK.out _ _ ?_ (fun hHeld => ?_)
  · exact K0.out _ (by ((repeat (first | with_reducible exact Still.refl _ | with_reducible assumption | with_reducible apply Still.alloc | with_reducible apply Still.drew | with_reducible refine Still.step ?_ (by assumption)))))
  clear hK K
  (try simp only [Act.put, List.setIfInBounds_toArray, List.set_cons_succ, List.set_cons_zero])
  refine wpAnyH_take (i := 9) (v := ?_) rfl (by kernel_rfl) (by kernel_rfl) (by kernel_rfl) (fun _ _ _ h => h) (Or.inl ⟨by rfl, ?_⟩) (by assumption) ?_
  rotate_left 1
  · intro w hSw; (try dsimp only at hSw); simp only [List.getElem_toArray, List.getElem_cons_succ, List.getElem_cons_zero]; go_simp; try (with_reducible rfl)
  (try simp only [List.getElem_toArray, List.getElem_cons_succ, List.getElem_cons_zero, Act.put, List.setIfInBounds_toArray, List.set_cons_succ, List.set_cons_zero])
  refine wpAnyH_ready (rs := [10]) (by kernel_rfl) (by simp) ?_
  refine AllReadyH.cons rfl (fun K hK => ?_) AllReadyH.nil
  (try simp only [List.getElem_toArray, List.getElem_cons_succ, List.getElem_cons_zero])
  go_simp
  go_at_call 20; refine (awake4_calls _).mono ?_; rintro e' v9 ⟨rfl, d9⟩
  (try (go_wp2_with fail))
  refine hK.out _ _ ?_ (fun hHeld => ?_)
  · exact K0.out _ (by ((repeat (first | with_reducible exact Still.refl _ | with_reducible assumption | with_reducible apply Still.alloc | with_reducible apply Still.drew | with_reducible refine Still.step ?_ (by assumption)))))
  clear hK K
  (try simp only [Act.put, List.setIfInBounds_toArray, List.set_cons_succ, List.set_cons_zero])
  refine wpAnyH_take (i := 11) (v := ?_) rfl (by kernel_rfl) (by kernel_rfl) (by kernel_rfl) (fun _ _ _ h => h) (Or.inl ⟨by rfl, ?_⟩) (by assumption) ?_
  rotate_left 1
  · intro w hSw; (try dsimp only at hSw); simp only [List.getElem_toArray, List.getElem_cons_succ, List.getElem_cons_zero]; go_simp; try (with_reducible rfl)
  (try simp only [List.getElem_toArray, List.getElem_cons_succ, List.getElem_cons_zero, Act.put, List.setIfInBounds_toArray, List.set_cons_succ, List.set_cons_zero])
  refine wpAnyH_take (i := 12) (v := ?_) rfl (by kernel_rfl) (by kernel_rfl) (by kernel_rfl) (fun _ _ _ h => h) (Or.inl ⟨by rfl, ?_⟩) (by assumption) ?_
  rotate_left 1
  · intro w hSw; (try dsimp only at hSw); simp only [List.getElem_toArray, List.getElem_cons_succ, List.getElem_cons_zero]; go_simp; try (with_reducible rfl)
  (try simp only [List.getElem_toArray, List.getElem_cons_succ, List.getElem_cons_zero, Act.put, List.setIfInBounds_toArray, List.set_cons_succ, List.set_cons_zero])
  refine wpAnyH_done (by kernel_rfl) ?_ _
  go_wp2_with fail
  go_ret
  exact ⟨rfl, HB.out.trans (show Still w0 v9 by ((repeat (first | with_reducible exact Still.refl _ | with_reducible assumption | with_reducible apply Still.alloc | with_reducible apply Still.drew | with_reducible refine Still.step ?_ (by assumption)))))⟩
theorem walk (u v : U4) (w : World) (hu : u.ok) (hv : v.ok) : Calls Try.prog 6 #[.agg u.arr, .agg v.arr] w (Ret w (.bool true)) := by
  rw [u.uA hu, v.uA hv]
  by_cases h0 : v.val = 0
  · exact walk0 u.val v.val (u.val_lt hu) h0 w
  · exact walkN u.val v.val (u.val_lt hu) (v.val_lt hv) h0 w

set_option maxRecDepth 100000 in
theorem lifted (os : Os) (started : os.Started) (H : Type) (enc : TypeId × Value → H) :
    ReturnsInHanded {} Try.checked os 6 .any (Rows.wideQuosSpec.pre6 enc Try.prog Try.f6 Rows.wideQuosRow.domain false) (Rows.wideQuosSpec.post enc Try.prog Try.f6 false true false false) := by
  refine returnsInHanded_of_change (C := Try.checked) own started (by kernel_rfl) Try.func6
    (ChangeSpec.witness6 (enc := enc) (C := Try.checked) false ⟨#[], #[.agg #[.int .u64 0, .int .u64 0, .int .u64 0, .int .u64 0], .agg #[.int .u64 0, .int .u64 0, .int .u64 0, .int .u64 0]], []⟩ 8 (by kernel_rfl) (by kernel_rfl) (by kernel_rfl) (by kernel_rfl)) ?_
  intro W base args ds gs before hval0 hW hcnd _
  have hval : ∀ (j : Nat) t v, Try.f6.params[j]? = some t → args[j]? = some v → Value.okWide Try.prog W .any base t v := hval0
  have hW' := hW
  obtain ⟨p, q, hA0, hV, rfl, hfz, hnd⟩ := hW
  have hA : DataW.TrodAll enc Try.prog W 0 (fun _ => true) true Try.f6.params.toList args.toList ds p := hA0
  rw [Try.params6] at hA hval
  obtain ⟨v0, vs0, d0, ds0, p0, q0, hargs, rfl, rfl, h0, r0⟩ := trodAll_cons hA
  obtain ⟨v1, vs1, d1, ds1, p1, q1, rfl, rfl, rfl, h1, r1⟩ := trodAll_cons r0
  obtain ⟨rfl, rfl, rfl⟩ := trodAll_nil r1
  obtain rfl : args = #[v0, v1] := by cases args; simp_all
  obtain ⟨rfl, rfl⟩ := trodVars_none hV
  have k0 := h0
  have lt0 : ∀ x ∈ p0, x.block < W.heap.size := by obtain ⟨m, hm⟩ := k0; exact DataW.trod_lt m _ _ _ hm
  obtain ⟨a0, rfl, w0⟩ := arrW (hval 0 24 v0 rfl rfl) h0
  have k1 := h1
  have lt1 : ∀ x ∈ p1, x.block < W.heap.size := by obtain ⟨m, hm⟩ := k1; exact DataW.trod_lt m _ _ _ hm
  obtain ⟨a1, rfl, w1⟩ := arrW (hval 1 24 v1 rfl rfl) h1
  clear hA0 hval0
  refine (walk a0 a1 W w0 w1).mono fun e W' ⟨he, bel⟩ => ?_
  subst he
  exact ⟨_, rfl, _, _, _, [], _, [], hW', trodAll_mk1 (shut_bool Try.underlying4 _), (trodAll_cons_mk (Below.trod laidOut (by kernel_rfl) (of_decide_eq_true (by kernel_rfl)) k0 bel lt0) (trodAll_cons_mk (Below.trod laidOut (by kernel_rfl) (of_decide_eq_true (by kernel_rfl)) k1 bel lt1) trodAll_mk0)), rfl, bel.frame _, fun h => by cases h⟩

theorem over : Rows.wideQuosRow.holds Try.pinned (OpenSpec.ofChange Rows.wideQuosSpec) :=
  OpenClaim.holds_of_wide 6 Try.f6 rfl rfl rfl rfl rfl rfl rfl ⟨rfl, rfl, rfl, rfl, rfl⟩ rfl rfl rfl rfl rfl (by kernel_rfl) Try.func6 (by kernel_rfl)
    (of_decide_eq_true (by kernel_rfl)) (by unfold Func.isWrapper; first | (rw [if_pos (by decide +kernel)]; kernel_rfl) | (rw [if_neg (by decide +kernel)]; exact ⟨rfl, rfl⟩))
    (fun os started H enc _ => lifted os started H enc)

theorem proved : Rows.WideQuosSaid := over
end Go.Proofs.Ythbbeknbdgkpkaa.wideQuos
