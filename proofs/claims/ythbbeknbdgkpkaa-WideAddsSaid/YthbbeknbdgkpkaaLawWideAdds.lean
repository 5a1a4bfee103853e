/- Proved: for every two wide numbers their sum and difference, and whether they fit, are what the document's digits say, what is added is taken off again, and the arguments read as they did. No condition. -/
import Derived.Test.YthbbeknbdgkpkaaRows
import Derived.Test.YthbbeknbdgkpkaaWidK
import Derived.Test.YthbbeknbdgkpkaaWidH
import Derived.Test.YthbbeknbdgkpkaaArrW
import Derived.ProofKit
import Derived.Deep.RegionHeld3
import Derived.Deep.CutRange
import Derived.Deep.DeepCutAuto
import Derived.OpenShut
import Derived.ShutString
import Derived.ChangeOld
import Derived.Test.YthbbeknbdgkpkaaOpen
namespace Go.Proofs.Ythbbeknbdgkpkaa.wideAdds
open Go.ChangeShapes Go.WideShapes Go.ChangeAt Go.RowKit
open Go.ChangeMaps (open_string shut_string)
set_option linter.unusedVariables false
set_option linter.unusedSimpArgs false

theorem own : ownKnob Try.prog.godebug = none := by kernel_rfl
theorem laidOut : laidOutB Try.prog = true := by kernel_rfl

theorem less_back (x y : Nat) (hx : x < 2 ^ 256) (hy : y < 2 ^ 256) : (dif x y + y) % 2 ^ 256 = x := by rw [Nat.add_comm]; exact dif_add x y hx hy
theorem add_back (x y : Nat) (hx : x < 2 ^ 256) (hy : y < 2 ^ 256) : dif ((x + y) % 2 ^ 256) y = x := by unfold dif; omega
theorem mlessN (a b x : Nat) (ha : a < 2 ^ 256) (hb : b < 2 ^ 256) (hx : x < 2 ^ 256) (h : (a + b) % 2 ^ 256 = x) (W : World) : Calls Try.prog 19 #[.agg (cellsW (wd a)).toArray, .agg (cellsW (wd b)).toArray] W (Ret W (.agg (cellsW (wd x)).toArray)) := by
  have h1 := mless_calls (ofN a) (ofN b) W (ofN_ok a) (ofN_ok b)
  rw [ofN_val a ha, ofN_val b hb, h] at h1
  have h2 := (ofN x).words (ofN_ok x)
  rw [ofN_val x hx] at h2
  rw [h2] at h1
  exact h1
set_option maxRecDepth 100000 in
set_option maxHeartbeats 8000000 in
theorem walkN (x y : Nat) (bx : x < 2 ^ 256) (by2 : y < 2 ^ 256) (w : World) : Calls Try.prog 3 #[.agg (cellsW (wd x)).toArray, .agg (cellsW (wd y)).toArray] w (Ret w (.bool true)) := by
  have gU := guardU
  obtain ⟨s, hs⟩ : ∃ s, s = (x + y) % 2 ^ 256 := ⟨_, rfl⟩
  obtain ⟨d, hd⟩ : ∃ d, d = dif x y := ⟨_, rfl⟩
  obtain ⟨M, hM⟩ : ∃ M, M = x + y := ⟨_, rfl⟩
  obtain ⟨O, hO⟩ : ∃ O, O = decide (2 ^ 256 ≤ M) := ⟨_, rfl⟩
  obtain ⟨B, hB⟩ : ∃ B, B = decide (x < y) := ⟨_, rfl⟩
  obtain ⟨B2, hB2⟩ : ∃ B, B = decide (s < y) := ⟨_, rfl⟩
  have bs : s < 2 ^ 256 := by rw [hs]; exact Nat.mod_lt _ (by decide)
  have bd : d < 2 ^ 256 := by rw [hd]; exact dif_lt _ _
  have fM : Few M := by rw [hM]; exact Nat.lt_of_lt_of_le (Nat.add_lt_add bx by2) (by decide)
  obtain ⟨X, hX⟩ : ∃ X, X = cellsW (wd x) := ⟨_, rfl⟩
  have IX : Hid ((Try.prog.info? 24).map (·.size) = some X.length) := Lib.hid (by rw [hX]; exact sizeW _)
  have LX : Hid (zerosW.length = X.length) := Lib.hid (by rw [hX]; rfl)
  have OX : Hid (∀ v ∈ X, v.oneCell' = true) := Lib.hid (by rw [hX]; exact cellsW_one _)
  obtain ⟨Y, hY⟩ : ∃ X, X = cellsW (wd y) := ⟨_, rfl⟩
  have IY : Hid ((Try.prog.info? 24).map (·.size) = some Y.length) := Lib.hid (by rw [hY]; exact sizeW _)
  have LY : Hid (zerosW.length = Y.length) := Lib.hid (by rw [hY]; rfl)
  have OY : Hid (∀ v ∈ Y, v.oneCell' = true) := Lib.hid (by rw [hY]; exact cellsW_one _)
  obtain ⟨V, hV⟩ : ∃ X, X = cellsW (wd s) := ⟨_, rfl⟩
  have IV : Hid ((Try.prog.info? 24).map (·.size) = some V.length) := Lib.hid (by rw [hV]; exact sizeW _)
  have LV : Hid (zerosW.length = V.length) := Lib.hid (by rw [hV]; rfl)
  have OV : Hid (∀ v ∈ V, v.oneCell' = true) := Lib.hid (by rw [hV]; exact cellsW_one _)
  obtain ⟨D, hD⟩ : ∃ X, X = cellsW (wd d) := ⟨_, rfl⟩
  have ID : Hid ((Try.prog.info? 24).map (·.size) = some D.length) := Lib.hid (by rw [hD]; exact sizeW _)
  have LD : Hid (zerosW.length = D.length) := Lib.hid (by rw [hD]; rfl)
  have OD : Hid (∀ v ∈ D, v.oneCell' = true) := Lib.hid (by rw [hD]; exact cellsW_one _)
  have CBX : Hid (∀ W, Calls Try.prog 12 #[.agg X.toArray] W (MkB W x)) := Lib.hid fun W => bigV ⟨bx, hX⟩ W
  have CBY : Hid (∀ W, Calls Try.prog 12 #[.agg Y.toArray] W (MkB W y)) := Lib.hid fun W => bigV ⟨by2, hY⟩ W
  have CAD : Hid (∀ W A1 n1 c1 A2 n2 c2, RdI W A1 n1 (digs x) → RdI W A2 n2 (digs y) → Calls Try.prog 13 #[.slice A1 n1 c1, .slice A2 n2 c2] W (MkB W M)) := Lib.hid fun W A1 n1 c1 A2 n2 c2 h1 h2 => by rw [hM]; exact addV (Few.wide bx) (Few.wide by2) W A1 n1 c1 A2 n2 c2 h1 h2
  have CUA : Hid (∀ W, Calls Try.prog 14 #[.agg X.toArray, .agg Y.toArray] W (Ret W (.tuple #[.agg V.toArray, .bool O]))) := Lib.hid fun W => by
    have h := add_calls x y W bx by2
    rw [← uA_mod (x + y), ← hs, ← hM] at h
    rw [hX, hY, hV, hO]
    exact h
  have CS1 : Hid (∀ W, Calls Try.prog 17 #[.agg X.toArray, .agg Y.toArray] W (Ret W (.tuple #[.agg D.toArray, .bool B]))) := Lib.hid fun W => by rw [hX, hY, hD, hB, hd]; exact sub_calls x y W bx by2
  have CS2 : Hid (∀ W, Calls Try.prog 17 #[.agg V.toArray, .agg Y.toArray] W (Ret W (.tuple #[.agg X.toArray, .bool B2]))) := Lib.hid fun W => by
    have h := sub_calls s y W bs by2
    have e : dif s y = x := by rw [hs]; exact add_back x y bx by2
    rw [e] at h
    rw [hX, hY, hV, hB2]
    exact h
  have CLO : Hid (∀ W A1 n1 c1, RdI W A1 n1 (digs M) → n1 ≤ c1 → Calls Try.prog 16 #[.slice A1 n1 c1] W (MkB W (M % 2 ^ 256))) := Lib.hid fun W A1 n1 c1 h1 hc => lowV fM W A1 n1 c1 h1 hc
  have CIS : Hid (∀ W A1 n1 c1, RdI W A1 n1 (digs (M % 2 ^ 256)) → Calls Try.prog 15 #[.agg V.toArray, .slice A1 n1 c1] W (Ret W (.bool true))) := Lib.hid fun W A1 n1 c1 h1 => isV hV (by rw [hM, hs, Nat.mod_mod]) W A1 n1 c1 h1
  have CI2 : Hid (∀ W A1 n1 c1, RdI W A1 n1 (digs x) → Calls Try.prog 15 #[.agg X.toArray, .slice A1 n1 c1] W (Ret W (.bool true))) := Lib.hid fun W A1 n1 c1 h1 => by rw [hX]; exact is_callsN x A1 n1 c1 W bx h1
  have CLS : Hid (∀ W A1 n1 c1 A2 n2 c2, RdI W A1 n1 (digs x) → RdI W A2 n2 (digs y) → Calls Try.prog 18 #[.slice A1 n1 c1, .slice A2 n2 c2] W (Ret W (.bool B))) := Lib.hid fun W A1 n1 c1 A2 n2 c2 h1 h2 => lessV (Few.wide bx) (Few.wide by2) W A1 n1 c1 A2 n2 c2 h1 h2 B hB.symm
  have CML : Hid (∀ W, Calls Try.prog 19 #[.agg D.toArray, .agg Y.toArray] W (Ret W (.agg X.toArray))) := Lib.hid fun W => by rw [hX, hY, hD]; exact mlessN d y x bd by2 bx (by rw [hd]; exact less_back x y bx by2) W
  have HLN : Hid (∀ W A1 n1, RdI W A1 n1 (digs M) → decide ((16 : Int) < (n1 : Int)) = O) := Lib.hid fun W A1 n1 h => by
    rw [hO, ← h.len]
    have h16 := digs_len M 16
    rw [p16] at h16
    apply decide_eq_decide.2
    omega
  have heq : ∀ W, (Op.equalIn 10000 24 (.agg X.toArray) (.agg X.toArray)).run Try.prog W = .ok true W := fun W => by rw [hX]; exact u_same x W
  rw [← hX, ← hY]
  obtain ⟨w0, hw0⟩ : ∃ w0, w0 = ((w.alloc (.cells X.toArray 24)).alloc (.cells Y.toArray 24)) := ⟨_, rfl⟩
  have hbX : Blk w0 (w.heap.size) X 24 := by rw [hw0]; exact Blk.alloc (Blk.new' w X.toArray 24 (w.heap.size) (by simp)) _
  have hbY : Blk w0 (w.heap.size + 1) Y 24 := by rw [hw0]; exact Blk.new' (w.alloc _) Y.toArray 24 (w.heap.size + 1) (by simp)
  have HB : Hid (Still w w0) := Lib.hid (by rw [hw0]; exact Still.alloc (Still.alloc (Still.refl w) _) _)
  have K0 : Hid (∀ W, Still w0 W → (W.rangeAt w.heap.size 0 X ∧ W.rangeAt (w.heap.size + 1) 0 Y ∧ Still w0 W)) := Lib.hid fun W h => ⟨(Blk.step hbX h).range, (Blk.step hbY h).range, h⟩
  clear hX hY hV hD hs hd hM hO hB hB2 bs bd fM bx by2
  go_enter Try.func3, Try.ntmps3
  go_upto_region 1 with fail
  rw [← hw0]
  clear hw0
  refine wp_region_held_drew (S := fun W => W.rangeAt w.heap.size 0 X ∧ W.rangeAt (w.heap.size + 1) 0 Y ∧ Still w0 W) (by kernel_rfl) ?_ (fun hHeld => ?_)
  · exact K0.out _ (by ((repeat (first | with_reducible exact Still.refl _ | with_reducible assumption | with_reducible apply Still.alloc | with_reducible apply Still.drew | with_reducible refine Still.step ?_ (by assumption) | with_reducible refine Still.trans ?_ (by assumption)))))
  refine wpAnyH_take (i := 0) rfl (by kernel_rfl) (by kernel_rfl) (by kernel_rfl) (fun _ _ _ h => h) (yieldsIf_load_mid (by rfl) _ _ rfl _ _ rfl X _ (fun w hSw => by (try dsimp only at hSw); go_split_ands; assumption) Try.underlying24 rfl IX.out) (by assumption) ?_
  (try simp only [List.getElem_toArray, List.getElem_cons_succ, List.getElem_cons_zero, Act.put, List.setIfInBounds_toArray, List.set_cons_succ, List.set_cons_zero])
  refine wpAnyH_take (i := 2) rfl (by kernel_rfl) (by kernel_rfl) (by kernel_rfl) (fun _ _ _ h => h) (yieldsIf_load_mid (by rfl) _ _ rfl _ _ rfl Y _ (fun w hSw => by (try dsimp only at hSw); go_split_ands; assumption) Try.underlying24 rfl IY.out) (by assumption) ?_
  (try simp only [List.getElem_toArray, List.getElem_cons_succ, List.getElem_cons_zero, Act.put, List.setIfInBounds_toArray, List.set_cons_succ, List.set_cons_zero])
  refine wpAnyH_ready (rs := [1]) (by kernel_rfl) (by simp) ?_
  refine AllReadyH.cons rfl (fun K hK => ?_) AllReadyH.nil
  (try simp only [List.getElem_toArray, List.getElem_cons_succ, List.getElem_cons_zero])
  go_simp
  go_at_call 12; refine (CBX.out _).mono ?_; rintro e' v1 ⟨A1, n1, c1, rfl, h1, h1c, h1m, d1⟩
  (try (go_wp2_with fail))
  refine hK.out _ _ ?_ (fun hHeld => ?_)
  · exact K0.out _ (by ((repeat (first | with_reducible exact Still.refl _ | with_reducible assumption | with_reducible apply Still.alloc | with_reducible apply Still.drew | with_reducible refine Still.step ?_ (by assumption) | with_reducible refine Still.trans ?_ (by assumption)))))
  clear hK K
  (try simp only [Act.put, List.setIfInBounds_toArray, List.set_cons_succ, List.set_cons_zero])
  refine wpAnyH_ready (rs := [3]) (by kernel_rfl) (by simp) ?_
  refine AllReadyH.cons rfl (fun K hK => ?_) AllReadyH.nil
  (try simp only [List.getElem_toArray, List.getElem_cons_succ, List.getElem_cons_zero])
  go_simp
  go_at_call 12; refine (CBY.out _).mono ?_; rintro e' v2 ⟨A2, n2, c2, rfl, h2, h2c, h2m, d2⟩
  (try (go_wp2_with fail))
  refine hK.out _ _ ?_ (fun hHeld => ?_)
  · exact K0.out _ (by ((repeat (first | with_reducible exact Still.refl _ | with_reducible assumption | with_reducible apply Still.alloc | with_reducible apply Still.drew | with_reducible refine Still.step ?_ (by assumption) | with_reducible refine Still.trans ?_ (by assumption)))))
  clear hK K
  (try simp only [Act.put, List.setIfInBounds_toArray, List.set_cons_succ, List.set_cons_zero])
  refine wpAnyH_take (i := 4) (v := ?_) rfl (by kernel_rfl) (by kernel_rfl) (by kernel_rfl) (fun _ _ _ h => h) (Or.inl ⟨by rfl, ?_⟩) (by assumption) ?_
  rotate_left 1
  · intro w hSw; (try dsimp only at hSw); simp only [List.getElem_toArray, List.getElem_cons_succ, List.getElem_cons_zero]; go_simp; try (with_reducible rfl)
  (try simp only [List.getElem_toArray, List.getElem_cons_succ, List.getElem_cons_zero, Act.put, List.setIfInBounds_toArray, List.set_cons_succ, List.set_cons_zero])
  refine wpAnyH_take (i := 5) (v := ?_) rfl (by kernel_rfl) (by kernel_rfl) (by kernel_rfl) (fun _ _ _ h => h) (Or.inl ⟨by rfl, ?_⟩) (by assumption) ?_
  rotate_left 1
  · intro w hSw; (try dsimp only at hSw); simp only [List.getElem_toArray, List.getElem_cons_succ, List.getElem_cons_zero]; go_simp; try (with_reducible rfl)
  (try simp only [List.getElem_toArray, List.getElem_cons_succ, List.getElem_cons_zero, Act.put, List.setIfInBounds_toArray, List.set_cons_succ, List.set_cons_zero])
  refine wpAnyH_done (by kernel_rfl) ?_ _
  skip
  clear K0
  go_upto_region 4 with (first
    | (go_at_call 13; refine (CAD.out _ _ _ _ _ _ _ (h1.still (by ((repeat (first | with_reducible exact Still.refl _ | with_reducible assumption | with_reducible apply Still.alloc | with_reducible apply Still.drew | with_reducible refine Still.step ?_ (by assumption) | with_reducible refine Still.trans ?_ (by assumption)))))) h2).mono ?_; rintro e' v3 ⟨A3, n3, c3, rfl, h3, h3c, h3m, d3⟩)
    | ((with_reducible refine at_load 24 (.tmp 2) ?_); refine wpList_load_mid rfl 24 (.tmp 2) rfl (w.heap.size) 0 rfl X _ (Blk.range (t := 24) (by ((repeat (first | with_reducible assumption | with_reducible apply Blk.alloc | with_reducible apply Blk.drew | with_reducible refine Blk.step ?_ (by assumption) | with_reducible refine Blk.stepS ?_ (by assumption)))))) Try.underlying24 rfl IX.out ?_)
    | ((with_reducible refine at_load 24 (.tmp 3) ?_); refine wpList_load_mid rfl 24 (.tmp 3) rfl (w.heap.size + 1) 0 rfl Y _ (Blk.range (t := 24) (by ((repeat (first | with_reducible assumption | with_reducible apply Blk.alloc | with_reducible apply Blk.drew | with_reducible refine Blk.step ?_ (by assumption) | with_reducible refine Blk.stepS ?_ (by assumption)))))) Try.underlying24 rfl IY.out ?_)
    | (go_at_call 14; refine (CUA.out _).mono ?_; rintro e' v4 ⟨rfl, d4⟩)
    | ((with_reducible refine at_store 24 (.tmp 8) (.tmp 25) ?_); refine wpList_store_blk rfl 24 (.tmp 8) (.tmp 25) rfl v4.heap.size zerosW V _ rfl rfl (Blk.new v4 _ _) LV.out IV.out OV.out ?_; intro w5 hbw5 how5; have dw5 := Only.still how5; clear how5))
  have hn3 := HLN.out _ _ _ h3
  have K0 : Hid (∀ W, Still w5 W → (W.rangeAt v4.heap.size 0 V ∧ Still w5 W)) := Lib.hid fun W h => ⟨(Blk.step hbw5 h).range, h⟩
  go_cut [38] from 27 to 38 (fun v wx => v = .bool false ∧ Still w5 wx)
  case first =>
    refine wp_region_held_drew (S := fun W => W.rangeAt v4.heap.size 0 V ∧ Still w5 W) (by kernel_rfl) ?_ (fun hHeld => ?_)
    · exact K0.out _ (by ((repeat (first | with_reducible exact Still.refl _ | with_reducible assumption | with_reducible apply Still.alloc | with_reducible apply Still.drew | with_reducible refine Still.step ?_ (by assumption) | with_reducible refine Still.trans ?_ (by assumption)))))
    refine wpAnyH_take (i := 0) rfl (by kernel_rfl) (by kernel_rfl) (by kernel_rfl) (fun _ _ _ h => h) (yieldsIf_load_mid (by rfl) _ _ rfl _ _ rfl V _ (fun w hSw => by (try dsimp only at hSw); go_split_ands; assumption) Try.underlying24 rfl IV.out) (by assumption) ?_
    (try simp only [List.getElem_toArray, List.getElem_cons_succ, List.getElem_cons_zero, Act.put, List.setIfInBounds_toArray, List.set_cons_succ, List.set_cons_zero])
    refine wpAnyH_take (i := 1) (v := ?_) rfl (by kernel_rfl) (by kernel_rfl) (by kernel_rfl) (fun _ _ _ h => h) (Or.inl ⟨by rfl, ?_⟩) (by assumption) ?_
    rotate_left 1
    · intro w hSw; (try dsimp only at hSw); simp only [List.getElem_toArray, List.getElem_cons_succ, List.getElem_cons_zero]; go_simp; try (with_reducible rfl)
    (try simp only [List.getElem_toArray, List.getElem_cons_succ, List.getElem_cons_zero, Act.put, List.setIfInBounds_toArray, List.set_cons_succ, List.set_cons_zero])
    refine wpAnyH_ready (rs := [2]) (by kernel_rfl) (by simp) ?_
    refine AllReadyH.cons rfl (fun K hK => ?_) AllReadyH.nil
    (try simp only [List.getElem_toArray, List.getElem_cons_succ, List.getElem_cons_zero])
    go_simp
    go_at_call 16; refine (CLO.out _ _ _ _ (h3.still (by ((repeat (first | with_reducible exact Still.refl _ | with_reducible assumption | with_reducible apply Still.alloc | with_reducible apply Still.drew | with_reducible refine Still.step ?_ (by assumption) | with_reducible refine Still.trans ?_ (by assumption)))))) h3c).mono ?_; rintro e' v6 ⟨A6, n6, c6, rfl, h6, h6c, h6m, d6⟩
    (try (go_wp2_with fail))
    refine hK.out _ _ ?_ (fun hHeld => ?_)
    · exact K0.out _ (by ((repeat (first | with_reducible exact Still.refl _ | with_reducible assumption | with_reducible apply Still.alloc | with_reducible apply Still.drew | with_reducible refine Still.step ?_ (by assumption) | with_reducible refine Still.trans ?_ (by assumption)))))
    clear hK K
    (try simp only [Act.put, List.setIfInBounds_toArray, List.set_cons_succ, List.set_cons_zero])
    refine wpAnyH_ready (rs := [3]) (by kernel_rfl) (by simp) ?_
    refine AllReadyH.cons rfl (fun K hK => ?_) AllReadyH.nil
    (try simp only [List.getElem_toArray, List.getElem_cons_succ, List.getElem_cons_zero])
    go_simp
    go_at_call 15; refine (CIS.out _ _ _ _ h6).mono ?_; rintro e' v7 ⟨rfl, d7⟩
    (try (go_wp2_with fail))
    refine hK.out _ _ ?_ (fun hHeld => ?_)
    · exact K0.out _ (by ((repeat (first | with_reducible exact Still.refl _ | with_reducible assumption | with_reducible apply Still.alloc | with_reducible apply Still.drew | with_reducible refine Still.step ?_ (by assumption) | with_reducible refine Still.trans ?_ (by assumption)))))
    clear hK K
    (try simp only [Act.put, List.setIfInBounds_toArray, List.set_cons_succ, List.set_cons_zero])
    refine wpAnyH_take (i := 4) (v := ?_) rfl (by kernel_rfl) (by kernel_rfl) (by kernel_rfl) (fun _ _ _ h => h) (Or.inl ⟨by rfl, ?_⟩) (by assumption) ?_
    rotate_left 1
    · intro w hSw; (try dsimp only at hSw); simp only [List.getElem_toArray, List.getElem_cons_succ, List.getElem_cons_zero]; go_simp; try (with_reducible rfl)
    (try simp only [List.getElem_toArray, List.getElem_cons_succ, List.getElem_cons_zero, Act.put, List.setIfInBounds_toArray, List.set_cons_succ, List.set_cons_zero])
    refine wpAnyH_take (i := 5) (v := ?_) rfl (by kernel_rfl) (by kernel_rfl) (by kernel_rfl) (fun _ _ _ h => h) (Or.inl ⟨by rfl, ?_⟩) (by assumption) ?_
    rotate_left 1
    · intro w hSw; (try dsimp only at hSw); simp only [List.getElem_toArray, List.getElem_cons_succ, List.getElem_cons_zero]; go_simp; try (with_reducible rfl)
    (try simp only [List.getElem_toArray, List.getElem_cons_succ, List.getElem_cons_zero, Act.put, List.setIfInBounds_toArray, List.set_cons_succ, List.set_cons_zero])
    refine wpAnyH_take (i := 6) (v := ?_) rfl (by kernel_rfl) (by kernel_rfl) (by kernel_rfl) (fun _ _ _ h => h) (Or.inl ⟨by rfl, ?_⟩) (by assumption) ?_
    rotate_left 1
    · intro w hSw; (try dsimp only at hSw); simp only [List.getElem_toArray, List.getElem_cons_succ, List.getElem_cons_zero]; go_simp; try (with_reducible rfl)
    (try simp only [List.getElem_toArray, List.getElem_cons_succ, List.getElem_cons_zero, Act.put, List.setIfInBounds_toArray, List.set_cons_succ, List.set_cons_zero])
    refine wpAnyH_take (i := 7) (v := ?_) rfl (by kernel_rfl) (by kernel_rfl) (by kernel_rfl) (fun _ _ _ h => h) (Or.inl ⟨by rfl, ?_⟩) (by assumption) ?_
    rotate_left 1
    · intro w hSw; (try dsimp only at hSw); simp only [List.getElem_toArray, List.getElem_cons_succ, List.getElem_cons_zero]; go_simp; try (with_reducible rfl)
    (try simp only [List.getElem_toArray, List.getElem_cons_succ, List.getElem_cons_zero, Act.put, List.setIfInBounds_toArray, List.set_cons_succ, List.set_cons_zero])
    refine wpAnyH_take (i := 8) (v := ?_) rfl (by kernel_rfl) (by kernel_rfl) (by kernel_rfl) (fun _ _ _ h => h) (Or.inl ⟨by rfl, ?_⟩) (by assumption) ?_
    rotate_left 1
    · intro w hSw; (try dsimp only at hSw); simp only [List.getElem_toArray, List.getElem_cons_succ, List.getElem_cons_zero]; go_simp; try (with_reducible rfl)
    (try simp only [List.getElem_toArray, List.getElem_cons_succ, List.getElem_cons_zero, Act.put, List.setIfInBounds_toArray, List.set_cons_succ, List.set_cons_zero])
    refine wpAnyH_take (i := 9) (v := ?_) rfl (by kernel_rfl) (by kernel_rfl) (by kernel_rfl) (fun _ _ _ h => h) (Or.inl ⟨by rfl, ?_⟩) (by assumption) ?_
    rotate_left 1
    · intro w hSw; (try dsimp only at hSw); simp only [List.getElem_toArray, List.getElem_cons_succ, List.getElem_cons_zero]; go_simp; try (with_reducible rfl)
    (try simp only [List.getElem_toArray, List.getElem_cons_succ, List.getElem_cons_zero, Act.put, List.setIfInBounds_toArray, List.set_cons_succ, List.set_cons_zero])
    refine wpAnyH_take (i := 10) (v := ?_) rfl (by kernel_rfl) (by kernel_rfl) (by kernel_rfl) (fun _ _ _ h => h) (Or.inl ⟨by rfl, ?_⟩) (by assumption) ?_
    rotate_left 1
    · intro w hSw; (try dsimp only at hSw); simp only [List.getElem_toArray, List.getElem_cons_succ, List.getElem_cons_zero]; go_simp; try (with_reducible rfl)
    (try simp only [List.getElem_toArray, List.getElem_cons_succ, List.getElem_cons_zero, Act.put, List.setIfInBounds_toArray, List.set_cons_succ, List.set_cons_zero])
    refine wpAnyH_take (i := 11) (v := ?_) rfl (by kernel_rfl) (by kernel_rfl) (by kernel_rfl) (fun _ _ _ h => h) (Or.inl ⟨by rfl, ?_⟩) (by assumption) ?_
    rotate_left 1
    · intro w hSw; (try dsimp only at hSw); simp only [List.getElem_toArray, List.getElem_cons_succ, List.getElem_cons_zero]; go_simp; try (with_reducible rfl)
    (try simp only [List.getElem_toArray, List.getElem_cons_succ, List.getElem_cons_zero, Act.put, List.setIfInBounds_toArray, List.set_cons_succ, List.set_cons_zero])
    refine wpAnyH_done (by kernel_rfl) ?_ _
    go_wp2_with fail
    go_meet
    exact ⟨rfl, by ((repeat (first | with_reducible exact Still.refl _ | with_reducible assumption | with_reducible apply Still.alloc | with_reducible apply Still.drew | with_reducible refine Still.step ?_ (by assumption) | with_reducible refine Still.trans ?_ (by assumption))))⟩
  case rest =>
    obtain ⟨rfl, hst⟩ := hcut
    have k1 : Blk wc w.heap.size X 24 := Blk.step (by ((repeat (first | with_reducible assumption | with_reducible apply Blk.alloc | with_reducible apply Blk.drew | with_reducible refine Blk.step ?_ (by assumption) | with_reducible refine Blk.stepS ?_ (by assumption))))) hst
    have k2 : Blk wc (w.heap.size + 1) Y 24 := Blk.step (by ((repeat (first | with_reducible assumption | with_reducible apply Blk.alloc | with_reducible apply Blk.drew | with_reducible refine Blk.step ?_ (by assumption) | with_reducible refine Blk.stepS ?_ (by assumption))))) hst
    have k3 : Blk wc v4.heap.size V 24 := Blk.step hbw5 hst
    have r1 : RdI wc A1 n1 (digs x) := h1.still (by ((repeat (first | with_reducible exact Still.refl _ | with_reducible assumption | with_reducible apply Still.alloc | with_reducible apply Still.drew | with_reducible refine Still.step ?_ (by assumption) | with_reducible refine Still.trans ?_ (by assumption)))))
    have r2 : RdI wc A2 n2 (digs y) := h2.still (by ((repeat (first | with_reducible exact Still.refl _ | with_reducible assumption | with_reducible apply Still.alloc | with_reducible apply Still.drew | with_reducible refine Still.step ?_ (by assumption) | with_reducible refine Still.trans ?_ (by assumption)))))
    have HB2 : Hid (Still w wc) := Lib.hid (HB.out.trans (show Still w0 wc by ((repeat (first | with_reducible exact Still.refl _ | with_reducible assumption | with_reducible apply Still.alloc | with_reducible apply Still.drew | with_reducible refine Still.step ?_ (by assumption) | with_reducible refine Still.trans ?_ (by assumption))))))
    clear K0 hst hbX hbY hbw5 h1 h2 h3 d1 d2 d3 d4 dw5 hn3
    go_wp2_with (first
      | ((with_reducible refine at_load 24 (.tmp 2) ?_); refine wpList_load_mid rfl 24 (.tmp 2) rfl (w.heap.size) 0 rfl X _ (Blk.range (t := 24) (by ((repeat (first | with_reducible assumption | with_reducible apply Blk.alloc | with_reducible apply Blk.drew | with_reducible refine Blk.step ?_ (by assumption) | with_reducible refine Blk.stepS ?_ (by assumption)))))) Try.underlying24 rfl IX.out ?_)
      | ((with_reducible refine at_load 24 (.tmp 3) ?_); refine wpList_load_mid rfl 24 (.tmp 3) rfl (w.heap.size + 1) 0 rfl Y _ (Blk.range (t := 24) (by ((repeat (first | with_reducible assumption | with_reducible apply Blk.alloc | with_reducible apply Blk.drew | with_reducible refine Blk.step ?_ (by assumption) | with_reducible refine Blk.stepS ?_ (by assumption)))))) Try.underlying24 rfl IY.out ?_)
      | ((with_reducible refine at_loadg 24 (.tmp 3) ?_); refine wpList_load_midg (by simp [Region.wanted, yielded, Act.put]) 24 (.tmp 3) rfl (w.heap.size + 1) 0 rfl Y _ (Blk.range (t := 24) (by ((repeat (first | with_reducible assumption | with_reducible apply Blk.alloc | with_reducible apply Blk.drew | with_reducible refine Blk.step ?_ (by assumption) | with_reducible refine Blk.stepS ?_ (by assumption)))))) Try.underlying24 rfl IY.out ?_)
      | ((with_reducible refine at_load 24 (.tmp 8) ?_); refine wpList_load_mid rfl 24 (.tmp 8) rfl (v4.heap.size) 0 rfl V _ (Blk.range (t := 24) (by ((repeat (first | with_reducible assumption | with_reducible apply Blk.alloc | with_reducible apply Blk.drew | with_reducible refine Blk.step ?_ (by assumption) | with_reducible refine Blk.stepS ?_ (by assumption)))))) Try.underlying24 rfl IV.out ?_)
      | ((with_reducible refine at_loadg 24 (.tmp 10) ?_); refine wpList_load_midg (by simp [Region.wanted, yielded, Act.put]) 24 (.tmp 10) rfl (v6.heap.size) 0 rfl D _ (Blk.range (t := 24) (by ((repeat (first | with_reducible assumption | with_reducible apply Blk.alloc | with_reducible apply Blk.drew | with_reducible refine Blk.step ?_ (by assumption) | with_reducible refine Blk.stepS ?_ (by assumption)))))) Try.underlying24 rfl ID.out ?_)
      | ((with_reducible refine at_load 24 (.tmp 12) ?_); refine wpList_load_mid rfl 24 (.tmp 12) rfl (v11.heap.size) 0 rfl X _ (Blk.range (t := 24) (by ((repeat (first | with_reducible assumption | with_reducible apply Blk.alloc | with_reducible apply Blk.drew | with_reducible refine Blk.step ?_ (by assumption) | with_reducible refine Blk.stepS ?_ (by assumption)))))) Try.underlying24 rfl IX.out ?_)
      | (go_at_call_of 17 X; refine (CS1.out _).mono ?_; rintro e' v6 ⟨rfl, d6⟩)
      | (go_at_call_of 17 V; refine (CS2.out _).mono ?_; rintro e' v11 ⟨rfl, d11⟩)
      | ((with_reducible refine at_store 24 (.tmp 10) (.tmp 43) ?_); refine wpList_store_blk rfl 24 (.tmp 10) (.tmp 43) rfl v6.heap.size zerosW D _ rfl rfl (Blk.new v6 _ _) LD.out ID.out OD.out ?_; intro w7 hbw7 how7; have dw7 := Only.still how7; clear how7)
      | ((with_reducible refine at_store 24 (.tmp 12) (.tmp 62) ?_); refine wpList_store_blk rfl 24 (.tmp 12) (.tmp 62) rfl v11.heap.size zerosW X _ rfl rfl (Blk.new v11 _ _) LX.out IX.out OX.out ?_; intro w12 hbw12 how12; have dw12 := Only.still how12; clear how12)
      | (go_at_call 18; refine (CLS.out _ _ _ _ _ _ _ (r1.still (by ((repeat (first | with_reducible exact Still.refl _ | with_reducible assumption | with_reducible apply Still.alloc | with_reducible apply Still.drew | with_reducible refine Still.step ?_ (by assumption) | with_reducible refine Still.trans ?_ (by assumption)))))) (r2.still (by ((repeat (first | with_reducible exact Still.refl _ | with_reducible assumption | with_reducible apply Still.alloc | with_reducible apply Still.drew | with_reducible refine Still.step ?_ (by assumption) | with_reducible refine Still.trans ?_ (by assumption))))))).mono ?_; rintro e' v8 ⟨rfl, d8⟩)
      | (go_at_call 19; refine (CML.out _).mono ?_; rintro e' v9 ⟨rfl, d9⟩)
      | (go_at_call 15; refine (CI2.out _ _ _ _ (r1.still (by ((repeat (first | with_reducible exact Still.refl _ | with_reducible assumption | with_reducible apply Still.alloc | with_reducible apply Still.drew | with_reducible refine Still.step ?_ (by assumption) | with_reducible refine Still.trans ?_ (by assumption))))))).mono ?_; rintro e' v10 ⟨rfl, d10⟩)
      | (go_at_call 20; refine (awake4_calls _).mono ?_; rintro e' v13 ⟨rfl, d13⟩))
    all_goals go_ret
    all_goals exact ⟨rfl, HB2.out.trans (show Still wc v13 by ((repeat (first | with_reducible exact Still.refl _ | with_reducible assumption | with_reducible apply Still.alloc | with_reducible apply Still.drew | with_reducible refine Still.step ?_ (by assumption) | with_reducible refine Still.trans ?_ (by assumption)))))⟩
theorem walk (u v : U4) (w : World) (hu : u.ok) (hv : v.ok) : Calls Try.prog 3 #[.agg u.arr, .agg v.arr] w (Ret w (.bool true)) := by
  rw [u.uA hu, v.uA hv]
  exact walkN u.val v.val (u.val_lt hu) (v.val_lt hv) w

set_option maxRecDepth 100000 in
theorem lifted (os : Os) (started : os.Started) (H : Type) (enc : TypeId × Value → H) :
    ReturnsInHanded {} Try.checked os 3 .any (Rows.wideAddsSpec.pre6 enc Try.prog Try.f3 Rows.wideAddsRow.domain false) (Rows.wideAddsSpec.post enc Try.prog Try.f3 false true false false) := by
  refine returnsInHanded_of_change (C := Try.checked) own started (by kernel_rfl) Try.func3
    (ChangeSpec.witness6 (enc := enc) (C := Try.checked) false ⟨#[], #[.agg #[.int .u64 0, .int .u64 0, .int .u64 0, .int .u64 0], .agg #[.int .u64 0, .int .u64 0, .int .u64 0, .int .u64 0]], []⟩ 8 (by kernel_rfl) (by kernel_rfl) (by kernel_rfl) (by kernel_rfl)) ?_
  intro W base args ds gs before hval0 hW hcnd _
  have hval : ∀ (j : Nat) t v, Try.f3.params[j]? = some t → args[j]? = some v → Value.okWide Try.prog W .any base t v := hval0
  have hW' := hW
  obtain ⟨p, q, hA0, hV, rfl, hfz, hnd⟩ := hW
  have hA : DataW.TrodAll enc Try.prog W 0 (fun _ => true) true Try.f3.params.toList args.toList ds p := hA0
  rw [Try.params3] at hA hval
  obtain ⟨v0, vs0, d0, ds0, p0, q0, hargs, rfl, rfl, h0, r0⟩ := trodAll_cons hA
  obtain ⟨v1, vs1, d1, ds1, p1, q1, rfl, rfl, rfl, h1, r1⟩ := trodAll_cons r0
  obtain ⟨rfl, rfl, rfl⟩ := trodAll_nil r1
  obtain rfl : args = #[v0, v1] := by cases args; simp_all
  obtain ⟨rfl, rfl⟩ := trodVars_none hV
  have k0 := h0
  have lt0 : ∀ x ∈ p0, x.block < W.heap.size := by obtain ⟨m, hm⟩ := k0; exact DataW.trod_lt m _ _ _ hm
  obtain ⟨a0, rfl, w0⟩ := arrW (hval 0 24 v0 rfl rfl) h0
  have k1 := h1
  have lt1 : ∀ x ∈ p1, x.block < W.heap.size := by obtain ⟨m, hm⟩ := k1; exact DataW.trod_lt m _ _ _ hm
  obtain ⟨a1, rfl, w1⟩ := arrW (hval 1 24 v1 rfl rfl) h1
  clear hA0 hval0
  refine (walk a0 a1 W w0 w1).mono fun e W' ⟨he, bel⟩ => ?_
  subst he
  exact ⟨_, rfl, _, _, _, [], _, [], hW', trodAll_mk1 (shut_bool Try.underlying4 _), (trodAll_cons_mk (Below.trod laidOut (by kernel_rfl) (of_decide_eq_true (by kernel_rfl)) k0 bel lt0) (trodAll_cons_mk (Below.trod laidOut (by kernel_rfl) (of_decide_eq_true (by kernel_rfl)) k1 bel lt1) trodAll_mk0)), rfl, bel.frame _, fun h => by cases h⟩

theorem over : Rows.wideAddsRow.holds Try.pinned (OpenSpec.ofChange Rows.wideAddsSpec) :=
  OpenClaim.holds_of_wide 3 Try.f3 rfl rfl rfl rfl rfl rfl rfl ⟨rfl, rfl, rfl, rfl, rfl⟩ rfl rfl rfl rfl rfl (by kernel_rfl) Try.func3 (by kernel_rfl)
    (of_decide_eq_true (by kernel_rfl)) (by unfold Func.isWrapper; first | (rw [if_pos (by decide +kernel)]; kernel_rfl) | (rw [if_neg (by decide +kernel)]; exact ⟨rfl, rfl⟩))
    (fun os started H enc _ => lifted os started H enc)

theorem proved : Rows.WideAddsSaid := over
end Go.Proofs.Ythbbeknbdgkpkaa.wideAdds
