/- Proved: for every wide number and every count of places the number shifted to either side is what the document's digits say, and the arguments read as they did. No condition. -/
import Derived.Test.YthbbeknbdgkpkaaRows
import Derived.Test.YthbbeknbdgkpkaaWidK
import Derived.Test.YthbbeknbdgkpkaaWidH
import Derived.Test.YthbbeknbdgkpkaaArrW
import Derived.ProofKit
import Derived.Deep.RegionHeld3
import Derived.Deep.CutRange
import Derived.Deep.DeepCutAuto
import Derived.OpenShut
import Derived.ShutString
import Derived.ChangeOld
import Derived.Test.YthbbeknbdgkpkaaOpen
namespace Go.Proofs.Ythbbeknbdgkpkaa.wideShifts
open Go.ChangeShapes Go.WideShapes Go.ChangeAt Go.RowKit
open Go.ChangeMaps (open_string shut_string)
set_option linter.unusedVariables false
set_option linter.unusedSimpArgs false

theorem own : ownKnob Try.prog.godebug = none := by kernel_rfl
theorem laidOut : laidOutB Try.prog = true := by kernel_rfl

theorem shl_same (x K : Nat) : x * 2 ^ min K 256 % 2 ^ 256 = x * 2 ^ K % 2 ^ 256 := by
  by_cases h : K ≤ 256
  · rw [Nat.min_eq_left h]
  · rw [Nat.min_eq_right (by omega), Nat.mul_mod_left]
    obtain ⟨d, rfl⟩ : ∃ d, K = d + 256 := ⟨K - 256, by omega⟩
    rw [Nat.pow_add, ← Nat.mul_assoc, Nat.mul_mod_left]
theorem shr_low (x K : Nat) (hx : x < 2 ^ 256) : ¬ x < x / 2 ^ K * 2 ^ min K 256 ∧ x < x / 2 ^ K * 2 ^ min K 256 + 2 ^ min K 256 := by
  by_cases h : K ≤ 256
  · rw [Nat.min_eq_left h]
    have h1 := Nat.div_add_mod x (2 ^ K)
    have h2 := Nat.mod_lt x (show 0 < 2 ^ K from Nat.pow_pos (by decide))
    rw [Nat.mul_comm] at h1
    omega
  · rw [Nat.min_eq_right (by omega), Nat.div_eq_of_lt (Nat.lt_of_lt_of_le hx (Nat.pow_le_pow_right (by decide) (by omega)))]
    omega
set_option maxRecDepth 100000 in
set_option maxHeartbeats 8000000 in
theorem walkN (x : Nat) (k : Int) (K : Nat) (bx : x < 2 ^ 256) (hk1 : -9223372036854775808 ≤ k) (hk2 : k ≤ 9223372036854775807) (hK : K = k.toNat) (w : World) : Calls Try.prog 7 #[.agg (cellsW (wd x)).toArray, .int .i64 k] w (Ret w (.bool true)) := by
  obtain ⟨n, hn⟩ : ∃ n, n = min K 256 := ⟨_, rfl⟩
  have hn256 : n ≤ 256 := by omega
  obtain ⟨P, hP⟩ : ∃ P, P = 2 ^ n := ⟨_, rfl⟩
  obtain ⟨q, hq⟩ : ∃ q, q = x / 2 ^ K := ⟨_, rfl⟩
  obtain ⟨s, hs⟩ : ∃ s, s = x * 2 ^ K := ⟨_, rfl⟩
  have bq : q < 2 ^ 256 := by rw [hq]; exact Nat.lt_of_le_of_lt (Nat.div_le_self _ _) bx
  have bP : P ≤ 2 ^ 256 := by rw [hP]; exact Nat.pow_le_pow_right (by decide) hn256
  have fP : Few P := Nat.lt_of_le_of_lt bP (by decide)
  have bm : ∀ a, a < 2 ^ 256 → Few (a * P) := fun a ha => by
    have h1 : a * P ≤ 2 ^ 256 * 2 ^ 256 := Nat.mul_le_mul (by omega) bP
    exact Nat.lt_of_le_of_lt h1 (by decide)
  have fs : Few (q * P + P) := by
    have h1 : q * P + P ≤ 2 ^ 256 * 2 ^ 256 := by
      have : (q + 1) * P ≤ 2 ^ 256 * 2 ^ 256 := Nat.mul_le_mul (by omega) bP
      rw [Nat.add_mul, Nat.one_mul] at this
      exact this
    exact Nat.lt_of_le_of_lt h1 (by decide)
  have hlow := shr_low x K bx
  rw [← hq, ← hn, ← hP] at hlow
  have hsame := shl_same x K
  rw [← hn, ← hP, ← hs] at hsame
  obtain ⟨X, hX⟩ : ∃ X, X = cellsW (wd x) := ⟨_, rfl⟩
  have IX : Hid ((Try.prog.info? 24).map (·.size) = some X.length) := Lib.hid (by rw [hX]; exact sizeW _)
  have LX : Hid (zerosW.length = X.length) := Lib.hid (by rw [hX]; rfl)
  have OX : Hid (∀ v ∈ X, v.oneCell' = true) := Lib.hid (by rw [hX]; exact cellsW_one _)
  obtain ⟨V, hV⟩ : ∃ X, X = cellsW (wd s) := ⟨_, rfl⟩
  have IV : Hid ((Try.prog.info? 24).map (·.size) = some V.length) := Lib.hid (by rw [hV]; exact sizeW _)
  have LV : Hid (zerosW.length = V.length) := Lib.hid (by rw [hV]; rfl)
  have OV : Hid (∀ v ∈ V, v.oneCell' = true) := Lib.hid (by rw [hV]; exact cellsW_one _)
  obtain ⟨Q, hQ⟩ : ∃ X, X = cellsW (wd q) := ⟨_, rfl⟩
  have IQ : Hid ((Try.prog.info? 24).map (·.size) = some Q.length) := Lib.hid (by rw [hQ]; exact sizeW _)
  have LQ : Hid (zerosW.length = Q.length) := Lib.hid (by rw [hQ]; rfl)
  have OQ : Hid (∀ v ∈ Q, v.oneCell' = true) := Lib.hid (by rw [hQ]; exact cellsW_one _)
  have CP : Hid (∀ W, Calls Try.prog 29 #[.int .i64 (n : Int)] W (MkB W P)) := Lib.hid fun W => by rw [hP]; exact bpow_calls n W (by omega)
  have CSL : Hid (∀ W, Calls Try.prog 30 #[.agg X.toArray, .int .i64 k] W (Ret W (.agg V.toArray))) := Lib.hid fun W => by rw [hX, hV, hs]; exact shl_calls x k K W bx hk2 hK
  have CSR : Hid (∀ W, Calls Try.prog 31 #[.agg X.toArray, .int .i64 k] W (Ret W (.agg Q.toArray))) := Lib.hid fun W => by rw [hX, hQ, hq]; exact shr_calls x k K W bx hk2 hK
  have CB : Hid (∀ W, Calls Try.prog 12 #[.agg X.toArray] W (MkB W x)) := Lib.hid fun W => bigV ⟨bx, hX⟩ W
  have CB2 : Hid (∀ W, Calls Try.prog 12 #[.agg Q.toArray] W (MkB W q)) := Lib.hid fun W => bigV ⟨bq, hQ⟩ W
  obtain ⟨M, hM⟩ : ∃ M, M = x * P := ⟨_, rfl⟩
  obtain ⟨M2, hM2⟩ : ∃ M2, M2 = q * P := ⟨_, rfl⟩
  obtain ⟨M3, hM3⟩ : ∃ M3, M3 = M2 + P := ⟨_, rfl⟩
  obtain ⟨L, hL⟩ : ∃ L, L = M % 2 ^ 256 := ⟨_, rfl⟩
  have CM : Hid (∀ W A1 n1 c1 A2 n2 c2, RdI W A1 n1 (digs x) → RdI W A2 n2 (digs P) → Calls Try.prog 22 #[.slice A1 n1 c1, .slice A2 n2 c2] W (MkB W M)) := Lib.hid fun W A1 n1 c1 A2 n2 c2 h1 h2 => by rw [hM]; exact mulV (Few.wide bx) fP W A1 n1 c1 A2 n2 c2 h1 h2
  have CM2 : Hid (∀ W A1 n1 c1 A2 n2 c2, RdI W A1 n1 (digs q) → RdI W A2 n2 (digs P) → Calls Try.prog 22 #[.slice A1 n1 c1, .slice A2 n2 c2] W (MkB W M2)) := Lib.hid fun W A1 n1 c1 A2 n2 c2 h1 h2 => by rw [hM2]; exact mulV (Few.wide bq) fP W A1 n1 c1 A2 n2 c2 h1 h2
  have CAD : Hid (∀ W A1 n1 c1 A2 n2 c2, RdI W A1 n1 (digs M2) → RdI W A2 n2 (digs P) → Calls Try.prog 13 #[.slice A1 n1 c1, .slice A2 n2 c2] W (MkB W M3)) := Lib.hid fun W A1 n1 c1 A2 n2 c2 h1 h2 => by rw [hM3]; exact addV (by rw [hM2]; exact bm q bq) fP W A1 n1 c1 A2 n2 c2 h1 h2
  have CL1 : Hid (∀ W A1 n1 c1 A2 n2 c2, RdI W A1 n1 (digs x) → RdI W A2 n2 (digs M2) → Calls Try.prog 18 #[.slice A1 n1 c1, .slice A2 n2 c2] W (Ret W (.bool false))) := Lib.hid fun W A1 n1 c1 A2 n2 c2 h1 h2 => lessV (Few.wide bx) (by rw [hM2]; exact bm q bq) W A1 n1 c1 A2 n2 c2 h1 h2 false (decide_eq_false (by rw [hM2]; exact hlow.1))
  have CL2 : Hid (∀ W A1 n1 c1 A2 n2 c2, RdI W A1 n1 (digs x) → RdI W A2 n2 (digs M3) → Calls Try.prog 18 #[.slice A1 n1 c1, .slice A2 n2 c2] W (Ret W (.bool true))) := Lib.hid fun W A1 n1 c1 A2 n2 c2 h1 h2 => lessV (Few.wide bx) (by rw [hM3, hM2]; exact fs) W A1 n1 c1 A2 n2 c2 h1 h2 true (decide_eq_true (by rw [hM3, hM2]; exact hlow.2))
  have CLO : Hid (∀ W A1 n1 c1, RdI W A1 n1 (digs M) → n1 ≤ c1 → Calls Try.prog 16 #[.slice A1 n1 c1] W (MkB W L)) := Lib.hid fun W A1 n1 c1 h1 hc => by rw [hL]; exact lowV (by rw [hM]; exact bm x bx) W A1 n1 c1 h1 hc
  have CIS : Hid (∀ W A1 n1 c1, RdI W A1 n1 (digs L) → Calls Try.prog 15 #[.agg V.toArray, .slice A1 n1 c1] W (Ret W (.bool true))) := Lib.hid fun W A1 n1 c1 h1 => by rw [hL] at h1; exact isV hV (by rw [hM]; exact hsame) W A1 n1 c1 h1
  have HN : Hid ((n : Int) = min (max k 0) 256) := Lib.hid (by omega)
  rw [← hX]
  obtain ⟨w0, hw0⟩ : ∃ w0, w0 = (w.alloc (.cells X.toArray 24)) := ⟨_, rfl⟩
  have hbX : Blk w0 (w.heap.size) X 24 := by rw [hw0]; exact Blk.new' w X.toArray 24 (w.heap.size) (by simp)
  have HB : Hid (Still w w0) := Lib.hid (by rw [hw0]; exact Still.alloc (Still.refl w) _)
  clear hX hV hQ hP hq hs bq bP fP bm fs hlow hsame hM hM2 hM3 hL bx
  go_enter Try.func7, Try.ntmps7
  go_upto_region 1 with fail
  rw [← hw0]
  clear hw0
  go_cut [5] (fun v wx => v = .int .i64 (n : Int) ∧ w0 = wx)
  case first =>
    clear hn hK
    by_cases h0 : 0 ≤ k
    · by_cases h1 : k ≤ 256
      · have h2 : ¬ (256 : Int) < k := by omega
        go_wp2_with fail
        go_meet
        exact ⟨congrArg _ (by rw [HN.out]; omega), rfl⟩
      · have h2 : (256 : Int) < k := by omega
        have h3 : (0 : Int) < k := by omega
        go_wp2_with fail
        go_meet
        exact ⟨congrArg _ (by rw [HN.out]; omega), rfl⟩
    · have h1 : k < 0 := by omega
      go_wp2_with fail
      go_meet
      exact ⟨congrArg _ (by rw [HN.out]; omega), rfl⟩
  case rest =>
    obtain ⟨rfl, rfl⟩ := hcut
    clear hn hK
    go_upto_region 3 with (first
    | (go_at_call 29; refine (CP.out _).mono ?_; rintro e' v0 ⟨A0, n0, c0, rfl, h0, h0c, h0m, d0⟩))
    have K0 : Hid (∀ W, Still v0 W → W.rangeAt w.heap.size 0 X ∧ Still v0 W) := Lib.hid fun W h => ⟨(Blk.step (by ((repeat (first | with_reducible assumption | with_reducible apply Blk.alloc | with_reducible apply Blk.drew | with_reducible refine Blk.step ?_ (by assumption))))) h).range, h⟩
    go_cut [23] from 14 to 23 (fun v wx => v = .bool false ∧ Still v0 wx)
    case first =>
      refine wp_region_held_drew (S := fun W => W.rangeAt w.heap.size 0 X ∧ Still v0 W) (by kernel_rfl) ?_ (fun hHeld => ?_)
      · exact K0.out _ (by ((repeat (first | with_reducible exact Still.refl _ | with_reducible assumption | with_reducible apply Still.alloc | with_reducible apply Still.drew | with_reducible refine Still.step ?_ (by assumption)))))
      refine wpAnyH_take (i := 0) rfl (by kernel_rfl) (by kernel_rfl) (by kernel_rfl) (fun _ _ _ h => h) (yieldsIf_load_mid (by rfl) _ _ rfl _ _ rfl X _ (fun w hSw => by (try dsimp only at hSw); go_split_ands; assumption) Try.underlying24 rfl IX.out) (by assumption) ?_
      (try simp only [List.getElem_toArray, List.getElem_cons_succ, List.getElem_cons_zero, Act.put, List.setIfInBounds_toArray, List.set_cons_succ, List.set_cons_zero])
      refine wpAnyH_take (i := 1) (v := ?_) rfl (by kernel_rfl) (by kernel_rfl) (by kernel_rfl) (fun _ _ _ h => h) (Or.inl ⟨by rfl, ?_⟩) (by assumption) ?_
      rotate_left 1
      · intro w hSw; (try dsimp only at hSw); simp only [List.getElem_toArray, List.getElem_cons_succ, List.getElem_cons_zero]; go_simp; try (with_reducible rfl)
      (try simp only [List.getElem_toArray, List.getElem_cons_succ, List.getElem_cons_zero, Act.put, List.setIfInBounds_toArray, List.set_cons_succ, List.set_cons_zero])
      refine wpAnyH_take (i := 3) rfl (by kernel_rfl) (by kernel_rfl) (by kernel_rfl) (fun _ _ _ h => h) (yieldsIf_load_mid (by rfl) _ _ rfl _ _ rfl X _ (fun w hSw => by (try dsimp only at hSw); go_split_ands; assumption) Try.underlying24 rfl IX.out) (by assumption) ?_
      (try simp only [List.getElem_toArray, List.getElem_cons_succ, List.getElem_cons_zero, Act.put, List.setIfInBounds_toArray, List.set_cons_succ, List.set_cons_zero])
      refine wpAnyH_take (i := 5) (v := ?_) rfl (by kernel_rfl) (by kernel_rfl) (by kernel_rfl) (fun _ _ _ h => h) (Or.inl ⟨by rfl, ?_⟩) (by assumption) ?_
      rotate_left 1
      · intro w hSw; (try dsimp only at hSw); simp only [List.getElem_toArray, List.getElem_cons_succ, List.getElem_cons_zero]; go_simp; try (with_reducible rfl)
      (try simp only [List.getElem_toArray, List.getElem_cons_succ, List.getElem_cons_zero, Act.put, List.setIfInBounds_toArray, List.set_cons_succ, List.set_cons_zero])
      refine wpAnyH_ready (rs := [2]) (by kernel_rfl) (by simp) ?_
      refine AllReadyH.cons rfl (fun K hK => ?_) AllReadyH.nil
      (try simp only [List.getElem_toArray, List.getElem_cons_succ, List.getElem_cons_zero])
      go_simp
      go_at_call 30; refine (CSL.out _).mono ?_; rintro e' v1 ⟨rfl, d1⟩
      (try (go_wp2_with fail))
      refine hK.out _ _ ?_ (fun hHeld => ?_)
      · exact K0.out _ (by ((repeat (first | with_reducible exact Still.refl _ | with_reducible assumption | with_reducible apply Still.alloc | with_reducible apply Still.drew | with_reducible refine Still.step ?_ (by assumption)))))
      clear hK K
      (try simp only [Act.put, List.setIfInBounds_toArray, List.set_cons_succ, List.set_cons_zero])
      refine wpAnyH_ready (rs := [4]) (by kernel_rfl) (by simp) ?_
      refine AllReadyH.cons rfl (fun K hK => ?_) AllReadyH.nil
      (try simp only [List.getElem_toArray, List.getElem_cons_succ, List.getElem_cons_zero])
      go_simp
      go_at_call 12; refine (CB.out _).mono ?_; rintro e' v2 ⟨A2, n2, c2, rfl, h2, h2c, h2m, d2⟩
      (try (go_wp2_with fail))
      refine hK.out _ _ ?_ (fun hHeld => ?_)
      · exact K0.out _ (by ((repeat (first | with_reducible exact Still.refl _ | with_reducible assumption | with_reducible apply Still.alloc | with_reducible apply Still.drew | with_reducible refine Still.step ?_ (by assumption)))))
      clear hK K
      (try simp only [Act.put, List.setIfInBounds_toArray, List.set_cons_succ, List.set_cons_zero])
      refine wpAnyH_ready (rs := [6]) (by kernel_rfl) (by simp) ?_
      refine AllReadyH.cons rfl (fun K hK => ?_) AllReadyH.nil
      (try simp only [List.getElem_toArray, List.getElem_cons_succ, List.getElem_cons_zero])
      go_simp
      go_at_call 22; refine (CM.out _ _ _ _ _ _ _ h2 (h0.still (by ((repeat (first | with_reducible exact Still.refl _ | with_reducible assumption | with_reducible apply Still.alloc | with_reducible apply Still.drew | with_reducible refine Still.step ?_ (by assumption))))))).mono ?_; rintro e' v3 ⟨A3, n3, c3, rfl, h3, h3c, h3m, d3⟩
      (try (go_wp2_with fail))
      refine hK.out _ _ ?_ (fun hHeld => ?_)
      · exact K0.out _ (by ((repeat (first | with_reducible exact Still.refl _ | with_reducible assumption | with_reducible apply Still.alloc | with_reducible apply Still.drew | with_reducible refine Still.step ?_ (by assumption)))))
      clear hK K
      (try simp only [Act.put, List.setIfInBounds_toArray, List.set_cons_succ, List.set_cons_zero])
      refine wpAnyH_ready (rs := [7]) (by kernel_rfl) (by simp) ?_
      refine AllReadyH.cons rfl (fun K hK => ?_) AllReadyH.nil
      (try simp only [List.getElem_toArray, List.getElem_cons_succ, List.getElem_cons_zero])
      go_simp
      go_at_call 16; refine (CLO.out _ _ _ _ h3 h3c).mono ?_; rintro e' v4 ⟨A4, n4, c4, rfl, h4, h4c, h4m, d4⟩
      (try (go_wp2_with fail))
      refine hK.out _ _ ?_ (fun hHeld => ?_)
      · exact K0.out _ (by ((repeat (first | with_reducible exact Still.refl _ | with_reducible assumption | with_reducible apply Still.alloc | with_reducible apply Still.drew | with_reducible refine Still.step ?_ (by assumption)))))
      clear hK K
      (try simp only [Act.put, List.setIfInBounds_toArray, List.set_cons_succ, List.set_cons_zero])
      refine wpAnyH_ready (rs := [8]) (by kernel_rfl) (by simp) ?_
      refine AllReadyH.cons rfl (fun K hK => ?_) AllReadyH.nil
      (try simp only [List.getElem_toArray, List.getElem_cons_succ, List.getElem_cons_zero])
      go_simp
      go_at_call 15; refine (CIS.out _ _ _ _ h4).mono ?_; rintro e' v5 ⟨rfl, d5⟩
      (try (go_wp2_with fail))
      refine hK.out _ _ ?_ (fun hHeld => ?_)
      · exact K0.out _ (by ((repeat (first | with_reducible exact Still.refl _ | with_reducible assumption | with_reducible apply Still.alloc | with_reducible apply Still.drew | with_reducible refine Still.step ?_ (by assumption)))))
      clear hK K
      (try simp only [Act.put, List.setIfInBounds_toArray, List.set_cons_succ, List.set_cons_zero])
      refine wpAnyH_take (i := 9) (v := ?_) rfl (by kernel_rfl) (by kernel_rfl) (by kernel_rfl) (fun _ _ _ h => h) (Or.inl ⟨by rfl, ?_⟩) (by assumption) ?_
      rotate_left 1
      · intro w hSw; (try dsimp only at hSw); simp only [List.getElem_toArray, List.getElem_cons_succ, List.getElem_cons_zero]; go_simp; try (with_reducible rfl)
      (try simp only [List.getElem_toArray, List.getElem_cons_succ, List.getElem_cons_zero, Act.put, List.setIfInBounds_toArray, List.set_cons_succ, List.set_cons_zero])
      refine wpAnyH_done (by kernel_rfl) ?_ _
      go_wp2_with fail
      go_meet
      exact ⟨rfl, by ((repeat (first | with_reducible exact Still.refl _ | with_reducible assumption | with_reducible apply Still.alloc | with_reducible apply Still.drew | with_reducible refine Still.step ?_ (by assumption))))⟩
    case rest =>
      obtain ⟨rfl, hst⟩ := hcut
      have hbX2 : Blk wc w.heap.size X 24 := Blk.step (Blk.step hbX d0) hst
      have h02 := h0.still hst
      have HB2 : Hid (Still w wc) := Lib.hid ((HB.out.step d0).step hst)
      clear d0 h0 hst hbX
      go_wp2_with (first
        | (refine at_load 24 (.tmp 2) ?_; refine wpList_load_mid rfl 24 (.tmp 2) rfl (w.heap.size) 0 rfl X _ (Blk.range (t := 24) (by ((repeat (first | with_reducible assumption | with_reducible apply Blk.alloc | with_reducible apply Blk.drew | with_reducible refine Blk.step ?_ (by assumption)))))) Try.underlying24 rfl IX.out ?_)
        | (refine at_loadg 24 (.tmp 2) ?_; refine wpList_load_midg (by simp [Region.wanted, yielded, Act.put]) 24 (.tmp 2) rfl (w.heap.size) 0 rfl X _ (Blk.range (t := 24) (by ((repeat (first | with_reducible assumption | with_reducible apply Blk.alloc | with_reducible apply Blk.drew | with_reducible refine Blk.step ?_ (by assumption)))))) Try.underlying24 rfl IX.out ?_)
        | (go_at_call 31; refine (CSR.out _).mono ?_; rintro e' v1 ⟨rfl, d1⟩)
        | (go_at_call_of 12 Q; refine (CB2.out _).mono ?_; rintro e' v2 ⟨A2, n2, c2, rfl, h2, h2c, h2m, d2⟩)
        | (go_at_call 22; refine (CM2.out _ _ _ _ _ _ _ h2 (h02.still (by ((repeat (first | with_reducible exact Still.refl _ | with_reducible assumption | with_reducible apply Still.alloc | with_reducible apply Still.drew | with_reducible refine Still.step ?_ (by assumption))))))).mono ?_; rintro e' v3 ⟨A3, n3, c3, rfl, h3, h3c, h3m, d3⟩)
        | (go_at_call_of 12 X; refine (CB.out _).mono ?_; rintro e' v4 ⟨A4, n4, c4, rfl, h4, h4c, h4m, d4⟩)
        | (go_at_call 18; refine (CL2.out _ A4 n4 c4 A6 n6 c6 (h4.still (by ((repeat (first | with_reducible exact Still.refl _ | with_reducible assumption | with_reducible apply Still.alloc | with_reducible apply Still.drew | with_reducible refine Still.step ?_ (by assumption)))))) h6).mono ?_; rintro e' v7 ⟨rfl, d7⟩)
        | (go_at_call 18; refine (CL1.out _ A4 n4 c4 A3 n3 c3 h4 (h3.still (by ((repeat (first | with_reducible exact Still.refl _ | with_reducible assumption | with_reducible apply Still.alloc | with_reducible apply Still.drew | with_reducible refine Still.step ?_ (by assumption))))))).mono ?_; rintro e' v5 ⟨rfl, d5⟩)
        | (go_at_call 13; refine (CAD.out _ _ _ _ _ _ _ (h3.still (by ((repeat (first | with_reducible exact Still.refl _ | with_reducible assumption | with_reducible apply Still.alloc | with_reducible apply Still.drew | with_reducible refine Still.step ?_ (by assumption)))))) (h02.still (by ((repeat (first | with_reducible exact Still.refl _ | with_reducible assumption | with_reducible apply Still.alloc | with_reducible apply Still.drew | with_reducible refine Still.step ?_ (by assumption))))))).mono ?_; rintro e' v6 ⟨A6, n6, c6, rfl, h6, h6c, h6m, d6⟩)
        | (go_at_call 20; refine (awake4_calls _).mono ?_; rintro e' v8 ⟨rfl, d8⟩))
      all_goals go_ret
      all_goals exact ⟨rfl, HB2.out.trans (show Still wc v8 by ((repeat (first | with_reducible exact Still.refl _ | with_reducible assumption | with_reducible apply Still.alloc | with_reducible apply Still.drew | with_reducible refine Still.step ?_ (by assumption)))))⟩
theorem walk (u : U4) (z : Int) (w : World) (hu : u.ok) (hz : (Lit.int .i64 z).wf = true) : Calls Try.prog 7 #[.agg u.arr, .int .i64 z] w (Ret w (.bool true)) := by
  have hb := bounds_i64 hz
  rw [u.uA hu]
  exact walkN u.val z z.toNat (u.val_lt hu) (by omega) (by omega) rfl w

set_option maxRecDepth 100000 in
theorem lifted (os : Os) (started : os.Started) (H : Type) (enc : TypeId × Value → H) :
    ReturnsInHanded {} Try.checked os 7 .any (Rows.wideShiftsSpec.pre6 enc Try.prog Try.f7 Rows.wideShiftsRow.domain false) (Rows.wideShiftsSpec.post enc Try.prog Try.f7 false true false false) := by
  refine returnsInHanded_of_change (C := Try.checked) own started (by kernel_rfl) Try.func7
    (ChangeSpec.witness6 (enc := enc) (C := Try.checked) false ⟨#[], #[.agg #[.int .u64 0, .int .u64 0, .int .u64 0, .int .u64 0], .int .i64 0], []⟩ 8 (by kernel_rfl) (by kernel_rfl) (by kernel_rfl) (by kernel_rfl)) ?_
  intro W base args ds gs before hval0 hW hcnd _
  have hval : ∀ (j : Nat) t v, Try.f7.params[j]? = some t → args[j]? = some v → Value.okWide Try.prog W .any base t v := hval0
  have hW' := hW
  obtain ⟨p, q, hA0, hV, rfl, hfz, hnd⟩ := hW
  have hA : DataW.TrodAll enc Try.prog W 0 (fun _ => true) true Try.f7.params.toList args.toList ds p := hA0
  rw [Try.params7] at hA hval
  obtain ⟨v0, vs0, d0, ds0, p0, q0, hargs, rfl, rfl, h0, r0⟩ := trodAll_cons hA
  obtain ⟨v1, vs1, d1, ds1, p1, q1, rfl, rfl, rfl, h1, r1⟩ := trodAll_cons r0
  obtain ⟨rfl, rfl, rfl⟩ := trodAll_nil r1
  obtain rfl : args = #[v0, v1] := by cases args; simp_all
  obtain ⟨rfl, rfl⟩ := trodVars_none hV
  have k0 := h0
  have lt0 : ∀ x ∈ p0, x.block < W.heap.size := by obtain ⟨m, hm⟩ := k0; exact DataW.trod_lt m _ _ _ hm
  obtain ⟨a0, rfl, w0⟩ := arrW (hval 0 24 v0 rfl rfl) h0
  obtain ⟨a1, rfl, rfl, rfl, w1⟩ := open_int Try.underlying3 (hval 1 3 v1 rfl rfl) h1
  clear hA0 hval0
  refine (walk a0 a1 W w0 w1).mono fun e W' ⟨he, bel⟩ => ?_
  subst he
  exact ⟨_, rfl, _, _, _, [], _, [], hW', trodAll_mk1 (shut_bool Try.underlying4 _), (trodAll_cons_mk (Below.trod laidOut (by kernel_rfl) (of_decide_eq_true (by kernel_rfl)) k0 bel lt0) (trodAll_cons_mk (shut_int Try.underlying3 w1) trodAll_mk0)), rfl, bel.frame _, fun h => by cases h⟩

theorem over : Rows.wideShiftsRow.holds Try.pinned (OpenSpec.ofChange Rows.wideShiftsSpec) :=
  OpenClaim.holds_of_wide 7 Try.f7 rfl rfl rfl rfl rfl rfl rfl ⟨rfl, rfl, rfl, rfl, rfl⟩ rfl rfl rfl rfl rfl (by kernel_rfl) Try.func7 (by kernel_rfl)
    (of_decide_eq_true (by kernel_rfl)) (by unfold Func.isWrapper; first | (rw [if_pos (by decide +kernel)]; kernel_rfl) | (rw [if_neg (by decide +kernel)]; exact ⟨rfl, rfl⟩))
    (fun os started H enc _ => lifted os started H enc)

theorem proved : Rows.WideShiftsSaid := over
end Go.Proofs.Ythbbeknbdgkpkaa.wideShifts
