/- Merged texts: MrkP. -/
import Derived.Test.YtpoinhjkdgcnaaaDoorMaq
import Derived.Deep.RegionHeld3
/- The contracts of package merkle's half, Depth and hasTwins. -/
namespace Go.Proofs.YtpoinhjkdgcnaaaDoor
open Go.RowKit
set_option linter.unusedVariables false
set_option linter.unusedSimpArgs false

set_option maxRecDepth 100000 in
set_option maxHeartbeats 4000000 in
theorem ghalf_calls (n : Nat) (hn : n ≤ 9223372036854775807) (w : World) : Calls Tryd.prog 40 #[.int .i64 (n : Int)] w (Ret w (.int .i64 (((n + 1) / 2 : Nat) : Int))) := by
  obtain ⟨m, hm⟩ : ∃ m, m = (n + 1) / 2 := ⟨_, rfl⟩
  obtain ⟨k, hk⟩ : ∃ k, k = n / 2 := ⟨_, rfl⟩
  have q1 : Int.tdiv (n : Int) 2 = (k : Int) := by rw [Int.tdiv_eq_ediv_of_nonneg (by omega)]; omega
  have q2 : (n : Int) / 2 = (k : Int) := by omega
  have q3 : IntKind.i64.wrap (k : Int) = (k : Int) := by rw [IntKind.wrap_i64]; omega
  have q4 : IntKind.i64.wrap ((n : Int) - (k : Int)) = (m : Int) := by rw [IntKind.wrap_i64]; omega
  rw [← hm]
  clear hm hk
  go_enter Tryd.func40, Tryd.ntmps40
  go_wp2
  go_ret
  first | exact ⟨rfl, Below.refl _ _⟩ | (refine ⟨?_, Below.refl _ _⟩; simp [q1, q2, q3, q4])
set_option maxRecDepth 100000 in
theorem depth_le63 (n : Nat) (h : n ≤ 9223372036854775807) : depth n ≤ 63 := by
  by_cases hn : n ≤ 1
  · rw [depth_small n hn]; omega
  · have h1 := depth_low n (by omega)
    rcases Nat.lt_or_ge (depth n) 64 with h2 | h2
    · omega
    · have h3 := Nat.pow_le_pow_right (n := 2) (by omega) (show 63 ≤ depth n - 1 by omega)
      omega
set_option maxRecDepth 100000 in
set_option maxHeartbeats 4000000 in
theorem gdepth_calls (k : Int) (hk : k ≤ 9223372036854775807) (hk0 : -9223372036854775808 ≤ k) (w : World) :
    Calls Tryd.prog 43 #[.int .i64 k] w (Ret w (.int .i64 (depth k.toNat : Int))) := by
  by_cases h1 : k ≤ 1
  · have hd : ¬ (1 : Int) < k := by omega
    have e0 : depth k.toNat = 0 := depth_small _ (by omega)
    rw [e0]
    clear e0
    go_enter Tryd.func43, Tryd.ntmps43
    go_wp2
    go_loopw [0, 3] (fun x d wr => x = .int .i64 k ∧ d = .int .i64 0 ∧ Below w.heap.size w wr) (fun _ _ _ => 0)
    case atStart => exact ⟨rfl, by first | rfl | go_num, Below.refl _ w⟩
    case round =>
      obtain ⟨rfl, rfl, hbel⟩ := hrel
      go_wp2
      go_ret
      exact ⟨by first | rfl | go_num, hbel⟩
  · obtain ⟨N, hN⟩ : ∃ N : Nat, N = k.toNat := ⟨_, rfl⟩
    have hkN : k = (N : Int) := by omega
    rw [← hN]
    subst hkN
    obtain ⟨D, hD⟩ : ∃ D, D = depth N := ⟨_, rfl⟩
    have hD63 : D ≤ 63 := by rw [hD]; exact depth_le63 N (by omega)
    rw [← hD]
    have CH : Hid (∀ W (m m' : Nat), m ≤ 9223372036854775807 → m' = (m + 1) / 2 → Calls Tryd.prog 40 #[.int .i64 (m : Int)] W (Ret W (.int .i64 (m' : Int)))) := Lib.hid fun W m m' hm he => by rw [he]; exact ghalf_calls m hm W
    have HD := Lib.hid hD
    clear hD hN h1 hk0
    go_enter Tryd.func43, Tryd.ntmps43
    go_wp2
    go_loopw [0, 3] (fun x d wr => ∃ m t : Nat, x = .int .i64 (m : Int) ∧ d = .int .i64 (t : Int) ∧ m ≤ N ∧ t + depth m = D ∧ Below w.heap.size w wr) (fun x _ _ => (intOf x).toNat)
    case atStart => exact ⟨N, 0, rfl, by first | rfl | go_num, Nat.le_refl _, by rw [HD.out]; omega, Below.refl _ w⟩
    case round =>
      obtain ⟨m, t, rfl, rfl, hmN, hsum, hbel⟩ := hrel
      by_cases hm : 1 < m
      · have hm' : (1 : Int) < (m : Int) := by omega
        obtain ⟨m', hm2⟩ : ∃ m', m' = (m + 1) / 2 := ⟨_, rfl⟩
        have hs2 : t + 1 + depth m' = D := by rw [hm2, ← hsum, depth_big m hm]; omega
        have ht : t ≤ 62 := by omega
        have hlt : m' < m := by omega
        have C1 := Lib.hid (fun W => CH.out W m m' (by omega) hm2)
        clear hsum hm2
        go_wp2_with (go_at_call 40; refine (C1.out _).mono ?_; rintro e' v1 ⟨rfl, d1⟩)
        go_roundw
        case rel => exact ⟨m', t + 1, rfl, by go_num, by omega, hs2, below_more hbel d1⟩
        case measure => simp [intOf]; omega
      · have hm' : ¬ (1 : Int) < (m : Int) := by omega
        have e1 : t = D := by rw [depth_small m (by omega)] at hsum; omega
        subst e1
        clear hsum
        go_wp2
        go_ret
        exact ⟨rfl, hbel⟩
set_option maxRecDepth 100000 in
set_option maxHeartbeats 4000000 in
theorem gtwins_calls (A : Option Addr) (n c : Nat) (L : List (List UInt8)) (w : World) (hr : RdH w A n L) (hn : n ≤ 1000) : Calls Tryd.prog 39 #[.slice A n c] w (Ret w (.bool (pairs L))) := by
  have hln := hr.len
  obtain ⟨R, hR⟩ : ∃ R, R = pairs L := ⟨_, rfl⟩
  have HT : Hid (∀ j, 2 * j + 1 < n → hat L (2 * j) = hat L (2 * j + 1) → R = true) := Lib.hid fun j h1 h2 => by rw [hR]; exact pairs_true L j (by omega) h2
  have HF : Hid ((∀ j, 2 * j + 1 < n → hat L (2 * j) ≠ hat L (2 * j + 1)) → R = false) := Lib.hid fun h => by rw [hR]; exact pairs_false L (fun i hi => h i (by omega))
  have HR := Lib.hid hr
  rw [← hR]
  clear hR hr
  go_enter Tryd.func39, Tryd.ntmps39
  go_wp2
  go_loopw [3] (fun i wr => ∃ j : Nat, i = .int .i64 ((2 * j + 1 : Nat) : Int) ∧ j ≤ 600 ∧ (∀ i, i < j → hat L (2 * i) ≠ hat L (2 * i + 1)) ∧ Below w.heap.size w wr) (fun i _ => 2000 - (intOf i).toNat)
  case atStart => exact ⟨0, by first | rfl | go_num, by omega, fun k hk => absurd hk (by omega), Below.refl _ w⟩
  case round =>
    obtain ⟨j, rfl, hj6, hnj, hbel⟩ := hrel
    obtain ⟨a2, ha2⟩ : ∃ a, a = 2 * j := ⟨_, rfl⟩
    obtain ⟨a3, ha3⟩ : ∃ a, a = 2 * j + 1 := ⟨_, rfl⟩
    obtain ⟨a5, ha5⟩ : ∃ a, a = 2 * (j + 1) + 1 := ⟨_, rfl⟩
    rw [← ha3]
    have m1 : IntKind.i64.wrap ((a3 : Int) - 1) = (a2 : Int) := by rw [IntKind.wrap_i64]; omega
    have m2 : IntKind.i64.wrap ((a3 : Int) + 2) = (a5 : Int) := by rw [IntKind.wrap_i64]; omega
    have HNJ := Lib.hid hnj
    clear hnj
    by_cases hin : a3 < n
    · have hin' : (a3 : Int) < (n : Int) := by omega
      have hin2 : (a2 : Int) < (n : Int) := by omega
      have hrw := HR.out.below hbel
      obtain ⟨b, off, rfl, hb, hga⟩ := hrw.at_ (k := 2 * j) (by omega)
      obtain ⟨b', off', hAe, _, hgb⟩ := hrw.at_ (k := 2 * j + 1) (by omega)
      obtain ⟨rfl, rfl⟩ : b = b' ∧ off = off' := by injection hAe with e; injection e with e1 e2; exact ⟨e1, e2⟩
      obtain ⟨x, hx⟩ : ∃ x, x = hat L (2 * j) := ⟨_, rfl⟩
      obtain ⟨y, hy⟩ : ∃ y, y = hat L (2 * j + 1) := ⟨_, rfl⟩
      have hx32 : x.length = 32 := by rw [hx]; exact hat_32 HR.out.all (by omega)
      have hy32 : y.length = 32 := by rw [hy]; exact hat_32 HR.out.all (by omega)
      obtain ⟨X, hX⟩ : ∃ X, X = x.map B8 := ⟨_, rfl⟩
      obtain ⟨Y, hY⟩ : ∃ Y, Y = y.map B8 := ⟨_, rfl⟩
      have IX : Hid ((Tryd.prog.info? 47).map (·.size) = some X.length) := Lib.hid (by rw [hX, List.length_map, hx32]; kernel_rfl)
      have IY : Hid ((Tryd.prog.info? 47).map (·.size) = some Y.length) := Lib.hid (by rw [hY, List.length_map, hy32]; kernel_rfl)
      rw [← hx, ← hX, ← ha2] at hga
      rw [← hy, ← hY, ← ha3] at hgb
      have K0 : Hid (∀ W, Below wr.heap.size wr W → W.rangeAt b (off + a2 * 32) X ∧ W.rangeAt b (off + a3 * 32) Y) := Lib.hid fun W h => ⟨fun j v hv => (h.cell (p := ⟨b, off + a2 * 32 + j, none⟩) hb).trans (hga j v hv), fun j v hv => (h.cell (p := ⟨b, off + a3 * 32 + j, none⟩) hb).trans (hgb j v hv)⟩
      obtain ⟨B, hB⟩ : ∃ B, B = decide (x = y) := ⟨_, rfl⟩
      have heq : ∀ W, (Op.equalIn 10000 47 (.agg X.toArray) (.agg Y.toArray)).run Tryd.prog W = .ok B W := fun W => by rw [hX, hY]; exact eqG32 x y hx32 hy32 B hB.symm W
      have HXY : Hid (hat L (2 * j) = x ∧ hat L (2 * j + 1) = y) := Lib.hid ⟨hx.symm, hy.symm⟩
      have HBB := Lib.hid hB
      have HIN : Hid (2 * j + 1 < n) := Lib.hid (by omega)
      have H5 := Lib.hid ha5
      have hj1 : j + 1 ≤ 600 := by omega
      have hms : 2000 - a5 < 2000 - a3 := by omega
      have h5i : ((2 * (j + 1) + 1 : Nat) : Int) = (a5 : Int) := by rw [ha5]
      have H5I := Lib.hid h5i
      clear hga hgb hx hy hX hY hx32 hy32 hB ha2 ha3 ha5 hrw hAe h5i
      cases hBc : B
      · rw [hBc] at heq HBB
        have hno : ∀ i, i < j + 1 → hat L (2 * i) ≠ hat L (2 * i + 1) := fun i hi => by
          rcases Nat.lt_or_ge i j with h | h
          · exact HNJ.out i h
          · have e : i = j := by omega
            subst e
            rw [HXY.out.1, HXY.out.2]
            exact of_decide_eq_false HBB.out.symm
        have HNO := Lib.hid hno
        clear hno
        go_wp2
        refine wp_region_held_drew (S := fun W => W.rangeAt b (off + a2 * 32) X ∧ W.rangeAt b (off + a3 * 32) Y) (by kernel_rfl) ?_ (fun hHeld => ?_)
        · exact K0.out _ (by ((repeat (first | with_reducible assumption | with_reducible exact Below.refl _ _ | with_reducible apply below_al | with_reducible apply below_dr | with_reducible refine below_more ?_ (by assumption)))))
        refine wpAnyH_take (i := 0) (v := ?_) rfl (by kernel_rfl) (by kernel_rfl) (by kernel_rfl) (fun _ _ _ h => h) (Or.inl ⟨by rfl, ?_⟩) (by assumption) ?_
        rotate_left 1
        · intro w hSw; (try dsimp only at hSw); simp only [List.getElem_toArray, List.getElem_cons_succ, List.getElem_cons_zero]; go_simp; try (with_reducible rfl)
        (try simp only [List.getElem_toArray, List.getElem_cons_succ, List.getElem_cons_zero, Act.put, List.setIfInBounds_toArray, List.set_cons_succ, List.set_cons_zero])
        refine wpAnyH_take (i := 1) (v := ?_) rfl (by kernel_rfl) (by kernel_rfl) (by kernel_rfl) (fun _ _ _ h => h) (Or.inl ⟨by rfl, ?_⟩) (by assumption) ?_
        rotate_left 1
        · intro w hSw; (try dsimp only at hSw); simp only [List.getElem_toArray, List.getElem_cons_succ, List.getElem_cons_zero]; go_simp; try (with_reducible rfl)
        (try simp only [List.getElem_toArray, List.getElem_cons_succ, List.getElem_cons_zero, Act.put, List.setIfInBounds_toArray, List.set_cons_succ, List.set_cons_zero])
        refine wpAnyH_take (i := 2) (v := ?_) rfl (by kernel_rfl) (by kernel_rfl) (by kernel_rfl) (fun _ _ _ h => h) (Or.inl ⟨by rfl, ?_⟩) (by assumption) ?_
        rotate_left 1
        · intro w hSw; (try dsimp only at hSw); simp only [List.getElem_toArray, List.getElem_cons_succ, List.getElem_cons_zero]; go_simp; try (with_reducible rfl)
        (try simp only [List.getElem_toArray, List.getElem_cons_succ, List.getElem_cons_zero, Act.put, List.setIfInBounds_toArray, List.set_cons_succ, List.set_cons_zero])
        refine wpAnyH_take (i := 3) (v := ?_) rfl (by kernel_rfl) (by kernel_rfl) (by kernel_rfl) (fun _ _ _ h => h) (Or.inl ⟨by rfl, ?_⟩) (by assumption) ?_
        rotate_left 1
        · intro w hSw; (try dsimp only at hSw); simp only [List.getElem_toArray, List.getElem_cons_succ, List.getElem_cons_zero]; go_simp; try (with_reducible rfl)
        (try simp only [List.getElem_toArray, List.getElem_cons_succ, List.getElem_cons_zero, Act.put, List.setIfInBounds_toArray, List.set_cons_succ, List.set_cons_zero])
        refine wpAnyH_take (i := 4) rfl (by kernel_rfl) (by kernel_rfl) (by kernel_rfl) (fun _ _ _ h => h) (yieldsIf_load_mid (by rfl) _ _ rfl _ _ rfl X _ (fun w hSw => by (try dsimp only at hSw); go_split_ands; assumption) Tryd.underlying47 rfl IX.out) (by assumption) ?_
        (try simp only [List.getElem_toArray, List.getElem_cons_succ, List.getElem_cons_zero, Act.put, List.setIfInBounds_toArray, List.set_cons_succ, List.set_cons_zero])
        refine wpAnyH_take (i := 5) (v := ?_) rfl (by kernel_rfl) (by kernel_rfl) (by kernel_rfl) (fun _ _ _ h => h) (Or.inl ⟨by rfl, ?_⟩) (by assumption) ?_
        rotate_left 1
        · intro w hSw; (try dsimp only at hSw); simp only [List.getElem_toArray, List.getElem_cons_succ, List.getElem_cons_zero]; go_simp; try (with_reducible rfl)
        (try simp only [List.getElem_toArray, List.getElem_cons_succ, List.getElem_cons_zero, Act.put, List.setIfInBounds_toArray, List.set_cons_succ, List.set_cons_zero])
        refine wpAnyH_take (i := 6) (v := ?_) rfl (by kernel_rfl) (by kernel_rfl) (by kernel_rfl) (fun _ _ _ h => h) (Or.inl ⟨by rfl, ?_⟩) (by assumption) ?_
        rotate_left 1
        · intro w hSw; (try dsimp only at hSw); simp only [List.getElem_toArray, List.getElem_cons_succ, List.getElem_cons_zero]; go_simp; try (with_reducible rfl)
        (try simp only [List.getElem_toArray, List.getElem_cons_succ, List.getElem_cons_zero, Act.put, List.setIfInBounds_toArray, List.set_cons_succ, List.set_cons_zero])
        refine wpAnyH_take (i := 7) (v := ?_) rfl (by kernel_rfl) (by kernel_rfl) (by kernel_rfl) (fun _ _ _ h => h) (Or.inl ⟨by rfl, ?_⟩) (by assumption) ?_
        rotate_left 1
        · intro w hSw; (try dsimp only at hSw); simp only [List.getElem_toArray, List.getElem_cons_succ, List.getElem_cons_zero]; go_simp; try (with_reducible rfl)
        (try simp only [List.getElem_toArray, List.getElem_cons_succ, List.getElem_cons_zero, Act.put, List.setIfInBounds_toArray, List.set_cons_succ, List.set_cons_zero])
        refine wpAnyH_take (i := 8) rfl (by kernel_rfl) (by kernel_rfl) (by kernel_rfl) (fun _ _ _ h => h) (yieldsIf_load_mid (by rfl) _ _ rfl _ _ rfl Y _ (fun w hSw => by (try dsimp only at hSw); go_split_ands; assumption) Tryd.underlying47 rfl IY.out) (by assumption) ?_
        (try simp only [List.getElem_toArray, List.getElem_cons_succ, List.getElem_cons_zero, Act.put, List.setIfInBounds_toArray, List.set_cons_succ, List.set_cons_zero])
        refine wpAnyH_take (i := 9) (v := ?_) rfl (by kernel_rfl) (by kernel_rfl) (by kernel_rfl) (fun _ _ _ h => h) (Or.inl ⟨by rfl, ?_⟩) (by assumption) ?_
        rotate_left 1
        · intro w hSw; (try dsimp only at hSw); simp only [List.getElem_toArray, List.getElem_cons_succ, List.getElem_cons_zero]; go_simp; try (with_reducible rfl)
        (try simp only [List.getElem_toArray, List.getElem_cons_succ, List.getElem_cons_zero, Act.put, List.setIfInBounds_toArray, List.set_cons_succ, List.set_cons_zero])
        refine wpAnyH_done (by kernel_rfl) ?_ _
        go_wp2
        go_roundw
        case rel => exact ⟨j + 1, by rw [H5I.out], hj1, HNO.out, below_dr hbel⟩
        case measure => simp [intOf]; omega

      · rw [hBc] at heq HBB
        have hRt := HT.out j HIN.out (by rw [HXY.out.1, HXY.out.2]; exact of_decide_eq_true HBB.out.symm)
        have HRT := Lib.hid hRt
        clear hRt
        go_wp2
        refine wp_region_held_drew (S := fun W => W.rangeAt b (off + a2 * 32) X ∧ W.rangeAt b (off + a3 * 32) Y) (by kernel_rfl) ?_ (fun hHeld => ?_)
        · exact K0.out _ (by ((repeat (first | with_reducible assumption | with_reducible exact Below.refl _ _ | with_reducible apply below_al | with_reducible apply below_dr | with_reducible refine below_more ?_ (by assumption)))))
        refine wpAnyH_take (i := 0) (v := ?_) rfl (by kernel_rfl) (by kernel_rfl) (by kernel_rfl) (fun _ _ _ h => h) (Or.inl ⟨by rfl, ?_⟩) (by assumption) ?_
        rotate_left 1
        · intro w hSw; (try dsimp only at hSw); simp only [List.getElem_toArray, List.getElem_cons_succ, List.getElem_cons_zero]; go_simp; try (with_reducible rfl)
        (try simp only [List.getElem_toArray, List.getElem_cons_succ, List.getElem_cons_zero, Act.put, List.setIfInBounds_toArray, List.set_cons_succ, List.set_cons_zero])
        refine wpAnyH_take (i := 1) (v := ?_) rfl (by kernel_rfl) (by kernel_rfl) (by kernel_rfl) (fun _ _ _ h => h) (Or.inl ⟨by rfl, ?_⟩) (by assumption) ?_
        rotate_left 1
        · intro w hSw; (try dsimp only at hSw); simp only [List.getElem_toArray, List.getElem_cons_succ, List.getElem_cons_zero]; go_simp; try (with_reducible rfl)
        (try simp only [List.getElem_toArray, List.getElem_cons_succ, List.getElem_cons_zero, Act.put, List.setIfInBounds_toArray, List.set_cons_succ, List.set_cons_zero])
        refine wpAnyH_take (i := 2) (v := ?_) rfl (by kernel_rfl) (by kernel_rfl) (by kernel_rfl) (fun _ _ _ h => h) (Or.inl ⟨by rfl, ?_⟩) (by assumption) ?_
        rotate_left 1
        · intro w hSw; (try dsimp only at hSw); simp only [List.getElem_toArray, List.getElem_cons_succ, List.getElem_cons_zero]; go_simp; try (with_reducible rfl)
        (try simp only [List.getElem_toArray, List.getElem_cons_succ, List.getElem_cons_zero, Act.put, List.setIfInBounds_toArray, List.set_cons_succ, List.set_cons_zero])
        refine wpAnyH_take (i := 3) (v := ?_) rfl (by kernel_rfl) (by kernel_rfl) (by kernel_rfl) (fun _ _ _ h => h) (Or.inl ⟨by rfl, ?_⟩) (by assumption) ?_
        rotate_left 1
        · intro w hSw; (try dsimp only at hSw); simp only [List.getElem_toArray, List.getElem_cons_succ, List.getElem_cons_zero]; go_simp; try (with_reducible rfl)
        (try simp only [List.getElem_toArray, List.getElem_cons_succ, List.getElem_cons_zero, Act.put, List.setIfInBounds_toArray, List.set_cons_succ, List.set_cons_zero])
        refine wpAnyH_take (i := 4) rfl (by kernel_rfl) (by kernel_rfl) (by kernel_rfl) (fun _ _ _ h => h) (yieldsIf_load_mid (by rfl) _ _ rfl _ _ rfl X _ (fun w hSw => by (try dsimp only at hSw); go_split_ands; assumption) Tryd.underlying47 rfl IX.out) (by assumption) ?_
        (try simp only [List.getElem_toArray, List.getElem_cons_succ, List.getElem_cons_zero, Act.put, List.setIfInBounds_toArray, List.set_cons_succ, List.set_cons_zero])
        refine wpAnyH_take (i := 5) (v := ?_) rfl (by kernel_rfl) (by kernel_rfl) (by kernel_rfl) (fun _ _ _ h => h) (Or.inl ⟨by rfl, ?_⟩) (by assumption) ?_
        rotate_left 1
        · intro w hSw; (try dsimp only at hSw); simp only [List.getElem_toArray, List.getElem_cons_succ, List.getElem_cons_zero]; go_simp; try (with_reducible rfl)
        (try simp only [List.getElem_toArray, List.getElem_cons_succ, List.getElem_cons_zero, Act.put, List.setIfInBounds_toArray, List.set_cons_succ, List.set_cons_zero])
        refine wpAnyH_take (i := 6) (v := ?_) rfl (by kernel_rfl) (by kernel_rfl) (by kernel_rfl) (fun _ _ _ h => h) (Or.inl ⟨by rfl, ?_⟩) (by assumption) ?_
        rotate_left 1
        · intro w hSw; (try dsimp only at hSw); simp only [List.getElem_toArray, List.getElem_cons_succ, List.getElem_cons_zero]; go_simp; try (with_reducible rfl)
        (try simp only [List.getElem_toArray, List.getElem_cons_succ, List.getElem_cons_zero, Act.put, List.setIfInBounds_toArray, List.set_cons_succ, List.set_cons_zero])
        refine wpAnyH_take (i := 7) (v := ?_) rfl (by kernel_rfl) (by kernel_rfl) (by kernel_rfl) (fun _ _ _ h => h) (Or.inl ⟨by rfl, ?_⟩) (by assumption) ?_
        rotate_left 1
        · intro w hSw; (try dsimp only at hSw); simp only [List.getElem_toArray, List.getElem_cons_succ, List.getElem_cons_zero]; go_simp; try (with_reducible rfl)
        (try simp only [List.getElem_toArray, List.getElem_cons_succ, List.getElem_cons_zero, Act.put, List.setIfInBounds_toArray, List.set_cons_succ, List.set_cons_zero])
        refine wpAnyH_take (i := 8) rfl (by kernel_rfl) (by kernel_rfl) (by kernel_rfl) (fun _ _ _ h => h) (yieldsIf_load_mid (by rfl) _ _ rfl _ _ rfl Y _ (fun w hSw => by (try dsimp only at hSw); go_split_ands; assumption) Tryd.underlying47 rfl IY.out) (by assumption) ?_
        (try simp only [List.getElem_toArray, List.getElem_cons_succ, List.getElem_cons_zero, Act.put, List.setIfInBounds_toArray, List.set_cons_succ, List.set_cons_zero])
        refine wpAnyH_take (i := 9) (v := ?_) rfl (by kernel_rfl) (by kernel_rfl) (by kernel_rfl) (fun _ _ _ h => h) (Or.inl ⟨by rfl, ?_⟩) (by assumption) ?_
        rotate_left 1
        · intro w hSw; (try dsimp only at hSw); simp only [List.getElem_toArray, List.getElem_cons_succ, List.getElem_cons_zero]; go_simp; try (with_reducible rfl)
        (try simp only [List.getElem_toArray, List.getElem_cons_succ, List.getElem_cons_zero, Act.put, List.setIfInBounds_toArray, List.set_cons_succ, List.set_cons_zero])
        refine wpAnyH_done (by kernel_rfl) ?_ _
        go_wp2
        go_ret
        exact ⟨by rw [HRT.out]; rfl, below_dr hbel⟩

    · have hin' : ¬ (a3 : Int) < (n : Int) := by omega
      have hRf := HF.out (fun i hi => HNJ.out i (by omega))
      have HRF := Lib.hid hRf
      clear hRf ha2 ha3 ha5
      go_wp2
      go_ret
      exact ⟨by rw [HRF.out]; rfl, hbel⟩
end Go.Proofs.YtpoinhjkdgcnaaaDoor
