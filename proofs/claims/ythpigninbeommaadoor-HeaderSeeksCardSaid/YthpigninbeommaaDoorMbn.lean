/- Merged texts: WidS. -/
import Derived.Test.YthpigninbeommaaDoorMbm
import Derived.Test.YthpigninbeommaaDoorMbk
import Derived.Test.YthpigninbeommaaDoorMbe
import Derived.Deep.RegionHeld3
import Derived.Deep.RegionWith
/- The contracts of wide.Shl and Shr. -/
namespace Go.Proofs.YthpigninbeommaaDoor
open Go.RowKit
set_option linter.unusedVariables false

set_option maxRecDepth 100000 in
set_option maxHeartbeats 8000000 in
theorem shl_calls (x : Nat) (k : Int) (K : Nat) (w : World) (hx : x < 2 ^ 256) (hk : k ≤ 9223372036854775807) (hK : K = k.toNat) :
    Calls Tryd.prog 56 #[.agg (uA x), .int .i64 k] w (Ret w (.agg (uA (x * 2 ^ K)))) := by
  obtain ⟨s, hs⟩ : ∃ s, s = K / 64 := ⟨_, rfl⟩
  obtain ⟨p, hp⟩ : ∃ p, p = K % 64 := ⟨_, rfl⟩
  obtain ⟨q, hq⟩ : ∃ q, q = 64 - p := ⟨_, rfl⟩
  have hp64 : p < 64 := by omega
  have hsb : s ≤ 144115188075855872 := by omega
  have HW : Hid (∀ t, wd (x * 2 ^ K) t = wz x ((t : Int) - (s : Int)) * 2 ^ p % 2 ^ 64 + wz x ((t : Int) - (s : Int) - 1) / 2 ^ q) := Lib.hid fun t => by rw [wd_shl x K t hx, ← hs, ← hp, ← hq]
  obtain ⟨N, hN⟩ : ∃ N, N = x * 2 ^ K := ⟨_, rfl⟩
  rw [← hN] at HW
  rw [← hN]
  obtain ⟨V, hV⟩ : ∃ V, V = uA N := ⟨_, rfl⟩
  rw [← hV]
  have HV := Lib.hid hV
  have g1 : (K : Int).tdiv 64 = (s : Int) := by rw [Int.tdiv_eq_ediv_of_nonneg (by omega)]; omega
  have g2 : (K : Int).tmod 64 = (p : Int) := by rw [Int.tmod_eq_emod_of_nonneg (by omega)]; omega
  have g1b : (K : Int) / 64 = (s : Int) := by omega
  have g2b : (K : Int) % 64 = (p : Int) := by omega
  have g3 : IntKind.i64.wrap (64 - (p : Int)) = (q : Int) := by rw [IntKind.wrap_i64]; omega
  have g3b : IntKind.i64.wrap (q : Int) = (q : Int) := by rw [IntKind.wrap_i64]; omega
  have hKb : (K : Int) ≤ 9223372036854775807 := by omega
  have HQ : Hid (q ≤ 64 ∧ p + q = 64) := Lib.hid (by omega)
  have CW : Hid (∀ j W, Calls Tryd.prog 67 #[.agg (uA x), .int .i64 j] W (Ret W (.int .u64 (wz x j : Int)))) := Lib.hid fun j W => word_calls x j W
  have HK : Hid (K = k.toNat) := Lib.hid hK
  unfold uA at CW
  unfold uA
  clear hx hs hp hq hN hV hK
  go_enter Tryd.func56, Tryd.ntmps56
  go_upto_region 1 with fail
  go_cut [1] (fun v wx => v = .int .i64 (K : Int) ∧ ((w.alloc (.cells #[.int .u64 (wd x 0 : Int), .int .u64 (wd x 1 : Int), .int .u64 (wd x 2 : Int), .int .u64 (wd x 3 : Int)] 61)).alloc (.cells #[.int .u64 0, .int .u64 0, .int .u64 0, .int .u64 0] 61)) = wx)
  case first =>
    by_cases h0 : 0 ≤ k
    · obtain ⟨k', rfl⟩ : ∃ k' : Nat, k = (k' : Int) := ⟨k.toNat, by omega⟩
      go_wp2_with fail
      go_meet
      exact ⟨by rw [HK.out]; simp, rfl⟩
    · have h1 : k < 0 := by omega
      go_wp2_with fail
      go_meet
      exact ⟨by rw [HK.out, Int.toNat_of_nonpos (by omega)]; rfl, rfl⟩
  case rest =>
    obtain ⟨rfl, rfl⟩ := hcut
    go_wp2
    go_loopw [15] (fun i wr => ∃ (t : Nat) (f : Nat → Nat), t ≤ 4 ∧ i = .int .i64 (t : Int) ∧ Blk wr w.heap.size (cellsW (wd x)) 61 ∧ Blk wr (w.heap.size + 1) zerosW 61 ∧ Blk wr (w.heap.size + 1 + 1) (cellsW f) 61 ∧ Hid (∀ j, j < t → f j = wd N j) ∧ Below w.heap.size w wr) (fun i _ => 4 - (intOf i).toNat)
    case atStart =>
      exact ⟨0, fun _ => 0, by omega, rfl, ((Blk.new w _ _).alloc _).alloc _, (Blk.new' (w.alloc _) _ _ _ (by simp)).alloc _, Blk.new' ((w.alloc _).alloc _) _ _ _ (by simp), fun j hj => absurd hj (by omega), (((Below.refl _ w).alloc (Nat.le_refl _) _).alloc (by simp) _).alloc (by simp <;> omega) _⟩
    case round =>
      obtain ⟨t, f, ht, rfl, hbx, hbz, hbs, HF, hbel⟩ := hrel
      by_cases hlt : t < 4
      · have hwt := HW.out t
        obtain ⟨j1, hj1⟩ : ∃ j1, j1 = (t : Int) - (s : Int) := ⟨_, rfl⟩
        obtain ⟨j2, hj2⟩ : ∃ j2, j2 = j1 - 1 := ⟨_, rfl⟩
        rw [← hj1, ← hj2] at hwt
        obtain ⟨Az, hAz⟩ : ∃ A, A = wz x j1 := ⟨_, rfl⟩
        obtain ⟨Bz, hBz⟩ : ∃ B, B = wz x j2 := ⟨_, rfl⟩
        have lA : Az < 2 ^ 64 := by rw [hAz]; exact wz_lt _ _
        have lB : Bz < 2 ^ 64 := by rw [hBz]; exact wz_lt _ _
        rw [← hAz, ← hBz] at hwt
        obtain ⟨A', hA'⟩ : ∃ A', A' = Az * 2 ^ p % 2 ^ 64 := ⟨_, rfl⟩
        obtain ⟨B', hB'⟩ : ∃ B', B' = Bz / 2 ^ q := ⟨_, rfl⟩
        obtain ⟨S, hS⟩ : ∃ S, S = wd N t := ⟨_, rfl⟩
        have m1 : IntKind.u64.wrap ((Az : Int) * 2 ^ p) = (A' : Int) := by rw [shl_nat, hA', IntKind.wrap_u64]; omega
        have m2 : (Bz : Int) / 2 ^ q = (B' : Int) := by rw [shr_nat, hB']
        have m3 : bits .or .u64 (A' : Int) (B' : Int) = (S : Int) := by
          have hpq := HQ.out
          have h64 : 2 ^ 64 = 2 ^ q * 2 ^ p := by rw [← Nat.pow_add]; congr 1; omega
          have b1 : A' < 2 ^ 64 := by rw [hA']; exact Nat.mod_lt _ (by decide)
          have b2 : B' < 2 ^ p := by rw [hB']; apply Nat.div_lt_of_lt_mul; rw [← h64]; exact lB
          have b3 : B' < 2 ^ 64 := by rw [hB']; exact Nat.lt_of_le_of_lt (Nat.div_le_self _ _) lB
          have b4 : A' % 2 ^ p = 0 := by rw [hA', h64, Nat.mul_mod_mul_right]; exact Nat.mul_mod_left _ _
          rw [or_join p A' B' b4 b2 b1 b3, hS, hwt, hA', hB']
        have n1 : IntKind.i64.wrap ((t : Int) - (s : Int)) = j1 := by rw [IntKind.wrap_i64]; omega
        have n1b : (t : Int) - (s : Int) = j1 := by omega
        have n2 : IntKind.i64.wrap (j1 - 1) = j2 := by rw [IntKind.wrap_i64]; omega
        have n2b : j1 - 1 = j2 := by omega
        have jb : -144115188075855873 ≤ j1 ∧ j1 ≤ 144115188075855880 := by omega
        have C1 : Hid (∀ W, Still wr W → Calls Tryd.prog 67 #[.agg #[.int .u64 (wd x 0 : Int), .int .u64 (wd x 1 : Int), .int .u64 (wd x 2 : Int), .int .u64 (wd x 3 : Int)], .int .i64 j1] W fun e W' => e = .returned (.int .u64 (Az : Int)) ∧ Still wr W') := Lib.hid fun W h => by rw [hAz]; exact ret_still (CW.out j1 W) h
        have C2 : Hid (∀ W, Still wr W → Calls Tryd.prog 67 #[.agg #[.int .u64 (wd x 0 : Int), .int .u64 (wd x 1 : Int), .int .u64 (wd x 2 : Int), .int .u64 (wd x 3 : Int)], .int .i64 j2] W fun e W' => e = .returned (.int .u64 (Bz : Int)) ∧ Still wr W') := Lib.hid fun W h => by rw [hBz]; exact ret_still (CW.out j2 W) h
        have bt : (t : Int) < 4 := by omega
        have K0 : Hid (∀ W, Still wr W → W.cell? ⟨w.heap.size, 0, none⟩ = some (.int .u64 (wd x 0 : Int)) ∧ W.cell? ⟨w.heap.size, 1, none⟩ = some (.int .u64 (wd x 1 : Int)) ∧ W.cell? ⟨w.heap.size, 2, none⟩ = some (.int .u64 (wd x 2 : Int)) ∧ W.cell? ⟨w.heap.size, 3, none⟩ = some (.int .u64 (wd x 3 : Int)) ∧ W.cell? ⟨w.heap.size + 1 + 1, t, none⟩ = some (.int .u64 (f t : Int)) ∧ W.frozen? ⟨w.heap.size + 1 + 1, t, none⟩ = false ∧ Still wr W) := Lib.hid fun W h =>
          ⟨(hbx.below h hbx.lt).cell 0, (hbx.below h hbx.lt).cell 1, (hbx.below h hbx.lt).cell 2, (hbx.below h hbx.lt).cell 3, by rw [(hbs.below h hbs.lt).cell t, cellsW_at _ t hlt], (hbs.below h hbs.lt).free t, h⟩
        have R : Hid (∀ W, Still wr W → Blk (W.setCell ⟨w.heap.size + 1 + 1, t, none⟩ (.int .u64 (S : Int))) w.heap.size (cellsW (wd x)) 61 ∧ Blk (W.setCell ⟨w.heap.size + 1 + 1, t, none⟩ (.int .u64 (S : Int))) (w.heap.size + 1) zerosW 61 ∧ Blk (W.setCell ⟨w.heap.size + 1 + 1, t, none⟩ (.int .u64 (S : Int))) (w.heap.size + 1 + 1) (cellsW (upd f t S)) 61 ∧ Below w.heap.size w (W.setCell ⟨w.heap.size + 1 + 1, t, none⟩ (.int .u64 (S : Int)))) := Lib.hid fun W h =>
          ⟨(hbx.below h hbx.lt).set_other _ _ (by simp <;> omega), (hbz.below h hbz.lt).set_other _ _ (by simp), by rw [← cellsW_set f t S hlt]; exact (hbs.below h hbs.lt).set t _, Below.setCell (Below.trans hbel (Below.mono h hbel.size)) (by simp <;> omega) _⟩
        have HN : Hid (∀ j, j < t + 1 → upd f t S j = wd N j) := Lib.hid fun j hj => by
          by_cases h : j = t
          · rw [h, upd_same, hS]
          · rw [upd_other _ _ _ _ h]; exact HF.out j (by omega)
        have z0 : Still wr wr.drew := (Still.refl wr).drew
        clear hbx hbz hbs hbel hj1 hj2 hAz hBz hA' hB' hS hwt n1b n2b
        have hmin : min q 64 = q := Nat.min_eq_left HQ.out.1
        go_wp2
        have cz := K0.out wr (Still.refl wr)
        obtain ⟨c0, c1, c2, c3, c4, c5, _⟩ := cz
        go_region_with (first
          | (go_at_call_of 67 j1; refine (C1.out _ (by assumption)).mono ?_; rintro e' w1 ⟨rfl, S1⟩; obtain ⟨d0, d1, d2, d3, d4, d5, _⟩ := K0.out w1 S1)
          | (go_at_call_of 67 j2; refine (C2.out _ (by assumption)).mono ?_; rintro e' w2 ⟨rfl, S2⟩; obtain ⟨e0, e1, e2, e3, e4, e5, _⟩ := K0.out w2 S2))
        all_goals go_wp2
        all_goals first
          | exact ⟨⟨t + 1, upd f t S, by omega, by go_num, (R.out w2 S2).1, (R.out w2 S2).2.1, (R.out w2 S2).2.2.1, HN, (R.out w2 S2).2.2.2⟩, by simp [intOf]; omega⟩
          | exact ⟨⟨t + 1, upd f t S, by omega, by go_num, (R.out w1 S1).1, (R.out w1 S1).2.1, (R.out w1 S1).2.2.1, HN, (R.out w1 S1).2.2.2⟩, by simp [intOf]; omega⟩
      · have e : t = 4 := by omega
        subst e
        have hcells : cellsW f = V.toList := by rw [HV.out, uA_list]; exact cellsW_ext _ _ HF.out
        have HC := Lib.hid hcells
        have HB := Lib.hid (And.intro hbs (And.intro hbz hbel))
        clear hbx hbz hbs hbel hcells
        go_wp2_with (first
          | (refine at_load 61 (.tmp 7) ?_; refine wpList_load_mid rfl 61 (.tmp 7) rfl (w.heap.size + 1 + 1) 0 rfl (cellsW f) _ HB.out.1.range Tryd.underlying61 rfl (sizeW f) ?_)
          | (refine at_store 61 (.tmp 4) (.tmp 38) ?_; refine wpList_store_blk rfl 61 (.tmp 4) (.tmp 38) rfl (w.heap.size + 1) zerosW (cellsW f) _ rfl rfl HB.out.2.1 rfl (sizeW f) (cellsW_one f) ?_; intro w3 hb9 ho9))
        refine bodyPost_ret (v := .agg V) ?_ rfl ⟨rfl, HB.out.2.2.trans (ho9.below (by omega))⟩
        rw [HC.out] at hb9
        exact results_cell_row Tryd.results56 _ _ (w.heap.size + 1) 61 _ (0, 0) _ (by rfl) hb9 Tryd.underlying61 rfl (by rw [HV.out, uA_size]; exact sizeU)
set_option maxRecDepth 100000 in
set_option maxHeartbeats 8000000 in
theorem shr_calls (x : Nat) (k : Int) (K : Nat) (w : World) (hx : x < 2 ^ 256) (hk : k ≤ 9223372036854775807) (hK : K = k.toNat) :
    Calls Tryd.prog 55 #[.agg (uA x), .int .i64 k] w (Ret w (.agg (uA (x / 2 ^ K)))) := by
  obtain ⟨s, hs⟩ : ∃ s, s = K / 64 := ⟨_, rfl⟩
  obtain ⟨p, hp⟩ : ∃ p, p = K % 64 := ⟨_, rfl⟩
  obtain ⟨q, hq⟩ : ∃ q, q = 64 - p := ⟨_, rfl⟩
  have hp64 : p < 64 := by omega
  have hsb : s ≤ 144115188075855872 := by omega
  have HW : Hid (∀ t, wd (x / 2 ^ K) t = wz x ((t : Int) + (s : Int)) / 2 ^ p + wz x ((t : Int) + (s : Int) + 1) * 2 ^ q % 2 ^ 64) := Lib.hid fun t => by rw [wd_shr x K t hx, ← hs, ← hp, ← hq]
  obtain ⟨N, hN⟩ : ∃ N, N = x / 2 ^ K := ⟨_, rfl⟩
  rw [← hN] at HW
  rw [← hN]
  obtain ⟨V, hV⟩ : ∃ V, V = uA N := ⟨_, rfl⟩
  rw [← hV]
  have HV := Lib.hid hV
  have g1 : (K : Int).tdiv 64 = (s : Int) := by rw [Int.tdiv_eq_ediv_of_nonneg (by omega)]; omega
  have g2 : (K : Int).tmod 64 = (p : Int) := by rw [Int.tmod_eq_emod_of_nonneg (by omega)]; omega
  have g1b : (K : Int) / 64 = (s : Int) := by omega
  have g2b : (K : Int) % 64 = (p : Int) := by omega
  have g3 : IntKind.i64.wrap (64 - (p : Int)) = (q : Int) := by rw [IntKind.wrap_i64]; omega
  have g3b : IntKind.i64.wrap (q : Int) = (q : Int) := by rw [IntKind.wrap_i64]; omega
  have hKb : (K : Int) ≤ 9223372036854775807 := by omega
  have HQ : Hid (q ≤ 64 ∧ p + q = 64) := Lib.hid (by omega)
  have CW : Hid (∀ j W, Calls Tryd.prog 67 #[.agg (uA x), .int .i64 j] W (Ret W (.int .u64 (wz x j : Int)))) := Lib.hid fun j W => word_calls x j W
  have HK : Hid (K = k.toNat) := Lib.hid hK
  unfold uA at CW
  unfold uA
  clear hx hs hp hq hN hV hK
  go_enter Tryd.func55, Tryd.ntmps55
  go_upto_region 1 with fail
  go_cut [1] (fun v wx => v = .int .i64 (K : Int) ∧ ((w.alloc (.cells #[.int .u64 (wd x 0 : Int), .int .u64 (wd x 1 : Int), .int .u64 (wd x 2 : Int), .int .u64 (wd x 3 : Int)] 61)).alloc (.cells #[.int .u64 0, .int .u64 0, .int .u64 0, .int .u64 0] 61)) = wx)
  case first =>
    by_cases h0 : 0 ≤ k
    · obtain ⟨k', rfl⟩ : ∃ k' : Nat, k = (k' : Int) := ⟨k.toNat, by omega⟩
      go_wp2_with fail
      go_meet
      exact ⟨by rw [HK.out]; simp, rfl⟩
    · have h1 : k < 0 := by omega
      go_wp2_with fail
      go_meet
      exact ⟨by rw [HK.out, Int.toNat_of_nonpos (by omega)]; rfl, rfl⟩
  case rest =>
    obtain ⟨rfl, rfl⟩ := hcut
    go_wp2
    go_loopw [15] (fun i wr => ∃ (t : Nat) (f : Nat → Nat), t ≤ 4 ∧ i = .int .i64 (t : Int) ∧ Blk wr w.heap.size (cellsW (wd x)) 61 ∧ Blk wr (w.heap.size + 1) zerosW 61 ∧ Blk wr (w.heap.size + 1 + 1) (cellsW f) 61 ∧ Hid (∀ j, j < t → f j = wd N j) ∧ Below w.heap.size w wr) (fun i _ => 4 - (intOf i).toNat)
    case atStart =>
      exact ⟨0, fun _ => 0, by omega, rfl, ((Blk.new w _ _).alloc _).alloc _, (Blk.new' (w.alloc _) _ _ _ (by simp)).alloc _, Blk.new' ((w.alloc _).alloc _) _ _ _ (by simp), fun j hj => absurd hj (by omega), (((Below.refl _ w).alloc (Nat.le_refl _) _).alloc (by simp) _).alloc (by simp <;> omega) _⟩
    case round =>
      obtain ⟨t, f, ht, rfl, hbx, hbz, hbs, HF, hbel⟩ := hrel
      by_cases hlt : t < 4
      · have hwt := HW.out t
        obtain ⟨j1, hj1⟩ : ∃ j1, j1 = (t : Int) + (s : Int) := ⟨_, rfl⟩
        obtain ⟨j2, hj2⟩ : ∃ j2, j2 = j1 + 1 := ⟨_, rfl⟩
        rw [← hj1, ← hj2] at hwt
        obtain ⟨Az, hAz⟩ : ∃ A, A = wz x j1 := ⟨_, rfl⟩
        obtain ⟨Bz, hBz⟩ : ∃ B, B = wz x j2 := ⟨_, rfl⟩
        have lA : Az < 2 ^ 64 := by rw [hAz]; exact wz_lt _ _
        have lB : Bz < 2 ^ 64 := by rw [hBz]; exact wz_lt _ _
        rw [← hAz, ← hBz] at hwt
        obtain ⟨A', hA'⟩ : ∃ A', A' = Az / 2 ^ p := ⟨_, rfl⟩
        obtain ⟨B', hB'⟩ : ∃ B', B' = Bz * 2 ^ q % 2 ^ 64 := ⟨_, rfl⟩
        obtain ⟨S, hS⟩ : ∃ S, S = wd N t := ⟨_, rfl⟩
        have m1 : (Az : Int) / 2 ^ p = (A' : Int) := by rw [shr_nat, hA']
        have m2 : IntKind.u64.wrap ((Bz : Int) * 2 ^ q) = (B' : Int) := by rw [shl_nat, hB', IntKind.wrap_u64]; omega
        have m3 : bits .or .u64 (A' : Int) (B' : Int) = (S : Int) := by
          have hpq := HQ.out
          have h64 : 2 ^ 64 = 2 ^ p * 2 ^ q := by rw [← Nat.pow_add]; congr 1; omega
          have b1 : B' < 2 ^ 64 := by rw [hB']; exact Nat.mod_lt _ (by decide)
          have b2 : A' < 2 ^ q := by rw [hA']; apply Nat.div_lt_of_lt_mul; rw [← h64]; exact lA
          have b3 : A' < 2 ^ 64 := by rw [hA']; exact Nat.lt_of_le_of_lt (Nat.div_le_self _ _) lA
          have b4 : B' % 2 ^ q = 0 := by rw [hB', h64, Nat.mul_mod_mul_right]; exact Nat.mul_mod_left _ _
          rw [u64_or_nat _ _ b3 b1, Nat.or_comm, nat_join q B' A' b4 b2, hS, hwt, hA', hB', Nat.add_comm]
        have n1 : IntKind.i64.wrap ((t : Int) + (s : Int)) = j1 := by rw [IntKind.wrap_i64]; omega
        have n1b : (t : Int) + (s : Int) = j1 := by omega
        have n2 : IntKind.i64.wrap (j1 + 1) = j2 := by rw [IntKind.wrap_i64]; omega
        have n2b : j1 + 1 = j2 := by omega
        have jb : -144115188075855873 ≤ j1 ∧ j1 ≤ 144115188075855880 := by omega
        have C1 : Hid (∀ W, Still wr W → Calls Tryd.prog 67 #[.agg #[.int .u64 (wd x 0 : Int), .int .u64 (wd x 1 : Int), .int .u64 (wd x 2 : Int), .int .u64 (wd x 3 : Int)], .int .i64 j1] W fun e W' => e = .returned (.int .u64 (Az : Int)) ∧ Still wr W') := Lib.hid fun W h => by rw [hAz]; exact ret_still (CW.out j1 W) h
        have C2 : Hid (∀ W, Still wr W → Calls Tryd.prog 67 #[.agg #[.int .u64 (wd x 0 : Int), .int .u64 (wd x 1 : Int), .int .u64 (wd x 2 : Int), .int .u64 (wd x 3 : Int)], .int .i64 j2] W fun e W' => e = .returned (.int .u64 (Bz : Int)) ∧ Still wr W') := Lib.hid fun W h => by rw [hBz]; exact ret_still (CW.out j2 W) h
        have bt : (t : Int) < 4 := by omega
        have K0 : Hid (∀ W, Still wr W → W.cell? ⟨w.heap.size, 0, none⟩ = some (.int .u64 (wd x 0 : Int)) ∧ W.cell? ⟨w.heap.size, 1, none⟩ = some (.int .u64 (wd x 1 : Int)) ∧ W.cell? ⟨w.heap.size, 2, none⟩ = some (.int .u64 (wd x 2 : Int)) ∧ W.cell? ⟨w.heap.size, 3, none⟩ = some (.int .u64 (wd x 3 : Int)) ∧ W.cell? ⟨w.heap.size + 1 + 1, t, none⟩ = some (.int .u64 (f t : Int)) ∧ W.frozen? ⟨w.heap.size + 1 + 1, t, none⟩ = false ∧ Still wr W) := Lib.hid fun W h =>
          ⟨(hbx.below h hbx.lt).cell 0, (hbx.below h hbx.lt).cell 1, (hbx.below h hbx.lt).cell 2, (hbx.below h hbx.lt).cell 3, by rw [(hbs.below h hbs.lt).cell t, cellsW_at _ t hlt], (hbs.below h hbs.lt).free t, h⟩
        have R : Hid (∀ W, Still wr W → Blk (W.setCell ⟨w.heap.size + 1 + 1, t, none⟩ (.int .u64 (S : Int))) w.heap.size (cellsW (wd x)) 61 ∧ Blk (W.setCell ⟨w.heap.size + 1 + 1, t, none⟩ (.int .u64 (S : Int))) (w.heap.size + 1) zerosW 61 ∧ Blk (W.setCell ⟨w.heap.size + 1 + 1, t, none⟩ (.int .u64 (S : Int))) (w.heap.size + 1 + 1) (cellsW (upd f t S)) 61 ∧ Below w.heap.size w (W.setCell ⟨w.heap.size + 1 + 1, t, none⟩ (.int .u64 (S : Int)))) := Lib.hid fun W h =>
          ⟨(hbx.below h hbx.lt).set_other _ _ (by simp <;> omega), (hbz.below h hbz.lt).set_other _ _ (by simp), by rw [← cellsW_set f t S hlt]; exact (hbs.below h hbs.lt).set t _, Below.setCell (Below.trans hbel (Below.mono h hbel.size)) (by simp <;> omega) _⟩
        have HN : Hid (∀ j, j < t + 1 → upd f t S j = wd N j) := Lib.hid fun j hj => by
          by_cases h : j = t
          · rw [h, upd_same, hS]
          · rw [upd_other _ _ _ _ h]; exact HF.out j (by omega)
        have z0 : Still wr wr.drew := (Still.refl wr).drew
        clear hbx hbz hbs hbel hj1 hj2 hAz hBz hA' hB' hS hwt n1b n2b
        have hmin : min q 64 = q := Nat.min_eq_left HQ.out.1
        go_wp2
        have cz := K0.out wr (Still.refl wr)
        obtain ⟨c0, c1, c2, c3, c4, c5, _⟩ := cz
        go_region_with (first
          | (go_at_call_of 67 j1; refine (C1.out _ (by assumption)).mono ?_; rintro e' w1 ⟨rfl, S1⟩; obtain ⟨d0, d1, d2, d3, d4, d5, _⟩ := K0.out w1 S1)
          | (go_at_call_of 67 j2; refine (C2.out _ (by assumption)).mono ?_; rintro e' w2 ⟨rfl, S2⟩; obtain ⟨e0, e1, e2, e3, e4, e5, _⟩ := K0.out w2 S2))
        all_goals go_wp2
        all_goals first
          | exact ⟨⟨t + 1, upd f t S, by omega, by go_num, (R.out w2 S2).1, (R.out w2 S2).2.1, (R.out w2 S2).2.2.1, HN, (R.out w2 S2).2.2.2⟩, by simp [intOf]; omega⟩
          | exact ⟨⟨t + 1, upd f t S, by omega, by go_num, (R.out w1 S1).1, (R.out w1 S1).2.1, (R.out w1 S1).2.2.1, HN, (R.out w1 S1).2.2.2⟩, by simp [intOf]; omega⟩
      · have e : t = 4 := by omega
        subst e
        have hcells : cellsW f = V.toList := by rw [HV.out, uA_list]; exact cellsW_ext _ _ HF.out
        have HC := Lib.hid hcells
        have HB := Lib.hid (And.intro hbs (And.intro hbz hbel))
        clear hbx hbz hbs hbel hcells
        go_wp2_with (first
          | (refine at_load 61 (.tmp 7) ?_; refine wpList_load_mid rfl 61 (.tmp 7) rfl (w.heap.size + 1 + 1) 0 rfl (cellsW f) _ HB.out.1.range Tryd.underlying61 rfl (sizeW f) ?_)
          | (refine at_store 61 (.tmp 4) (.tmp 38) ?_; refine wpList_store_blk rfl 61 (.tmp 4) (.tmp 38) rfl (w.heap.size + 1) zerosW (cellsW f) _ rfl rfl HB.out.2.1 rfl (sizeW f) (cellsW_one f) ?_; intro w3 hb9 ho9))
        refine bodyPost_ret (v := .agg V) ?_ rfl ⟨rfl, HB.out.2.2.trans (ho9.below (by omega))⟩
        rw [HC.out] at hb9
        exact results_cell_row Tryd.results55 _ _ (w.heap.size + 1) 61 _ (0, 0) _ (by rfl) hb9 Tryd.underlying61 rfl (by rw [HV.out, uA_size]; exact sizeU)
end Go.Proofs.YthpigninbeommaaDoor
