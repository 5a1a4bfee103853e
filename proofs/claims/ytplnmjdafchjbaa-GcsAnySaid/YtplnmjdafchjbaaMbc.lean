/- Merged texts: SrtD. -/
import Derived.Test.YtplnmjdafchjbaaMba
/- Sorting numbers of 64 bits: reverseRangeOrdered, order2Ordered, medianOrdered, medianAdjacentOrdered, choosePivotOrdered. -/
namespace Go.Proofs.Ytplnmjdafchjbaa
open Go.RowKit
set_option linter.unusedVariables false
set_option linter.unusedSimpArgs false

set_option maxRecDepth 100000 in
theorem rev_on {i j : Nat} {d : Array Int} (h : i < j) : Sort.reverseLoop i j d = Sort.reverseLoop (i + 1) (j - 1) (Sort.swp d i j) := by rw [Sort.reverseLoop, if_pos h]
set_option maxRecDepth 100000 in
theorem rev_off {i j : Nat} {d : Array Int} (h : ¬ i < j) : Sort.reverseLoop i j d = d := by rw [Sort.reverseLoop, if_neg h]
set_option maxRecDepth 100000 in
set_option maxHeartbeats 2000000 in
theorem rev_says : RevSays := by
  intro w0 W blk off n cap a b d hR hab hb hn
  obtain ⟨X, hX⟩ : ∃ X, X = Sort.reverseRange d a b := ⟨_, rfl⟩
  have HX : Hid (Sort.reverseLoop a (b - 1) d = X) := Lib.hid hX.symm
  rw [← hX]
  clear hX
  have HR := Lib.hid hR
  clear hR
  go_enter Try.func82, Try.ntmps82
  go_wp2
  go_loopw [6, 7] (fun iv jv wr => ∃ (i j : Nat) (dk : Array Int), iv = .int .i64 (i : Int) ∧ jv = .int .i64 (j : Int) ∧ j < b ∧ i ≤ j + 1 ∧ Hid (Rw w0 blk off n dk wr) ∧ Hid (Sort.reverseLoop i j dk = X)) (fun iv jv _ => (intOf jv).toNat + 1 - (intOf iv).toNat)
  case atStart => exact ⟨a, b - 1, d, rfl, by congr 1; omega, by omega, by omega, HR, HX⟩
  case round =>
    clear HR HX
    obtain ⟨i, j, dk, rfl, rfl, hjb, hij, HR, HX⟩ := hrel
    by_cases hlt : i < j
    · have hlt' : (i : Int) < (j : Int) := by omega
      obtain ⟨G, HG, hc, hf⟩ := HR.out.fam
      have HS := Lib.hid (HR.out.swap HG i j (by omega) (by omega))
      have HZ : Hid (Sort.reverseLoop (i + 1) (j - 1) (Sort.swp dk i j) = X) := Lib.hid (by rw [← rev_on hlt]; exact HX.out)
      obtain ⟨u2, hu2⟩ := HR.out.snd i j (by omega) (.int .u64 (G j))
      clear HX HR
      go_wp2_with fail
      go_region
      all_goals go_wp2
      go_roundw
      case rel => exact ⟨i + 1, j - 1, Sort.swp dk i j, by go_num, by congr 1; omega, by omega, by omega, HS, HZ⟩
      case measure => simp [intOf]; omega
    · have hlt' : ¬ (i : Int) < (j : Int) := by omega
      have HZ : Hid (dk = X) := Lib.hid (by rw [← HX.out, rev_off hlt])
      go_wp2
      go_end0
      exact ⟨rfl, by rw [← HZ.out]; exact HR.out⟩

set_option maxRecDepth 100000 in
theorem Rw.ctr {w0 W : World} {blk off n : Nat} {d : Array Int} (h : Rw w0 blk off n d W) (T : TypeId) : Ctr w0 blk off n d W.heap.size 0 (W.alloc (.cells #[.int .i64 0] T)) :=
  ⟨h.alloc _, by simp, by simp, h.le, by simp⟩
set_option maxRecDepth 100000 in
set_option maxHeartbeats 2000000 in
theorem order_calls (w0 W : World) (blk off n cap a b g s : Nat) (d : Array Int) (hC : Ctr w0 blk off n d g s W) (ha : a < n) (hb : b < n) (hn : n ≤ 1000000) (hs : s ≤ 100) :
    Calls Try.prog 112 #[.slice (some ⟨blk, off, none⟩) n cap, .int .i64 a, .int .i64 b, .pointer (some ⟨g, 0, none⟩)] W fun e w' => e = .returned (.tuple #[.int .i64 ((Sort.order2 lI d a b s).1 : Nat), .int .i64 ((Sort.order2 lI d a b s).2.1 : Nat)]) ∧ Ctr w0 blk off n d g (Sort.order2 lI d a b s).2.2 w' := by
  obtain ⟨G, HG, hc, hf⟩ := hC.1.fam
  have HC := Lib.hid hC
  clear hC
  go_enter Try.func112, Try.ntmps112
  go_wp2_with fail
  go_big_quiet (first | (go_at_call 84; refine Calls.quiet_of_same (less_calls _ _ _)))
  have HC2 := Lib.hid (HC.out.drewN nq)
  generalize W.drewN nq = W2 at HC2 ⊢
  clear hc hf HC
  have hcg := HC2.out.2.1
  have hfg := HC2.out.2.2.1
  obtain ⟨s', hs'⟩ : ∃ z, z = s + 1 := ⟨_, rfl⟩
  have e1 : (s : Int) + 1 = (s' : Int) := by omega
  have HS := Lib.hid hs'
  clear hs'
  go_wp2_with fail
  · have hl : lI (G b) (G a) = true := by assumption
    have e : Sort.order2 lI d a b s = (b, a, s') := by
      unfold Sort.order2
      rw [← HG.out, ← HG.out, hl, HS.out]
      rfl
    rw [e]
    go_ret2
    exact ⟨rfl, HC2.out.bump s'⟩
  · have hl : lI (G b) (G a) = false := by assumption
    have e : Sort.order2 lI d a b s = (a, b, s) := by
      unfold Sort.order2
      rw [← HG.out, ← HG.out, hl]
      rfl
    rw [e]
    go_ret2
    exact ⟨rfl, HC2.out⟩
set_option maxRecDepth 100000 in
theorem order_lt {a b s n : Nat} (d : Array Int) (ha : a < n) (hb : b < n) : (Sort.order2 lI d a b s).1 < n ∧ (Sort.order2 lI d a b s).2.1 < n := by
  rcases Sort.order2_mem lI d a b s with h | h
  · omega
  · omega
set_option maxRecDepth 100000 in
set_option maxHeartbeats 2000000 in
theorem median_calls (w0 W : World) (blk off n cap a b c g s : Nat) (d : Array Int) (hC : Ctr w0 blk off n d g s W) (ha : a < n) (hb : b < n) (hc : c < n) (hn : n ≤ 1000000) (hs : s ≤ 90) :
    Calls Try.prog 107 #[.slice (some ⟨blk, off, none⟩) n cap, .int .i64 a, .int .i64 b, .int .i64 c, .pointer (some ⟨g, 0, none⟩)] W fun e w' => e = .returned (.int .i64 ((Sort.median lI d a b c s).1 : Nat)) ∧ Ctr w0 blk off n d g (Sort.median lI d a b c s).2 w' := by
  have l1 := order_lt (s := s) d ha hb
  have k1 := Sort.order2_count lI d a b s
  have C1 := Lib.hid (order_calls w0 W blk off n cap a b g s d hC ha hb hn (by omega))
  obtain ⟨x1, y1, s1, h1⟩ : ∃ x y z, Sort.order2 lI d a b s = (x, y, z) := ⟨_, _, _, rfl⟩
  rw [h1] at C1 l1 k1
  have l2 := order_lt (s := s1) d l1.2 hc
  have k2 := Sort.order2_count lI d y1 c s1
  have C2 := Lib.hid (fun (w : World) (h : Ctr w0 blk off n d g s1 w) => order_calls w0 w blk off n cap y1 c g s1 d h l1.2 hc hn (by simp only at k1; omega))
  obtain ⟨x2, y2, s2, h2⟩ : ∃ x y z, Sort.order2 lI d y1 c s1 = (x, y, z) := ⟨_, _, _, rfl⟩
  rw [h2] at C2 l2 k2
  have l3 := order_lt (s := s2) d l1.1 l2.1
  have C3 := Lib.hid (fun (w : World) (h : Ctr w0 blk off n d g s2 w) => order_calls w0 w blk off n cap x1 x2 g s2 d h l1.1 l2.1 hn (by simp only at k1 k2; omega))
  obtain ⟨x3, y3, s3, h3⟩ : ∃ x y z, Sort.order2 lI d x1 x2 s2 = (x, y, z) := ⟨_, _, _, rfl⟩
  rw [h3] at C3 l3
  have e : Sort.median lI d a b c s = (y3, s3) := by
    unfold Sort.median
    simp only [h1, h2, h3]
  rw [e]
  clear e h1 h2 h3 hC l1 l2 l3 k1 k2
  go_enter Try.func107, Try.ntmps107
  go_upto_region 2 with (first
    | (go_at_call 112; refine C1.out.mono ?_; rintro e' w1 ⟨rfl, hC1⟩))
  have D2 := Lib.hid (C2.out w1 hC1)
  clear hC1 C1 C2
  go_upto_region 3 with (first
    | (go_at_call 112; refine D2.out.mono ?_; rintro e' w2 ⟨rfl, hC2⟩))
  have D3 := Lib.hid (C3.out w2 hC2)
  clear hC2 D2 C3
  go_upto_region 4 with (first
    | (go_at_call 112; refine D3.out.mono ?_; rintro e' w3 ⟨rfl, hC3⟩))
  have HC3 := Lib.hid hC3
  clear hC3
  go_wp2
  go_ret
  exact ⟨rfl, HC3.out⟩
set_option maxRecDepth 100000 in
theorem median_lt {a b c s n : Nat} (d : Array Int) (ha : a < n) (hb : b < n) (hc : c < n) : (Sort.median lI d a b c s).1 < n := by
  rcases Sort.median_mem lI d a b c s with h | h | h <;> omega
set_option maxRecDepth 100000 in
set_option maxHeartbeats 2000000 in
theorem near_calls (w0 W : World) (blk off n cap a g s : Nat) (d : Array Int) (hC : Ctr w0 blk off n d g s W) (ha : 1 ≤ a) (hb : a + 1 < n) (hn : n ≤ 1000000) (hs : s ≤ 90) :
    Calls Try.prog 106 #[.slice (some ⟨blk, off, none⟩) n cap, .int .i64 a, .pointer (some ⟨g, 0, none⟩)] W fun e w' => e = .returned (.int .i64 ((Sort.medianAdjacent lI d a s).1 : Nat)) ∧ Ctr w0 blk off n d g (Sort.medianAdjacent lI d a s).2 w' := by
  have C1 := Lib.hid (median_calls w0 W blk off n cap (a - 1) a (a + 1) g s d hC (by omega) (by omega) hb hn hs)
  obtain ⟨z, hz⟩ : ∃ z, Sort.medianAdjacent lI d a s = z := ⟨_, rfl⟩
  have hz' : Sort.median lI d (a - 1) a (a + 1) s = z := hz
  rw [hz'] at C1
  rw [hz]
  obtain ⟨p, hp⟩ : ∃ z, z = a - 1 := ⟨_, rfl⟩
  obtain ⟨q, hq⟩ : ∃ z, z = a + 1 := ⟨_, rfl⟩
  have e1 : (a : Int) - 1 = (p : Int) := by omega
  have e2 : (a : Int) + 1 = (q : Int) := by omega
  rw [← hp, ← hq] at C1
  have hqn : q < n := by omega
  clear hz hz' hp hq hC
  go_enter Try.func106, Try.ntmps106
  go_wp2_with (first
    | (go_at_call 107; refine C1.out.mono ?_; rintro e' w1 ⟨rfl, hC1⟩))
  go_ret
  exact ⟨rfl, hC1⟩
set_option maxRecDepth 100000 in
set_option maxHeartbeats 4000000 in
theorem piv_says : PivSays := by
  intro w0 W blk off n cap a b d hR hab hb hn
  rw [Sort.choosePivot_eq]
  obtain ⟨l, hl⟩ : ∃ z, z = b - a := ⟨_, rfl⟩
  obtain ⟨q, hq⟩ : ∃ z, z = l / 4 := ⟨_, rfl⟩
  obtain ⟨i, hi⟩ : ∃ z, z = a + q * 1 := ⟨_, rfl⟩
  obtain ⟨j, hj⟩ : ∃ z, z = a + q * 2 := ⟨_, rfl⟩
  obtain ⟨k, hk⟩ : ∃ z, z = a + q * 3 := ⟨_, rfl⟩
  have e0 : (b : Int) - (a : Int) = (l : Int) := by omega
  have e1 : (l : Int) / 4 = (q : Int) := by omega
  have e1' : (l : Int).tdiv 4 = (q : Int) := by
    rw [hq]
    exact (Int.ofNat_tdiv l 4).symm
  have e2 : (a : Int) + (q : Int) = (i : Int) := by omega
  have e2b : (a : Int) + (q : Int) * 1 = (i : Int) := by omega
  have e3 : (a : Int) + (q : Int) * 2 = (j : Int) := by omega
  have e4 : (a : Int) + (q : Int) * 3 = (k : Int) := by omega
  have h8 : (8 : Int) ≤ (l : Int) := by omega
  have hraw : Hid (Sort.rawPivot lI d a b = if l ≥ 50 then Sort.median lI d (Sort.medianAdjacent lI d i 0).1 (Sort.medianAdjacent lI d j (Sort.medianAdjacent lI d i 0).2).1 (Sort.medianAdjacent lI d k (Sort.medianAdjacent lI d j (Sort.medianAdjacent lI d i 0).2).2).1 (Sort.medianAdjacent lI d k (Sort.medianAdjacent lI d j (Sort.medianAdjacent lI d i 0).2).2).2 else Sort.median lI d i j k 0) := Lib.hid (by
    unfold Sort.rawPivot
    rw [← hl, if_pos (by omega), ← hq, ← hi, ← hj, ← hk])
  have HC := Lib.hid (hR.ctr 3)
  obtain ⟨g, hg⟩ : ∃ z, z = W.heap.size := ⟨_, rfl⟩
  rw [← hg] at HC
  have hg' := hg.symm
  have hin : i < n ∧ 1 ≤ i ∧ i + 1 < n := by omega
  have hjn : j < n ∧ 1 ≤ j ∧ j + 1 < n := by omega
  have hkn : k < n := by omega
  have hk1 : l ≥ 50 → 1 ≤ k ∧ k + 1 < n := by omega
  have hlb : l ≤ n ∧ q ≤ n := by omega
  clear hR hl hq hi hj hk hg hb hab
  go_enter Try.func81, Try.ntmps81
  by_cases h50 : l ≥ 50
  · have h50' : (50 : Int) ≤ (l : Int) := by omega
    rw [if_pos h50] at hraw
    have m1 := median_lt (s := 0) d (show i - 1 < n by omega) hin.1 hin.2.2
    have k1 := Sort.medianAdjacent_count lI d i 0
    have C1 := Lib.hid (fun (w : World) (h : Ctr w0 blk off n d g 0 w) => near_calls w0 w blk off n cap i g 0 d h hin.2.1 hin.2.2 hn (by omega))
    change (Sort.medianAdjacent lI d i 0).1 < n at m1
    obtain ⟨i1, s1, h1⟩ : ∃ x y, Sort.medianAdjacent lI d i 0 = (x, y) := ⟨_, _, rfl⟩
    rw [h1] at C1 m1 k1 hraw
    have m2 := median_lt (s := s1) d (show j - 1 < n by omega) hjn.1 hjn.2.2
    have k2 := Sort.medianAdjacent_count lI d j s1
    have C2 := Lib.hid (fun (w : World) (h : Ctr w0 blk off n d g s1 w) => near_calls w0 w blk off n cap j g s1 d h hjn.2.1 hjn.2.2 hn (by simp only at k1; omega))
    change (Sort.medianAdjacent lI d j s1).1 < n at m2
    obtain ⟨j1, s2, h2⟩ : ∃ x y, Sort.medianAdjacent lI d j s1 = (x, y) := ⟨_, _, rfl⟩
    simp only at hraw
    rw [h2] at C2 m2 k2 hraw
    have m3 := median_lt (s := s2) d (show k - 1 < n by omega) hkn (hk1 h50).2
    have k3 := Sort.medianAdjacent_count lI d k s2
    have C3 := Lib.hid (fun (w : World) (h : Ctr w0 blk off n d g s2 w) => near_calls w0 w blk off n cap k g s2 d h (hk1 h50).1 (hk1 h50).2 hn (by simp only at k1 k2; omega))
    change (Sort.medianAdjacent lI d k s2).1 < n at m3
    obtain ⟨k1', s3, h3⟩ : ∃ x y, Sort.medianAdjacent lI d k s2 = (x, y) := ⟨_, _, rfl⟩
    simp only at hraw
    rw [h3] at C3 m3 k3 hraw
    simp only at hraw m1 m2 m3 k1 k2 k3
    have C4 := Lib.hid (fun (w : World) (h : Ctr w0 blk off n d g s3 w) => median_calls w0 w blk off n cap i1 j1 k1' g s3 d h m1 m2 m3 hn (by omega))
    obtain ⟨p, s9, h9⟩ : ∃ x y, Sort.median lI d i1 j1 k1' s3 = (x, y) := ⟨_, _, rfl⟩
    have k4 := Sort.median_count lI d i1 j1 k1' s3
    rw [h9] at C4 hraw k4
    simp only at k4
    rw [hraw.out]
    have hs9 : s9 ≤ 12 := by omega
    clear h1 h2 h3 h9 m1 m2 m3 k1 k2 k3 k4 hraw hk1
    go_upto_region 8 with fail
    have D1 := Lib.hid (C1.out _ HC.out)
    clear C1 HC
    go_upto_region 9 with (first
      | (go_at_call 106; refine D1.out.mono ?_; rintro e' w1 ⟨rfl, hC1⟩))
    have D2 := Lib.hid (C2.out _ hC1)
    clear C2 hC1 D1
    go_upto_region 10 with (first
      | (go_at_call 106; refine D2.out.mono ?_; rintro e' w2 ⟨rfl, hC2⟩))
    have D3 := Lib.hid (C3.out _ hC2)
    clear C3 hC2 D2
    go_upto_region 11 with (first
      | (go_at_call 106; refine D3.out.mono ?_; rintro e' w3 ⟨rfl, hC3⟩))
    have D4 := Lib.hid (C4.out _ hC3)
    clear C4 hC3 D3
    go_upto_region 12 with (first
      | (go_at_call 107; refine D4.out.mono ?_; rintro e' w4 ⟨rfl, hC4⟩))
    have HC9 := Lib.hid hC4
    clear hC4 D4
    have hcg := HC9.out.2.1
    have hfg := HC9.out.2.2.1
    rcases Nat.eq_zero_or_pos s9 with h0 | h0
    · subst h0
      have hh : Hid (Sort.hintCode (Sort.hintOf 0) = 1) := Lib.hid rfl
      go_wp2
      go_ret2
      exact ⟨congrArg (fun z => Ending.returned (.tuple #[.int .i64 (p : Nat), .int .i64 z])) hh.out.symm, HC9.out.1⟩
    · have z0 : ¬ (s9 : Int) = 0 := by omega
      by_cases h12 : s9 = 12
      · subst h12
        have hh : Hid (Sort.hintCode (Sort.hintOf 12) = 2) := Lib.hid rfl
        go_wp2
        go_ret2
        exact ⟨congrArg (fun z => Ending.returned (.tuple #[.int .i64 (p : Nat), .int .i64 z])) hh.out.symm, HC9.out.1⟩
      · have z1 : ¬ (s9 : Int) = 12 := by omega
        have hh : Hid (Sort.hintCode (Sort.hintOf s9) = 0) := Lib.hid (by unfold Sort.hintOf; rw [if_neg (by omega), if_neg h12]; rfl)
        go_wp2
        go_ret2
        exact ⟨congrArg (fun z => Ending.returned (.tuple #[.int .i64 (p : Nat), .int .i64 z])) hh.out.symm, HC9.out.1⟩
  · have h50' : ¬ (50 : Int) ≤ (l : Int) := by omega
    rw [if_neg h50] at hraw
    have C4 := Lib.hid (fun (w : World) (h : Ctr w0 blk off n d g 0 w) => median_calls w0 w blk off n cap i j k g 0 d h hin.1 hjn.1 hkn hn (by omega))
    obtain ⟨p, s9, h9⟩ : ∃ x y, Sort.median lI d i j k 0 = (x, y) := ⟨_, _, rfl⟩
    have k4 := Sort.median_count lI d i j k 0
    rw [h9] at C4 hraw k4
    simp only at k4
    rw [hraw.out]
    have hs9 : s9 ≤ 12 := by omega
    clear h9 k4 hraw hk1
    go_upto_region 11 with fail
    have D4 := Lib.hid (C4.out _ HC.out)
    clear C4 HC
    go_upto_region 12 with (first
      | (go_at_call 107; refine D4.out.mono ?_; rintro e' w4 ⟨rfl, hC4⟩))
    have HC9 := Lib.hid hC4
    clear hC4 D4
    have hcg := HC9.out.2.1
    have hfg := HC9.out.2.2.1
    rcases Nat.eq_zero_or_pos s9 with h0 | h0
    · subst h0
      have hh : Hid (Sort.hintCode (Sort.hintOf 0) = 1) := Lib.hid rfl
      go_wp2
      go_ret2
      exact ⟨congrArg (fun z => Ending.returned (.tuple #[.int .i64 (p : Nat), .int .i64 z])) hh.out.symm, HC9.out.1⟩
    · have z0 : ¬ (s9 : Int) = 0 := by omega
      by_cases h12 : s9 = 12
      · subst h12
        have hh : Hid (Sort.hintCode (Sort.hintOf 12) = 2) := Lib.hid rfl
        go_wp2
        go_ret2
        exact ⟨congrArg (fun z => Ending.returned (.tuple #[.int .i64 (p : Nat), .int .i64 z])) hh.out.symm, HC9.out.1⟩
      · have z1 : ¬ (s9 : Int) = 12 := by omega
        have hh : Hid (Sort.hintCode (Sort.hintOf s9) = 0) := Lib.hid (by unfold Sort.hintOf; rw [if_neg (by omega), if_neg h12]; rfl)
        go_wp2
        go_ret2
        exact ⟨congrArg (fun z => Ending.returned (.tuple #[.int .i64 (p : Nat), .int .i64 z])) hh.out.symm, HC9.out.1⟩
end Go.Proofs.Ytplnmjdafchjbaa
