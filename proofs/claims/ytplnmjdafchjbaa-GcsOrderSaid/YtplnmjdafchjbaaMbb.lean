/- Merged texts: SrtC. -/
import Derived.Test.YtplnmjdafchjbaaMba
/- Sorting numbers of 64 bits: siftDownOrdered, heapSortOrdered. -/
namespace Go.Proofs.Ytplnmjdafchjbaa
open Go.RowKit
set_option linter.unusedVariables false
set_option linter.unusedSimpArgs false

set_option maxRecDepth 100000 in
set_option maxHeartbeats 4000000 in
theorem down_says : DownSays := by
  intro w0 W blk off n cap lo hi first d hR hlo hb hn
  obtain ⟨X, hX⟩ : ∃ X, X = Sort.siftDown lI hi first lo d := ⟨_, rfl⟩
  have HX : Hid (Sort.siftDown lI hi first lo d = X) := Lib.hid hX.symm
  rw [← hX]
  clear hX
  have HR := Lib.hid hR
  clear hR
  go_enter Try.func103, Try.ntmps103
  go_wp2
  go_loopw [8] (fun rv wr => ∃ (r : Nat) (dk : Array Int), rv = .int .i64 (r : Int) ∧ r ≤ hi ∧ Hid (Rw w0 blk off n dk wr) ∧ Hid (Sort.siftDown lI hi first r dk = X)) (fun rv _ => hi - (intOf rv).toNat)
  case atStart => exact ⟨lo, d, rfl, hlo, HR, HX⟩
  case round =>
    clear HR HX
    obtain ⟨r, dk, rfl, hrh, HR, HX⟩ := hrel
    obtain ⟨c1, hc1⟩ : ∃ z, z = 2 * r + 1 := ⟨_, rfl⟩
    obtain ⟨c2, hc2⟩ : ∃ z, z = 2 * r + 2 := ⟨_, rfl⟩
    have e1 : (2 : Int) * (r : Int) + 1 = (c1 : Int) := by omega
    have e2 : (c1 : Int) + 1 = (c2 : Int) := by omega
    by_cases h0 : hi ≤ c1
    · have h0' : (hi : Int) ≤ (c1 : Int) := by omega
      have HZ : Hid (dk = X) := Lib.hid (by rw [← HX.out, sif_end lI (by omega)])
      clear hc1 hc2
      go_wp2
      go_end0
      exact ⟨rfl, by rw [← HZ.out]; exact HR.out⟩
    · have h0' : ¬ (hi : Int) ≤ (c1 : Int) := by omega
      obtain ⟨p0, hp0⟩ : ∃ z, z = first + r := ⟨_, rfl⟩
      obtain ⟨p1, hp1⟩ : ∃ z, z = first + c1 := ⟨_, rfl⟩
      obtain ⟨p2, hp2⟩ : ∃ z, z = first + c2 := ⟨_, rfl⟩
      have e3 : (first : Int) + (r : Int) = (p0 : Int) := by omega
      have e4 : (first : Int) + (c1 : Int) = (p1 : Int) := by omega
      have e5 : (p1 : Int) + 1 = (p2 : Int) := by omega
      have e6 : (first : Int) + (c2 : Int) = (p2 : Int) := by omega
      have HE : Hid (first + (2 * r + 1) = p1 ∧ first + (2 * r + 2) = p2 ∧ 2 * r + 1 < hi ∧ first + r = p0 ∧ c1 = 2 * r + 1 ∧ c2 = 2 * r + 2) := Lib.hid ⟨by omega, by omega, by omega, by omega, hc1, hc2⟩
      obtain ⟨G, HG, hc, hf⟩ := HR.out.fam
      clear hp0 hp1 hp2 hc1 hc2
      by_cases h1 : c2 < hi
      · have h1' : (c2 : Int) < (hi : Int) := by omega
        go_wp2_with fail
        go_big_quiet (first | (go_at_call 84; refine Calls.quiet_of_same (less_calls _ _ _)))
        go_wp2_with fail
        · have hL : lI (G p1) (G p2) = true := by assumption
          clear e5
          have HR2 := Lib.hid (HR.out.drewN nq)
          generalize wr.drewN nq = W2 at HR2 ⊢
          clear hc hf HR
          obtain ⟨hc, hf⟩ := HR2.out.again HG
          have HC : Hid (c2 = if 2 * r + 2 < hi ∧ lI dk[first + (2 * r + 1)]! dk[first + (2 * r + 2)]! = true then 2 * r + 2 else 2 * r + 1) := Lib.hid (by
            have k1 : first + (2 * r + 1) = p1 := HE.out.1
            have k2 : first + (2 * r + 2) = p2 := HE.out.2.1
            rw [k1, k2, ← HG.out, ← HG.out]
            rw [if_pos ⟨by have := HE.out; omega, hL⟩]
            exact HE.out.2.2.2.2.2)
          go_big_quiet (first | (go_at_call 84; refine Calls.quiet_of_same (less_calls _ _ _)))
          have HR3 := Lib.hid (HR2.out.drewN nq)
          generalize W2.drewN nq = W3 at HR3 ⊢
          clear hc hf HR2
          obtain ⟨hc, hf⟩ := HR3.out.again HG
          go_wp2_with fail
          · have hS : lI (G p0) (G p2) = false := by
              have : (!lI (G p0) (G p2)) = true := by assumption
              simpa using this
            have HZ : Hid (dk = X) := Lib.hid (by
              rw [← HX.out, sif_at lI HE.out.2.2.1 HC.out, if_neg]
              rw [HE.out.2.2.2.1, show first + c2 = p2 by have := HE.out; omega, ← HG.out, ← HG.out, hS]
              simp)
            (try simp only [Exit.inBlock, Exit.then])
            refine bodyPost_ret (results_none rfl _ _ _) rfl ?_
            exact ⟨rfl, by rw [← HZ.out]; exact HR3.out⟩
          · have hS : lI (G p0) (G p2) = true := by
              have : (!lI (G p0) (G p2)) = false := by assumption
              simpa using this
            have HS := Lib.hid (HR3.out.swap HG p0 p2 (by omega) (by omega))
            have HZ : Hid (Sort.siftDown lI hi first c2 (Sort.swp dk p0 p2) = X) := Lib.hid (by
              rw [← HX.out, sif_at lI HE.out.2.2.1 HC.out, if_pos]
              · rw [HE.out.2.2.2.1, show first + c2 = p2 by have := HE.out; omega]
              · rw [HE.out.2.2.2.1, show first + c2 = p2 by have := HE.out; omega, ← HG.out, ← HG.out, hS])
            clear HX HR3 HC
            go_region
            all_goals go_wp2
            go_roundw
            case rel => exact ⟨c2, Sort.swp dk p0 p2, rfl, by omega, HS, HZ⟩
            case measure => simp [intOf]; omega
        · have hL : lI (G p1) (G p2) = false := by assumption
          clear e5
          have HR2 := Lib.hid (HR.out.drewN nq)
          generalize wr.drewN nq = W2 at HR2 ⊢
          clear hc hf HR
          obtain ⟨hc, hf⟩ := HR2.out.again HG
          have HC : Hid (c1 = if 2 * r + 2 < hi ∧ lI dk[first + (2 * r + 1)]! dk[first + (2 * r + 2)]! = true then 2 * r + 2 else 2 * r + 1) := Lib.hid (by
            have k1 : first + (2 * r + 1) = p1 := HE.out.1
            have k2 : first + (2 * r + 2) = p2 := HE.out.2.1
            rw [k1, k2, ← HG.out, ← HG.out]
            rw [if_neg (by rw [hL]; simp)]
            exact HE.out.2.2.2.2.1)
          go_big_quiet (first | (go_at_call 84; refine Calls.quiet_of_same (less_calls _ _ _)))
          have HR3 := Lib.hid (HR2.out.drewN nq)
          generalize W2.drewN nq = W3 at HR3 ⊢
          clear hc hf HR2
          obtain ⟨hc, hf⟩ := HR3.out.again HG
          go_wp2_with fail
          · have hS : lI (G p0) (G p1) = false := by
              have : (!lI (G p0) (G p1)) = true := by assumption
              simpa using this
            have HZ : Hid (dk = X) := Lib.hid (by
              rw [← HX.out, sif_at lI HE.out.2.2.1 HC.out, if_neg]
              rw [HE.out.2.2.2.1, show first + c1 = p1 by have := HE.out; omega, ← HG.out, ← HG.out, hS]
              simp)
            (try simp only [Exit.inBlock, Exit.then])
            refine bodyPost_ret (results_none rfl _ _ _) rfl ?_
            exact ⟨rfl, by rw [← HZ.out]; exact HR3.out⟩
          · have hS : lI (G p0) (G p1) = true := by
              have : (!lI (G p0) (G p1)) = false := by assumption
              simpa using this
            have HS := Lib.hid (HR3.out.swap HG p0 p1 (by omega) (by omega))
            have HZ : Hid (Sort.siftDown lI hi first c1 (Sort.swp dk p0 p1) = X) := Lib.hid (by
              rw [← HX.out, sif_at lI HE.out.2.2.1 HC.out, if_pos]
              · rw [HE.out.2.2.2.1, show first + c1 = p1 by have := HE.out; omega]
              · rw [HE.out.2.2.2.1, show first + c1 = p1 by have := HE.out; omega, ← HG.out, ← HG.out, hS])
            clear HX HR3 HC
            go_region
            all_goals go_wp2
            go_roundw
            case rel => exact ⟨c1, Sort.swp dk p0 p1, rfl, by omega, HS, HZ⟩
            case measure => simp [intOf]; omega
      · have h1' : decide ((c2 : Int) < (hi : Int)) = false := decide_eq_false (by omega)
        have h1'' : ¬ (c2 : Int) < (hi : Int) := by omega
        go_wp2_with fail
        go_big_quiet (first | (go_at_call 84; refine Calls.quiet_of_same (less_calls _ _ _)))
        go_wp2_with fail
        clear e5
        have HR2 := Lib.hid (HR.out.drewN nq)
        generalize wr.drewN nq = W2 at HR2 ⊢
        clear hc hf HR
        obtain ⟨hc, hf⟩ := HR2.out.again HG
        have HC : Hid (c1 = if 2 * r + 2 < hi ∧ lI dk[first + (2 * r + 1)]! dk[first + (2 * r + 2)]! = true then 2 * r + 2 else 2 * r + 1) := Lib.hid (by
          have k1 : first + (2 * r + 1) = p1 := HE.out.1
          have k2 : first + (2 * r + 2) = p2 := HE.out.2.1
          rw [k1, k2, ← HG.out, ← HG.out]
          rw [if_neg (by have := HE.out; omega)]
          exact HE.out.2.2.2.2.1)
        go_big_quiet (first | (go_at_call 84; refine Calls.quiet_of_same (less_calls _ _ _)))
        have HR3 := Lib.hid (HR2.out.drewN nq)
        generalize W2.drewN nq = W3 at HR3 ⊢
        clear hc hf HR2
        obtain ⟨hc, hf⟩ := HR3.out.again HG
        go_wp2_with fail
        · have hS : lI (G p0) (G p1) = false := by
            have : (!lI (G p0) (G p1)) = true := by assumption
            simpa using this
          have HZ : Hid (dk = X) := Lib.hid (by
            rw [← HX.out, sif_at lI HE.out.2.2.1 HC.out, if_neg]
            rw [HE.out.2.2.2.1, show first + c1 = p1 by have := HE.out; omega, ← HG.out, ← HG.out, hS]
            simp)
          (try simp only [Exit.inBlock, Exit.then])
          refine bodyPost_ret (results_none rfl _ _ _) rfl ?_
          exact ⟨rfl, by rw [← HZ.out]; exact HR3.out⟩
        · have hS : lI (G p0) (G p1) = true := by
            have : (!lI (G p0) (G p1)) = false := by assumption
            simpa using this
          have HS := Lib.hid (HR3.out.swap HG p0 p1 (by omega) (by omega))
          have HZ : Hid (Sort.siftDown lI hi first c1 (Sort.swp dk p0 p1) = X) := Lib.hid (by
            rw [← HX.out, sif_at lI HE.out.2.2.1 HC.out, if_pos]
            · rw [HE.out.2.2.2.1, show first + c1 = p1 by have := HE.out; omega]
            · rw [HE.out.2.2.2.1, show first + c1 = p1 by have := HE.out; omega, ← HG.out, ← HG.out, hS])
          clear HX HR3 HC
          go_region
          all_goals go_wp2
          go_roundw
          case rel => exact ⟨c1, Sort.swp dk p0 p1, rfl, by omega, HS, HZ⟩
          case measure => simp [intOf]; omega

set_option maxRecDepth 100000 in
set_option maxHeartbeats 4000000 in
theorem heap_says : HeapSays := by
  intro w0 W blk off n cap a b d hR hab hb hn
  obtain ⟨hi, hhi⟩ : ∃ z, z = b - a := ⟨_, rfl⟩
  obtain ⟨m, hm⟩ : ∃ z, z = (hi - 1) / 2 := ⟨_, rfl⟩
  obtain ⟨X, hX⟩ : ∃ X, X = Sort.heapSort lI d a b := ⟨_, rfl⟩
  have HX : Hid (Sort.heapPop lI a hi (Sort.heapBuild lI hi a (m + 1) d) = X) := Lib.hid (by rw [hX, hm, hhi]; rfl)
  rw [← hX]
  clear hX
  obtain ⟨Y, hY⟩ : ∃ Y, Y = Sort.heapBuild lI hi a (m + 1) d := ⟨_, rfl⟩
  rw [← hY] at HX
  have HY : Hid (Sort.heapBuild lI hi a (m + 1) d = Y) := Lib.hid hY.symm
  clear hY
  have e1 : (b : Int) - (a : Int) = (hi : Int) := by omega
  have e2 : ((hi : Int) - 1) / 2 = (m : Int) := by omega
  have e2' : ((hi : Int) - 1).tdiv 2 = (m : Int) := by
    rw [show (hi : Int) - 1 = ((hi - 1 : Nat) : Int) by omega]
    rw [hm]
    exact (Int.ofNat_tdiv (hi - 1) 2).symm
  have hm1 : m ≤ hi := by omega
  have hhi1 : 1 ≤ hi := by omega
  have hah : a + hi ≤ n := by omega
  have HR := Lib.hid hR
  clear hR hm hhi hab hb
  go_enter Try.func79, Try.ntmps79
  go_upto_region 4 with fail
  go_loopw [9] (fun iv wr => ∃ (k : Nat) (dk : Array Int), iv = .int .i64 ((k : Int) - 1) ∧ k ≤ m + 1 ∧ Hid (Rw w0 blk off n dk wr) ∧ Hid (Sort.heapBuild lI hi a k dk = Y)) (fun iv _ => (intOf iv + 1).toNat)
  case atStart => exact ⟨m + 1, d, by congr 1; omega, by omega, HR, HY⟩
  case round =>
    clear HR HY
    obtain ⟨k, dk, rfl, hk, HR, HY⟩ := hrel
    cases k with
    | succ k =>
      have e3 : ((k + 1 : Nat) : Int) - 1 = (k : Int) := by omega
      rw [e3]
      clear e3
      have CD := Lib.hid (down_says w0 wr blk off n cap k hi a dk HR.out (by omega) hah hn)
      have HY2 : Hid (Sort.heapBuild lI hi a k (Sort.siftDown lI hi a k dk) = Y) := HY
      obtain ⟨D, hD⟩ : ∃ D, D = Sort.siftDown lI hi a k dk := ⟨_, rfl⟩
      rw [← hD] at CD HY2
      clear HY hD HR
      go_wp2_with (first
        | (go_at_call 103; refine CD.out.mono ?_; rintro e' w1 ⟨rfl, hR1⟩; have HR1 := Lib.hid hR1; clear hR1))
      go_roundw
      case rel => exact ⟨k, D, rfl, by omega, HR1, HY2⟩
      case measure => simp [intOf]
    | zero =>
      have HZ : Hid (dk = Y) := HY
      have e3 : ((0 : Nat) : Int) - 1 = -1 := rfl
      rw [e3]
      clear e3 HY
      go_upto_region 8 with fail
      go_loopw [10] (fun iv w2 => ∃ (k : Nat) (dk : Array Int), iv = .int .i64 ((k : Int) - 1) ∧ k ≤ hi ∧ Hid (Rw w0 blk off n dk w2) ∧ Hid (Sort.heapPop lI a k dk = X)) (fun iv _ => (intOf iv + 1).toNat)
      case atStart => exact ⟨hi, dk, by first | rfl | (congr 1; omega), by omega, HR, by rw [HZ.out]; exact HX⟩
      case round =>
        clear HR HZ HX dk
        obtain ⟨k, dk, rfl, hk, HR, HX⟩ := hrel
        cases k with
        | succ k =>
          have e3 : ((k + 1 : Nat) : Int) - 1 = (k : Int) := by omega
          rw [e3]
          clear e3
          obtain ⟨p, hp⟩ : ∃ z, z = a + k := ⟨_, rfl⟩
          have e4 : (a : Int) + (k : Int) = (p : Int) := by omega
          obtain ⟨G, HG, hc, hf⟩ := HR.out.fam
          have HS := Lib.hid (HR.out.swap HG a p (by omega) (by omega))
          have HY : Hid (Sort.heapPop lI a k (Sort.siftDown lI k a 0 (Sort.swp dk a p)) = X) := by rw [hp]; exact HX
          have hak : a + k ≤ n := by omega
          have hkk : 0 ≤ k := by omega
          have hkh : k ≤ hi := by omega
          have han : a < n := by omega
          have hpn : p < n := by omega
          obtain ⟨u2, hu2⟩ := HR.out.snd a p (by omega) (.int .u64 (G p))
          clear HX hp HR hk
          go_upto_region 10 with fail
          go_region
          all_goals
            generalize ((wr.setCell ⟨blk, off + a, none⟩ (.int .u64 (G p))).setCell ⟨blk, off + p, none⟩ (.int .u64 (G a))).drew = W2 at HS ⊢
          have CD := Lib.hid (down_says w0 W2 blk off n cap 0 k a _ HS.out hkk hak hn)
          obtain ⟨D, hD⟩ : ∃ D, D = Sort.siftDown lI k a 0 (Sort.swp dk a p) := ⟨_, rfl⟩
          rw [← hD] at CD HY
          clear hD HS hc hf hu2
          go_wp2_with (first
            | (go_at_call 103; refine CD.out.mono ?_; rintro e' w1 ⟨rfl, hR1⟩; have HR1 := Lib.hid hR1; clear hR1))
          go_roundw
          case rel => exact ⟨k, D, rfl, by omega, HR1, HY⟩
          case measure => simp [intOf]
        | zero =>
          have HZ : Hid (dk = X) := HX
          have e3 : ((0 : Nat) : Int) - 1 = -1 := rfl
          rw [e3]
          go_wp2
          go_end0
          exact ⟨rfl, by rw [← HZ.out]; exact HR.out⟩
end Go.Proofs.Ytplnmjdafchjbaa
