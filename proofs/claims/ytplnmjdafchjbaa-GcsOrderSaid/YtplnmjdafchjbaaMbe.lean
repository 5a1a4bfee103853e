/- Merged texts: SrtF. -/
import Derived.Test.YtplnmjdafchjbaaMba
import Derived.Deep.CutRange
/- Sorting numbers of 64 bits: partialInsertionSortOrdered. -/
namespace Go.Proofs.Ytplnmjdafchjbaa
open Go.RowKit
set_option linter.unusedVariables false
set_option linter.unusedSimpArgs false

set_option maxRecDepth 100000 in
theorem par_hit {a b s i k : Nat} {d : Array Int} (hK : Sort.scanSorted lI d b i = k) (h : k = b) : Sort.partialIns lI a b (s + 1) i d = (d, true) := by rw [Sort.partialIns_succ, hK, if_pos h]
set_option maxRecDepth 100000 in
theorem par_few {a b s i k : Nat} {d : Array Int} (hK : Sort.scanSorted lI d b i = k) (h : k ≠ b) (h5 : b - a < 50) : Sort.partialIns lI a b (s + 1) i d = (d, false) := by rw [Sort.partialIns_succ, hK, if_neg h, if_pos h5]
set_option maxRecDepth 100000 in
theorem par_on {a b s i k : Nat} {d : Array Int} (hK : Sort.scanSorted lI d b i = k) (h : k ≠ b) (h5 : ¬ b - a < 50) :
    Sort.partialIns lI a b (s + 1) i d = Sort.partialIns lI a b s k (Sort.fixUp lI b k (Sort.fixDown lI a k (Sort.swp d k (k - 1)))) := by rw [Sort.partialIns_succ, hK, if_neg h, if_neg h5]
set_option maxRecDepth 100000 in
set_option maxHeartbeats 8000000 in
theorem par_says : ParSays := by
  intro w0 W blk off n cap a b d hR hab hb hn
  obtain ⟨X, hX⟩ : ∃ X, X = Sort.partialInsertionSort lI d a b := ⟨_, rfl⟩
  have HX : Hid (Sort.partialIns lI a b 5 (a + 1) d = X) := Lib.hid hX.symm
  rw [← hX]
  clear hX
  have HR := Lib.hid hR
  clear hR
  go_enter Try.func83, Try.ntmps83
  go_wp2
  go_loopw [7, 8] (fun iv sv wr => ∃ (i s t : Nat) (dk : Array Int), iv = .int .i64 (i : Int) ∧ sv = .int .i64 (s : Int) ∧ s + t = 5 ∧ a < i ∧ i ≤ b ∧ Hid (Rw w0 blk off n dk wr) ∧ Hid (Sort.partialIns lI a b t i dk = X)) (fun _ sv _ => 5 - (intOf sv).toNat)
  case atStart => exact ⟨a + 1, 0, 5, d, by go_num, rfl, rfl, by omega, by omega, HR, HX⟩
  case round =>
    clear HR HX
    obtain ⟨i, s, t, dk, rfl, rfl, hst, hai, hib, HR, HX⟩ := hrel
    cases t with
    | zero =>
      have hs : ¬ (s : Int) < 5 := by omega
      have HZ : Hid ((dk, false) = X) := HX
      go_wp2
      go_ret
      exact ⟨by rw [← HZ.out]; rfl, by rw [← HZ.out]; exact HR.out⟩
    | succ t =>
      have hs : (s : Int) < 5 := by omega
      go_upto_region 5 with fail
      go_loopw [7] (fun kv w2 => ∃ (k : Nat), kv = .int .i64 (k : Int) ∧ i ≤ k ∧ k ≤ b ∧ Hid (Rw w0 blk off n dk w2) ∧ Hid (Sort.scanSorted lI dk b k = Sort.scanSorted lI dk b i)) (fun kv _ => b - (intOf kv).toNat)
      case atStart => exact ⟨i, rfl, by omega, by omega, HR, Lib.hid rfl⟩
      case round =>
        clear HR
        obtain ⟨k, rfl, hik, hkb, HR, HK⟩ := hrel
        by_cases hlt : k < b
        · have hlt' : (k : Int) < (b : Int) := by omega
          obtain ⟨G, HG, hc, hf⟩ := HR.out.fam
          go_wp2_with fail
          go_big_quiet (first | (go_at_call 84; refine Calls.quiet_of_same (less_calls _ _ _)))
          have HR2 := Lib.hid (HR.out.drewN nq)
          generalize wr.drewN nq = W2 at HR2 ⊢
          clear hc hf HR
          go_upto_if 32 with fail
          cases hl : lI (G k) (G (k - 1))
          · go_wp2_with fail
            go_roundw
            case rel => exact ⟨k + 1, by go_num, by omega, by omega, HR2, Lib.hid (by rw [← srt_on lI hlt (by rw [← HG.out, ← HG.out]; exact hl)]; exact HK.out)⟩
            case measure => simp [intOf]; omega
          · have HK2 : Hid (Sort.scanSorted lI dk b i = k) := Lib.hid (by rw [← HK.out, srt_off lI (fun _ => by rw [← HG.out, ← HG.out]; exact hl)])
            clear HK
            have z1 : ¬ (k : Int) = (b : Int) := by omega
            by_cases h50 : b - a < 50
            · have z2 : (b : Int) - (a : Int) < 50 := by omega
              have HZ : Hid ((dk, false) = X) := Lib.hid (by rw [← HX.out, par_few HK2.out (by omega) h50])
              go_wp2
              go_ret
              exact ⟨by rw [← HZ.out]; rfl, by rw [← HZ.out]; exact HR2.out⟩
            · have z2 : ¬ (b : Int) - (a : Int) < 50 := by omega
              obtain ⟨hc, hf⟩ := HR2.out.again HG
              obtain ⟨p, hp⟩ : ∃ z, z = k - 1 := ⟨_, rfl⟩
              have e1 : (k : Int) - 1 = (p : Int) := by omega
              have HS := Lib.hid (HR2.out.swap HG k p (by omega) (by omega))
              have HY : Hid (Sort.partialIns lI a b t k (Sort.fixUp lI b k (Sort.fixDown lI a k (Sort.swp dk k p))) = X) := Lib.hid (by rw [hp, ← par_on HK2.out (by omega) h50]; exact HX.out)
              obtain ⟨u2, hu2⟩ := HR2.out.snd k p (by omega) (.int .u64 (G p))
              have hpk : p + 1 = k := by omega
              have hkn : k < n := by omega
              have hpn : p < n := by omega
              clear HX HK2 hp
              go_upto_region 11 with fail
              go_region
              all_goals
                generalize ((W2.setCell ⟨blk, off + k, none⟩ (.int .u64 (G p))).setCell ⟨blk, off + p, none⟩ (.int .u64 (G k))).drew = W3 at HS ⊢
              obtain ⟨d1, hd1⟩ : ∃ z, z = Sort.swp dk k p := ⟨_, rfl⟩
              rw [← hd1] at HS HY
              clear hd1 hc hf hu2 HR2 HG hl
              go_upto_if 61 with fail
              go_cut [7] from 13 to 132 (fun kv wx => kv = .int .i64 (k : Int) ∧ ∃ d2 : Array Int, Hid (Rw w0 blk off n d2 wx) ∧ Hid (Sort.partialIns lI a b t k (Sort.fixUp lI b k d2) = X))
              case first =>
                by_cases h2 : k - a ≥ 2
                · have h2' : (2 : Int) ≤ (k : Int) - (a : Int) := by omega
                  have HF : Hid (Sort.fixDown lI a k d1 = Sort.shiftDown lI p d1) := Lib.hid (by unfold Sort.fixDown; rw [if_pos h2, ← hpk]; rfl)
                  go_upto_region 14 with fail
                  go_loopw [9] (fun jv w3 => ∃ (j : Nat) (dj : Array Int), jv = .int .i64 (j : Int) ∧ j ≤ p ∧ Hid (Rw w0 blk off n dj w3) ∧ Hid (Sort.shiftDown lI j dj = Sort.shiftDown lI p d1)) (fun jv _ => (intOf jv).toNat)
                  case atStart => exact ⟨p, d1, rfl, by omega, HS, Lib.hid rfl⟩
                  case round =>
                    clear HS
                    obtain ⟨j, dj, rfl, hjp, HR, HJ⟩ := hrel
                    by_cases h1 : 1 ≤ j
                    · have h1' : (1 : Int) ≤ (j : Int) := by omega
                      obtain ⟨G, HG, hc, hf⟩ := HR.out.fam
                      obtain ⟨q, hq⟩ : ∃ z, z = j - 1 := ⟨_, rfl⟩
                      have e2 : (j : Int) - 1 = (q : Int) := by omega
                      have hqj : q + 1 = j := by omega
                      have HQ := Lib.hid hq
                      clear hq
                      have hjn : j < n := by omega
                      have hqn : q < n := by omega
                      go_upto_region 16 with fail
                      go_big_quiet (first | (go_at_call 84; refine Calls.quiet_of_same (less_calls _ _ _)))
                      have HR2 := Lib.hid (HR.out.drewN nq)
                      generalize wr.drewN nq = W4 at HR2 ⊢
                      clear hc hf HR
                      obtain ⟨hc, hf⟩ := HR2.out.again HG
                      cases hl : lI (G j) (G q)
                      · simp only [Bool.not_false]
                        go_wp2_with fail
                        go_meet
                        case rel => exact ⟨rfl, dj, HR2, Lib.hid (by rw [← HY.out, HF.out, ← HJ.out, shD_off lI (fun _ => by rw [← HQ.out, ← HG.out, ← HG.out]; exact hl)])⟩
                      · have HS := Lib.hid (HR2.out.swap HG j q hjn hqn)
                        obtain ⟨u2, hu2⟩ := HR2.out.snd j q hqn (.int .u64 (G q))
                        have HJ2 : Hid (Sort.shiftDown lI q (Sort.swp dj j q) = Sort.shiftDown lI p d1) := Lib.hid (by rw [HQ.out, ← shD_on lI h1 (by rw [← HQ.out, ← HG.out, ← HG.out]; exact hl)]; exact HJ.out)
                        clear HJ HR2
                        simp only [Bool.not_true]
                        go_upto_region 17 with fail
                        go_region
                        all_goals
                          generalize ((W4.setCell ⟨blk, off + j, none⟩ (.int .u64 (G q))).setCell ⟨blk, off + q, none⟩ (.int .u64 (G j))).drew = W5 at HS ⊢
                        go_wp2
                        go_roundw
                        case rel => exact ⟨q, Sort.swp dj j q, rfl, by omega, HS, HJ2⟩
                        case measure => simp [intOf]; omega
                    · have h1' : ¬ (1 : Int) ≤ (j : Int) := by omega
                      go_wp2_with fail
                      go_meet
                      case rel => exact ⟨rfl, dj, HR, Lib.hid (by rw [← HY.out, HF.out, ← HJ.out, shD_off lI (fun h => absurd h h1)])⟩
                · have h2' : ¬ (2 : Int) ≤ (k : Int) - (a : Int) := by omega
                  have HF : Hid (Sort.fixDown lI a k d1 = d1) := Lib.hid (by unfold Sort.fixDown; rw [if_neg h2])
                  go_wp2_with fail
                  go_meet
                  case rel => exact ⟨rfl, d1, HS, Lib.hid (by rw [← HY.out, HF.out])⟩
              case rest =>
                clear HS HY e1 d1
                obtain ⟨rfl, d2, HR, HX⟩ := hcut
                by_cases h2 : b - k ≥ 2
                · have h2' : (2 : Int) ≤ (b : Int) - (k : Int) := by omega
                  have HF : Hid (Sort.fixUp lI b k d2 = Sort.shiftUp lI b (k + 1) d2) := Lib.hid (by unfold Sort.fixUp; rw [if_pos h2])
                  go_upto_region 20 with fail
                  go_loopw [10] (fun jv w3 => ∃ (j : Nat) (dj : Array Int), jv = .int .i64 (j : Int) ∧ k < j ∧ j ≤ b ∧ Hid (Rw w0 blk off n dj w3) ∧ Hid (Sort.shiftUp lI b j dj = Sort.shiftUp lI b (k + 1) d2)) (fun jv _ => b - (intOf jv).toNat)
                  case atStart => exact ⟨k + 1, d2, by go_num, by omega, by omega, HR, Lib.hid rfl⟩
                  case round =>
                    clear HR
                    obtain ⟨j, dj, rfl, hkj, hjb, HR, HJ⟩ := hrel
                    by_cases h1 : j < b
                    · have h1' : (j : Int) < (b : Int) := by omega
                      obtain ⟨G, HG, hc, hf⟩ := HR.out.fam
                      obtain ⟨q, hq⟩ : ∃ z, z = j - 1 := ⟨_, rfl⟩
                      have e2 : (j : Int) - 1 = (q : Int) := by omega
                      have hqj : q + 1 = j := by omega
                      have HQ := Lib.hid hq
                      clear hq
                      have hjn : j < n := by omega
                      have hqn : q < n := by omega
                      go_upto_region 22 with fail
                      go_big_quiet (first | (go_at_call 84; refine Calls.quiet_of_same (less_calls _ _ _)))
                      have HR2 := Lib.hid (HR.out.drewN nq)
                      generalize wr.drewN nq = W4 at HR2 ⊢
                      clear hc hf HR
                      obtain ⟨hc, hf⟩ := HR2.out.again HG
                      cases hl : lI (G j) (G q)
                      · have HE : Hid (Sort.partialIns lI a b t k dj = X) := Lib.hid (by rw [← HX.out, HF.out, ← HJ.out, shU_off lI (fun _ => by rw [← HQ.out, ← HG.out, ← HG.out]; exact hl)])
                        simp only [Bool.not_false]
                        go_wp2_with fail
                        go_roundw
                        case rel => exact ⟨k, s + 1, t, dj, rfl, by go_num, by omega, by omega, by omega, HR2, HE⟩
                        case measure => simp [intOf]; omega
                      · have HS := Lib.hid (HR2.out.swap HG j q hjn hqn)
                        obtain ⟨u2, hu2⟩ := HR2.out.snd j q hqn (.int .u64 (G q))
                        have HJ2 : Hid (Sort.shiftUp lI b (j + 1) (Sort.swp dj j q) = Sort.shiftUp lI b (k + 1) d2) := Lib.hid (by rw [HQ.out, ← shU_on lI h1 (by rw [← HQ.out, ← HG.out, ← HG.out]; exact hl)]; exact HJ.out)
                        clear HJ HR2
                        simp only [Bool.not_true]
                        go_upto_region 23 with fail
                        go_region
                        all_goals
                          generalize ((W4.setCell ⟨blk, off + j, none⟩ (.int .u64 (G q))).setCell ⟨blk, off + q, none⟩ (.int .u64 (G j))).drew = W5 at HS ⊢
                        go_wp2
                        go_roundw
                        case rel => exact ⟨j + 1, Sort.swp dj j q, by go_num, by omega, by omega, HS, HJ2⟩
                        case measure => simp [intOf]; omega
                    · have h1' : ¬ (j : Int) < (b : Int) := by omega
                      have HE : Hid (Sort.partialIns lI a b t k dj = X) := Lib.hid (by rw [← HX.out, HF.out, ← HJ.out, shU_off lI (fun h => absurd h h1)])
                      go_wp2_with fail
                      go_roundw
                      case rel => exact ⟨k, s + 1, t, dj, rfl, by go_num, by omega, by omega, by omega, HR, HE⟩
                      case measure => simp [intOf]; omega
                · have h2' : ¬ (2 : Int) ≤ (b : Int) - (k : Int) := by omega
                  have HF : Hid (Sort.fixUp lI b k d2 = d2) := Lib.hid (by unfold Sort.fixUp; rw [if_neg h2])
                  have HE : Hid (Sort.partialIns lI a b t k d2 = X) := Lib.hid (by rw [← HX.out, HF.out])
                  go_wp2_with fail
                  go_roundw
                  case rel => exact ⟨k, s + 1, t, d2, rfl, by go_num, by omega, by omega, by omega, HR, HE⟩
                  case measure => simp [intOf]; omega
        · have hlt' : decide ((k : Int) < (b : Int)) = false := decide_eq_false (by omega)
          have hlt'' : ¬ (k : Int) < (b : Int) := by omega
          have hkb' : k = b := by omega
          have z1 : (k : Int) = (b : Int) := by omega
          have HZ : Hid ((dk, true) = X) := Lib.hid (by rw [← HX.out, par_hit (k := k) (by rw [← HK.out, srt_off lI (fun h => absurd h hlt)]) hkb'])
          clear hkb'
          go_wp2_with fail
          go_big_quiet (first | (go_at_call 84; refine Calls.quiet_of_same (less_calls _ _ _)))
          have HR2 := Lib.hid (HR.out.drewN nq)
          generalize wr.drewN nq = W2 at HR2 ⊢
          go_wp2
          go_ret
          exact ⟨by rw [← HZ.out]; rfl, by rw [← HZ.out]; exact HR2.out⟩
end Go.Proofs.Ytplnmjdafchjbaa
