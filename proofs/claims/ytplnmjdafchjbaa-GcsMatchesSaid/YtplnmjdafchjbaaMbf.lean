/- Merged texts: SrtG. -/
import Derived.Test.YtplnmjdafchjbaaMba
import Derived.Deep.CutRange
import Derived.Deep.CutBlock
/- Sorting numbers of 64 bits: partitionOrdered, partitionEqualOrdered. -/
namespace Go.Proofs.Ytplnmjdafchjbaa
open Go.RowKit
set_option linter.unusedVariables false
set_option linter.unusedSimpArgs false

set_option maxRecDepth 100000 in
theorem peq_hit {a i j i2 j2 : Nat} {dk : Array Int} (hi : Sort.scanUp (fun x => !lI dk[a]! x) dk j i = i2) (hj : Sort.scanDown (fun x => lI dk[a]! x) dk i2 j = j2) (h : i2 > j2) : Sort.partEqLoop lI a i j dk = (i2, dk) := by
  rw [Sort.partEqLoop_eq, hi, hj, if_pos h]
set_option maxRecDepth 100000 in
theorem peq_on {a i j i2 j2 : Nat} {dk : Array Int} (hi : Sort.scanUp (fun x => !lI dk[a]! x) dk j i = i2) (hj : Sort.scanDown (fun x => lI dk[a]! x) dk i2 j = j2) (h : ¬ i2 > j2) : Sort.partEqLoop lI a i j dk = Sort.partEqLoop lI a (i2 + 1) (j2 - 1) (Sort.swp dk i2 j2) := by
  rw [Sort.partEqLoop_eq, hi, hj, if_neg h]
set_option maxRecDepth 100000 in
theorem plp_hit {a i j i2 j2 : Nat} {dk : Array Int} (hi : Sort.scanUp (fun x => lI x dk[a]!) dk j i = i2) (hj : Sort.scanDown (fun x => !lI x dk[a]!) dk i2 j = j2) (h : i2 > j2) : Sort.partLoop lI a i j dk = (j2, dk) := by
  rw [Sort.partLoop_eq, hi, hj, if_pos h]
set_option maxRecDepth 100000 in
theorem plp_on {a i j i2 j2 : Nat} {dk : Array Int} (hi : Sort.scanUp (fun x => lI x dk[a]!) dk j i = i2) (hj : Sort.scanDown (fun x => !lI x dk[a]!) dk i2 j = j2) (h : ¬ i2 > j2) : Sort.partLoop lI a i j dk = Sort.partLoop lI a (i2 + 1) (j2 - 1) (Sort.swp dk i2 j2) := by
  rw [Sort.partLoop_eq, hi, hj, if_neg h]
set_option maxRecDepth 100000 in
theorem prt_hit {a b p i2 j2 : Nat} {d dk : Array Int} (hd : Sort.swp d a p = dk) (hi : Sort.scanUp (fun x => lI x dk[a]!) dk (b - 1) (a + 1) = i2) (hj : Sort.scanDown (fun x => !lI x dk[a]!) dk i2 (b - 1) = j2) (h : i2 > j2) : Sort.partition lI d a b p = (j2, true, Sort.swp dk j2 a) := by
  unfold Sort.partition
  simp only []
  rw [hd, hi, hj, if_pos h]
set_option maxRecDepth 100000 in
theorem prt_on {a b p i2 j2 : Nat} {d dk : Array Int} (hd : Sort.swp d a p = dk) (hi : Sort.scanUp (fun x => lI x dk[a]!) dk (b - 1) (a + 1) = i2) (hj : Sort.scanDown (fun x => !lI x dk[a]!) dk i2 (b - 1) = j2) (h : ¬ i2 > j2) :
    Sort.partition lI d a b p = ((Sort.partLoop lI a (i2 + 1) (j2 - 1) (Sort.swp dk i2 j2)).1, false, Sort.swp (Sort.partLoop lI a (i2 + 1) (j2 - 1) (Sort.swp dk i2 j2)).2 (Sort.partLoop lI a (i2 + 1) (j2 - 1) (Sort.swp dk i2 j2)).1 a) := by
  unfold Sort.partition
  simp only []
  rw [hd, hi, hj, if_neg h]
set_option maxRecDepth 100000 in
set_option maxHeartbeats 8000000 in
theorem peq_says : PeqSays := by
  intro w0 W blk off n cap a b pivot d hR hap hpb hb hn
  obtain ⟨X, hX⟩ : ∃ X, X = Sort.partitionEqual lI d a b pivot := ⟨_, rfl⟩
  have HX : Hid (Sort.partitionEqual lI d a b pivot = X) := Lib.hid hX.symm
  rw [← hX]
  clear hX
  have HR := Lib.hid hR
  clear hR
  obtain ⟨G, HG, hc, hf⟩ := HR.out.fam
  have HS := Lib.hid (HR.out.swap HG a pivot (by omega) (by omega))
  obtain ⟨u2, hu2⟩ := HR.out.snd a pivot (by omega) (.int .u64 (G pivot))
  obtain ⟨j0, hj0⟩ : ∃ z, z = b - 1 := ⟨_, rfl⟩
  have e1 : (b : Int) - 1 = (j0 : Int) := by omega
  have hj1 : j0 + 1 = b := by omega
  obtain ⟨i0, hi0⟩ : ∃ z, z = a + 1 := ⟨_, rfl⟩
  have e2 : (a : Int) + 1 = (i0 : Int) := by omega
  have hi1 : a < i0 ∧ i0 ≤ b := by omega
  have H0 : Hid (j0 = b - 1 ∧ i0 = a + 1) := Lib.hid ⟨hj0, hi0⟩
  clear HR hj0 hi0
  go_enter Try.func85, Try.ntmps85
  go_upto_region 1 with fail
  go_region
  all_goals
    generalize ((W.setCell ⟨blk, off + a, none⟩ (.int .u64 (G pivot))).setCell ⟨blk, off + pivot, none⟩ (.int .u64 (G a))).drew = W2 at HS ⊢
  clear hc hf hu2
  obtain ⟨dk, hdk⟩ : ∃ z, z = Sort.swp d a pivot := ⟨_, rfl⟩
  rw [← hdk] at HS
  have HD0 : Hid (Sort.swp d a pivot = dk) := Lib.hid hdk.symm
  have HR := HS
  clear hdk HS
  obtain ⟨Y, hY⟩ : ∃ Y, Y = Sort.partEqLoop lI a i0 j0 dk := ⟨_, rfl⟩
  have HY : Hid (Sort.partEqLoop lI a i0 j0 dk = Y) := Lib.hid hY.symm
  have HYX : Hid (Y = X) := Lib.hid (by rw [hY, ← HX.out, ← HD0.out, H0.out.1, H0.out.2]; rfl)
  clear hY HX HD0
  go_wp2_with fail
  go_loopw [9, 10] (fun iv jv wr => ∃ (i j : Nat) (dk : Array Int), iv = .int .i64 (i : Int) ∧ jv = .int .i64 (j : Int) ∧ a < i ∧ i ≤ b ∧ a ≤ j ∧ j < b ∧ Hid (Rw w0 blk off n dk wr) ∧ Hid (Sort.partEqLoop lI a i j dk = Y)) (fun iv jv _ => (intOf jv).toNat + 1 - (intOf iv).toNat)
  case atStart => exact ⟨i0, j0, dk, rfl, rfl, by omega, by omega, by omega, by omega, HR, HY⟩
  case round =>
    clear HR HY dk
    obtain ⟨i, j, dk, rfl, rfl, hai, hib, haj, hjb, HR, HY⟩ := hrel
    go_upto_block 2 with fail
    go_cut [9] from 29 to 82 (fun jv wx => ∃ i2 : Nat, jv = .int .i64 (i2 : Int) ∧ i ≤ i2 ∧ i2 ≤ b ∧ Hid (Rw w0 blk off n dk wx) ∧ Hid (Sort.scanUp (fun x => !lI dk[a]! x) dk j i = i2))
    case first =>
      go_wp2_with fail
      go_loopw [9] (fun jv w9 => ∃ i9 : Nat, jv = .int .i64 (i9 : Int) ∧ i ≤ i9 ∧ i9 ≤ b ∧ Hid (Rw w0 blk off n dk w9) ∧ Hid (Sort.scanUp (fun x => !lI dk[a]! x) dk j i9 = Sort.scanUp (fun x => !lI dk[a]! x) dk j i)) (fun jv _ => j + 1 - (intOf jv).toNat)
      case atStart => exact ⟨i, rfl, by omega, by omega, HR, Lib.hid rfl⟩
      case round =>
        clear HR
        obtain ⟨i9, rfl, hz1, hz2, HR, HS⟩ := hrel
        by_cases hle : i9 ≤ j
        · have hle' : (i9 : Int) ≤ (j : Int) := by omega
          obtain ⟨G, HG, hc, hf⟩ := HR.out.fam
          go_wp2_with fail
          go_big_quiet (first | (go_at_call 84; refine Calls.quiet_of_same (less_calls _ _ _)))
          have HR2 := Lib.hid (HR.out.drewN nq)
          generalize wr.drewN nq = W9 at HR2 ⊢
          clear hc hf HR
          go_upto_if 43 with fail
          cases hl : lI (G a) (G i9)
          · go_wp2_with fail
            go_roundw
            case rel => exact ⟨i9 + 1, by go_num, by omega, by omega, HR2, Lib.hid (by rw [← sUp_on hle (by show (!lI dk[a]! dk[i9]!) = true; rw [← HG.out, ← HG.out, hl]; first | done | rfl)]; exact HS.out)⟩
            case measure => simp [intOf]; omega
          · go_wp2_with fail
            go_meet
            case rel => exact ⟨i9, rfl, hz1, hz2, HR2, Lib.hid (by rw [← HS.out]; exact sUp_off (fun _ => by show (!lI dk[a]! dk[i9]!) = false; rw [← HG.out, ← HG.out, hl]; first | done | rfl))⟩
        · have hle' : decide ((i9 : Int) ≤ (j : Int)) = false := decide_eq_false (by omega)
          have hle2 : ¬ (i9 : Int) ≤ (j : Int) := by omega
          go_wp2_with fail
          go_big_quiet (first | (go_at_call 84; refine Calls.quiet_of_same (less_calls _ _ _)))
          have HR2 := Lib.hid (HR.out.drewN nq)
          generalize wr.drewN nq = W9 at HR2 ⊢
          go_wp2_with fail
          go_meet
          case rel => exact ⟨i9, rfl, hz1, hz2, HR2, Lib.hid (by rw [← HS.out]; exact sUp_off (fun h => absurd h hle))⟩
    case rest =>
      clear HR
      obtain ⟨i2, rfl, hu1, hu2, HR, HU⟩ := hcut
      go_upto_block 4 with fail
      go_cut [10] from 29 to 82 (fun jv wx => ∃ j2 : Nat, jv = .int .i64 (j2 : Int) ∧ j2 ≤ j ∧ a ≤ j2 ∧ Hid (Rw w0 blk off n dk wx) ∧ Hid (Sort.scanDown (fun x => lI dk[a]! x) dk i2 j = j2))
      case first =>
        go_wp2_with fail
        go_loopw [10] (fun jv w9 => ∃ j9 : Nat, jv = .int .i64 (j9 : Int) ∧ j9 ≤ j ∧ a ≤ j9 ∧ Hid (Rw w0 blk off n dk w9) ∧ Hid (Sort.scanDown (fun x => lI dk[a]! x) dk i2 j9 = Sort.scanDown (fun x => lI dk[a]! x) dk i2 j)) (fun jv _ => (intOf jv).toNat)
        case atStart => exact ⟨j, rfl, by omega, by omega, HR, Lib.hid rfl⟩
        case round =>
          clear HR
          obtain ⟨j9, rfl, hz1, hz2, HR, HS⟩ := hrel
          by_cases hle : i2 ≤ j9
          · have hle' : (i2 : Int) ≤ (j9 : Int) := by omega
            obtain ⟨G, HG, hc, hf⟩ := HR.out.fam
            go_wp2_with fail
            go_big_quiet (first | (go_at_call 84; refine Calls.quiet_of_same (less_calls _ _ _)))
            have HR2 := Lib.hid (HR.out.drewN nq)
            generalize wr.drewN nq = W9 at HR2 ⊢
            clear hc hf HR
            go_upto_if 59 with fail
            cases hl : lI (G a) (G j9)
            · go_wp2_with fail
              go_meet
              case rel => exact ⟨j9, rfl, hz1, hz2, HR2, Lib.hid (by rw [← HS.out]; exact sDn_off (fun _ => by show (lI dk[a]! dk[j9]!) = false; rw [← HG.out, ← HG.out, hl]; first | done | rfl))⟩
            · go_wp2_with fail
              go_roundw
              case rel => exact ⟨j9 - 1, by congr 1; omega, by omega, by omega, HR2, Lib.hid (by rw [← sDn_on (by omega) hle (by show (lI dk[a]! dk[j9]!) = true; rw [← HG.out, ← HG.out, hl]; first | done | rfl)]; exact HS.out)⟩
              case measure => simp [intOf]; omega
          · have hle' : decide ((i2 : Int) ≤ (j9 : Int)) = false := decide_eq_false (by omega)
            have hle2 : ¬ (i2 : Int) ≤ (j9 : Int) := by omega
            go_wp2_with fail
            go_big_quiet (first | (go_at_call 84; refine Calls.quiet_of_same (less_calls _ _ _)))
            have HR2 := Lib.hid (HR.out.drewN nq)
            generalize wr.drewN nq = W9 at HR2 ⊢
            go_wp2_with fail
            go_meet
            case rel => exact ⟨j9, rfl, hz1, hz2, HR2, Lib.hid (by rw [← HS.out]; exact sDn_off (fun h => absurd h hle))⟩
      case rest =>
        clear HR
        obtain ⟨j2, rfl, hd1, hd2, HR, HD⟩ := hcut
        by_cases hgt : i2 > j2
        · have hgt' : (j2 : Int) < (i2 : Int) := by omega
          have HZ : Hid ((i2, dk) = Y) := Lib.hid (by rw [← HY.out, peq_hit HU.out HD.out hgt])
          have HZ2 : Hid ((i2, dk) = X) := Lib.hid (by rw [HZ.out, HYX.out])
          go_wp2_with fail
          go_ret
          exact ⟨by rw [← HZ2.out]; rfl, by rw [← HZ2.out]; exact HR.out⟩
        · have hgt' : ¬ (j2 : Int) < (i2 : Int) := by omega
          have HZ : Hid (Sort.partEqLoop lI a (i2 + 1) (j2 - 1) (Sort.swp dk i2 j2) = Y) := Lib.hid (by rw [← peq_on HU.out HD.out hgt]; exact HY.out)
          obtain ⟨G, HG, hc, hf⟩ := HR.out.fam
          have HS := Lib.hid (HR.out.swap HG i2 j2 (by omega) (by omega))
          obtain ⟨u2, hu2⟩ := HR.out.snd i2 j2 (by omega) (.int .u64 (G j2))
          clear HR
          go_upto_region 8 with fail
          go_region
          all_goals
            generalize ((wc.setCell ⟨blk, off + i2, none⟩ (.int .u64 (G j2))).setCell ⟨blk, off + j2, none⟩ (.int .u64 (G i2))).drew = W7 at HS ⊢
          clear hc hf hu2
          go_wp2_with fail
          go_roundw
          case rel => exact ⟨i2 + 1, j2 - 1, Sort.swp dk i2 j2, by go_num, by congr 1; omega, by omega, by omega, by omega, by omega, HS, HZ⟩
          case measure => simp [intOf]; omega
set_option maxRecDepth 100000 in
set_option maxHeartbeats 8000000 in
theorem prt_says : PrtSays := by
  intro w0 W blk off n cap a b pivot d hR hap hpb hb hn
  obtain ⟨X, hX⟩ : ∃ X, X = Sort.partition lI d a b pivot := ⟨_, rfl⟩
  have HX : Hid (Sort.partition lI d a b pivot = X) := Lib.hid hX.symm
  rw [← hX]
  clear hX
  have HR := Lib.hid hR
  clear hR
  obtain ⟨G, HG, hc, hf⟩ := HR.out.fam
  have HS := Lib.hid (HR.out.swap HG a pivot (by omega) (by omega))
  obtain ⟨u2, hu2⟩ := HR.out.snd a pivot (by omega) (.int .u64 (G pivot))
  obtain ⟨j0, hj0⟩ : ∃ z, z = b - 1 := ⟨_, rfl⟩
  have e1 : (b : Int) - 1 = (j0 : Int) := by omega
  have hj1 : j0 + 1 = b := by omega
  obtain ⟨i0, hi0⟩ : ∃ z, z = a + 1 := ⟨_, rfl⟩
  have e2 : (a : Int) + 1 = (i0 : Int) := by omega
  have hi1 : a < i0 ∧ i0 ≤ b := by omega
  have H0 : Hid (j0 = b - 1 ∧ i0 = a + 1) := Lib.hid ⟨hj0, hi0⟩
  clear HR hj0 hi0
  go_enter Try.func86, Try.ntmps86
  go_upto_region 1 with fail
  go_region
  all_goals
    generalize ((W.setCell ⟨blk, off + a, none⟩ (.int .u64 (G pivot))).setCell ⟨blk, off + pivot, none⟩ (.int .u64 (G a))).drew = W2 at HS ⊢
  clear hc hf hu2
  obtain ⟨dk, hdk⟩ : ∃ z, z = Sort.swp d a pivot := ⟨_, rfl⟩
  rw [← hdk] at HS
  have HD0 : Hid (Sort.swp d a pivot = dk) := Lib.hid hdk.symm
  have HR := HS
  clear hdk HS
  go_upto_region 2 with fail
  go_upto_block 0 with fail
  go_cut [10] from 12 (fun jv wx => ∃ i2 : Nat, jv = .int .i64 (i2 : Int) ∧ i0 ≤ i2 ∧ i2 ≤ b ∧ Hid (Rw w0 blk off n dk wx) ∧ Hid (Sort.scanUp (fun x => lI x dk[a]!) dk j0 i0 = i2))
  case first =>
    go_wp2_with fail
    go_loopw [10] (fun jv w9 => ∃ i9 : Nat, jv = .int .i64 (i9 : Int) ∧ i0 ≤ i9 ∧ i9 ≤ b ∧ Hid (Rw w0 blk off n dk w9) ∧ Hid (Sort.scanUp (fun x => lI x dk[a]!) dk j0 i9 = Sort.scanUp (fun x => lI x dk[a]!) dk j0 i0)) (fun jv _ => j0 + 1 - (intOf jv).toNat)
    case atStart => exact ⟨i0, rfl, by omega, by omega, HR, Lib.hid rfl⟩
    case round =>
      clear HR
      obtain ⟨i9, rfl, hz1, hz2, HR, HS⟩ := hrel
      by_cases hle : i9 ≤ j0
      · have hle' : (i9 : Int) ≤ (j0 : Int) := by omega
        obtain ⟨G, HG, hc, hf⟩ := HR.out.fam
        go_wp2_with fail
        go_big_quiet (first | (go_at_call 84; refine Calls.quiet_of_same (less_calls _ _ _)))
        have HR2 := Lib.hid (HR.out.drewN nq)
        generalize wr.drewN nq = W9 at HR2 ⊢
        clear hc hf HR
        go_upto_if 43 with fail
        cases hl : lI (G i9) (G a)
        · go_wp2_with fail
          go_meet
          case rel => exact ⟨i9, rfl, hz1, hz2, HR2, Lib.hid (by rw [← HS.out]; exact sUp_off (fun _ => by show (lI dk[i9]! dk[a]!) = false; rw [← HG.out, ← HG.out, hl]; first | done | rfl))⟩
        · go_wp2_with fail
          go_roundw
          case rel => exact ⟨i9 + 1, by go_num, by omega, by omega, HR2, Lib.hid (by rw [← sUp_on hle (by show (lI dk[i9]! dk[a]!) = true; rw [← HG.out, ← HG.out, hl]; first | done | rfl)]; exact HS.out)⟩
          case measure => simp [intOf]; omega
      · have hle' : decide ((i9 : Int) ≤ (j0 : Int)) = false := decide_eq_false (by omega)
        have hle2 : ¬ (i9 : Int) ≤ (j0 : Int) := by omega
        go_wp2_with fail
        go_big_quiet (first | (go_at_call 84; refine Calls.quiet_of_same (less_calls _ _ _)))
        have HR2 := Lib.hid (HR.out.drewN nq)
        generalize wr.drewN nq = W9 at HR2 ⊢
        go_wp2_with fail
        go_meet
        case rel => exact ⟨i9, rfl, hz1, hz2, HR2, Lib.hid (by rw [← HS.out]; exact sUp_off (fun h => absurd h hle))⟩
  case rest =>
    clear HR
    obtain ⟨i2, rfl, hu1, hu2, HR, HU⟩ := hcut
    go_upto_block 2 with fail
    go_cut [11] from 12 (fun jv wx => ∃ j2 : Nat, jv = .int .i64 (j2 : Int) ∧ j2 ≤ j0 ∧ a ≤ j2 ∧ Hid (Rw w0 blk off n dk wx) ∧ Hid (Sort.scanDown (fun x => !lI x dk[a]!) dk i2 j0 = j2))
    case first =>
      go_wp2_with fail
      go_loopw [11] (fun jv w9 => ∃ j9 : Nat, jv = .int .i64 (j9 : Int) ∧ j9 ≤ j0 ∧ a ≤ j9 ∧ Hid (Rw w0 blk off n dk w9) ∧ Hid (Sort.scanDown (fun x => !lI x dk[a]!) dk i2 j9 = Sort.scanDown (fun x => !lI x dk[a]!) dk i2 j0)) (fun jv _ => (intOf jv).toNat)
      case atStart => exact ⟨j0, rfl, by omega, by omega, HR, Lib.hid rfl⟩
      case round =>
        clear HR
        obtain ⟨j9, rfl, hz1, hz2, HR, HS⟩ := hrel
        by_cases hle : i2 ≤ j9
        · have hle' : (i2 : Int) ≤ (j9 : Int) := by omega
          obtain ⟨G, HG, hc, hf⟩ := HR.out.fam
          go_wp2_with fail
          go_big_quiet (first | (go_at_call 84; refine Calls.quiet_of_same (less_calls _ _ _)))
          have HR2 := Lib.hid (HR.out.drewN nq)
          generalize wr.drewN nq = W9 at HR2 ⊢
          clear hc hf HR
          go_upto_if 60 with fail
          cases hl : lI (G j9) (G a)
          · go_wp2_with fail
            go_roundw
            case rel => exact ⟨j9 - 1, by congr 1; omega, by omega, by omega, HR2, Lib.hid (by rw [← sDn_on (by omega) hle (by show (!lI dk[j9]! dk[a]!) = true; rw [← HG.out, ← HG.out, hl]; first | done | rfl)]; exact HS.out)⟩
            case measure => simp [intOf]; omega
          · go_wp2_with fail
            go_meet
            case rel => exact ⟨j9, rfl, hz1, hz2, HR2, Lib.hid (by rw [← HS.out]; exact sDn_off (fun _ => by show (!lI dk[j9]! dk[a]!) = false; rw [← HG.out, ← HG.out, hl]; first | done | rfl))⟩
        · have hle' : decide ((i2 : Int) ≤ (j9 : Int)) = false := decide_eq_false (by omega)
          have hle2 : ¬ (i2 : Int) ≤ (j9 : Int) := by omega
          go_wp2_with fail
          go_big_quiet (first | (go_at_call 84; refine Calls.quiet_of_same (less_calls _ _ _)))
          have HR2 := Lib.hid (HR.out.drewN nq)
          generalize wr.drewN nq = W9 at HR2 ⊢
          go_wp2_with fail
          go_meet
          case rel => exact ⟨j9, rfl, hz1, hz2, HR2, Lib.hid (by rw [← HS.out]; exact sDn_off (fun h => absurd h hle))⟩
    case rest =>
      clear HR
      obtain ⟨j2, rfl, hd1, hd2, HR, HD⟩ := hcut
      by_cases hgt : i2 > j2
      · have hgt' : (j2 : Int) < (i2 : Int) := by omega
        have HZ2 : Hid ((j2, true, Sort.swp dk j2 a) = X) := Lib.hid (by rw [← HX.out, prt_hit HD0.out (by rw [← H0.out.1, ← H0.out.2]; exact HU.out) (by rw [← H0.out.1]; exact HD.out) hgt])
        obtain ⟨G, HG, hc, hf⟩ := HR.out.fam
        have HS := Lib.hid (HR.out.swap HG j2 a (by omega) (by omega))
        obtain ⟨u2, hu2⟩ := HR.out.snd j2 a (by omega) (.int .u64 (G a))
        clear HR
        go_upto_region 8 with fail
        go_region
        all_goals
          generalize ((wc.setCell ⟨blk, off + j2, none⟩ (.int .u64 (G a))).setCell ⟨blk, off + a, none⟩ (.int .u64 (G j2))).drew = W7 at HS ⊢
        clear hc hf hu2
        go_wp2_with fail
        go_ret2
        exact ⟨by rw [← HZ2.out]; rfl, by rw [← HZ2.out]; exact HS.out⟩
      · have hgt' : ¬ (j2 : Int) < (i2 : Int) := by omega
        obtain ⟨Y, hY⟩ : ∃ Y, Y = Sort.partLoop lI a (i2 + 1) (j2 - 1) (Sort.swp dk i2 j2) := ⟨_, rfl⟩
        have HY : Hid (Sort.partLoop lI a (i2 + 1) (j2 - 1) (Sort.swp dk i2 j2) = Y) := Lib.hid hY.symm
        have HYX : Hid ((Y.1, false, Sort.swp Y.2 Y.1 a) = X) := Lib.hid (by rw [hY, ← HX.out, prt_on HD0.out (by rw [← H0.out.1, ← H0.out.2]; exact HU.out) (by rw [← H0.out.1]; exact HD.out) hgt])
        clear hY HX HD0 HU HD
        obtain ⟨G, HG, hc, hf⟩ := HR.out.fam
        have HS := Lib.hid (HR.out.swap HG i2 j2 (by omega) (by omega))
        obtain ⟨u2, hu2⟩ := HR.out.snd i2 j2 (by omega) (.int .u64 (G j2))
        clear HR
        go_upto_region 10 with fail
        go_region
        all_goals
          generalize ((wc.setCell ⟨blk, off + i2, none⟩ (.int .u64 (G j2))).setCell ⟨blk, off + j2, none⟩ (.int .u64 (G i2))).drew = W7 at HS ⊢
        clear hc hf hu2
        go_wp2_with fail
        go_loopw [10, 11] (fun iv jv wr => ∃ (i j : Nat) (dk : Array Int), iv = .int .i64 (i : Int) ∧ jv = .int .i64 (j : Int) ∧ a < i ∧ i ≤ b ∧ a ≤ j ∧ j < b ∧ Hid (Rw w0 blk off n dk wr) ∧ Hid (Sort.partLoop lI a i j dk = Y)) (fun iv jv _ => (intOf jv).toNat + 1 - (intOf iv).toNat)
        case atStart => exact ⟨i2 + 1, j2 - 1, _, by go_num, by congr 1; omega, by omega, by omega, by omega, by omega, HS, HY⟩
        case round =>
          clear HS HY
          obtain ⟨i, j, dk, rfl, rfl, hai, hib, haj, hjb, HR, HY⟩ := hrel
          go_upto_block 6 with fail
          go_cut [10] from 99 to 152 (fun jv wx => ∃ i2 : Nat, jv = .int .i64 (i2 : Int) ∧ i ≤ i2 ∧ i2 ≤ b ∧ Hid (Rw w0 blk off n dk wx) ∧ Hid (Sort.scanUp (fun x => lI x dk[a]!) dk j i = i2))
          case first =>
            go_wp2_with fail
            go_loopw [10] (fun jv w9 => ∃ i9 : Nat, jv = .int .i64 (i9 : Int) ∧ i ≤ i9 ∧ i9 ≤ b ∧ Hid (Rw w0 blk off n dk w9) ∧ Hid (Sort.scanUp (fun x => lI x dk[a]!) dk j i9 = Sort.scanUp (fun x => lI x dk[a]!) dk j i)) (fun jv _ => j + 1 - (intOf jv).toNat)
            case atStart => exact ⟨i, rfl, by omega, by omega, HR, Lib.hid rfl⟩
            case round =>
              clear HR
              obtain ⟨i9, rfl, hz1, hz2, HR, HS⟩ := hrel
              by_cases hle : i9 ≤ j
              · have hle' : (i9 : Int) ≤ (j : Int) := by omega
                obtain ⟨G, HG, hc, hf⟩ := HR.out.fam
                go_wp2_with fail
                go_big_quiet (first | (go_at_call 84; refine Calls.quiet_of_same (less_calls _ _ _)))
                have HR2 := Lib.hid (HR.out.drewN nq)
                generalize wr.drewN nq = W9 at HR2 ⊢
                clear hc hf HR
                go_upto_if 112 with fail
                cases hl : lI (G i9) (G a)
                · go_wp2_with fail
                  go_meet
                  case rel => exact ⟨i9, rfl, hz1, hz2, HR2, Lib.hid (by rw [← HS.out]; exact sUp_off (fun _ => by show (lI dk[i9]! dk[a]!) = false; rw [← HG.out, ← HG.out, hl]; first | done | rfl))⟩
                · go_wp2_with fail
                  go_roundw
                  case rel => exact ⟨i9 + 1, by go_num, by omega, by omega, HR2, Lib.hid (by rw [← sUp_on hle (by show (lI dk[i9]! dk[a]!) = true; rw [← HG.out, ← HG.out, hl]; first | done | rfl)]; exact HS.out)⟩
                  case measure => simp [intOf]; omega
              · have hle' : decide ((i9 : Int) ≤ (j : Int)) = false := decide_eq_false (by omega)
                have hle2 : ¬ (i9 : Int) ≤ (j : Int) := by omega
                go_wp2_with fail
                go_big_quiet (first | (go_at_call 84; refine Calls.quiet_of_same (less_calls _ _ _)))
                have HR2 := Lib.hid (HR.out.drewN nq)
                generalize wr.drewN nq = W9 at HR2 ⊢
                go_wp2_with fail
                go_meet
                case rel => exact ⟨i9, rfl, hz1, hz2, HR2, Lib.hid (by rw [← HS.out]; exact sUp_off (fun h => absurd h hle))⟩
          case rest =>
            clear HR
            obtain ⟨i2, rfl, hu1, hu2, HR, HU⟩ := hcut
            go_upto_block 8 with fail
            go_cut [11] from 99 to 152 (fun jv wx => ∃ j2 : Nat, jv = .int .i64 (j2 : Int) ∧ j2 ≤ j ∧ a ≤ j2 ∧ Hid (Rw w0 blk off n dk wx) ∧ Hid (Sort.scanDown (fun x => !lI x dk[a]!) dk i2 j = j2))
            case first =>
              go_wp2_with fail
              go_loopw [11] (fun jv w9 => ∃ j9 : Nat, jv = .int .i64 (j9 : Int) ∧ j9 ≤ j ∧ a ≤ j9 ∧ Hid (Rw w0 blk off n dk w9) ∧ Hid (Sort.scanDown (fun x => !lI x dk[a]!) dk i2 j9 = Sort.scanDown (fun x => !lI x dk[a]!) dk i2 j)) (fun jv _ => (intOf jv).toNat)
              case atStart => exact ⟨j, rfl, by omega, by omega, HR, Lib.hid rfl⟩
              case round =>
                clear HR
                obtain ⟨j9, rfl, hz1, hz2, HR, HS⟩ := hrel
                by_cases hle : i2 ≤ j9
                · have hle' : (i2 : Int) ≤ (j9 : Int) := by omega
                  obtain ⟨G, HG, hc, hf⟩ := HR.out.fam
                  go_wp2_with fail
                  go_big_quiet (first | (go_at_call 84; refine Calls.quiet_of_same (less_calls _ _ _)))
                  have HR2 := Lib.hid (HR.out.drewN nq)
                  generalize wr.drewN nq = W9 at HR2 ⊢
                  clear hc hf HR
                  go_upto_if 129 with fail
                  cases hl : lI (G j9) (G a)
                  · go_wp2_with fail
                    go_roundw
                    case rel => exact ⟨j9 - 1, by congr 1; omega, by omega, by omega, HR2, Lib.hid (by rw [← sDn_on (by omega) hle (by show (!lI dk[j9]! dk[a]!) = true; rw [← HG.out, ← HG.out, hl]; first | done | rfl)]; exact HS.out)⟩
                    case measure => simp [intOf]; omega
                  · go_wp2_with fail
                    go_meet
                    case rel => exact ⟨j9, rfl, hz1, hz2, HR2, Lib.hid (by rw [← HS.out]; exact sDn_off (fun _ => by show (!lI dk[j9]! dk[a]!) = false; rw [← HG.out, ← HG.out, hl]; first | done | rfl))⟩
                · have hle' : decide ((i2 : Int) ≤ (j9 : Int)) = false := decide_eq_false (by omega)
                  have hle2 : ¬ (i2 : Int) ≤ (j9 : Int) := by omega
                  go_wp2_with fail
                  go_big_quiet (first | (go_at_call 84; refine Calls.quiet_of_same (less_calls _ _ _)))
                  have HR2 := Lib.hid (HR.out.drewN nq)
                  generalize wr.drewN nq = W9 at HR2 ⊢
                  go_wp2_with fail
                  go_meet
                  case rel => exact ⟨j9, rfl, hz1, hz2, HR2, Lib.hid (by rw [← HS.out]; exact sDn_off (fun h => absurd h hle))⟩
            case rest =>
              clear HR
              obtain ⟨j2, rfl, hd1, hd2, HR, HD⟩ := hcut
              by_cases hgt : i2 > j2
              · have hgt' : (j2 : Int) < (i2 : Int) := by omega
                have HZ : Hid ((j2, dk) = Y) := Lib.hid (by rw [← HY.out, plp_hit HU.out HD.out hgt])
                have HZ2 : Hid ((j2, false, Sort.swp dk j2 a) = X) := Lib.hid (by rw [← HYX.out, ← HZ.out])
                obtain ⟨G, HG, hc, hf⟩ := HR.out.fam
                have HS := Lib.hid (HR.out.swap HG j2 a (by omega) (by omega))
                obtain ⟨u2, hu2⟩ := HR.out.snd j2 a (by omega) (.int .u64 (G a))
                clear HR
                go_upto_region 21 with fail
                go_region
                all_goals
                  generalize ((wc.setCell ⟨blk, off + j2, none⟩ (.int .u64 (G a))).setCell ⟨blk, off + a, none⟩ (.int .u64 (G j2))).drew = W7 at HS ⊢
                clear hc hf hu2
                go_wp2_with fail
                go_ret2
                exact ⟨by rw [← HZ2.out]; rfl, by rw [← HZ2.out]; exact HS.out⟩
              · have hgt' : ¬ (j2 : Int) < (i2 : Int) := by omega
                have HZ : Hid (Sort.partLoop lI a (i2 + 1) (j2 - 1) (Sort.swp dk i2 j2) = Y) := Lib.hid (by rw [← plp_on HU.out HD.out hgt]; exact HY.out)
                obtain ⟨G, HG, hc, hf⟩ := HR.out.fam
                have HS := Lib.hid (HR.out.swap HG i2 j2 (by omega) (by omega))
                obtain ⟨u2, hu2⟩ := HR.out.snd i2 j2 (by omega) (.int .u64 (G j2))
                clear HR
                go_upto_region 18 with fail
                go_region
                all_goals
                  generalize ((wc.setCell ⟨blk, off + i2, none⟩ (.int .u64 (G j2))).setCell ⟨blk, off + j2, none⟩ (.int .u64 (G i2))).drew = W7 at HS ⊢
                clear hc hf hu2
                go_wp2_with fail
                go_roundw
                case rel => exact ⟨i2 + 1, j2 - 1, Sort.swp dk i2 j2, by go_num, by congr 1; omega, by omega, by omega, by omega, by omega, HS, HZ⟩
                case measure => simp [intOf]; omega
end Go.Proofs.Ytplnmjdafchjbaa
