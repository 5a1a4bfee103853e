/- Merged texts: SrtH SrtI. -/
import Derived.Test.YtplnmjdafchjbaaMba
import Derived.Test.YtplnmjdafchjbaaMbb
import Derived.Test.YtplnmjdafchjbaaMbc
import Derived.Test.YtplnmjdafchjbaaMbd
import Derived.Test.YtplnmjdafchjbaaMbe
import Derived.Test.YtplnmjdafchjbaaMbf
import Derived.Test.YtplnmjdafchjbaaMaw
/- Sorting numbers of 64 bits: pdqsortOrdered, Sort. -/
namespace Go.Proofs.Ytplnmjdafchjbaa
open Go.RowKit
set_option linter.unusedVariables false
set_option linter.unusedSimpArgs false

/-- The loop's state: what is left to be sorted, and what it is good for. -/
def St (w0 : World) (blk off n a b : Nat) (d : Array Int) (a' b' : Nat) (dk : Array Int) (W : World) : Prop :=
  Rw w0 blk off n dk W ∧ Sort.Below lI a' b' dk ∧ ∀ R, Sort.PermIn a' b' dk R → Sort.SortedIn lI a' b' R → Sort.PermIn a b d R ∧ Sort.SortedIn lI a b R
section
variable {w0 W W1 : World} {blk off n a b a' b' : Nat} {d dk d1 : Array Int}
set_option maxRecDepth 100000 in
theorem St.step (h : St w0 blk off n a b d a' b' dk W) (hb : b' ≤ n) (hp : Sort.PermIn a' b' dk d1) (h1 : Rw w0 blk off n d1 W1) : St w0 blk off n a b d a' b' d1 W1 :=
  ⟨h1, h.2.1.perm (by rw [h.1.1]; exact hb) hp, fun R k1 k2 => h.2.2 R (Sort.permIn_trans _ _ _ a' b' hp k1) k2⟩
set_option maxRecDepth 100000 in
theorem St.world (h : St w0 blk off n a b d a' b' dk W) (h1 : Rw w0 blk off n dk W1) : St w0 blk off n a b d a' b' dk W1 := ⟨h1, h.2⟩
end
set_option maxRecDepth 1000000 in
set_option maxHeartbeats 16000000 in
theorem pdq_all : ∀ (N : Nat) (w0 W : World) (blk off n cap a b limit : Nat) (d : Array Int), b - a < N → Rw w0 blk off n d W → a ≤ b → b ≤ n → n ≤ 1000000 → limit ≤ 1000000 → Sort.Below lI a b d →
    Calls Try.prog 47 #[.slice (some ⟨blk, off, none⟩) n cap, .int .i64 a, .int .i64 b, .int .i64 limit] W fun e w' => e = .returned (.tuple #[]) ∧ ∃ R, Rw w0 blk off n R w' ∧ Sort.PermIn a b d R ∧ Sort.SortedIn lI a b R := by
  intro N
  induction N with
  | zero => intro _ _ _ _ _ _ _ _ _ _ h; exact absurd h (Nat.not_lt_zero _)
  | succ N ih =>
    intro w0 W blk off n cap a b limit d hN hR hab hb hn hlim hbel
    have IH := Lib.hid ih
    have HT : Hid (St w0 blk off n a b d a b d W) := Lib.hid ⟨hR, hbel, fun R h1 h2 => ⟨h1, h2⟩⟩
    clear ih hR hbel
    go_enter Try.func47, Try.ntmps47
    go_wp2
    go_loopw [1, 2, 3, 8, 9] (fun av bv lv wbv wpv wr => ∃ (a' b' lim : Nat) (wb wp : Bool) (dk : Array Int), av = .int .i64 (a' : Int) ∧ bv = .int .i64 (b' : Int) ∧ lv = .int .i64 (lim : Int) ∧ wbv = .bool wb ∧ wpv = .bool wp ∧
      a' ≤ b' ∧ b' ≤ n ∧ b' - a' ≤ b - a ∧ lim ≤ 1000000 ∧ Hid (St w0 blk off n a b d a' b' dk wr)) (fun av bv _ _ _ _ => (intOf bv).toNat - (intOf av).toNat)
    case atStart => exact ⟨a, b, limit, true, true, d, rfl, rfl, rfl, rfl, rfl, hab, hb, Nat.le_refl _, hlim, HT⟩
    case round =>
      clear HT
      obtain ⟨a', b', lim, wb, wp, dk, rfl, rfl, rfl, rfl, rfl, hab', hb', hl, hlim', HT⟩ := hrel
      obtain ⟨l, hl0⟩ : ∃ z, z = b' - a' := ⟨_, rfl⟩
      have e1 : (b' : Int) - (a' : Int) = (l : Int) := by omega
      have HL := Lib.hid hl0
      by_cases h12 : l ≤ 12
      · have h12' : (l : Int) ≤ 12 := by omega
        have CI := Lib.hid (ins_says w0 wr blk off n cap a' b' dk HT.out.1 hab' hb' hn)
        clear hl0
        go_wp2_with (first
          | (go_at_call 78; refine CI.out.mono ?_; rintro e' w1 ⟨rfl, hR1⟩; have HR1 := Lib.hid hR1; clear hR1))
        (try simp only [Exit.inBlock, Exit.then])
        refine bodyPost_ret (results_none rfl _ _ _) rfl ?_
        have hi := Sort.insertionSort_holds swo_lI dk a' b' hab' (by rw [HT.out.1.1]; exact hb')
        exact ⟨rfl, _, HR1.out, HT.out.2.2 _ hi.1 hi.2⟩
      · have h12' : ¬ (l : Int) ≤ 12 := by omega
        have hlt : a' + 12 < b' := by omega
        by_cases hz : lim = 0
        · subst hz
          have CI := Lib.hid (heap_says w0 wr blk off n cap a' b' dk HT.out.1 (by omega) hb' hn)
          clear hl0
          go_wp2_with (first
            | (go_at_call 79; refine CI.out.mono ?_; rintro e' w1 ⟨rfl, hR1⟩; have HR1 := Lib.hid hR1; clear hR1))
          (try simp only [Exit.inBlock, Exit.then])
          refine bodyPost_ret (results_none rfl _ _ _) rfl ?_
          have hi := Sort.heapSort_holds swo_lI dk a' b' hab' (by rw [HT.out.1.1]; exact hb')
          exact ⟨rfl, _, HR1.out, HT.out.2.2 _ hi.1 hi.2⟩
        · have hz' : ¬ (lim : Int) = 0 := by omega
          obtain ⟨q8, hq8⟩ : ∃ z, z = l / 8 := ⟨_, rfl⟩
          have e8 : (l : Int) / 8 = (q8 : Int) := by omega
          have e8' : (l : Int).tdiv 8 = (q8 : Int) := by
            rw [hq8]
            exact (Int.ofNat_tdiv l 8).symm
          have hlb : l ≤ 1000000 := by omega
          clear hq8 hl0
          go_upto_if 35 with fail
          go_cut [3] from 19 (fun lv wx => ∃ (lim : Nat) (d1 : Array Int), lv = .int .i64 (lim : Int) ∧ lim ≤ 1000000 ∧ Hid (St w0 blk off n a b d a' b' d1 wx))
          case first =>
            cases wb
            · have CI := Lib.hid (brk_says w0 wr blk off n cap a' b' dk HT.out.1 hlt hb' hn)
              obtain ⟨lm, hlm⟩ : ∃ z, z = lim - 1 := ⟨_, rfl⟩
              have e2 : (lim : Int) - 1 = (lm : Int) := by omega
              have hlm' : lm ≤ 1000000 := by omega
              clear hlm
              go_wp2_with (first
                | (go_at_call 80; refine CI.out.mono ?_; rintro e' w1 ⟨rfl, hR1⟩; have HR1 := Lib.hid hR1; clear hR1))
              go_meet
              case rel => exact ⟨lm, _, rfl, hlm', Lib.hid (HT.out.step hb' (Sort.breakPatterns_holds dk a' b' hab' (by rw [HT.out.1.1]; exact hb')) HR1.out)⟩
            · go_wp2_with fail
              go_meet
              case rel => exact ⟨lim, dk, rfl, hlim', HT⟩
          case rest =>
            clear HT hz hz'
            obtain ⟨lm, d1, rfl, hlm, HT⟩ := hcut
            have CP := Lib.hid (piv_says w0 wc blk off n cap a' b' d1 HT.out.1 hlt hb' hn)
            have hpr := Sort.choosePivot_holds lI d1 a' b' (by omega)
            obtain ⟨p, hp⟩ : ∃ z, z = (Sort.choosePivot lI d1 a' b').1 := ⟨_, rfl⟩
            obtain ⟨z, hzz⟩ : ∃ z, z = Sort.hintCode (Sort.choosePivot lI d1 a' b').2 := ⟨_, rfl⟩
            rw [← hp] at hpr
            rw [← hp, ← hzz] at CP
            clear hp hzz
            go_upto_if 50 with (first
              | (go_at_call 81; refine CP.out.mono ?_; rintro e' w1 ⟨rfl, hR1⟩; have HT1 : Hid (St w0 blk off n a b d a' b' d1 w1) := Lib.hid (HT.out.world hR1); clear hR1))
            go_cut [11, 12] from 19 (fun pv hv wx => ∃ (p : Nat) (z : Int) (d2 : Array Int), pv = .int .i64 (p : Int) ∧ hv = .int .i64 z ∧ a' ≤ p ∧ p < b' ∧ Hid (St w0 blk off n a b d a' b' d2 wx))
            case first =>
              by_cases h2 : z = 2
              · subst h2
                have CR := Lib.hid (rev_says w0 w1 blk off n cap a' b' d1 HT1.out.1 hlt hb' hn)
                obtain ⟨b1, hb1⟩ : ∃ z, z = b' - 1 := ⟨_, rfl⟩
                obtain ⟨pa, hpa⟩ : ∃ z, z = p - a' := ⟨_, rfl⟩
                obtain ⟨p2, hp2⟩ : ∃ z, z = b1 - pa := ⟨_, rfl⟩
                have e2 : (b' : Int) - 1 = (b1 : Int) := by omega
                have e3 : (p : Int) - (a' : Int) = (pa : Int) := by omega
                have e4 : (b1 : Int) - (pa : Int) = (p2 : Int) := by omega
                have hp2' : a' ≤ p2 ∧ p2 < b' := by omega
                clear hb1 hpa hp2
                go_wp2_with (first
                  | (go_at_call 82; refine CR.out.mono ?_; rintro e' w2 ⟨rfl, hR2⟩; have HR2 := Lib.hid hR2; clear hR2))
                go_meet
                case rel => exact ⟨p2, 1, _, rfl, rfl, hp2'.1, hp2'.2, Lib.hid (HT1.out.step hb' (Sort.reverseRange_holds d1 a' b' hab' (by rw [HT1.out.1.1]; exact hb')) HR2.out)⟩
              · go_wp2_with fail
                go_meet
                case rel => exact ⟨p, z, d1, rfl, rfl, hpr.1, hpr.2, HT1⟩
            case rest =>
              clear HT1 HT CP hpr p z
              obtain ⟨p, z, d2, rfl, rfl, hp1, hp2, HT⟩ := hcut
              go_upto_region 15 with fail
              go_cut [12, 68] from 19 (fun hv tv wx => ∃ B : Bool, hv = .int .i64 z ∧ tv = .bool B ∧ wx = wc)
              case first =>
                cases wb <;> cases wp <;> by_cases h1 : z = 1 <;>
                  (try subst h1
                   go_wp2_with fail
                   go_meet
                   exact ⟨_, rfl, rfl, rfl⟩)
              case rest =>
                obtain ⟨B, rfl, rfl, rfl⟩ := hcut
                go_upto_if 68 with fail
                go_cut [] from 19 (fun wx => ∃ d3 : Array Int, Hid (St w0 blk off n a b d a' b' d3 wx))
                case first =>
                  cases B
                  · go_wp2_with fail
                    go_meet
                    case rel => exact ⟨d2, HT⟩
                  · have CR := Lib.hid (par_says w0 wc blk off n cap a' b' d2 HT.out.1 (by omega) hb' hn)
                    have hi := Lib.hid (Sort.partialInsertionSort_holds swo_lI d2 a' b' (by omega) (by rw [HT.out.1.1]; exact hb') HT.out.2.1)
                    obtain ⟨d3, r, hx⟩ : ∃ d3 r, Sort.partialInsertionSort lI d2 a' b' = (d3, r) := ⟨_, _, rfl⟩
                    rw [hx] at CR hi
                    clear hx
                    cases r
                    · go_wp2_with (first
                        | (go_at_call 83; refine CR.out.mono ?_; rintro e' w2 ⟨rfl, hR2⟩; have HR2 := Lib.hid hR2; clear hR2))
                      go_meet
                      case rel => exact ⟨d3, Lib.hid (HT.out.step hb' hi.out.1 HR2.out)⟩
                    · go_wp2_with (first
                        | (go_at_call 83; refine CR.out.mono ?_; rintro e' w2 ⟨rfl, hR2⟩; have HR2 := Lib.hid hR2; clear hR2))
                      (try simp only [Exit.inBlock, Exit.then])
                      refine bodyPost_ret (results_none rfl _ _ _) rfl ?_
                      exact ⟨rfl, d3, HR2.out, HT.out.2.2 _ hi.out.1 (hi.out.2 (by first | rfl | trivial))⟩
                case rest =>
                  clear HT
                  obtain ⟨d3, HT⟩ := hcut
                  go_upto_region 17 with fail
                  go_cut [87] from 19 (fun tv wx => ∃ B : Bool, tv = .bool B ∧ Hid (B = true → 0 < a' ∧ lI d3[a' - 1]! d3[p]! = false) ∧ Hid (St w0 blk off n a b d a' b' d3 wx))
                  case first =>
                    obtain ⟨G, HG, hc, hf⟩ := HT.out.1.fam
                    rcases Nat.eq_zero_or_pos a' with ha0 | ha0
                    · have ha0z : decide ((0 : Int) < (a' : Int)) = false := decide_eq_false (by omega)
                      have ha0y : decide (0 < a') = false := decide_eq_false (by omega)
                      clear ha0
                      go_big_quiet (first | (go_at_call 84; refine Calls.quiet_of_same (less_calls _ _ _)))
                      have HT2 : Hid (St w0 blk off n a b d a' b' d3 (wc.drewN nq)) := Lib.hid (HT.out.world (HT.out.1.drewN nq))
                      generalize wc.drewN nq = W2 at HT2 ⊢
                      go_wp2_with fail
                      go_meet
                      case rel => exact ⟨false, rfl, Lib.hid (fun h => by cases h), HT2⟩
                    · have ha0z : (0 : Int) < (a' : Int) := by omega
                      obtain ⟨a1, ha1⟩ : ∃ z, z = a' - 1 := ⟨_, rfl⟩
                      have e2 : (a' : Int) - 1 = (a1 : Int) := by omega
                      have ha1n : a1 < n := by omega
                      have HA := Lib.hid ha1
                      clear ha1
                      have hpn : p < n := by omega
                      go_big_quiet (first | (go_at_call 84; refine Calls.quiet_of_same (less_calls _ _ _)))
                      have HT2 : Hid (St w0 blk off n a b d a' b' d3 (wc.drewN nq)) := Lib.hid (HT.out.world (HT.out.1.drewN nq))
                      generalize wc.drewN nq = W2 at HT2 ⊢
                      go_wp2_with fail
                      go_meet
                      case rel => exact ⟨_, rfl, Lib.hid (fun h => ⟨ha0, by
                        rw [← HA.out, ← HG.out, ← HG.out]
                        simpa using h⟩), HT2⟩
                  case rest =>
                    clear HT
                    obtain ⟨B, rfl, HB, HT⟩ := hcut
                    have hsz := HT.out.1.1
                    cases B
                    · have CR := Lib.hid (prt_says w0 wc blk off n cap a' b' p d3 HT.out.1 hp1 hp2 hb' hn)
                      obtain ⟨mid, ap, d4, hx⟩ : ∃ mid ap d4, Sort.partition lI d3 a' b' p = (mid, ap, d4) := ⟨_, _, _, rfl⟩
                      obtain ⟨r1, r2, r3, r4, r5, r6, r7⟩ := Sort.round_part swo_lI (Sort.partition_holds lI) hp1 hp2 (show b' ≤ d3.size by omega) HT.out.2.1 hx
                      rw [hx] at CR
                      have H4 := Lib.hid r4
                      have H5 := Lib.hid r5
                      have H6 := Lib.hid r6
                      have H7 := Lib.hid r7
                      clear hx r3 r4 r5 r6 r7 hsz HB
                      obtain ⟨lx, hlx⟩ : ∃ z, z = mid - a' := ⟨_, rfl⟩
                      obtain ⟨rx, hrx⟩ : ∃ z, z = b' - mid := ⟨_, rfl⟩
                      have e2 : (mid : Int) - (a' : Int) = (lx : Int) := by omega
                      have e3 : (b' : Int) - (mid : Int) = (rx : Int) := by omega
                      obtain ⟨m1, hm1⟩ : ∃ z, z = mid + 1 := ⟨_, rfl⟩
                      have e4 : (mid : Int) + 1 = (m1 : Int) := by omega
                      have hm : m1 ≤ b' ∧ mid < m1 := by omega
                      have HM := Lib.hid hm1
                      rw [← hm1] at H5 H6 H7
                      have hml := HL.out
                      by_cases h4 : lx < rx
                      · have h4' : (lx : Int) < (rx : Int) := by omega
                        have CI := Lib.hid (fun (w7 : World) (h : Rw w0 blk off n d4 w7) => IH.out w0 w7 blk off n cap a' mid lm d4 (by omega) h r1 (by omega) hn hlm H4.out)
                        have hk : b' - m1 ≤ b - a ∧ b' - m1 < b' - a' := by omega
                        clear hlx hrx hm1 hml
                        go_upto_region 26 with (first
                          | (go_at_call 86; refine CR.out.mono ?_; rintro e' w7 ⟨rfl, hR7⟩; have D7 := Lib.hid (CI.out _ hR7); clear hR7 CI CR))
                        go_wp2_with (first
                          | (go_at_call 47; refine D7.out.mono ?_; rintro e' w8 ⟨rfl, L, hR8⟩; have HR8 := Lib.hid hR8; clear hR8))
                        go_roundw
                        case rel => exact ⟨m1, b', lm, _, _, L, rfl, rfl, rfl, rfl, rfl, hm.1, hb', hk.1, hlm, Lib.hid ⟨HR8.out.1, (H6.out L HR8.out.2.1 HR8.out.2.2).1, fun R k1 k2 => HT.out.2.2 R ((H6.out L HR8.out.2.1 HR8.out.2.2).2 R k1 k2).1 ((H6.out L HR8.out.2.1 HR8.out.2.2).2 R k1 k2).2⟩⟩
                        case measure => simp [intOf]; omega
                      · have h4' : ¬ (lx : Int) < (rx : Int) := by omega
                        have CI := Lib.hid (fun (w7 : World) (h : Rw w0 blk off n d4 w7) => IH.out w0 w7 blk off n cap m1 b' lm d4 (by omega) h hm.1 hb' hn hlm H5.out)
                        have hk : mid - a' ≤ b - a ∧ mid - a' < b' - a' := by omega
                        clear hlx hrx hm1 hml
                        go_upto_region 29 with (first
                          | (go_at_call 86; refine CR.out.mono ?_; rintro e' w7 ⟨rfl, hR7⟩; have D7 := Lib.hid (CI.out _ hR7); clear hR7 CI CR))
                        go_wp2_with (first
                          | (go_at_call 47; refine D7.out.mono ?_; rintro e' w8 ⟨rfl, L, hR8⟩; have HR8 := Lib.hid hR8; clear hR8))
                        go_roundw
                        case rel => exact ⟨a', mid, lm, _, _, L, rfl, rfl, rfl, rfl, rfl, r1, by omega, hk.1, hlm, Lib.hid ⟨HR8.out.1, (H7.out L HR8.out.2.1 HR8.out.2.2).1, fun R k1 k2 => HT.out.2.2 R ((H7.out L HR8.out.2.1 HR8.out.2.2).2 R k1 k2).1 ((H7.out L HR8.out.2.1 HR8.out.2.2).2 R k1 k2).2⟩⟩
                        case measure => simp [intOf]; omega
                    · have hB := HB.out rfl
                      have CR := Lib.hid (peq_says w0 wc blk off n cap a' b' p d3 HT.out.1 hp1 hp2 hb' hn)
                      obtain ⟨mid, d4, hx⟩ : ∃ mid d4, Sort.partitionEqual lI d3 a' b' p = (mid, d4) := ⟨_, _, rfl⟩
                      obtain ⟨r1, r2, r3, r4, r5⟩ := Sort.round_eq swo_lI (Sort.partitionEqual_holds lI) hB.1 hp1 hp2 (show b' ≤ d3.size by omega) HT.out.2.1 hB.2 hx
                      rw [hx] at CR
                      have H4 := Lib.hid r4
                      have H5 := Lib.hid r5
                      have hk : b' - mid ≤ b - a ∧ b' - mid < b' - a' := by omega
                      clear hx r3 r4 r5 hsz HB hB
                      go_wp2_with (first
                        | (go_at_call 85; refine CR.out.mono ?_; rintro e' w7 ⟨rfl, hR7⟩; have HR7 := Lib.hid hR7; clear hR7))
                      go_roundw
                      case rel => exact ⟨mid, b', lm, wb, wp, d4, rfl, rfl, rfl, rfl, rfl, r2, hb', hk.1, hlm, Lib.hid ⟨HR7.out, H4.out, fun R k1 k2 => HT.out.2.2 R (H5.out R k1 k2).1 (H5.out R k1 k2).2⟩⟩
                      case measure => simp [intOf]; omega
set_option maxRecDepth 100000 in
theorem pdq_says : PdqSays := fun w0 W blk off n cap a b limit d h1 h2 h3 h4 h5 h6 => pdq_all (b - a + 1) w0 W blk off n cap a b limit d (by omega) h1 h2 h3 h4 h5 h6
end Go.Proofs.Ytplnmjdafchjbaa

/- Sorting numbers of 64 bits: Sort, told over lists of numbers; BinarySearch. -/
namespace Go.Proofs.Ytplnmjdafchjbaa
open Go.RowKit
set_option linter.unusedVariables false
set_option linter.unusedSimpArgs false

set_option maxRecDepth 100000 in
theorem Rw.bel {w0 W : World} {blk off n : Nat} {d : Array Int} (h : Rw w0 blk off n d W) (B : Nat) (hB : B ≤ blk) : Below B w0 W := by
  obtain ⟨h1, h2, h3, m, os, rfl⟩ := h
  refine ⟨rfl, rfl, rfl, ?_, fun k hk => ?_⟩
  · rw [Sort.size_grow, Sort.size_putRow]
    exact Nat.le_add_right _ _
  · rw [Sort.heap_grow_old _ os (by rw [Sort.size_putRow]; show k < w0.heap.size; omega)]
    simp only [Sort.putRow, Sort.mapBlock, Sort.ahead, Array.getElem?_modify]
    rw [if_neg (by omega)]
set_option maxRecDepth 100000 in
/-- A row of numbers, and what it is when sorted. -/
theorem sorted_is {N : List Nat} {R : Array Int} {n : Nat} (hl : N.length = n) (hR : R.size = n) (hp : Sort.PermIn 0 n (N.map Int.ofNat).toArray R) (hs : Sort.SortedIn lI 0 n R) :
    ∀ j (h : j < (sortN N).length), R[j]! = (((sortN N)[j] : Nat) : Int) := by
  have hp2 : R.toList.Perm (N.map Int.ofNat) := by
    have := hp.2.2
    rw [Array.extract_eq_self_of_le (by omega), Array.extract_eq_self_of_le (by simp; omega)] at this
    simpa using this
  have hpos : ∀ z ∈ R.toList, 0 ≤ z := fun z hz => by
    obtain ⟨y, _, rfl⟩ := List.mem_map.1 (hp2.mem_iff.1 hz)
    exact Int.natCast_nonneg y
  have hM : (R.toList.map Int.toNat).Perm N := by
    have := hp2.map Int.toNat
    rw [List.map_map] at this
    have e : (Int.toNat ∘ Int.ofNat) = id := by
      funext x
      simp
    rwa [e, List.map_id] at this
  have hasc : Asc (R.toList.map Int.toNat) := by
    unfold Asc
    rw [List.pairwise_iff_getElem]
    intro i j hi hj hij
    simp only [List.length_map, Array.length_toList] at hi hj
    simp only [List.getElem_map, Array.getElem_toList]
    have h1 := hs i j (Nat.zero_le _) hij (by omega)
    rw [getElem!_pos R j (by omega), getElem!_pos R i (by omega)] at h1
    have h2 : ¬ R[j] < R[i] := by simpa [lI, Sort.ltInt] using h1
    omega
  have heq : R.toList.map Int.toNat = sortN N := asc_eq (hM.trans (sort_perm N).symm) hasc (sort_asc N)
  intro j h
  have hj : j < R.size := by
    rw [← heq] at h
    simpa using h
  rw [getElem!_pos R j hj]
  have e : (sortN N)[j] = (R[j]).toNat := by
    simp only [← heq, List.getElem_map, Array.getElem_toList]
  rw [e, Int.toNat_of_nonneg (hpos _ (by rw [← Array.getElem_toList (h := hj)]; exact List.getElem_mem _))]
set_option maxRecDepth 100000 in
set_option maxHeartbeats 2000000 in
theorem sort_calls (w : World) (b off n cap : Nat) (N : List Nat) (hl : N.length = n) (hn : n ≤ 1000000) (hb : b < w.heap.size) (hc : ∀ j (h : j < N.length), w.cell? ⟨b, off + j, none⟩ = some (.int .u64 (N[j] : Int)) ∧ w.frozen? ⟨b, off + j, none⟩ = false) (h64 : ∀ x ∈ N, x < 18446744073709551616) :
    Calls Try.prog 22 #[.slice (some ⟨b, off, none⟩) n cap] w fun e w' => e = .returned (.tuple #[]) ∧ RdN w' (some ⟨b, off, none⟩) n (sortN N) ∧ ∀ B, B ≤ b → Below B w w' := by
  have hH : Sort.Holds eU w b off (N.map Int.ofNat).toArray := fun j hj => by
    have hj' : j < N.length := by simpa using hj
    have e : (N.map Int.ofNat).toArray[j]! = ((N[j] : Nat) : Int) := by
      rw [getElem!_pos _ j hj]
      simp
    rw [e]
    exact hc j hj'
  have hR : Rw w b off n (N.map Int.ofNat).toArray w := by
    have h := Rw.start hH hb
    have e : (N.map Int.ofNat).toArray.size = n := by simpa using hl
    rw [e] at h
    exact h
  have hlim : Sort.bitsLen n ≤ 1000000 := by
    have := (Sort.bitsLen_le_iff n 62).2 (by omega)
    omega
  have CP := Lib.hid (pdq_says w w b off n cap 0 n (Sort.bitsLen n) _ hR (Nat.zero_le _) (Nat.le_refl _) hn hlim (.inl rfl))
  obtain ⟨k, hk⟩ : ∃ k, k = Sort.bitsLen n := ⟨_, rfl⟩
  have CB := Lib.hid (blen_calls n w hn)
  have u1 : IntKind.u64.wrap (n : Int) = (n : Int) := by rw [IntKind.wrap_u64]; omega
  rw [← hk] at CP CB
  have e0 : ((0 : Nat) : Int) = 0 := rfl
  rw [e0] at CP
  have H64 := Lib.hid h64
  have HB := Lib.hid hb
  have HL := Lib.hid hl
  clear hH hR hlim hk e0 hc h64 hb
  go_enter Try.func22, Try.ntmps22
  go_wp2_with (first
    | (go_at_call 48; refine CB.out.mono ?_; rintro e' w1 ⟨rfl, rfl⟩)
    | (go_at_call 47; refine CP.out.mono ?_; rintro e' w1 ⟨rfl, R, hR1⟩; have HR1 := Lib.hid hR1; clear hR1))
  go_end0
  obtain ⟨h1, h2, h3⟩ := HR1.out
  have hsl : (sortN N).length = n := by rw [(sort_perm N).length_eq, HL.out]
  refine ⟨rfl, ⟨hsl, fun _ => ⟨b, off, rfl, h1.holds.2, fun j hj => ⟨?_, H64.out _ ((sort_perm N).mem_iff.1 (List.getElem_mem hj))⟩⟩⟩, fun B hB => h1.bel B hB⟩
  rw [(h1.holds.1 j (by rw [h1.1]; omega)).1, sorted_is HL.out h1.1 h2 h3 j hj]
  rfl
set_option maxRecDepth 100000 in
set_option maxHeartbeats 2000000 in
theorem ins0_calls (w : World) (A : Option Addr) (c : Nat) : Calls Try.prog 78 #[.slice A 0 c, .int .i64 0, .int .i64 0] w fun e w' => e = .returned (.tuple #[]) ∧ w' = w := by
  go_enter Try.func78, Try.ntmps78
  go_wp2
  go_loopw [6] (fun vi wr => vi = .int .i64 1 ∧ wr = w) (fun vi _ => 0)
  case atStart => exact ⟨by first | rfl | go_num, rfl⟩
  case round =>
    obtain ⟨rfl, rfl⟩ := hrel
    go_wp2
    go_end0
    exact ⟨rfl, rfl⟩
set_option maxRecDepth 100000 in
set_option maxHeartbeats 2000000 in
theorem pdq0_calls (w : World) (A : Option Addr) (c : Nat) (z : Int) : Calls Try.prog 47 #[.slice A 0 c, .int .i64 0, .int .i64 0, .int .i64 z] w fun e w' => e = .returned (.tuple #[]) ∧ w' = w := by
  go_enter Try.func47, Try.ntmps47
  go_wp2
  go_loopw [1, 2] (fun av bv wr => av = .int .i64 0 ∧ bv = .int .i64 0 ∧ wr = w) (fun _ _ _ => 0)
  case atStart => exact ⟨rfl, rfl, rfl⟩
  case round =>
    obtain ⟨rfl, rfl, rfl⟩ := hrel
    go_wp2_with (first
      | (go_at_call 78; refine (ins0_calls _ _ _).mono ?_; rintro e' w1 ⟨rfl, rfl⟩))
    (try simp only [Exit.inBlock, Exit.then])
    refine bodyPost_ret (results_none rfl _ _ _) rfl ?_
    exact ⟨rfl, rfl⟩
set_option maxRecDepth 100000 in
set_option maxHeartbeats 2000000 in
theorem sort0_calls (w : World) (A : Option Addr) (c : Nat) : Calls Try.prog 22 #[.slice A 0 c] w fun e w' => e = .returned (.tuple #[]) ∧ w' = w := by
  have CB := Lib.hid (blen_calls 0 w (by omega))
  obtain ⟨k, hk⟩ : ∃ k : Int, k = (Sort.bitsLen 0 : Nat) := ⟨_, rfl⟩
  rw [← hk] at CB
  have e0 : ((0 : Nat) : Int) = 0 := rfl
  rw [e0] at CB
  clear hk e0
  go_enter Try.func22, Try.ntmps22
  go_wp2_with (first
    | (go_at_call 48; refine CB.out.mono ?_; rintro e' w1 ⟨rfl, rfl⟩)
    | (go_at_call 47; refine (pdq0_calls _ _ _ _).mono ?_; rintro e' w1 ⟨rfl, rfl⟩))
  go_end0
  exact ⟨rfl, rfl⟩
end Go.Proofs.Ytplnmjdafchjbaa
