/- Merged texts: GcsQ. -/
import Derived.Test.YtplnmjdafchjbaaMbl
import Derived.Deep.RegionHeld3
import Derived.Deep.CutRange
import Derived.Deep.DeepCutAuto
/- The walk of GcsMatches, over what package gcs is to answer. -/
namespace Go.Proofs.Ytplnmjdafchjbaa
open Go.RowKit
set_option linter.unusedVariables false
set_option linter.unusedSimpArgs false
set_option maxRecDepth 100000 in
set_option maxHeartbeats 4000000 in
theorem gcsMatches_walk (K : GcsOk) (k l : Nat) (hk64 : k < 2 ^ 64) (hl64 : l < 2 ^ 64) (A : Option Addr) (n c : Nat) (L : List (List UInt8)) (w : World) (w1 : RdM w A n L ∧ n ≤ c ∧ c ≤ maxLen) : Calls Try.prog 5 #[.agg #[.int .u64 (k : Int), .int .u64 (l : Int)], .slice A n c] w (Ret w (.bool true)) := by
  obtain ⟨hr, hnc, hcm⟩ := w1
  have hln := hr.len
  have HCM := Lib.hid hcm
  have hk0 : Blk (w.alloc (.cells #[.int .u64 (k : Int), .int .u64 (l : Int)] 23)) w.heap.size [.int .u64 (k : Int), .int .u64 (l : Int)] 23 := Blk.new w _ _
  obtain ⟨w0, hw0⟩ : ∃ z, z = w.alloc (.cells #[.int .u64 (k : Int), .int .u64 (l : Int)] 23) := ⟨_, rfl⟩
  have hB0 : Below w.heap.size w w0 := by rw [hw0]; exact below_al (Below.refl _ w) _
  have hs0 : w0.heap.size = w.heap.size + 1 := by rw [hw0]; simp
  rw [← hw0] at hk0
  have HW0 := Lib.hid hw0
  have HB0 := Lib.hid hB0
  have hr0 : RdM w0 A n L := hr.below hB0
  have CS : Hid (∀ W, Below w0.heap.size w0 W → Calls Try.prog 9 #[.slice A n c] W (Ret W (.bool (sml L)))) := Lib.hid fun W hb => gsmall_calls A n c L W (hr0.below hb) (by omega)
  have CA : Hid (∀ W, Calls Try.prog 10 #[] W (Ret W (.bool true))) := Lib.hid fun W => awake13_calls K W
  by_cases hs : sml L = false
  · rw [hs] at CS
    clear hr hr0 hk0 hw0 hB0
    go_enter Try.func5, Try.ntmps5
    go_upto_region 1 with fail
    rw [← HW0.out]
    go_wp2_with (first
      | (go_at_call 9; refine (CS.out _ (Below.refl _ _)).mono ?_; rintro e' x1 ⟨rfl, hB1⟩)
      | (go_at_call 10; refine (CA.out _).mono ?_; rintro e' x2 ⟨rfl, hB2⟩))
    go_ret
    exact ⟨rfl, below_more HB0.out (below_more hB1 hB2)⟩
  have hs : sml L = true := by simpa using hs
  obtain ⟨h20, h100⟩ := sml_yes hs
  have hn20 : n ≤ 20 := by omega
  have ho : (once L).length ≤ 1000 := by have := once_len L; omega
  rw [hs] at CS
  obtain ⟨V, hV⟩ : ∃ z, z = filt k l L := ⟨_, rfl⟩
  have hVl : V.length ≤ 10000 := by rw [hV]; exact filt_len k l L hk64 hl64 ho
  have hv2 : (vals V).2 = 0 := by rw [hV, vals_filt k l L hk64 hl64 ho]
  have CG : Hid (∀ W, Below w0.heap.size w0 W → Calls Try.prog 11 #[.agg #[.int .u64 (k : Int), .int .u64 (l : Int)], .slice A n c] W fun e w' => ∃ A' n' c', e = .returned (.tuple #[.slice A' n' c', .int .i64 0]) ∧ Rd w' A' n' V ∧ n' ≤ c' ∧ c' ≤ maxLen ∧ Below W.heap.size W w') := Lib.hid fun W hb => by
    rw [hV]
    exact K.buildR W k l A n c L hk64 hl64 (hr0.below hb) hnc hcm (by omega) (fun t ht => by have := h100 t ht; omega) ho
  have CM : Hid (∀ W A' n' c' X m d t, Rd W A' n' V → n' ≤ c' → c' ≤ maxLen → Rd W X m t → m ≤ d → d ≤ maxLen → t ∈ L → Calls Try.prog 16 #[.agg #[.int .u64 (k : Int), .int .u64 (l : Int)], .slice A' n' c', .slice X m d] W (Ret W (.tuple #[.bool true, .int .i64 0]))) := Lib.hid fun W A' n' c' X m d t h1 h2 h3 h4 h5 h6 ht => by
    have h := K.match_ W k l A' n' c' V X m d t hk64 hl64 h1 h2 h3 (by have := h1.len; omega) h4 h5 h6 (by have := h4.len; have := h100 t ht; omega)
    rw [hv2, show hit k l (vals V).1 t = true from by rw [hV]; exact hit_mem k l L t hk64 hl64 ho ht] at h
    exact h
  have CY : Hid (∀ W A' n' c', Below w0.heap.size w0 W → Rd W A' n' V → n' ≤ c' → c' ≤ maxLen → Calls Try.prog 17 #[.agg #[.int .u64 (k : Int), .int .u64 (l : Int)], .slice A' n' c', .slice A n c] W fun e w' => ∃ A2 c2, e = .returned (.tuple #[.slice A2 n c2, .int .i64 0]) ∧ Below W.heap.size W w') := Lib.hid fun W A' n' c' hb h1 h2 h3 => by
    have h := K.any W k l A' n' c' V A n c L hk64 hl64 h1 h2 h3 (by have := h1.len; omega) (hr0.below hb) hnc hcm (by omega) (fun t ht => by have := h100 t ht; omega)
    rw [hv2, show (hits k l (vals V).1 L) = List.range n from by rw [hV, hits_all k l L hk64 hl64 ho, hln]] at h
    simp only [List.length_range] at h
    refine h.mono ?_
    rintro e w' ⟨A2, c2, rfl, _, h5⟩
    exact ⟨A2, c2, rfl, h5⟩
  have HR0 := Lib.hid hr0
  have HLN := Lib.hid hln
  clear hr hr0 hB0 hs hV h20 h100 ho K hln hw0 hv2 hVl
  go_enter Try.func5, Try.ntmps5
  go_upto_region 1 with fail
  rw [← HW0.out]
  go_upto_region 3 with (first
    | (go_at_call 9; refine (CS.out _ (Below.refl _ _)).mono ?_; rintro e' x1 ⟨rfl, hB1⟩))
  have hk := blk_upG hk0 hB1
  go_upto_region 4 with (first
    | ((with_reducible refine at_load 23 (.tmp 2) ?_); refine wpList_load_mid rfl 23 (.tmp 2) rfl w.heap.size 0 (by first | rfl | (simp [Act.eval]; done)) [.int .u64 (k : Int), .int .u64 (l : Int)] _ (Blk.range hk) Try.underlying23 rfl (by kernel_rfl) ?_)
    | (go_at_call 11; refine (CG.out _ hB1).mono ?_; rintro e' x2 ⟨A5, n5, c5, rfl, hR5, hn5, hc5, hB2⟩))
  have hk := blk_upG hk hB2
  have HR5 := Lib.hid hR5
  have HC5 := Lib.hid hc5
  have HB := Lib.hid (below_more hB1 hB2)
  have HK := Lib.hid hk
  unfold maxLen at hc5 hcm
  clear hB1 hB2 hk0 CS CG hR5 hk
  go_wp2
  go_loopw [27] (fun cv wr => ∃ (i : Nat), i ≤ n ∧ cv = .int .i64 (i : Int) ∧ Below x2.heap.size x2 wr) (fun cv _ => n - (intOf cv).toNat)
  case atStart => exact ⟨0, Nat.zero_le _, rfl, Below.refl _ _⟩
  case round =>
    obtain ⟨i, hin, rfl, hbel⟩ := hrel
    have hB := below_more HB.out hbel
    have hk := blk_upG HK.out hbel
    by_cases hlt : i < n
    · have hlt' : (i : Int) < (n : Int) := by omega
      obtain ⟨b, off, A', m, c', hli, rfl, sc, h1, h2, h3⟩ := (HR0.out.below hB).at_ hlt
      have HM := Lib.hid (CM.out wr A5 n5 c5 A' m c' _ (HR5.out.below hbel) hn5 HC5.out h3 h1 h2 (List.getElem_mem hli))
      have HBL := Lib.hid hbel
      unfold maxLen at h2
      clear h3 hB hbel
      go_wp2_with (first
        | ((with_reducible refine at_load 23 (.tmp 2) ?_); refine wpList_load_mid rfl 23 (.tmp 2) rfl w.heap.size 0 (by first | rfl | (simp [Act.eval]; done)) [.int .u64 (k : Int), .int .u64 (l : Int)] _ (Blk.range hk) Try.underlying23 rfl (by kernel_rfl) ?_)
        | (go_at_call 16; refine (HM.out).mono ?_; rintro e' x3 ⟨rfl, hB3⟩))
      go_roundw
      case rel => exact ⟨i + 1, by omega, by go_num, below_more HBL.out hB3⟩
      case measure => simp [intOf]; omega
    · have hlt' : ¬ (i : Int) < (n : Int) := by omega
      have e : i = n := by omega
      subst e
      have HY := Lib.hid (CY.out wr A5 n5 c5 hB (HR5.out.below hbel) hn5 HC5.out)
      have HB9 := Lib.hid hB
      clear hB hbel
      go_wp2_with (first
        | ((with_reducible refine at_load 23 (.tmp 2) ?_); refine wpList_load_mid rfl 23 (.tmp 2) rfl w.heap.size 0 (by first | rfl | (simp [Act.eval]; done)) [.int .u64 (k : Int), .int .u64 (l : Int)] _ (Blk.range hk) Try.underlying23 rfl (by kernel_rfl) ?_)
        | (go_at_call 17; refine (HY.out).mono ?_; rintro e' x4 ⟨A7, c7, rfl, hB7⟩)
        | (go_at_call 10; refine (CA.out _).mono ?_; rintro e' x5 ⟨rfl, hB8⟩))
      go_ret
      exact ⟨rfl, HB0.out.trans ((below_more (below_more HB9.out hB7) hB8).mono (by omega))⟩
end Go.Proofs.Ytplnmjdafchjbaa
