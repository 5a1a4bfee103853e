/- The contract of sha2.Sum: the hash of the concatenation of its arguments. -/
import Derived.Test.YtfnlclooneanaaaDoorShaU
import Derived.Test.YtfnlclooneanaaaDoorRdM
namespace Go.Proofs.YtfnlclooneanaaaDoor
open Go.RowKit
set_option linter.unusedVariables false

set_option maxRecDepth 100000 in
set_option maxHeartbeats 1000000 in
theorem sum_calls (w : World) (A : Option Addr) (n c : Nat) (L : List (List UInt8)) (hR : RdM w A n L) (hT : Tab w) (hn : n ≤ 1000000000) (hf : L.flatten.length ≤ 10000000000) :
    Calls Tryd.prog 10 #[.slice A n c] w (Ret w (.agg ((sha L.flatten).map B8).toArray)) := by
  have HR := Lib.hid hR
  have HT := Lib.hid hT
  have HL := Lib.hid hR.len
  clear hR hT
  have hz32 := Lib.hid (Blk.new w (((List.replicate 32 (0 : UInt8)).map B8).toArray) 25)
  have hB0 := Lib.hid ((Below.refl w.heap.size w).alloc (Nat.le_refl _) (.cells (((List.replicate 32 (0 : UInt8)).map B8).toArray) 25))
  go_enter Tryd.func10, Tryd.ntmps10
  go_wp2_with (first
    | (go_at_call 16
       refine (new_calls _ (HT.out.all hB0.out)).mono ?_
       rintro e' w1 ⟨b, rfl, hbge, hH, hbel1⟩
       have hs1 : w.heap.size < w1.heap.size := Nat.lt_of_lt_of_le (by simp) hbel1.size
       have hb1 : w.heap.size < b := Nat.lt_of_lt_of_le (by simp) hbge
       have J1 : Hid (Blk w1 w.heap.size ((List.replicate 32 (0 : UInt8)).map B8) 25) := Lib.hid (hz32.out.below hbel1 (by simp))
       have J2 : Hid (Below w.heap.size w w1) := Lib.hid (hB0.out.trans (hbel1.mono (by simp)))
       have J3 := Lib.hid hH
       clear hH hbel1 hbge))
  go_loopw [9] (fun i wr => ∃ t : Nat, t ≤ n ∧ i = .int .i64 t ∧ Hs wr b (L.take t).flatten ∧ Blk wr w.heap.size ((List.replicate 32 (0 : UInt8)).map B8) 25 ∧ Below w.heap.size w wr) (fun i _ => n - (intOf i).toNat)
  case atStart => exact ⟨0, Nat.zero_le _, rfl, J3.out, J1.out, J2.out⟩
  case round =>
    obtain ⟨t, ht, rfl, hHs, hb0, hbl⟩ := hrel
    have hlt2 := HT.out.lt
    have hgs := hbl.size
    by_cases hlt : t < n
    · obtain ⟨g, off, A', m, c', hl, rfl, hcell, hmc, hcm, hrd⟩ := (HR.out.below hbl).at_ hlt
      have hwl : ∀ g' off', A' = some ⟨g', off', none⟩ → 0 < m → g' ≠ b := by
        intro g' off' e h0
        obtain ⟨g2, off2, A2, m2, c2, hl2, e2, hc2, _, _, hr2⟩ := HR.out.at_ (k := t) hlt
        cases e2
        obtain ⟨b3, o3, e3, hb3, _⟩ := HR.out.2 (by omega)
        cases e3
        have hcw : wr.cell? ⟨g, off + t, none⟩ = w.cell? ⟨g, off + t, none⟩ := hbl.cell (p := ⟨g, off + t, none⟩) hb3
        rw [hcw, hc2] at hcell
        cases hcell
        obtain ⟨b4, o4, e4, hb4, _⟩ := hr2.2 h0
        rw [e] at e4
        cases e4
        omega
      have hfl : (L.take t).flatten.length + m ≤ 1000000000000 := by
        have h1 := flat_le L (t + 1)
        rw [flat_take L t hl, List.length_append, hrd.len] at h1
        omega
      have HW := Lib.hid (write_calls block_calls wr b (L.take t).flatten L[t] A' m c' hHs (RdX.of hrd hwl) (HT.out.all hbl) (by omega) (by omega) hfl hmc)
      have hbt : (t : Int) < (n : Int) := by omega
      have H1 := Lib.hid hb0
      have H2 := Lib.hid hbl
      have H3 := Lib.hid (flat_take L t hl)
      clear hHs hrd hwl hfl hb0 hbl
      go_wp2_with (go_at_call 17; refine HW.out.mono ?_; rintro e' w3 ⟨rfl, hHs3, hbes3⟩)
      go_roundw
      case rel =>
        have h2 := H2.out
        have h1l := H1.out.lt
        rw [← H3.out] at hHs3
        exact ⟨t + 1, by omega, by go_num, hHs3, (hbes3.block _ (by omega) (by omega)).trans H1.out, h2.trans (hbes3.below (by omega) (by omega))⟩
      case measure => simp [intOf]; omega
    · have e : t = n := by omega
      subst e
      rw [List.take_of_length_le (by rw [HL.out]; exact Nat.le_refl _)] at hHs
      have HS := Lib.hid (hsum_calls wr b L.flatten hHs (HT.out.all hbl) (by omega))
      obtain ⟨V, hV⟩ : ∃ V, V = (sha L.flatten).map B8 := ⟨_, rfl⟩
      have hVl : V.length = 32 := by rw [hV, List.length_map, sha_len]
      have hV1 : ∀ v ∈ V, v.oneCell' = true := by rw [hV]; exact b8_one _
      have hiV : (Tryd.prog.info? 25).map (·.size) = some V.length := by rw [hVl]; exact i32
      rw [← hV] at HS
      have H1 := Lib.hid hb0
      have H2 := Lib.hid hbl
      have H3 := Lib.hid hV
      have H4 := Lib.hid hiV
      have H5 := Lib.hid hVl
      clear hHs hb0 hbl hV hiV hVl
      go_wp2_with (first
        | (go_at_call 19; refine HS.out.mono ?_; rintro e' w5 ⟨rfl, hbel5⟩)
        | (refine at_store 25 (.tmp 2) (.tmp 18) ?_; refine wpList_store_blk rfl 25 (.tmp 2) (.tmp 18) rfl w.heap.size _ V _ rfl rfl (H1.out.below hbel5 H1.out.lt) (by rw [H5.out]; simp) H4.out hV1 ?_; intro w9 hb9 ho9))
      refine bodyPost_ret (v := .agg V.toArray) ?_ rfl ⟨by rw [H3.out], (H2.out.trans (hbel5.mono H2.out.size)).trans (ho9.below (Nat.le_refl _))⟩
      exact results_cell_row Tryd.results10 _ _ w.heap.size 25 _ (0, 0) _ (by rfl) hb9 Tryd.underlying25 rfl (by rw [List.size_toArray]; exact H4.out)
end Go.Proofs.YtfnlclooneanaaaDoor
