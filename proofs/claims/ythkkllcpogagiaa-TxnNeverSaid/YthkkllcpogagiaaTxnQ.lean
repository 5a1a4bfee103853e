/- The walk of TxnNever, over what package txn is to answer. -/
import Derived.Test.YthkkllcpogagiaaTxnP
import Derived.Deep.RegionHeld3
import Derived.Deep.CutRange
import Derived.Deep.DeepCutAuto
namespace Go.Proofs.Ythkkllcpogagiaa
open Go.RowKit
set_option linter.unusedVariables false
set_option linter.unusedSimpArgs false
set_option maxRecDepth 100000 in
set_option maxHeartbeats 8000000 in
theorem txnNever_walk (K : TxnOk) (s : Nat) (A : Option Addr) (n c : Nat) (O : List (Nat × List UInt8)) (l : List UInt8) (w : World) (hs64 : s < 18446744073709551616) (w1 : RdT w A n O ∧ n ≤ c ∧ c ≤ maxLen) (hl : l.length = 64) : Calls Try.prog 5 #[.agg #[.int .u64 (s : Int), .slice A n c], .agg (l.map B8).toArray] w (Ret w (.bool true)) := by
  obtain ⟨hr, hnc, hcm⟩ := w1
  have hln := hr.len
  have CA : Hid (∀ W, Calls Try.prog 6 #[] W (Ret W (.bool true))) := Lib.hid fun W => awake14_calls K W
  obtain ⟨V, hV⟩ : ∃ z, z = l.map B8 := ⟨_, rfl⟩
  rw [← hV]
  have hk2 : Blk ((w.alloc (.cells #[.int .u64 (s : Int), .slice A n c] 27)).alloc (.cells V.toArray 51)) w.heap.size [.int .u64 (s : Int), .slice A n c] 27 := (Blk.new w _ _).alloc _
  have hk3 : Blk ((w.alloc (.cells #[.int .u64 (s : Int), .slice A n c] 27)).alloc (.cells V.toArray 51)) (w.heap.size + 1) V 51 := Blk.new' _ V.toArray _ _ (by simp)
  have hB0 : Below w.heap.size w ((w.alloc (.cells #[.int .u64 (s : Int), .slice A n c] 27)).alloc (.cells V.toArray 51)) := below_al (below_al (Below.refl _ w) _) _
  obtain ⟨W0, hW0⟩ : ∃ z, z = (w.alloc (.cells #[.int .u64 (s : Int), .slice A n c] 27)).alloc (.cells V.toArray 51) := ⟨_, rfl⟩
  obtain ⟨g2, hg2⟩ : ∃ z, z = w.heap.size := ⟨_, rfl⟩
  obtain ⟨g3, hg3⟩ : ∃ z, z = g2 + 1 := ⟨_, rfl⟩
  rw [← hW0] at hk2 hk3 hB0
  rw [← hg2] at hk2
  rw [show w.heap.size + 1 = g3 from by omega] at hk3
  have HW0 := Lib.hid hW0
  have HG2 := Lib.hid hg2
  have HG3 := Lib.hid hg3
  have hr0 : RdT W0 A n O := hr.below hB0
  have CS : Hid (Calls Try.prog 12 #[.agg #[.int .u64 (s : Int), .slice A n c]] W0 (Ret W0 (.bool (sml14 O)))) := Lib.hid (tsmall_calls s A n c O W0 hr0 (by omega))
  have HB0 := Lib.hid hB0
  have HK2 := Lib.hid hk2
  have hsl : ∀ W, (Instr.sliceAt 51 (.pointer (some ⟨g3, 0, none⟩)) none none none).run Try.prog W = .ok (.slice (some ⟨g3, 0, none⟩) 64 64) W := fun W => run_sl_all 51 5 64 Try.underlying51 size8 g3 0 (by omega) W
  have CP : Hid (∀ W, Below W0.heap.size W0 W → Calls Try.prog 7 #[.slice (some ⟨g3, 0, none⟩) 64 64] W fun e w' => ∃ A' c', e = .returned (.tuple #[.agg #[.int .u64 0, .slice A' 0 c'], .int .i64 3]) ∧ c' ≤ maxLen ∧ Below W.heap.size W w') := Lib.hid fun W hb => by
    have hrd : Rd W (some ⟨g3, 0, none⟩) 64 l := (hk3.below hb hk3.lt).rd 0 64 l hl (fun j hj => by rw [hV, Nat.zero_add, List.getElem?_map, List.getElem?_eq_getElem hj]; rfl)
    have e3 : tpE l = 3 := by unfold tpE; rw [if_pos hl]
    have hS : tpS l = 0 := by unfold tpS; rw [if_neg (by omega)]
    have hO : tpO l = [] := by unfold tpO; rw [if_neg (by omega)]
    have h := K.parse W _ 64 64 l hrd (by omega) (by unfold maxLen; omega) (by omega)
    rw [e3, hS, hO] at h
    refine h.mono ?_
    rintro e w' ⟨A', n', c', rfl, h1, h2, h3, h4⟩
    have hn := h1.len
    simp at hn
    subst hn
    exact ⟨A', c', rfl, h3, h4⟩
  by_cases hs : sml14 O = false
  · rw [hs] at CS
    unfold maxLen at hcm
    clear hr hr0 hk2 hk3 hW0 hB0 hV hg2 hg3 K CP
    go_enter Try.func5, Try.ntmps5
    go_upto_region 1 with fail
    rw [← HW0.out, ← HG2.out, ← HG3.out]
    have hk2 := HK2.out
    go_wp2_with (first
      | ((with_reducible refine at_load 27 (.tmp 2) ?_); refine wpList_load_mid rfl 27 (.tmp 2) rfl g2 0 (by first | rfl | (simp [Act.eval]; done)) [.int .u64 (s : Int), .slice A n c] _ (Blk.range hk2) Try.underlying27 rfl (by kernel_rfl) ?_)
      | (go_at_call 12; refine (CS.out).mono ?_; rintro e' x1 ⟨rfl, hB1⟩)
      | (go_at_call 6; refine (CA.out _).mono ?_; rintro e' x2 ⟨rfl, hB2⟩))
    go_ret
    exact ⟨rfl, below_more HB0.out (below_more hB1 hB2)⟩
  have hs : sml14 O = true := by simpa using hs
  rw [hs] at CS
  obtain ⟨h20, h200⟩ := sml14_yes hs
  have CB : Hid (∀ W, Below W0.heap.size W0 W → Calls Try.prog 11 #[.agg #[.int .u64 (s : Int), .slice A n c]] W fun e w' => ∃ (A' : Option Addr) (n' c' f : Nat), e = .returned (.tuple #[.slice A' n' c', .int .i64 (f : Int)]) ∧ (f = 0 → n' ≠ 64) ∧ c' ≤ maxLen ∧ n' ≤ c' ∧ Below W.heap.size W w') := Lib.hid fun W hb => by
    refine (K.bytes W s A n c O hs64 (hr0.below hb) hnc hcm (by omega) h200).mono ?_
    rintro e w' ⟨A', n', c', rfl, h1, h2, h3, h4⟩
    exact ⟨A', n', c', _, rfl, fun h0 => by rw [← h1.len]; exact tb_len s O h0, h3, h2, h4⟩
  unfold maxLen at hcm
  clear hr hr0 hk2 hk3 hW0 hB0 hV hg2 hg3 K hs h20 h200 hln
  go_enter Try.func5, Try.ntmps5
  go_upto_region 1 with fail
  rw [← HW0.out, ← HG2.out, ← HG3.out]
  have hk2 := HK2.out
  go_upto_region 3 with (first
    | ((with_reducible refine at_load 27 (.tmp 2) ?_); refine wpList_load_mid rfl 27 (.tmp 2) rfl g2 0 (by first | rfl | (simp [Act.eval]; done)) [.int .u64 (s : Int), .slice A n c] _ (Blk.range hk2) Try.underlying27 rfl (by kernel_rfl) ?_)
    | (go_at_call 12; refine (CS.out).mono ?_; rintro e' x1 ⟨rfl, hB1⟩))
  go_upto_region 4 with (first
    | (go_at_call 7; refine (CP.out _ hB1).mono ?_; rintro e' x3 ⟨A3, c3, rfl, hc3, hB3⟩))
  have hba : Below x3.heap.size x3 (x3.alloc (.cells #[.int .u64 0, .slice A3 0 c3] 27)) := below_al (Below.refl _ x3) _
  obtain ⟨x4, hx4⟩ : ∃ z, z = x3.alloc (.cells #[.int .u64 0, .slice A3 0 c3] 27) := ⟨_, rfl⟩
  rw [← hx4] at hba
  rw [← hx4]
  have hB := below_more hB1 (below_more hB3 hba)
  have hk2 := blk_upT HK2.out hB
  have HB := Lib.hid hB
  unfold maxLen at hc3
  clear hba hx4 hB1 hB3 hB
  go_upto_region 5 with (first
    | ((with_reducible refine at_load 27 (.tmp 2) ?_); refine wpList_load_mid rfl 27 (.tmp 2) rfl g2 0 (by first | rfl | (simp [Act.eval]; done)) [.int .u64 (s : Int), .slice A n c] _ (Blk.range hk2) Try.underlying27 rfl (by kernel_rfl) ?_)
    | (go_at_call 11; refine (CB.out _ HB.out).mono ?_; rintro e' x5 ⟨A5, n5, c5, f, rfl, hf, hc5, hn5, hB5⟩))
  have HB9 := Lib.hid (below_more HB.out hB5)
  unfold maxLen at hc5
  clear hB5
  by_cases hf0 : f = 0
  · have hf0' : (f : Int) = 0 := by omega
    have hn64 : ¬ (n5 : Int) = 64 := by have := hf hf0; omega
    have hn64b : ((n5 : Int) != 64) = true := by simpa using hn64
    clear hf
    go_wp2_with (first
      | (go_at_call 6; refine (CA.out _).mono ?_; rintro e' x8 ⟨rfl, hB8⟩))
    go_ret
    exact ⟨rfl, below_more HB0.out (below_more HB9.out hB8)⟩
  · have hf0' : ¬ (f : Int) = 0 := by omega
    clear hf
    go_wp2_with (first
      | (go_at_call 6; refine (CA.out _).mono ?_; rintro e' x8 ⟨rfl, hB8⟩))
    go_ret
    exact ⟨rfl, below_more HB0.out (below_more HB9.out hB8)⟩
end Go.Proofs.Ythkkllcpogagiaa
