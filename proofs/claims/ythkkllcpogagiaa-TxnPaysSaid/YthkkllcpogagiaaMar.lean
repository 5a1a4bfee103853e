/- Merged texts: TxnD. -/
import Derived.Test.YthkkllcpogagiaaMaq
/- The document's Parse of layer 14. -/
namespace Go.Proofs.Ythkkllcpogagiaa
open Go.RowKit
set_option linter.unusedVariables false
set_option linter.unusedSimpArgs false

set_option maxRecDepth 100000 in
theorem dnum8 (m : Nat) (hm : m ≤ 8) (l : List UInt8) (e : Nat) (W : World) : Calls Try.prog 23 #[.agg #[.string ⟨l.toArray⟩, .int .i64 (e : Int)], .int .i64 (m : Int)] W (Ret W (.tuple #[.agg #[.string ⟨(tkL l e m).toArray⟩, .int .i64 (tkE l e m : Int)], .int .u64 (numL (tkV l e m) : Int)])) := dnumber_calls l e m m (by unfold cw; omega) W
set_option maxRecDepth 100000 in
theorem tkL_le (l : List UInt8) (e n : Nat) : (tkL l e n).length ≤ l.length := by
  unfold tkL
  split
  · rw [List.length_drop]; omega
  · exact Nat.le_refl _
set_option maxRecDepth 100000 in
theorem cvL_le (l : List UInt8) (e m : Nat) : (cvL l e m).length ≤ l.length := by
  unfold cvL
  split
  · rw [List.length_drop]; omega
  · exact Nat.le_refl _
set_option maxRecDepth 100000 in
theorem txL_le (l : List UInt8) (e m : Nat) : (txL l e m).length ≤ l.length := by
  unfold txL
  split
  · exact Nat.le_trans (tkL_le _ _ _) (cvL_le _ _ _)
  · exact Nat.le_refl _
set_option maxRecDepth 100000 in
theorem ogo_step (n : Nat) (O : List (Nat × List UInt8)) (li : List UInt8) (ei k : Nat) (r : List (Nat × List UInt8) × List UInt8 × Nat) (h : r = (O ++ (ogo (k + 1) li ei).1, (ogo (k + 1) li ei).2)) :
    r = ((O ++ [(numL (tkV li ei 8), txV (tkL li ei 8) (tkE li ei 8) 64)]) ++ (ogo k (txL (tkL li ei 8) (tkE li ei 8) 64) (txE (tkL li ei 8) (tkE li ei 8) 64)).1, (ogo k (txL (tkL li ei 8) (tkE li ei 8) 64) (txE (tkL li ei 8) (tkE li ei 8) 64)).2) := by
  rw [h]
  simp [ogo]
set_option maxRecDepth 100000 in
set_option maxHeartbeats 8000000 in
theorem tparse_calls (l : List UInt8) (w : World) (hl : l.length ≤ 1000) :
    Calls Try.prog 8 #[.string ⟨l.toArray⟩] w fun e w' => ∃ A' c', e = .returned (.tuple #[.agg #[.int .u64 (tpS l : Int), .slice A' (tpO l).length c'], .int .i64 (tpE l : Int)]) ∧ RdG w' 2 A' (tpO l).length ((tpO l).map DO) ∧ Below w.heap.size w w' := by
  obtain ⟨S0, hS0⟩ : ∃ z : ByteArray, z = ⟨l.toArray⟩ := ⟨_, rfl⟩
  have hsz : S0.size = l.length := by rw [hS0, bstr_size]
  obtain ⟨N0, hN0⟩ : ∃ z, z = l.length := ⟨_, rfl⟩
  rw [← hN0] at hsz
  have k2 : Blk (w.alloc (.cells #[.int .u64 0, .slice none 0 0] 33)) w.heap.size [.int .u64 0, .slice none 0 0] 33 := Blk.new w _ _
  have hB0 : Below w.heap.size w (w.alloc (.cells #[.int .u64 0, .slice none 0 0] 33)) := below_al (Below.refl _ w) _
  by_cases h64 : N0 = 64
  · have h64' : (N0 : Int) = 64 := by omega
    have e3 : tpE l = 3 := by unfold tpE; rw [if_pos (by omega)]
    have hS : tpS l = 0 := by unfold tpS; rw [if_neg (by omega)]
    have hO : tpO l = [] := by unfold tpO; rw [if_neg (by omega)]
    rw [e3, hS, hO, ← hS0]
    clear hS0 hN0 h64
    go_enter Try.func8, Try.ntmps8
    go_wp2
    refine bodyPost_ret (v := .tuple #[.agg #[.int .u64 0, .slice none 0 0], .int .i64 3]) ?_ rfl ?_
    · exact results_in Try.results8 _ _ w.heap.size 33 _ (0, 0) _ _ (by rfl) (by rfl) k2 Try.underlying33 rfl I2tx
    · exact ⟨none, 0, rfl, RdG.nil _ _ _, hB0⟩
  have h64' : ¬ (N0 : Int) = 64 := by omega
  obtain ⟨l1, hl1⟩ : ∃ z, z = tkL l 0 1 := ⟨_, rfl⟩
  obtain ⟨e1, he1⟩ : ∃ z, z = tkE l 0 1 := ⟨_, rfl⟩
  obtain ⟨v1, hv1⟩ : ∃ z, z = numL (tkV l 0 1) := ⟨_, rfl⟩
  obtain ⟨S1, hS1⟩ : ∃ z : ByteArray, z = ⟨l1.toArray⟩ := ⟨_, rfl⟩
  have hll1 : l1.length ≤ 1000 := by rw [hl1]; exact Nat.le_trans (tkL_le _ _ _) hl
  have C1 : Hid (∀ W, Calls Try.prog 23 #[.agg #[.string S0, .int .i64 0], .int .i64 1] W (Ret W (.tuple #[.agg #[.string S1, .int .i64 (e1 : Int)], .int .u64 (v1 : Int)]))) := Lib.hid fun W => by rw [hS0, hS1, hl1, he1, hv1]; exact dnum8 1 (by omega) l 0 W
  have he1b : e1 ≤ 2 := by rw [he1]; unfold tkE; split <;> (try split) <;> omega
  have hv1b : v1 < 18446744073709551616 := by rw [hv1]; exact numL_64 (by have := tkV_len l 0 1; omega)
  obtain ⟨W0, hW0⟩ : ∃ z, z = w.alloc (.cells #[.int .u64 0, .slice none 0 0] 33) := ⟨_, rfl⟩
  obtain ⟨g2, hg2⟩ : ∃ z, z = w.heap.size := ⟨_, rfl⟩
  have hs0 : W0.heap.size = w.heap.size + 1 := by rw [hW0]; simp
  rw [← hW0] at k2 hB0
  rw [← hg2] at k2
  have hg2w : w.heap.size ≤ g2 := by omega
  have HW0 := Lib.hid hW0
  have HG2 := Lib.hid hg2
  have HS0 := Lib.hid hS0
  rw [← hS0]
  have HE : Hid (tpE l = if e1 = 0 ∧ v1 ≠ 1 then 3 else if (tgo l).2.2 ≠ 0 then (tgo l).2.2 else if 0 < (tgo l).2.1.length then 3 else 0) := Lib.hid (by rw [he1, hv1]; unfold tpE; rw [if_neg (by omega)])
  by_cases hbad : e1 = 0 ∧ v1 ≠ 1
  · have e3 : tpE l = 3 := by rw [HE.out, if_pos hbad]
    have hS : tpS l = 0 := by unfold tpS; rw [if_neg (by omega)]
    have hO : tpO l = [] := by unfold tpO; rw [if_neg (by omega)]
    rw [e3, hS, hO]
    obtain ⟨rfl, hb2⟩ := hbad
    have hb3 : ¬ (v1 : Int) = 1 := by omega
    have HK := Lib.hid (And.intro k2 hB0)
    clear hS0 hN0 h64 hl1 he1 hv1 hS1 hW0 hg2 k2 hB0 HE
    go_enter Try.func8, Try.ntmps8
    go_upto_region 1 with fail
    rw [← HW0.out, ← HG2.out]
    go_upto_region 4 with (first
      | (go_at_call 23; refine (C1.out _).mono ?_; rintro e' x1 ⟨rfl, hB1⟩))
    have k2 := HK.out.1.below hB1 HK.out.1.lt
    have hB := below_more HK.out.2 hB1
    have hlt2 : g2 < x1.heap.size := k2.lt
    have h2x : ¬ g2 = x1.heap.size := by omega
    have c20 : x1.cell? ⟨g2, 0, none⟩ = some (.int .u64 0) := k2.cell 0
    have z20 : x1.frozen? ⟨g2, 0, none⟩ = false := k2.free 0
    have c21 : x1.cell? ⟨g2, 1, none⟩ = some (.slice none 0 0) := k2.cell 1
    have z21 : x1.frozen? ⟨g2, 1, none⟩ = false := k2.free 1
    have KB := Lib.hid (And.intro k2 hB)
    clear k2 hB hB1
    go_wp2
    refine bodyPost_ret (v := .tuple #[.agg #[.int .u64 0, .slice none 0 0], .int .i64 3]) ?_ rfl ?_
    · exact results_in Try.results8 _ _ g2 33 _ (0, 0) _ _ (by rfl) (by rfl) (((KB.out.1.set 0 (.int .u64 0)).set 1 (.slice none 0 0)).alloc _) Try.underlying33 rfl I2tx
    · exact ⟨none, 0, rfl, RdG.nil _ _ _, below_al ((KB.out.2.setCell (p := ⟨g2, 0, none⟩) hg2w _).setCell (p := ⟨g2, 1, none⟩) hg2w _) _⟩
  rw [if_neg hbad] at HE
  obtain ⟨l2, hl2⟩ : ∃ z, z = tkL l1 e1 8 := ⟨_, rfl⟩
  obtain ⟨e2, he2⟩ : ∃ z, z = tkE l1 e1 8 := ⟨_, rfl⟩
  obtain ⟨s2, hs2⟩ : ∃ z, z = numL (tkV l1 e1 8) := ⟨_, rfl⟩
  obtain ⟨S2, hS2⟩ : ∃ z : ByteArray, z = ⟨l2.toArray⟩ := ⟨_, rfl⟩
  have hll2 : l2.length ≤ 1000 := by rw [hl2]; exact Nat.le_trans (tkL_le _ _ _) hll1
  obtain ⟨l3, hl3⟩ : ∃ z, z = cvL l2 e2 8 := ⟨_, rfl⟩
  obtain ⟨e3, he3⟩ : ∃ z, z = cvE l2 e2 8 := ⟨_, rfl⟩
  obtain ⟨n3, hn3⟩ : ∃ z, z = cvV l2 e2 8 := ⟨_, rfl⟩
  obtain ⟨S3, hS3⟩ : ∃ z : ByteArray, z = ⟨l3.toArray⟩ := ⟨_, rfl⟩
  have hll3 : l3.length ≤ 1000 := by rw [hl3]; exact Nat.le_trans (cvL_le _ _ _) hll2
  have hn3b : n3 ≤ 8 := by rw [hn3]; exact cvV_le _ _ _
  have hs2b : s2 < 18446744073709551616 := by rw [hs2]; exact numL_64 (by have := tkV_len l1 e1 8; omega)
  have C2 : Hid (∀ W, Calls Try.prog 23 #[.agg #[.string S1, .int .i64 (e1 : Int)], .int .i64 8] W (Ret W (.tuple #[.agg #[.string S2, .int .i64 (e2 : Int)], .int .u64 (s2 : Int)]))) := Lib.hid fun W => by rw [hS1, hS2, hl2, he2, hs2]; exact dnum8 8 (by omega) l1 e1 W
  have C3 : Hid (∀ W, Calls Try.prog 24 #[.agg #[.string S2, .int .i64 (e2 : Int)], .int .u64 8] W (Ret W (.tuple #[.agg #[.string S3, .int .i64 (e3 : Int)], .int .u64 (n3 : Int)]))) := Lib.hid fun W => by rw [hS2, hS3, hl3, he3, hn3]; exact dcount_calls l2 e2 8 (by omega) W
  have HT : Hid (tgo l = ogo n3 l3 e3 ∧ tgoS l = s2) := Lib.hid (by unfold tgo tgoS; rw [hn3, hl3, he3, hs2, hl2, he2, hl1, he1]; exact ⟨rfl, rfl⟩)
  have hb1 : (e1 : Int) = 0 → (v1 : Int) = 1 := fun h => by
    by_cases k : v1 = 1
    · omega
    · exact absurd ⟨by omega, k⟩ hbad
  have HS3 := Lib.hid hS3
  have HK := Lib.hid (And.intro k2 hB0)
  have CN : Hid (∀ (li : List UInt8) (ei : Nat) (S S' : ByteArray), S = ⟨li.toArray⟩ → S' = ⟨(tkL li ei 8).toArray⟩ → ∀ W, Calls Try.prog 23 #[.agg #[.string S, .int .i64 (ei : Int)], .int .i64 8] W (Ret W (.tuple #[.agg #[.string S', .int .i64 (tkE li ei 8 : Int)], .int .u64 (numL (tkV li ei 8) : Int)]))) := Lib.hid fun li ei S S' h1 h2 W => by rw [h1, h2]; exact dnum8 8 (by omega) li ei W
  have CW : Hid (∀ (li : List UInt8) (ei : Nat) (S S' Y : ByteArray), li.length ≤ 1000 → S = ⟨li.toArray⟩ → S' = ⟨(txL li ei 64).toArray⟩ → Y = ⟨(txV li ei 64).toArray⟩ → ∀ W, Calls Try.prog 25 #[.agg #[.string S, .int .i64 (ei : Int)], .int .i64 64] W (Ret W (.tuple #[.agg #[.string S', .int .i64 (txE li ei 64 : Int)], .string Y]))) := Lib.hid fun li ei S S' Y hli h1 h2 h3 W => by rw [h1, h2, h3]; exact dwords_calls li ei 64 64 rfl (by omega) (by omega) W
  clear hS0 hN0 h64 hl1 he1 hv1 hS1 hW0 hg2 k2 hB0 hbad hl2 he2 hs2 hS2 hl3 he3 hn3 hS3 hll1 hll2 
  go_enter Try.func8, Try.ntmps8
  go_upto_region 1 with fail
  rw [← HW0.out, ← HG2.out]
  go_upto_region 4 with (first
    | (go_at_call 23; refine (C1.out _).mono ?_; rintro e' x1 ⟨rfl, hB1⟩))
  have k2 := HK.out.1.below hB1 HK.out.1.lt
  have hB := below_more HK.out.2 hB1
  have hlt2 : g2 < x1.heap.size := k2.lt
  have hB1s := hB.size
  clear hB1
  go_cut [26] from 20 to 25 (fun bv wx => bv = .bool false ∧ wx = x1.alloc (.cells #[.string S1, .int .i64 (e1 : Int)] 62))
  case first =>
    by_cases h1 : e1 = 0
    · have hv1' : (v1 : Int) = 1 := hb1 (by omega)
      subst h1
      clear hb1
      go_wp2
      go_meet
      exact ⟨by first | rfl | simp [hv1'], by first | rfl | trivial⟩
    · have h1' : ¬ (e1 : Int) = 0 := by omega
      clear hb1
      go_wp2
      go_meet
      exact ⟨by first | rfl | simp [h1'], by first | rfl | trivial⟩
  obtain ⟨rfl, rfl⟩ := hcut
  go_upto_region 7 with fail
  have k4 : Blk ((x1.alloc (.cells #[.string S1, .int .i64 (e1 : Int)] 62)).alloc (.cells #[.int .u64 0, .slice none 0 0] 33)) x1.heap.size [.string S1, .int .i64 (e1 : Int)] 62 := (Blk.new _ _ _).alloc _
  have k6 : Blk ((x1.alloc (.cells #[.string S1, .int .i64 (e1 : Int)] 62)).alloc (.cells #[.int .u64 0, .slice none 0 0] 33)) (x1.heap.size + 1) [.int .u64 0, .slice none 0 0] 33 := Blk.new' _ _ _ _ (by simp)
  have hba : Below x1.heap.size x1 ((x1.alloc (.cells #[.string S1, .int .i64 (e1 : Int)] 62)).alloc (.cells #[.int .u64 0, .slice none 0 0] 33)) := below_al (below_al (Below.refl _ x1) _) _
  obtain ⟨W7, hW7⟩ : ∃ z, z = (x1.alloc (.cells #[.string S1, .int .i64 (e1 : Int)] 62)).alloc (.cells #[.int .u64 0, .slice none 0 0] 33) := ⟨_, rfl⟩
  obtain ⟨g6, hg6⟩ : ∃ z, z = x1.heap.size + 1 := ⟨_, rfl⟩
  rw [← hg6] at k6
  rw [← hg6]
  obtain ⟨g4, hg4⟩ : ∃ z, z = x1.heap.size := ⟨_, rfl⟩
  rw [← hW7, ← hg4] at k4
  rw [← hW7] at k6 hba
  rw [← hW7, ← hg4]
  have k2 := k2.below hba k2.lt
  have hB := below_more hB hba
  have hs1 := HK.out.2.size
  have h24 : ¬ g2 = g4 := by omega
  have h26 : ¬ g2 = g6 := by omega
  have h46 : ¬ g4 = g6 := by omega
  have h42 : ¬ g4 = g2 := by omega
  have h62 : ¬ g6 = g2 := by omega
  have h64x : ¬ g6 = g4 := by omega
  have hwx : w.heap.size ≤ x1.heap.size := by have := hB1s; omega
  have hg4w : w.heap.size ≤ g4 := by omega
  have hg6w : w.heap.size ≤ g6 := by omega
  clear hba hW7 hg4 hg6 hlt2 HK hs1 hwx hB1s
  have KK := Lib.hid (And.intro k2 (And.intro k4 (And.intro k6 hB)))
  have c40 : W7.cell? ⟨g4, 0, none⟩ = some (.string S1) := k4.cell 0
  have z40 : W7.frozen? ⟨g4, 0, none⟩ = false := k4.free 0
  have c41 : W7.cell? ⟨g4, 1, none⟩ = some (.int .i64 (e1 : Int)) := k4.cell 1
  have z41 : W7.frozen? ⟨g4, 1, none⟩ = false := k4.free 1
  have c60 : W7.cell? ⟨g6, 0, none⟩ = some (.int .u64 0) := k6.cell 0
  have z60 : W7.frozen? ⟨g6, 0, none⟩ = false := k6.free 0
  have c61 : W7.cell? ⟨g6, 1, none⟩ = some (.slice none 0 0) := k6.cell 1
  have z61 : W7.frozen? ⟨g6, 1, none⟩ = false := k6.free 1
  clear k2 k4 k6 hB
  go_upto_region 8 with (first
    | (go_at_call 23; refine (C2.out _).mono ?_; rintro e' x2 ⟨rfl, hB2⟩; have k4 := KK.out.2.1.below hB2 KK.out.2.1.lt; have c40x2 : x2.cell? ⟨g4, 0, none⟩ = some (.string S1) := k4.cell 0; have z40x2 : x2.frozen? ⟨g4, 0, none⟩ = false := k4.free 0; have c41x2 : x2.cell? ⟨g4, 1, none⟩ = some (.int .i64 (e1 : Int)) := k4.cell 1; have z41x2 : x2.frozen? ⟨g4, 1, none⟩ = false := k4.free 1; have q4 := Lib.hid k4; clear k4; have k6 := KK.out.2.2.1.below hB2 KK.out.2.2.1.lt; have c60x2 : x2.cell? ⟨g6, 0, none⟩ = some (.int .u64 0) := k6.cell 0; have z60x2 : x2.frozen? ⟨g6, 0, none⟩ = false := k6.free 0; have c61x2 : x2.cell? ⟨g6, 1, none⟩ = some (.slice none 0 0) := k6.cell 1; have z61x2 : x2.frozen? ⟨g6, 1, none⟩ = false := k6.free 1; have q6 := Lib.hid k6; clear k6))
  have k2 : Blk (((x2.setCell ⟨g4, 0, none⟩ (.string S2)).setCell ⟨g4, 1, none⟩ (.int .i64 (e2 : Int))).setCell ⟨g6, 0, none⟩ (.int .u64 (s2 : Int))) g2 [.int .u64 0, .slice none 0 0] 33 := (((KK.out.1.below hB2 KK.out.1.lt).set_other ⟨g4, 0, none⟩ _ h24).set_other ⟨g4, 1, none⟩ _ h24).set_other ⟨g6, 0, none⟩ _ h26
  have k4 := ((q4.out.set 0 (.string S2)).set 1 (.int .i64 (e2 : Int))).set_other ⟨g6, 0, none⟩ (.int .u64 (s2 : Int)) h46
  have k6 := ((q6.out.set_other ⟨g4, 0, none⟩ (.string S2) h64x).set_other ⟨g4, 1, none⟩ (.int .i64 (e2 : Int)) h64x).set 0 (.int .u64 (s2 : Int))
  have hB : Below w.heap.size w _ := (((below_more KK.out.2.2.2 hB2).setCell (p := ⟨g4, 0, none⟩) hg4w (.string S2)).setCell (p := ⟨g4, 1, none⟩) hg4w (.int .i64 (e2 : Int))).setCell (p := ⟨g6, 0, none⟩) hg6w (.int .u64 (s2 : Int))
  obtain ⟨W8, hW8⟩ : ∃ z, z = (((x2.setCell ⟨g4, 0, none⟩ (.string S2)).setCell ⟨g4, 1, none⟩ (.int .i64 (e2 : Int))).setCell ⟨g6, 0, none⟩ (.int .u64 (s2 : Int))) := ⟨_, rfl⟩
  rw [← hW8] at k2 k4 k6 hB
  rw [← hW8]
  clear hB2 hW8 q4 q6
  clear KK c40x2 z40x2 c41x2 z41x2 c60x2 z60x2 c61x2 z61x2 c40 z40 c41 z41 c60 z60 c61 z61
  have k4 : Blk W8 g4 [.string S2, .int .i64 (e2 : Int)] 62 := k4
  have k6 : Blk W8 g6 [.int .u64 (s2 : Int), .slice none 0 0] 33 := k6
  have KK := Lib.hid (And.intro k2 (And.intro k4 (And.intro k6 hB)))
  have c40 : W8.cell? ⟨g4, 0, none⟩ = some (.string S2) := k4.cell 0
  have z40 : W8.frozen? ⟨g4, 0, none⟩ = false := k4.free 0
  have c41 : W8.cell? ⟨g4, 1, none⟩ = some (.int .i64 (e2 : Int)) := k4.cell 1
  have z41 : W8.frozen? ⟨g4, 1, none⟩ = false := k4.free 1
  clear k2 k4 k6 hB
  go_upto_region 9 with (first
    | (go_at_call 24; refine (C3.out _).mono ?_; rintro e' x3 ⟨rfl, hB3⟩; have k4 := KK.out.2.1.below hB3 KK.out.2.1.lt; have c40x3 : x3.cell? ⟨g4, 0, none⟩ = some (.string S2) := k4.cell 0; have z40x3 : x3.frozen? ⟨g4, 0, none⟩ = false := k4.free 0; have c41x3 : x3.cell? ⟨g4, 1, none⟩ = some (.int .i64 (e2 : Int)) := k4.cell 1; have z41x3 : x3.frozen? ⟨g4, 1, none⟩ = false := k4.free 1; have q4 := Lib.hid k4; clear k4))
  have k2 := ((KK.out.1.below hB3 KK.out.1.lt).set_other ⟨g4, 0, none⟩ (.string S3) h24).set_other ⟨g4, 1, none⟩ (.int .i64 (e3 : Int)) h24
  have k4 := (q4.out.set 0 (.string S3)).set 1 (.int .i64 (e3 : Int))
  have k6 := ((KK.out.2.2.1.below hB3 KK.out.2.2.1.lt).set_other ⟨g4, 0, none⟩ (.string S3) h64x).set_other ⟨g4, 1, none⟩ (.int .i64 (e3 : Int)) h64x
  have hB : Below w.heap.size w _ := ((below_more KK.out.2.2.2 hB3).setCell (p := ⟨g4, 0, none⟩) hg4w (.string S3)).setCell (p := ⟨g4, 1, none⟩) hg4w (.int .i64 (e3 : Int))
  obtain ⟨W9, hW9⟩ : ∃ z, z = (x3.setCell ⟨g4, 0, none⟩ (.string S3)).setCell ⟨g4, 1, none⟩ (.int .i64 (e3 : Int)) := ⟨_, rfl⟩
  rw [← hW9] at k2 k4 k6 hB
  rw [← hW9]
  clear hB3 hW9 q4 KK c40x3 z40x3 c41x3 z41x3 c40 z40 c41 z41
  have k4 : Blk W9 g4 [.string S3, .int .i64 (e3 : Int)] 62 := k4
  have k6 : Blk W9 g6 [.int .u64 (s2 : Int), .slice none 0 0] 33 := k6
  have KK := Lib.hid (And.intro k2 (And.intro k4 (And.intro k6 hB)))
  clear k2 k4 k6 hB
  go_wp2
  go_loopw [8] (fun cv wr => ∃ (i : Nat) (li : List UInt8) (ei : Nat) (Oi : List (Nat × List UInt8)) (A1 : Option Addr) (c1 : Nat) (Si : ByteArray), i ≤ n3 ∧ cv = .int .u64 (i : Int) ∧ Blk wr g4 [.string Si, .int .i64 (ei : Int)] 62 ∧ Si = ⟨li.toArray⟩ ∧ li.length ≤ 1000 ∧ Blk wr g6 [.int .u64 (s2 : Int), .slice A1 i c1] 33 ∧ Blk wr g2 [.int .u64 0, .slice none 0 0] 33 ∧ OwnG wr w.heap.size 67 2 A1 i c1 (Oi.map DO) ∧ ogo n3 l3 e3 = (Oi ++ (ogo (n3 - i) li ei).1, (ogo (n3 - i) li ei).2) ∧ Oi.length = i ∧ Below w.heap.size w wr) (fun cv _ => n3 - (intOf cv).toNat)
  case atStart => exact ⟨0, l3, e3, [], none, 0, S3, Nat.zero_le _, rfl, KK.out.2.1, HS3.out, hll3, KK.out.2.2.1, KK.out.1, OwnG.nil _ _ _ _, rfl, rfl, KK.out.2.2.2⟩
  case round =>
    obtain ⟨i, li, ei, Oi, A1, c1, Si, hin, rfl, k4, hSi, hlli, k6, k2, hown, hgo, hOl, hbel⟩ := hrel
    by_cases hlt : i < n3
    · have hlt' : (i : Int) < (n3 : Int) := by omega
      obtain ⟨v, hv⟩ : ∃ z, z = numL (tkV li ei 8) := ⟨_, rfl⟩
      obtain ⟨lj, hlj⟩ : ∃ z, z = tkL li ei 8 := ⟨_, rfl⟩
      obtain ⟨ej, hej⟩ : ∃ z, z = tkE li ei 8 := ⟨_, rfl⟩
      obtain ⟨Sj, hSj⟩ : ∃ z : ByteArray, z = ⟨lj.toArray⟩ := ⟨_, rfl⟩
      obtain ⟨y, hy⟩ : ∃ z, z = txV lj ej 64 := ⟨_, rfl⟩
      obtain ⟨Y, hY⟩ : ∃ z : ByteArray, z = ⟨y.toArray⟩ := ⟨_, rfl⟩
      obtain ⟨lk, hlk⟩ : ∃ z, z = txL lj ej 64 := ⟨_, rfl⟩
      obtain ⟨ek, hek⟩ : ∃ z, z = txE lj ej 64 := ⟨_, rfl⟩
      obtain ⟨Sk, hSk⟩ : ∃ z : ByteArray, z = ⟨lk.toArray⟩ := ⟨_, rfl⟩
      have hllj : lj.length ≤ 1000 := by rw [hlj]; exact Nat.le_trans (tkL_le _ _ _) hlli
      have hllk : lk.length ≤ 1000 := by rw [hlk]; exact Nat.le_trans (txL_le _ _ _) hllj
      have D1 : Hid (∀ W, Calls Try.prog 23 #[.agg #[.string Si, .int .i64 (ei : Int)], .int .i64 8] W (Ret W (.tuple #[.agg #[.string Sj, .int .i64 (ej : Int)], .int .u64 (v : Int)]))) := Lib.hid fun W => by rw [hv, hej]; exact CN.out li ei Si Sj hSi (by rw [hSj, hlj]) W
      have D2 : Hid (∀ W, Calls Try.prog 25 #[.agg #[.string Sj, .int .i64 (ej : Int)], .int .i64 64] W (Ret W (.tuple #[.agg #[.string Sk, .int .i64 (ek : Int)], .string Y]))) := Lib.hid fun W => by rw [hek]; exact CW.out lj ej Sj Sk Y hllj hSj (by rw [hSk, hlk]) (by rw [hY, hy]) W
      have HG : Hid (ogo n3 l3 e3 = ((Oi ++ [(v, y)]) ++ (ogo (n3 - (i + 1)) lk ek).1, (ogo (n3 - (i + 1)) lk ek).2)) := Lib.hid (by
        have e : n3 - i = (n3 - (i + 1)) + 1 := by omega
        rw [e] at hgo
        have := ogo_step 0 Oi li ei (n3 - (i + 1)) _ hgo
        rw [hv, hy, hlk, hek, hlj, hej]
        exact this)
      have HD : Hid ((Oi ++ [(v, y)]).map DO = Oi.map DO ++ [[.int .u64 (v : Int), .string Y]]) := Lib.hid (by rw [List.map_append, hY]; rfl)
      have HSK := Lib.hid (And.intro hSk (And.intro hllk (show (Oi ++ [(v, y)]).length = i + 1 by rw [List.length_append, hOl]; rfl)))
      clear hv hlj hej hSj hy hY hlk hek hSk hllj hllk hSi hlli hgo hOl
      go_upto_region 13 with fail
      have k9 : Blk (wr.alloc (.cells #[.int .u64 0, .string ⟨#[]⟩] 67)) wr.heap.size [.int .u64 0, .string ⟨#[]⟩] 67 := Blk.new wr _ _
      have hba : Below wr.heap.size wr (wr.alloc (.cells #[.int .u64 0, .string ⟨#[]⟩] 67)) := below_al (Below.refl _ wr) _
      obtain ⟨W13, hW13⟩ : ∃ z, z = wr.alloc (.cells #[.int .u64 0, .string ⟨#[]⟩] 67) := ⟨_, rfl⟩
      obtain ⟨g9, hg9⟩ : ∃ z, z = wr.heap.size := ⟨_, rfl⟩
      rw [← hW13, ← hg9] at k9
      rw [← hW13] at hba
      rw [← hW13, ← hg9]
      have l2 := k2.lt
      have l4 := k4.lt
      have l6 := k6.lt
      have h29 : ¬ g2 = g9 := by omega
      have h49 : ¬ g4 = g9 := by omega
      have h69 : ¬ g6 = g9 := by omega
      have h94 : ¬ g9 = g4 := by omega
      have h96 : ¬ g9 = g6 := by omega
      have hsz9 := hbel.size
      have hg9w : w.heap.size ≤ g9 := by omega
      have HA9 : Hid (∀ q, blkOf A1 = some q → ¬ q = g9) := Lib.hid fun q hq e => by have := (hown.blk q hq).2.1; omega
      have k2 := k2.below hba l2
      have k4 := k4.below hba l4
      have k6 := k6.below hba l6
      have hown := hown.up hba
      have hbel := below_more hbel hba
      clear hba hW13 hg9 l2 l4 l6 hsz9
      have QQ := Lib.hid (And.intro k2 (And.intro k4 (And.intro k6 (And.intro k9 (And.intro hown hbel)))))
      have c40 : W13.cell? ⟨g4, 0, none⟩ = some (.string Si) := k4.cell 0
      have c41 : W13.cell? ⟨g4, 1, none⟩ = some (.int .i64 (ei : Int)) := k4.cell 1
      clear k2 k4 k6 k9 hown hbel
      go_upto_region 14 with (first
        | (go_at_call 23; refine (D1.out _).mono ?_; rintro e' x5 ⟨rfl, hB5⟩ ; have k4 := QQ.out.2.1.below hB5 QQ.out.2.1.lt; have k9 := QQ.out.2.2.2.1.below hB5 QQ.out.2.2.2.1.lt; have z40 : x5.frozen? ⟨g4, 0, none⟩ = false := k4.free 0; have z41 : x5.frozen? ⟨g4, 1, none⟩ = false := k4.free 1; have z90 : x5.frozen? ⟨g9, 0, none⟩ = false := k9.free 0; have d40 : x5.cell? ⟨g4, 0, none⟩ = some (.string Si) := k4.cell 0; have d41 : x5.cell? ⟨g4, 1, none⟩ = some (.int .i64 (ei : Int)) := k4.cell 1; have d90 : x5.cell? ⟨g9, 0, none⟩ = some (.int .u64 0) := k9.cell 0; clear k4 k9))
      have k2 := (((QQ.out.1.below hB5 QQ.out.1.lt).set_other ⟨g4, 0, none⟩ (.string Sj) h24).set_other ⟨g4, 1, none⟩ (.int .i64 (ej : Int)) h24).set_other ⟨g9, 0, none⟩ (.int .u64 (v : Int)) h29
      have k4 := (((QQ.out.2.1.below hB5 QQ.out.2.1.lt).set 0 (.string Sj)).set 1 (.int .i64 (ej : Int))).set_other ⟨g9, 0, none⟩ (.int .u64 (v : Int)) h49
      have k6 := (((QQ.out.2.2.1.below hB5 QQ.out.2.2.1.lt).set_other ⟨g4, 0, none⟩ (.string Sj) h64x).set_other ⟨g4, 1, none⟩ (.int .i64 (ej : Int)) h64x).set_other ⟨g9, 0, none⟩ (.int .u64 (v : Int)) h69
      have k9 := (((QQ.out.2.2.2.1.below hB5 QQ.out.2.2.2.1.lt).set_other ⟨g4, 0, none⟩ (.string Sj) h94).set_other ⟨g4, 1, none⟩ (.int .i64 (ej : Int)) h94).set 0 (.int .u64 (v : Int))
      have j4 := QQ.out.2.1.below hB5 QQ.out.2.1.lt
      have hown := (((QQ.out.2.2.2.2.1.up hB5).setB (o := 0) (v := .string Sj) j4 (by decide)).setB (o := 1) (v := .int .i64 (ej : Int)) (j4.set 0 _) (by decide)).frm (P := fun q => q = g9) ((Frm.refl _ _).setCell g9 0 (.int .u64 (v : Int)) rfl) (fun q hq e => HA9.out q hq e)
      have hbel : Below w.heap.size w _ := (((below_more QQ.out.2.2.2.2.2 hB5).setCell (p := ⟨g4, 0, none⟩) hg4w (.string Sj)).setCell (p := ⟨g4, 1, none⟩) hg4w (.int .i64 (ej : Int))).setCell (p := ⟨g9, 0, none⟩) hg9w (.int .u64 (v : Int))
      obtain ⟨W14, hW14⟩ : ∃ z, z = ((x5.setCell ⟨g4, 0, none⟩ (.string Sj)).setCell ⟨g4, 1, none⟩ (.int .i64 (ej : Int))).setCell ⟨g9, 0, none⟩ (.int .u64 (v : Int)) := ⟨_, rfl⟩
      rw [← hW14] at k2 k4 k6 k9 hown hbel
      rw [← hW14]
      clear j4 hB5 hW14 QQ c40 c41 z40 z41 z90 d40 d41 d90
      have k4 : Blk W14 g4 [.string Sj, .int .i64 (ej : Int)] 62 := k4
      have k9 : Blk W14 g9 [.int .u64 (v : Int), .string ⟨#[]⟩] 67 := k9
      have QQ := Lib.hid (And.intro k2 (And.intro k4 (And.intro k6 (And.intro k9 (And.intro hown hbel)))))
      have c40 : W14.cell? ⟨g4, 0, none⟩ = some (.string Sj) := k4.cell 0
      have c41 : W14.cell? ⟨g4, 1, none⟩ = some (.int .i64 (ej : Int)) := k4.cell 1
      clear k2 k4 k6 k9 hown hbel
      go_upto_region 15 with (first
        | (go_at_call 25; refine (D2.out _).mono ?_; rintro e' x6 ⟨rfl, hB5⟩ ; have k4 := QQ.out.2.1.below hB5 QQ.out.2.1.lt; have k9 := QQ.out.2.2.2.1.below hB5 QQ.out.2.2.2.1.lt; have z40 : x6.frozen? ⟨g4, 0, none⟩ = false := k4.free 0; have z41 : x6.frozen? ⟨g4, 1, none⟩ = false := k4.free 1; have z91 : x6.frozen? ⟨g9, 1, none⟩ = false := k9.free 1; have d40 : x6.cell? ⟨g4, 0, none⟩ = some (.string Sj) := k4.cell 0; have d41 : x6.cell? ⟨g4, 1, none⟩ = some (.int .i64 (ej : Int)) := k4.cell 1; have d91 : x6.cell? ⟨g9, 1, none⟩ = some (.string ⟨#[]⟩) := k9.cell 1; clear k4 k9))
      have k2 := (((QQ.out.1.below hB5 QQ.out.1.lt).set_other ⟨g4, 0, none⟩ (.string Sk) h24).set_other ⟨g4, 1, none⟩ (.int .i64 (ek : Int)) h24).set_other ⟨g9, 1, none⟩ (.string Y) h29
      have k4 := (((QQ.out.2.1.below hB5 QQ.out.2.1.lt).set 0 (.string Sk)).set 1 (.int .i64 (ek : Int))).set_other ⟨g9, 1, none⟩ (.string Y) h49
      have k6 := (((QQ.out.2.2.1.below hB5 QQ.out.2.2.1.lt).set_other ⟨g4, 0, none⟩ (.string Sk) h64x).set_other ⟨g4, 1, none⟩ (.int .i64 (ek : Int)) h64x).set_other ⟨g9, 1, none⟩ (.string Y) h69
      have k9 := (((QQ.out.2.2.2.1.below hB5 QQ.out.2.2.2.1.lt).set_other ⟨g4, 0, none⟩ (.string Sk) h94).set_other ⟨g4, 1, none⟩ (.int .i64 (ek : Int)) h94).set 1 (.string Y)
      have j4 := QQ.out.2.1.below hB5 QQ.out.2.1.lt
      have hown := (((QQ.out.2.2.2.2.1.up hB5).setB (o := 0) (v := .string Sk) j4 (by decide)).setB (o := 1) (v := .int .i64 (ek : Int)) (j4.set 0 _) (by decide)).frm (P := fun q => q = g9) ((Frm.refl _ _).setCell g9 1 (.string Y) rfl) (fun q hq e => HA9.out q hq e)
      have hbel : Below w.heap.size w _ := (((below_more QQ.out.2.2.2.2.2 hB5).setCell (p := ⟨g4, 0, none⟩) hg4w (.string Sk)).setCell (p := ⟨g4, 1, none⟩) hg4w (.int .i64 (ek : Int))).setCell (p := ⟨g9, 1, none⟩) hg9w (.string Y)
      obtain ⟨W15, hW15⟩ : ∃ z, z = ((x6.setCell ⟨g4, 0, none⟩ (.string Sk)).setCell ⟨g4, 1, none⟩ (.int .i64 (ek : Int))).setCell ⟨g9, 1, none⟩ (.string Y) := ⟨_, rfl⟩
      rw [← hW15] at k2 k4 k6 k9 hown hbel
      rw [← hW15]
      clear j4 hB5 hW15 QQ c40 c41 z40 z41 z91 d40 d41 d91
      have k4 : Blk W15 g4 [.string Sk, .int .i64 (ek : Int)] 62 := k4
      have k9 : Blk W15 g9 [.int .u64 (v : Int), .string Y] 67 := k9
      have c61 : W15.cell? ⟨g6, 1, none⟩ = some (.slice A1 i c1) := k6.cell 1
      have c90 : W15.cell? ⟨g9, 0, none⟩ = some (.int .u64 (v : Int)) := k9.cell 0
      have c91 : W15.cell? ⟨g9, 1, none⟩ = some (.string Y) := k9.cell 1
      have QQ := Lib.hid (And.intro k2 (And.intro k4 (And.intro k6 (And.intro hown hbel))))
      clear k2 k4 k6 k9 hown hbel
      go_wp2_with (first
        | ((with_reducible refine at_bsX 31 1 #[(0, .tmp 60)] ?_); refine wpList_bsG rfl 31 67 2 24 (.agg zDO.toArray) [.int .u64 (v : Int), .string Y] rfl Try.underlying31 infoDO (by decide) (by decide) zDO zDO_arr rfl (.tmp 60) rfl (by first | rfl | simp [Act.eval]) ?_; intro g z1 hb1 hg1 hl1 hB1)
        | ((with_reducible refine at_appX 31 (.tmp 59) (.tmp 61) ?_); refine wpList_appG rfl 31 67 2 24 (.agg zDO.toArray) Try.underlying31 infoDO rfl (by decide) (by decide) (by decide) (.tmp 59) (.tmp 61) rfl w.heap.size w (below_more QQ.out.2.2.2.2 hB1) (Nat.le_refl _) A1 i c1 (Oi.map DO) (by first | rfl | simp [Act.eval]) (QQ.out.2.2.2.1.up hB1) ⟨g, 0, none⟩ rfl 1 1 (by decide) [[.int .u64 (v : Int), .string Y]] (by first | rfl | simp [Act.eval]) (hb1.rdG rfl) (fun y hy u hu => by rw [List.mem_singleton.1 hy] at hu; simp at hu; rcases hu with rfl | rfl <;> rfl) (by omega) ?_; intro A3 c3 z2 ho2 hf2 hB2
           have j6 := (QQ.out.2.2.1.below hB1 QQ.out.2.2.1.lt).appG (QQ.out.2.2.2.1.up hB1) (by decide) hf2
           have j4 := (QQ.out.2.1.below hB1 QQ.out.2.1.lt).appG (QQ.out.2.2.2.1.up hB1) (by decide) hf2
           have j2 := (QQ.out.1.below hB1 QQ.out.1.lt).appG (QQ.out.2.2.2.1.up hB1) (by decide) hf2
           have s61 : z2.cell? ⟨g6, 1, none⟩ = some (.slice A1 i c1) := j6.cell 1
           have f61 : z2.frozen? ⟨g6, 1, none⟩ = false := j6.free 1))
      go_roundw
      case rel => exact ⟨i + 1, lk, ek, Oi ++ [(v, y)], A3, c3, Sk, by omega, by go_num, j4.set_other ⟨g6, 1, none⟩ _ h46, HSK.out.1, HSK.out.2.1, j6.set 1 _, j2.set_other ⟨g6, 1, none⟩ _ h26, by rw [HD.out]; exact ho2.setB j6 (by decide), HG.out, HSK.out.2.2, hB2.setCell (p := ⟨g6, 1, none⟩) hg6w _⟩
      case measure => simp [intOf]; omega
    · have hlt' : ¬ (i : Int) < (n3 : Int) := by omega
      have e : i = n3 := by omega
      subst e
      rw [Nat.sub_self] at hgo
      have hgo2 : ogo i l3 e3 = (Oi, li, ei) := by rw [hgo]; simp [ogo]
      have HEE : Hid (tpE l = if ei ≠ 0 then ei else if 0 < li.length then 3 else 0) := Lib.hid (by rw [HE.out, HT.out.1, hgo2])
      have HOO : Hid ((tgo l).1 = Oi) := Lib.hid (by rw [HT.out.1, hgo2])
      have c40 : wr.cell? ⟨g4, 0, none⟩ = some (.string Si) := k4.cell 0
      have c41 : wr.cell? ⟨g4, 1, none⟩ = some (.int .i64 (ei : Int)) := k4.cell 1
      have c60 : wr.cell? ⟨g6, 0, none⟩ = some (.int .u64 (s2 : Int)) := k6.cell 0
      have c61 : wr.cell? ⟨g6, 1, none⟩ = some (.slice A1 i c1) := k6.cell 1
      have c20 : wr.cell? ⟨g2, 0, none⟩ = some (.int .u64 0) := k2.cell 0
      have c21 : wr.cell? ⟨g2, 1, none⟩ = some (.slice none 0 0) := k2.cell 1
      have z20 : wr.frozen? ⟨g2, 0, none⟩ = false := k2.free 0
      have z21 : wr.frozen? ⟨g2, 1, none⟩ = false := k2.free 1
      have hSz : Si.size = li.length := by rw [hSi, bstr_size]
      obtain ⟨q, hq⟩ : ∃ z, z = li.length := ⟨_, rfl⟩
      rw [← hq] at hSz HEE
      have QQ := Lib.hid (And.intro k2 (And.intro hown hbel))
      have HOL := Lib.hid hOl
      by_cases hei : ei = 0
      · subst hei
        rw [if_neg (by simp)] at HEE
        by_cases hq0 : 0 < q
        · have hq0' : (0 : Int) < (q : Int) := by omega
          have e3' : tpE l = 3 := by rw [HEE.out, if_pos hq0]
          have hS : tpS l = 0 := by unfold tpS; rw [if_neg (by omega)]
          have hO : tpO l = [] := by unfold tpO; rw [if_neg (by omega)]
          have HX := Lib.hid (And.intro e3' (And.intro hS hO))
          clear e3' hS hO hgo hgo2 hSi hlli k4 k6 k2 hown hbel hOl hq
          go_wp2
          obtain ⟨e3', hS, hO⟩ := HX.out
          rw [e3', hS, hO]
          refine bodyPost_ret (v := .tuple #[.agg #[.int .u64 0, .slice none 0 0], .int .i64 3]) ?_ rfl ?_
          · exact results_in Try.results8 _ _ g2 33 _ (0, 0) _ _ (by rfl) (by rfl) ((QQ.out.1.set 0 (.int .u64 0)).set 1 (.slice none 0 0)) Try.underlying33 rfl I2tx
          · first | exact ⟨none, 0, rfl, RdG.nil _ _ _, ((QQ.out.2.2.setCell (p := ⟨g2, 0, none⟩) hg2w _).setCell (p := ⟨g2, 1, none⟩) hg2w _)⟩ | exact ⟨none, ⟨0, rfl⟩, RdG.nil _ _ _, ((QQ.out.2.2.setCell (p := ⟨g2, 0, none⟩) hg2w _).setCell (p := ⟨g2, 1, none⟩) hg2w _)⟩
        · have hq0' : ¬ (0 : Int) < (q : Int) := by omega
          have e3' : tpE l = 0 := by rw [HEE.out, if_neg hq0]
          have hS : tpS l = s2 := by unfold tpS; rw [if_pos e3', HT.out.2]
          have hO : tpO l = Oi := by unfold tpO; rw [if_pos e3', HOO.out]
          have HX := Lib.hid (And.intro e3' (And.intro hS hO))
          clear e3' hS hO hgo hgo2 hSi hlli k4 k6 k2 hown hbel hOl hq
          go_wp2
          obtain ⟨e3', hS, hO⟩ := HX.out
          rw [e3', hS, hO, HOL.out]
          refine bodyPost_ret (v := .tuple #[.agg #[.int .u64 (s2 : Int), .slice A1 i c1], .int .i64 0]) ?_ rfl ?_
          · exact results_in Try.results8 _ _ g2 33 _ (0, 0) _ _ (by rfl) (by rfl) ((QQ.out.1.set 0 (.int .u64 (s2 : Int))).set 1 (.slice A1 i c1)) Try.underlying33 rfl I2tx
          · first | exact ⟨A1, c1, rfl, ((QQ.out.2.1.setB QQ.out.1 (by decide)).setB (QQ.out.1.set 0 _) (by decide)).rd, (QQ.out.2.2.setCell (p := ⟨g2, 0, none⟩) hg2w _).setCell (p := ⟨g2, 1, none⟩) hg2w _⟩ | exact ⟨A1, ⟨c1, rfl⟩, ((QQ.out.2.1.setB QQ.out.1 (by decide)).setB (QQ.out.1.set 0 _) (by decide)).rd, (QQ.out.2.2.setCell (p := ⟨g2, 0, none⟩) hg2w _).setCell (p := ⟨g2, 1, none⟩) hg2w _⟩
      · have hei' : ¬ (ei : Int) = 0 := by omega
        have e3' : tpE l = ei := by rw [HEE.out, if_pos hei]
        have hS : tpS l = 0 := by unfold tpS; rw [if_neg (by omega)]
        have hO : tpO l = [] := by unfold tpO; rw [if_neg (by omega)]
        have HX := Lib.hid (And.intro e3' (And.intro hS hO))
        clear e3' hS hO hgo hgo2 hSi hlli k4 k6 k2 hown hbel hOl hq
        go_wp2
        go_region
        all_goals go_wp2
        all_goals (obtain ⟨e3', hS, hO⟩ := HX.out; rw [e3', hS, hO])
        refine bodyPost_ret (v := .tuple #[.agg #[.int .u64 0, .slice none 0 0], .int .i64 (ei : Int)]) ?_ rfl ?_
        · exact results_in Try.results8 _ _ g2 33 _ (0, 0) _ _ (by rfl) (by rfl) (Blk.drew ((QQ.out.1.set 0 (.int .u64 0)).set 1 (.slice none 0 0))) Try.underlying33 rfl I2tx
        · first | exact ⟨none, 0, rfl, RdG.nil _ _ _, ((QQ.out.2.2.setCell (p := ⟨g2, 0, none⟩) hg2w _).setCell (p := ⟨g2, 1, none⟩) hg2w _).drew⟩ | exact ⟨none, ⟨0, rfl⟩, RdG.nil _ _ _, ((QQ.out.2.2.setCell (p := ⟨g2, 0, none⟩) hg2w _).setCell (p := ⟨g2, 1, none⟩) hg2w _).drew⟩
end Go.Proofs.Ythkkllcpogagiaa
