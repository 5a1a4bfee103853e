/- Merged texts: TxnR. -/
import Derived.Test.YthkkllcpogagiaaMav
import Derived.Test.YthkkllcpogagiaaMaq
import Derived.Test.YthkkllcpogagiaaMab
import Derived.Test.YthkkllcpogagiaaMae
import Derived.Deep.RegionHeld3
import Derived.Deep.CutRange
import Derived.Deep.DeepCutAuto
/- The walk of TxnPays, over what package txn is to answer. -/
namespace Go.Proofs.Ythkkllcpogagiaa
open Go.RowKit
set_option linter.unusedVariables false
set_option linter.unusedSimpArgs false
set_option maxRecDepth 100000 in
theorem digs_more (p : Nat) (h : 18446744073709551616 ≤ p) : 4 < (digs p).length := by
  rcases Nat.lt_or_ge 4 (digs p).length with k | k
  · exact k
  · have := (digs_len p 4).1 k
    have h4 : (65536 : Nat) ^ 4 = 18446744073709551616 := by decide
    omega
set_option maxRecDepth 100000 in
theorem wk_first (p : Nat) (h : (digs p).length ≤ 4) : wk (digs p) 0 0 = p := by
  unfold wk
  rw [List.take_of_length_le (by omega), Nat.mul_zero, Nat.max_self, List.drop_zero]
  exact val_digs p
set_option maxRecDepth 100000 in
theorem wp_cvT {o : Oper} {a : Act} {W : World} {K : Act → World → Prop} {Q : Exit → Act → World → Prop} {s d : TypeId} {v u : Value} (x : Operand) (ho : o.op = .convert s d x) (hx : a.eval x = v) (h : (convert s d v).run Try.prog W = .ok u W) (hK : K (a.put o.dst u) W) : o.wp Try.prog a W K Q := by
  unfold Oper.wp execOp
  simp only [ho, hx, Sem.run_bind, h, Result.andThen_ok]
  exact hK
set_option maxRecDepth 100000 in
theorem size64 : (Try.prog.info? 24).map (·.size) = some 1 := by kernel_rfl
set_option maxRecDepth 100000 in
set_option maxHeartbeats 8000000 in
theorem txnPays_walk (K : TxnOk) (KP : TxnPay) (s : Nat) (A : Option Addr) (n c : Nat) (O : List (Nat × List UInt8)) (X : Option Addr) (m d : Nat) (t : List UInt8) (w : World) (hs64 : s < 18446744073709551616) (w1 : RdT w A n O ∧ n ≤ c ∧ c ≤ maxLen) (w2 : Rd w X m t ∧ m ≤ d ∧ d ≤ maxLen) : Calls Try.prog 4 #[.agg #[.int .u64 (s : Int), .slice A n c], .slice X m d] w (Ret w (.bool true)) := by
  obtain ⟨hr, hnc, hcm⟩ := w1
  obtain ⟨hx, hmd, hdm⟩ := w2
  have hln := hr.len
  have hlt := hx.len
  have CA : Hid (∀ W, Calls Try.prog 6 #[] W (Ret W (.bool true))) := Lib.hid fun W => awake14_calls K W
  have hk2 : Blk (w.alloc (.cells #[.int .u64 (s : Int), .slice A n c] 27)) w.heap.size [.int .u64 (s : Int), .slice A n c] 27 := Blk.new w _ _
  have hB0 : Below w.heap.size w (w.alloc (.cells #[.int .u64 (s : Int), .slice A n c] 27)) := below_al (Below.refl _ w) _
  obtain ⟨W0, hW0⟩ : ∃ z, z = w.alloc (.cells #[.int .u64 (s : Int), .slice A n c] 27) := ⟨_, rfl⟩
  obtain ⟨g2, hg2⟩ : ∃ z, z = w.heap.size := ⟨_, rfl⟩
  rw [← hW0] at hk2 hB0
  rw [← hg2] at hk2
  have HW0 := Lib.hid hW0
  have HG2 := Lib.hid hg2
  have hr0 : RdT W0 A n O := hr.below hB0
  have hx0 : Rd W0 X m t := hx.below hB0
  have CS : Hid (Calls Try.prog 12 #[.agg #[.int .u64 (s : Int), .slice A n c]] W0 (Ret W0 (.bool (sml14 O)))) := Lib.hid (tsmall_calls s A n c O W0 hr0 (by omega))
  have HB0 := Lib.hid hB0
  have HK2 := Lib.hid hk2
  have hdm' := hdm
  unfold maxLen at hdm'
  by_cases hs : sml14 O = false
  · rw [hs] at CS
    unfold maxLen at hcm
    clear hr hr0 hx hx0 hk2 hW0 hB0 hg2 K KP
    go_enter Try.func4, Try.ntmps4
    go_upto_region 1 with fail
    rw [← HW0.out, ← HG2.out]
    have hk2 := HK2.out
    go_wp2_with (first
      | ((with_reducible refine at_load 27 (.tmp 2) ?_); refine wpList_load_mid rfl 27 (.tmp 2) rfl g2 0 (by first | rfl | (simp [Act.eval]; done)) [.int .u64 (s : Int), .slice A n c] _ (Blk.range hk2) Try.underlying27 rfl (by kernel_rfl) ?_)
      | (go_at_call 12; refine (CS.out).mono ?_; rintro e' x1 ⟨rfl, hB1⟩)
      | (go_at_call 6; refine (CA.out _).mono ?_; rintro e' x2 ⟨rfl, hB2⟩))
    go_ret
    exact ⟨rfl, below_more HB0.out (below_more hB1 hB2)⟩
  have hs : sml14 O = true := by simpa using hs
  rw [hs] at CS
  by_cases hm200 : 200 < m
  · have hm200' : (200 : Int) < (m : Int) := by omega
    unfold maxLen at hcm
    clear hr hr0 hx hx0 hk2 hW0 hB0 hg2 K KP hlt
    go_enter Try.func4, Try.ntmps4
    go_upto_region 1 with fail
    rw [← HW0.out, ← HG2.out]
    have hk2 := HK2.out
    go_wp2_with (first
      | ((with_reducible refine at_load 27 (.tmp 2) ?_); refine wpList_load_mid rfl 27 (.tmp 2) rfl g2 0 (by first | rfl | (simp [Act.eval]; done)) [.int .u64 (s : Int), .slice A n c] _ (Blk.range hk2) Try.underlying27 rfl (by kernel_rfl) ?_)
      | (go_at_call 12; refine (CS.out).mono ?_; rintro e' x1 ⟨rfl, hB1⟩)
      | (go_at_call 6; refine (CA.out _).mono ?_; rintro e' x2 ⟨rfl, hB2⟩))
    go_ret
    exact ⟨rfl, below_more HB0.out (below_more hB1 hB2)⟩
  have hm200' : ¬ (200 : Int) < (m : Int) := by omega
  obtain ⟨h20, h200⟩ := sml14_yes hs
  have hall := hr.all
  obtain ⟨p, hp⟩ : ∃ z, z = paid t O := ⟨_, rfl⟩
  obtain ⟨f, hf⟩ : ∃ z, z = pays t O := ⟨_, rfl⟩
  obtain ⟨S, hS⟩ : ∃ z : ByteArray, z = ⟨t.toArray⟩ := ⟨_, rfl⟩
  have CF : Hid (∀ W, Below W0.heap.size W0 W → Calls Try.prog 10 #[.agg #[.int .u64 (s : Int), .slice A n c]] W fun e w' => ∃ A2 c2, e = .returned (.agg #[.int .u64 (s : Int), .slice A2 n c2]) ∧ OwnG w' W.heap.size 67 2 A2 n c2 (O.map DO) ∧ Below W.heap.size W w') := Lib.hid fun W hb => tref_calls s A n c O W (hr0.below hb) (by omega)
  have HCV : Hid (∀ W, Below W0.heap.size W0 W → (convert 22 9 (.slice X m d)).run Try.prog W = .ok (.string S) W) := Lib.hid fun W hb => by rw [hS]; exact conv8 W X m d t (hx0.below hb)
  have CM : Hid (∀ W A' c', RdG W 2 A' n (O.map DO) → Calls Try.prog 13 #[.agg #[.int .u64 (s : Int), .slice A' n c'], .string S] W fun e w' => ∃ A2 m2 c2, e = .returned (.tuple #[.slice A2 m2 c2, .bool f]) ∧ RdI w' A2 m2 (digs p) ∧ m2 ≤ c2 ∧ c2 ≤ maxLen ∧ Below W.heap.size W w') := Lib.hid fun W A' c' h => by
    rw [hS, hf, hp]
    exact tsum_calls s A' n c' O t W h (by omega) hall
  have CU : Hid (∀ W, Below W0.heap.size W0 W → Calls Try.prog 14 #[.agg #[.int .u64 (s : Int), .slice A n c], .slice X m d] W (Ret W (.tuple #[.int .u64 ((if p < 18446744073709551616 then p else 0 : Nat) : Int), .bool (decide (p < 18446744073709551616))]))) := Lib.hid fun W hb => by
    rw [hp]
    exact KP.sum W s A n c O X m d t hs64 (hr0.below hb) hnc hcm (by omega) h200 (hx0.below hb) hmd hdm (by omega)
  have CY : Hid (∀ W, Below W0.heap.size W0 W → Calls Try.prog 15 #[.agg #[.int .u64 (s : Int), .slice A n c], .slice X m d] W (Ret W (.bool f))) := Lib.hid fun W hb => by
    rw [hf]
    exact KP.pays W s A n c O X m d t hs64 (hr0.below hb) hnc hcm (by omega) h200 (hx0.below hb) hmd hdm (by omega)
  obtain ⟨Z4, hZ4⟩ : ∃ z, z = ws4 (digs p) 0 := ⟨_, rfl⟩
  have CWW : Hid (∀ W A' m' c', p < 18446744073709551616 → RdI W A' m' (digs p) → Calls Try.prog 16 #[.slice A' m' c'] W (Ret W (.agg Z4.toArray))) := Lib.hid fun W A' m' c' h1 h2 => by
    rw [hZ4]
    exact bwords_calls A' m' c' (digs p) W (by have := h2.len; have := digs_four p h1; omega) (digs_lt p) h2
  have hidx : p < 18446744073709551616 → ∀ W, (Instr.index 48 (.agg Z4.toArray) (.int .i64 0)).run Try.prog W = .ok (.int .u64 (p : Int)) W := fun h W =>
    run_idx 48 24 4 Try.underlying48 .u64 Try.underlying24 size64 Z4 0 (.int .u64 (p : Int)) (by omega) (by rw [hZ4]; show some (Value.int .u64 (wk (digs p) 0 0 : Int)) = _; rw [wk_first p (digs_four p h)]) W
  have HIDX := Lib.hid hidx
  unfold maxLen at hcm
  clear hr hr0 hx hx0 hk2 hW0 hB0 hg2 K KP hs h20 h200 hall hp hf hS hZ4 hln hlt hidx hdm hm200
  go_enter Try.func4, Try.ntmps4
  go_upto_region 1 with fail
  rw [← HW0.out, ← HG2.out]
  have hk2 := HK2.out
  go_upto_region 3 with (first
    | ((with_reducible refine at_load 27 (.tmp 2) ?_); refine wpList_load_mid rfl 27 (.tmp 2) rfl g2 0 (by first | rfl | (simp [Act.eval]; done)) [.int .u64 (s : Int), .slice A n c] _ (Blk.range hk2) Try.underlying27 rfl (by kernel_rfl) ?_)
    | (go_at_call 12; refine (CS.out).mono ?_; rintro e' x1 ⟨rfl, hB1⟩))
  have hk := (blk_upT hk2 hB1).drew
  have hB := hB1.drew
  clear hB1 hk2 CS HK2
  refine wp_region_held_drew (S := fun W => Blk W g2 [.int .u64 (s : Int), .slice A n c] 27) (by kernel_rfl) ?_ (fun hHeld => ?_)
  · exact hk
  refine wpAnyH_take (i := 0) rfl (by kernel_rfl) (by kernel_rfl) (by kernel_rfl) (fun _ _ _ h => h) (yieldsIf_load_mid (by rfl) _ _ rfl _ _ rfl [.int .u64 (s : Int), .slice A n c] _ (fun w hSw => Blk.range hSw) Try.underlying27 rfl (by kernel_rfl)) (by assumption) ?_
  (try simp only [List.getElem_toArray, List.getElem_cons_succ, List.getElem_cons_zero, Act.put, List.setIfInBounds_toArray, List.set_cons_succ, List.set_cons_zero])
  refine wpAnyH_take (i := 2) (v := ?_) rfl (by kernel_rfl) (by kernel_rfl) (by kernel_rfl) (fun _ _ _ h => h) (Or.inl ⟨by rfl, ?_⟩) (by assumption) ?_
  rotate_left 1
  · intro w hSw; (try dsimp only at hSw); simp only [List.getElem_toArray, List.getElem_cons_succ, List.getElem_cons_zero]; go_simp; try (with_reducible rfl)
  (try simp only [List.getElem_toArray, List.getElem_cons_succ, List.getElem_cons_zero, Act.put, List.setIfInBounds_toArray, List.set_cons_succ, List.set_cons_zero])
  refine wpAnyH_ready (rs := [1, 3]) (by kernel_rfl) (by simp) ?_
  refine AllReadyH.cons rfl (fun K hK => ?_) ?_
  · (try simp only [List.getElem_toArray, List.getElem_cons_succ, List.getElem_cons_zero])
    go_simp
    go_at_call 10; refine (CF.out _ hB).mono ?_; rintro e' x3 ⟨A6, c6, rfl, hO6, hB6⟩
    (try (go_wp2_with fail))
    refine hK.out _ _ ?_ (fun hHeld => ?_)
    · exact blk_upT hk hB6
    clear hK K
    (try simp only [Act.put, List.setIfInBounds_toArray, List.set_cons_succ, List.set_cons_zero])
    have hk := blk_upT hk hB6
    have hB := below_more hB hB6
    have HO6 := Lib.hid hO6
    clear hO6
    refine wpAnyH_ready (rs := [3]) (by kernel_rfl) (by simp) ?_
    refine AllReadyH.cons rfl (fun K hK => ?_) AllReadyH.nil
    (try simp only [List.getElem_toArray, List.getElem_cons_succ, List.getElem_cons_zero])
    refine Eq.mpr (if_pos (by first | rfl | simp [Region.wanted, yielded, Act.put])) ?_
    refine wp_cvT (u := .string S) _ rfl (by first | rfl | (simp [Act.eval]; done)) (HCV.out _ hB) ?_
    refine hK.out _ _ ?_ (fun hHeld => ?_)
    · exact hk
    clear hK K
    (try simp only [Act.put, List.setIfInBounds_toArray, List.set_cons_succ, List.set_cons_zero])
    refine wpAnyH_ready (rs := [4]) (by kernel_rfl) (by simp) ?_
    refine AllReadyH.cons rfl (fun K hK => ?_) AllReadyH.nil
    (try simp only [List.getElem_toArray, List.getElem_cons_succ, List.getElem_cons_zero])
    go_simp
    go_at_call 13; refine (CM.out _ _ _ HO6.out.rd).mono ?_; rintro e' x4 ⟨A7, m7, c7, rfl, hR7, hm7, hc7, hB7⟩
    (try (go_wp2_with fail))
    refine hK.out _ _ ?_ (fun hHeld => ?_)
    · exact blk_upT hk hB7
    clear hK K
    (try simp only [Act.put, List.setIfInBounds_toArray, List.set_cons_succ, List.set_cons_zero])
    refine wpAnyH_take (i := 5) (v := ?_) rfl (by kernel_rfl) (by kernel_rfl) (by kernel_rfl) (fun _ _ _ h => h) (Or.inl ⟨by rfl, ?_⟩) (by assumption) ?_
    rotate_left 1
    · intro w hSw; (try dsimp only at hSw); simp only [List.getElem_toArray, List.getElem_cons_succ, List.getElem_cons_zero]; go_simp; try (with_reducible rfl)
    (try simp only [List.getElem_toArray, List.getElem_cons_succ, List.getElem_cons_zero, Act.put, List.setIfInBounds_toArray, List.set_cons_succ, List.set_cons_zero])
    refine wpAnyH_take (i := 6) (v := ?_) rfl (by kernel_rfl) (by kernel_rfl) (by kernel_rfl) (fun _ _ _ h => h) (Or.inl ⟨by rfl, ?_⟩) (by assumption) ?_
    rotate_left 1
    · intro w hSw; (try dsimp only at hSw); simp only [List.getElem_toArray, List.getElem_cons_succ, List.getElem_cons_zero]; go_simp; try (with_reducible rfl)
    (try simp only [List.getElem_toArray, List.getElem_cons_succ, List.getElem_cons_zero, Act.put, List.setIfInBounds_toArray, List.set_cons_succ, List.set_cons_zero])
    refine wpAnyH_take (i := 7) (v := ?_) rfl (by kernel_rfl) (by kernel_rfl) (by kernel_rfl) (fun _ _ _ h => h) (Or.inl ⟨by rfl, ?_⟩) (by assumption) ?_
    rotate_left 1
    · intro w hSw; (try dsimp only at hSw); simp only [List.getElem_toArray, List.getElem_cons_succ, List.getElem_cons_zero]; go_simp; try (with_reducible rfl)
    (try simp only [List.getElem_toArray, List.getElem_cons_succ, List.getElem_cons_zero, Act.put, List.setIfInBounds_toArray, List.set_cons_succ, List.set_cons_zero])
    refine wpAnyH_take (i := 8) (v := ?_) rfl (by kernel_rfl) (by kernel_rfl) (by kernel_rfl) (fun _ _ _ h => h) (Or.inl ⟨by rfl, ?_⟩) (by assumption) ?_
    rotate_left 1
    · intro w hSw; (try dsimp only at hSw); simp only [List.getElem_toArray, List.getElem_cons_succ, List.getElem_cons_zero]; go_simp; try (with_reducible rfl)
    (try simp only [List.getElem_toArray, List.getElem_cons_succ, List.getElem_cons_zero, Act.put, List.setIfInBounds_toArray, List.set_cons_succ, List.set_cons_zero])
    refine wpAnyH_take (i := 9) (v := ?_) rfl (by kernel_rfl) (by kernel_rfl) (by kernel_rfl) (fun _ _ _ h => h) (Or.inl ⟨by rfl, ?_⟩) (by assumption) ?_
    rotate_left 1
    · intro w hSw; (try dsimp only at hSw); simp only [List.getElem_toArray, List.getElem_cons_succ, List.getElem_cons_zero]; go_simp; try (with_reducible rfl)
    (try simp only [List.getElem_toArray, List.getElem_cons_succ, List.getElem_cons_zero, Act.put, List.setIfInBounds_toArray, List.set_cons_succ, List.set_cons_zero])
    refine wpAnyH_done (by kernel_rfl) ?_ _
    have hk := blk_upT hk hB7
    have hB := below_more hB hB7
    have HR7 := Lib.hid hR7
    have hlen7 := hR7.len
    have HC7 := Lib.hid (And.intro hm7 hc7)
    have HB := Lib.hid hB
    have HK2 := Lib.hid hk
    unfold maxLen at hc7
    clear hR7 hB7 hB hB6
    go_upto_region 5 with (first
      | ((with_reducible refine at_load 27 (.tmp 2) ?_); refine wpList_load_mid rfl 27 (.tmp 2) rfl g2 0 (by first | rfl | (simp [Act.eval]; done)) [.int .u64 (s : Int), .slice A n c] _ (Blk.range hk) Try.underlying27 rfl (by kernel_rfl) ?_)
      | (go_at_call 14; refine (CU.out _ HB.out).mono ?_; rintro e' x5 ⟨rfl, hB8⟩))
    have hk := blk_upT HK2.out hB8
    have HB5 := Lib.hid (below_more HB.out hB8)
    have hR7b := HR7.out.below hB8
    have HR7 := Lib.hid hR7b
    clear hB8 hR7b HB
    by_cases h64 : p < 18446744073709551616
    · have hl4 : m7 ≤ 4 := by rw [← hlen7]; exact digs_four p h64
      have hl4' : ¬ (4 : Int) < (m7 : Int) := by omega
      have hix := HIDX.out h64
      rw [if_pos h64, decide_eq_true h64]
      have CV4 := Lib.hid (fun W hb => CWW.out W A7 m7 c7 h64 (HR7.out.below hb))
      clear h64 hlen7
      go_wp2_with (first
        | ((with_reducible refine at_load 27 (.tmp 2) ?_); refine wpList_load_mid rfl 27 (.tmp 2) rfl g2 0 (by first | rfl | (simp [Act.eval]; done)) [.int .u64 (s : Int), .slice A n c] _ (Blk.range hk) Try.underlying27 rfl (by kernel_rfl) ?_)
        | (go_at_call 15; refine (CY.out _ HB5.out).mono ?_; rintro e' x6 ⟨rfl, hB9⟩)
        | (go_at_call 16; refine (CV4.out _ hB9).mono ?_; rintro e' x7 ⟨rfl, hB10⟩)
        | (go_at_call 6; refine (CA.out _).mono ?_; rintro e' x8 ⟨rfl, hB11⟩))
      go_ret
      exact ⟨by first | rfl | (simp; done), below_more HB0.out (below_more (below_more (below_more HB5.out hB9) hB10) hB11)⟩
    · have hl4 : 4 < m7 := by rw [← hlen7]; exact digs_more p (by omega)
      have hl4' : (4 : Int) < (m7 : Int) := by omega
      rw [if_neg h64, decide_eq_false h64]
      clear h64 hlen7
      go_wp2_with (first
        | ((with_reducible refine at_load 27 (.tmp 2) ?_); refine wpList_load_mid rfl 27 (.tmp 2) rfl g2 0 (by first | rfl | (simp [Act.eval]; done)) [.int .u64 (s : Int), .slice A n c] _ (Blk.range hk) Try.underlying27 rfl (by kernel_rfl) ?_)
        | (go_at_call 15; refine (CY.out _ HB5.out).mono ?_; rintro e' x6 ⟨rfl, hB9⟩)
        | (go_at_call 6; refine (CA.out _).mono ?_; rintro e' x8 ⟨rfl, hB11⟩))
      go_ret
      exact ⟨rfl, below_more HB0.out (below_more (below_more HB5.out hB9) hB11)⟩
  refine AllReadyH.cons rfl (fun K hK => ?_) AllReadyH.nil
  (try simp only [List.getElem_toArray, List.getElem_cons_succ, List.getElem_cons_zero])
  refine Eq.mpr (if_pos (by first | rfl | simp [Region.wanted, yielded, Act.put])) ?_
  refine wp_cvT (u := .string S) _ rfl (by first | rfl | (simp [Act.eval]; done)) (HCV.out _ hB) ?_
  refine hK.out _ _ ?_ (fun hHeld => ?_)
  · exact hk
  clear hK K
  (try simp only [Act.put, List.setIfInBounds_toArray, List.set_cons_succ, List.set_cons_zero])
  refine wpAnyH_ready (rs := [1]) (by kernel_rfl) (by simp) ?_
  refine AllReadyH.cons rfl (fun K hK => ?_) AllReadyH.nil
  (try simp only [List.getElem_toArray, List.getElem_cons_succ, List.getElem_cons_zero])
  go_simp
  go_at_call 10; refine (CF.out _ hB).mono ?_; rintro e' x3 ⟨A6, c6, rfl, hO6, hB6⟩
  (try (go_wp2_with fail))
  refine hK.out _ _ ?_ (fun hHeld => ?_)
  · exact blk_upT hk hB6
  clear hK K
  (try simp only [Act.put, List.setIfInBounds_toArray, List.set_cons_succ, List.set_cons_zero])
  have hk := blk_upT hk hB6
  have hB := below_more hB hB6
  have HO6 := Lib.hid hO6
  clear hO6
  refine wpAnyH_ready (rs := [4]) (by kernel_rfl) (by simp) ?_
  refine AllReadyH.cons rfl (fun K hK => ?_) AllReadyH.nil
  (try simp only [List.getElem_toArray, List.getElem_cons_succ, List.getElem_cons_zero])
  go_simp
  go_at_call 13; refine (CM.out _ _ _ HO6.out.rd).mono ?_; rintro e' x4 ⟨A7, m7, c7, rfl, hR7, hm7, hc7, hB7⟩
  (try (go_wp2_with fail))
  refine hK.out _ _ ?_ (fun hHeld => ?_)
  · exact blk_upT hk hB7
  clear hK K
  (try simp only [Act.put, List.setIfInBounds_toArray, List.set_cons_succ, List.set_cons_zero])
  refine wpAnyH_take (i := 5) (v := ?_) rfl (by kernel_rfl) (by kernel_rfl) (by kernel_rfl) (fun _ _ _ h => h) (Or.inl ⟨by rfl, ?_⟩) (by assumption) ?_
  rotate_left 1
  · intro w hSw; (try dsimp only at hSw); simp only [List.getElem_toArray, List.getElem_cons_succ, List.getElem_cons_zero]; go_simp; try (with_reducible rfl)
  (try simp only [List.getElem_toArray, List.getElem_cons_succ, List.getElem_cons_zero, Act.put, List.setIfInBounds_toArray, List.set_cons_succ, List.set_cons_zero])
  refine wpAnyH_take (i := 6) (v := ?_) rfl (by kernel_rfl) (by kernel_rfl) (by kernel_rfl) (fun _ _ _ h => h) (Or.inl ⟨by rfl, ?_⟩) (by assumption) ?_
  rotate_left 1
  · intro w hSw; (try dsimp only at hSw); simp only [List.getElem_toArray, List.getElem_cons_succ, List.getElem_cons_zero]; go_simp; try (with_reducible rfl)
  (try simp only [List.getElem_toArray, List.getElem_cons_succ, List.getElem_cons_zero, Act.put, List.setIfInBounds_toArray, List.set_cons_succ, List.set_cons_zero])
  refine wpAnyH_take (i := 7) (v := ?_) rfl (by kernel_rfl) (by kernel_rfl) (by kernel_rfl) (fun _ _ _ h => h) (Or.inl ⟨by rfl, ?_⟩) (by assumption) ?_
  rotate_left 1
  · intro w hSw; (try dsimp only at hSw); simp only [List.getElem_toArray, List.getElem_cons_succ, List.getElem_cons_zero]; go_simp; try (with_reducible rfl)
  (try simp only [List.getElem_toArray, List.getElem_cons_succ, List.getElem_cons_zero, Act.put, List.setIfInBounds_toArray, List.set_cons_succ, List.set_cons_zero])
  refine wpAnyH_take (i := 8) (v := ?_) rfl (by kernel_rfl) (by kernel_rfl) (by kernel_rfl) (fun _ _ _ h => h) (Or.inl ⟨by rfl, ?_⟩) (by assumption) ?_
  rotate_left 1
  · intro w hSw; (try dsimp only at hSw); simp only [List.getElem_toArray, List.getElem_cons_succ, List.getElem_cons_zero]; go_simp; try (with_reducible rfl)
  (try simp only [List.getElem_toArray, List.getElem_cons_succ, List.getElem_cons_zero, Act.put, List.setIfInBounds_toArray, List.set_cons_succ, List.set_cons_zero])
  refine wpAnyH_take (i := 9) (v := ?_) rfl (by kernel_rfl) (by kernel_rfl) (by kernel_rfl) (fun _ _ _ h => h) (Or.inl ⟨by rfl, ?_⟩) (by assumption) ?_
  rotate_left 1
  · intro w hSw; (try dsimp only at hSw); simp only [List.getElem_toArray, List.getElem_cons_succ, List.getElem_cons_zero]; go_simp; try (with_reducible rfl)
  (try simp only [List.getElem_toArray, List.getElem_cons_succ, List.getElem_cons_zero, Act.put, List.setIfInBounds_toArray, List.set_cons_succ, List.set_cons_zero])
  refine wpAnyH_done (by kernel_rfl) ?_ _
  have hk := blk_upT hk hB7
  have hB := below_more hB hB7
  have HR7 := Lib.hid hR7
  have hlen7 := hR7.len
  have HC7 := Lib.hid (And.intro hm7 hc7)
  have HB := Lib.hid hB
  have HK2 := Lib.hid hk
  unfold maxLen at hc7
  clear hR7 hB7 hB hB6
  go_upto_region 5 with (first
    | ((with_reducible refine at_load 27 (.tmp 2) ?_); refine wpList_load_mid rfl 27 (.tmp 2) rfl g2 0 (by first | rfl | (simp [Act.eval]; done)) [.int .u64 (s : Int), .slice A n c] _ (Blk.range hk) Try.underlying27 rfl (by kernel_rfl) ?_)
    | (go_at_call 14; refine (CU.out _ HB.out).mono ?_; rintro e' x5 ⟨rfl, hB8⟩))
  have hk := blk_upT HK2.out hB8
  have HB5 := Lib.hid (below_more HB.out hB8)
  have hR7b := HR7.out.below hB8
  have HR7 := Lib.hid hR7b
  clear hB8 hR7b HB
  by_cases h64 : p < 18446744073709551616
  · have hl4 : m7 ≤ 4 := by rw [← hlen7]; exact digs_four p h64
    have hl4' : ¬ (4 : Int) < (m7 : Int) := by omega
    have hix := HIDX.out h64
    rw [if_pos h64, decide_eq_true h64]
    have CV4 := Lib.hid (fun W hb => CWW.out W A7 m7 c7 h64 (HR7.out.below hb))
    clear h64 hlen7
    go_wp2_with (first
      | ((with_reducible refine at_load 27 (.tmp 2) ?_); refine wpList_load_mid rfl 27 (.tmp 2) rfl g2 0 (by first | rfl | (simp [Act.eval]; done)) [.int .u64 (s : Int), .slice A n c] _ (Blk.range hk) Try.underlying27 rfl (by kernel_rfl) ?_)
      | (go_at_call 15; refine (CY.out _ HB5.out).mono ?_; rintro e' x6 ⟨rfl, hB9⟩)
      | (go_at_call 16; refine (CV4.out _ hB9).mono ?_; rintro e' x7 ⟨rfl, hB10⟩)
      | (go_at_call 6; refine (CA.out _).mono ?_; rintro e' x8 ⟨rfl, hB11⟩))
    go_ret
    exact ⟨by first | rfl | (simp; done), below_more HB0.out (below_more (below_more (below_more HB5.out hB9) hB10) hB11)⟩
  · have hl4 : 4 < m7 := by rw [← hlen7]; exact digs_more p (by omega)
    have hl4' : (4 : Int) < (m7 : Int) := by omega
    rw [if_neg h64, decide_eq_false h64]
    clear h64 hlen7
    go_wp2_with (first
      | ((with_reducible refine at_load 27 (.tmp 2) ?_); refine wpList_load_mid rfl 27 (.tmp 2) rfl g2 0 (by first | rfl | (simp [Act.eval]; done)) [.int .u64 (s : Int), .slice A n c] _ (Blk.range hk) Try.underlying27 rfl (by kernel_rfl) ?_)
      | (go_at_call 15; refine (CY.out _ HB5.out).mono ?_; rintro e' x6 ⟨rfl, hB9⟩)
      | (go_at_call 6; refine (CA.out _).mono ?_; rintro e' x8 ⟨rfl, hB11⟩))
    go_ret
    exact ⟨rfl, below_more HB0.out (below_more (below_more HB5.out hB9) hB11)⟩
end Go.Proofs.Ythkkllcpogagiaa
