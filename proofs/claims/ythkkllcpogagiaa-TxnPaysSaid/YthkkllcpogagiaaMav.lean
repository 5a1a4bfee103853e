/- Merged texts: TxnZ TxnP. -/
import Derived.Test.YthkkllcpogagiaaMat
import Derived.Test.YthkkllcpogagiaaMau
import Derived.Test.YthkkllcpogagiaaMas
import Derived.Deep.RegionHeld3
import Derived.Deep.CutRange
import Derived.Deep.DeepCutAuto
/- Package txn's Bytes and Parse. -/
namespace Go.Proofs.Ythkkllcpogagiaa
set_option maxRecDepth 100000 in
theorem txnOk : TxnOk where
  bytes := fun W s A n c O _ hr _ _ hn hO => gtbytes_calls s A n c O W hr (by omega) (fun o ho => Nat.le_trans (hO o ho) (by omega))
  parse := fun W A n c b hr _ _ hn => gtparse_calls A n c b W hr (by omega)
end Go.Proofs.Ythkkllcpogagiaa

/- The walk of TxnParses, over what package txn is to answer. -/
namespace Go.Proofs.Ythkkllcpogagiaa
open Go.RowKit
set_option linter.unusedVariables false
set_option linter.unusedSimpArgs false
set_option maxRecDepth 100000 in
theorem blk_upT {w W : World} {g : Nat} {cs : List Value} {t : TypeId} (h : Blk w g cs t) (hb : Below w.heap.size w W) : Blk W g cs t := h.below hb h.lt
set_option maxRecDepth 100000 in
set_option maxHeartbeats 8000000 in
theorem txnParses_walk (K : TxnOk) (A : Option Addr) (n c : Nat) (b : List UInt8) (w : World) (w1 : Rd w A n b ∧ n ≤ c ∧ c ≤ maxLen) : Calls Try.prog 3 #[.slice A n c] w (Ret w (.bool true)) := by
  obtain ⟨hr, hnc, hcm⟩ := w1
  have hbl := hr.len
  have CA : Hid (∀ W, Calls Try.prog 6 #[] W (Ret W (.bool true))) := Lib.hid fun W => awake14_calls K W
  by_cases h300 : 300 < n
  · have h300' : (300 : Int) < (n : Int) := by omega
    unfold maxLen at hcm
    clear hr K
    go_enter Try.func3, Try.ntmps3
    go_wp2_with (first
      | (go_at_call 6; refine (CA.out _).mono ?_; rintro e' x2 ⟨rfl, hB2⟩))
    go_ret
    exact ⟨rfl, hB2⟩
  have h300' : ¬ (300 : Int) < (n : Int) := by omega
  obtain ⟨s, hs⟩ : ∃ z, z = tpS b := ⟨_, rfl⟩
  obtain ⟨O, hO⟩ : ∃ z, z = tpO b := ⟨_, rfl⟩
  obtain ⟨f, hf⟩ : ∃ z, z = tpE b := ⟨_, rfl⟩
  obtain ⟨m, hm⟩ : ∃ z, z = O.length := ⟨_, rfl⟩
  obtain ⟨S, hS⟩ : ∃ z : ByteArray, z = ⟨b.toArray⟩ := ⟨_, rfl⟩
  obtain ⟨hO8, hO64⟩ := tp_small b
  rw [← hO] at hO8 hO64
  have hs64 : s < 18446744073709551616 := by rw [hs]; exact tpS_lt b
  have CP : Hid (Calls Try.prog 7 #[.slice A n c] w fun e w' => ∃ A' c', e = .returned (.tuple #[.agg #[.int .u64 (s : Int), .slice A' m c'], .int .i64 (f : Int)]) ∧ RdT w' A' m O ∧ m ≤ c' ∧ c' ≤ maxLen ∧ Below w.heap.size w w') := Lib.hid (by
    refine (K.parse w A n c b hr hnc hcm (by omega)).mono ?_
    rintro e w' ⟨A', n', c', rfl, h1, h2, h3, h4⟩
    rw [hs, hf, hO] at *
    have hn := h1.len
    rw [← hO, ← hm] at hn
    subst hn
    exact ⟨A', c', rfl, h1, h2, h3, h4⟩)
  have CR : Hid (∀ W, Calls Try.prog 8 #[.string S] W fun e w' => ∃ A' c', e = .returned (.tuple #[.agg #[.int .u64 (s : Int), .slice A' m c'], .int .i64 (f : Int)]) ∧ RdG w' 2 A' m (O.map DO) ∧ Below W.heap.size W w') := Lib.hid fun W => by
    rw [hS, hs, hm, hO, hf]
    exact tparse_calls b W (by omega)
  have HCV : Hid (∀ W, Below w.heap.size w W → (convert 22 9 (.slice A n c)).run Try.prog W = .ok (.string S) W) := Lib.hid fun W hb => by rw [hS]; exact conv8 W A n c b (hr.below hb)
  have HS := Lib.hid hS
  have HBK : Hid (f = 0 → tbB s O = b ∧ tbE s O = 0) := Lib.hid fun h0 => by
    obtain ⟨k1, k2, _, _⟩ := tp_back (l := b) (by rw [← hf]; exact h0)
    rw [← hs, ← hO] at k1 k2
    exact ⟨by unfold tbB; rw [if_pos k2]; exact k1, k2⟩
  have hm8 : m ≤ 8 := by omega
  have CF : Hid (∀ W A' c', RdT W A' m O → Calls Try.prog 10 #[.agg #[.int .u64 (s : Int), .slice A' m c']] W fun e w' => ∃ A2 c2, e = .returned (.agg #[.int .u64 (s : Int), .slice A2 m c2]) ∧ OwnG w' W.heap.size 67 2 A2 m c2 (O.map DO) ∧ Below W.heap.size W w') := Lib.hid fun W A' c' h => tref_calls s A' m c' O W h (by omega)
  have CS : Hid (∀ W A2 c2 A' c', RdG W 2 A2 m (O.map DO) → RdG W 2 A' m (O.map DO) → Calls Try.prog 9 #[.agg #[.int .u64 (s : Int), .slice A2 m c2], .agg #[.int .u64 (s : Int), .slice A' m c']] W (Ret W (.bool true))) := Lib.hid fun W A2 c2 A' c' h1 h2 => tsame_calls s A2 A' m c2 c' O W h1 h2 (by omega)
  have CYY : Hid (∀ W A' c', RdT W A' m O → m ≤ c' → c' ≤ maxLen → Calls Try.prog 11 #[.agg #[.int .u64 (s : Int), .slice A' m c']] W fun e w' => ∃ A2 n2 c2, e = .returned (.tuple #[.slice A2 n2 c2, .int .i64 (tbE s O : Int)]) ∧ Rd w' A2 n2 (tbB s O) ∧ n2 ≤ c2 ∧ c2 ≤ maxLen ∧ Below W.heap.size W w') := Lib.hid fun W A' c' h1 h2 h3 => K.bytes W s A' m c' O hs64 h1 h2 h3 (by omega) (fun o ho => by have := hO64 o ho; omega)
  unfold maxLen at hcm
  clear K hr hbl hs hO hf hm hS hO8 hO64
  go_enter Try.func3, Try.ntmps3
  go_upto_region 4 with (first
    | (go_at_call 7; refine (CP.out).mono ?_; rintro e' x1 ⟨A3, c3, rfl, hR3, hn3, hc3, hB1⟩))
  have hk3 : Blk (x1.alloc (.cells #[.int .u64 (s : Int), .slice A3 m c3] 27)) x1.heap.size [.int .u64 (s : Int), .slice A3 m c3] 27 := Blk.new x1 _ _
  have hba : Below x1.heap.size x1 (x1.alloc (.cells #[.int .u64 (s : Int), .slice A3 m c3] 27)) := below_al (Below.refl _ x1) _
  obtain ⟨x2, hx2⟩ : ∃ z, z = x1.alloc (.cells #[.int .u64 (s : Int), .slice A3 m c3] 27) := ⟨_, rfl⟩
  obtain ⟨g3, hg3⟩ : ∃ z, z = x1.heap.size := ⟨_, rfl⟩
  rw [← hx2, ← hg3] at hk3
  rw [← hx2] at hba
  rw [← hx2, ← hg3]
  have CY : Hid (∀ W, RdT W A3 m O → Calls Try.prog 11 #[.agg #[.int .u64 (s : Int), .slice A3 m c3]] W fun e w' => ∃ A2 n2 c2, e = .returned (.tuple #[.slice A2 n2 c2, .int .i64 (tbE s O : Int)]) ∧ Rd w' A2 n2 (tbB s O) ∧ n2 ≤ c2 ∧ c2 ≤ maxLen ∧ Below W.heap.size W w') := Lib.hid fun W h => CYY.out W A3 c3 h hn3 hc3
  have hR3 := hR3.below hba
  have hB := below_more hB1 hba
  have hcv := HCV.out x2 hB
  have HR3x := Lib.hid hR3
  have HBx := Lib.hid hB
  have HKx := Lib.hid hk3
  unfold maxLen at hc3
  clear hB1 hba hx2 hg3 CP CYY hR3 hB hk3
  go_upto_region 5 with (first
    | (go_at_call 8; refine (CR.out _).mono ?_; rintro e' x3 ⟨A5, c5, rfl, hR5, hB3⟩))
  have hk5 : Blk (x3.alloc (.cells #[.int .u64 (s : Int), .slice A5 m c5] 33)) x3.heap.size [.int .u64 (s : Int), .slice A5 m c5] 33 := Blk.new x3 _ _
  have hba : Below x3.heap.size x3 (x3.alloc (.cells #[.int .u64 (s : Int), .slice A5 m c5] 33)) := below_al (Below.refl _ x3) _
  obtain ⟨x4, hx4⟩ : ∃ z, z = x3.alloc (.cells #[.int .u64 (s : Int), .slice A5 m c5] 33) := ⟨_, rfl⟩
  obtain ⟨g5, hg5⟩ : ∃ z, z = x3.heap.size := ⟨_, rfl⟩
  rw [← hx4, ← hg5] at hk5
  rw [← hx4] at hba
  rw [← hx4, ← hg5]
  have hBB := below_more hB3 hba
  have HR3 : Hid (RdT x4.drew A3 m O) := Lib.hid (HR3x.out.below hBB.drew)
  have HR5 : Hid (RdG x4.drew 2 A5 m (O.map DO)) := Lib.hid (hR5.below hba.drew)
  have hk3 := (blk_upT HKx.out hBB).drew
  have hk5 := hk5.drew
  have HBW : Hid (Below w.heap.size w x4.drew) := Lib.hid (below_more HBx.out hBB).drew
  have hB : Below x4.drew.heap.size x4.drew x4.drew := Below.refl _ _
  clear hcv HR3x HBx HKx hR5 hB3 hba hx4 hg5 hBB CR
  refine wp_region_held_drew (S := fun W => Blk W g3 [.int .u64 (s : Int), .slice A3 m c3] 27 ∧ Blk W g5 [.int .u64 (s : Int), .slice A5 m c5] 33) (by kernel_rfl) ?_ (fun hHeld => ?_)
  · exact ⟨hk3, hk5⟩
  refine wpAnyH_take (i := 0) (v := ?_) rfl (by kernel_rfl) (by kernel_rfl) (by kernel_rfl) (fun _ _ _ h => h) (Or.inl ⟨by rfl, ?_⟩) (by assumption) ?_
  rotate_left 1
  · intro w hSw; (try dsimp only at hSw); simp only [List.getElem_toArray, List.getElem_cons_succ, List.getElem_cons_zero]; go_simp; try (with_reducible rfl)
  (try simp only [List.getElem_toArray, List.getElem_cons_succ, List.getElem_cons_zero, Act.put, List.setIfInBounds_toArray, List.set_cons_succ, List.set_cons_zero])
  refine wpAnyH_take (i := 1) (v := ?_) rfl (by kernel_rfl) (by kernel_rfl) (by kernel_rfl) (fun _ _ _ h => h) (Or.inl ⟨by rfl, ?_⟩) (by assumption) ?_
  rotate_left 1
  · intro w hSw; (try dsimp only at hSw); simp only [List.getElem_toArray, List.getElem_cons_succ, List.getElem_cons_zero]; go_simp; try (with_reducible rfl)
  (try simp only [List.getElem_toArray, List.getElem_cons_succ, List.getElem_cons_zero, Act.put, List.setIfInBounds_toArray, List.set_cons_succ, List.set_cons_zero])
  refine wpAnyH_take (i := 2) (v := .bool false) rfl (by kernel_rfl) (by kernel_rfl) (by kernel_rfl) (fun _ _ _ h => h) (Or.inl ⟨by rfl, ?_⟩) (by assumption) ?_
  · intro w hSw; (try dsimp only at hSw); simp only [List.getElem_toArray, List.getElem_cons_succ, List.getElem_cons_zero]; first | (go_simp; done) | (simp [execOp, Act.eval]; done)
  (try simp only [List.getElem_toArray, List.getElem_cons_succ, List.getElem_cons_zero, Act.put, List.setIfInBounds_toArray, List.set_cons_succ, List.set_cons_zero])
  refine wpAnyH_take (i := 3) (v := ?_) rfl (by kernel_rfl) (by kernel_rfl) (by kernel_rfl) (fun _ _ _ h => h) (Or.inl ⟨by rfl, ?_⟩) (by assumption) ?_
  rotate_left 1
  · intro w hSw; (try dsimp only at hSw); simp only [List.getElem_toArray, List.getElem_cons_succ, List.getElem_cons_zero]; go_simp; try (with_reducible rfl)
  (try simp only [List.getElem_toArray, List.getElem_cons_succ, List.getElem_cons_zero, Act.put, List.setIfInBounds_toArray, List.set_cons_succ, List.set_cons_zero])
  refine wpAnyH_take (i := 4) rfl (by kernel_rfl) (by kernel_rfl) (by kernel_rfl) (fun _ _ _ h => h) (yieldsIf_load_mid (by rfl) _ _ rfl _ _ rfl [.int .u64 (s : Int), .slice A3 m c3] _ (fun w hSw => Blk.range hSw.1) Try.underlying27 rfl (by kernel_rfl)) (by assumption) ?_
  (try simp only [List.getElem_toArray, List.getElem_cons_succ, List.getElem_cons_zero, Act.put, List.setIfInBounds_toArray, List.set_cons_succ, List.set_cons_zero])
  refine wpAnyH_take (i := 6) rfl (by kernel_rfl) (by kernel_rfl) (by kernel_rfl) (fun _ _ _ h => h) (yieldsIf_load_mid (by rfl) _ _ rfl _ _ rfl [.int .u64 (s : Int), .slice A5 m c5] _ (fun w hSw => Blk.range hSw.2) Try.underlying33 rfl (by kernel_rfl)) (by assumption) ?_
  (try simp only [List.getElem_toArray, List.getElem_cons_succ, List.getElem_cons_zero, Act.put, List.setIfInBounds_toArray, List.set_cons_succ, List.set_cons_zero])
  refine wpAnyH_ready (rs := [5]) (by kernel_rfl) (by simp) ?_
  refine AllReadyH.cons rfl (fun K hK => ?_) AllReadyH.nil
  (try simp only [List.getElem_toArray, List.getElem_cons_succ, List.getElem_cons_zero])
  go_simp
  go_at_call 10; refine (CF.out _ _ _ (HR3.out.below hB)).mono ?_; rintro e' x5 ⟨A6, c6, rfl, hO6, hB6⟩
  (try (go_wp2_with fail))
  refine hK.out _ _ ?_ (fun hHeld => ?_)
  · exact ⟨blk_upT hk3 hB6, blk_upT hk5 hB6⟩
  clear hK K
  (try simp only [Act.put, List.setIfInBounds_toArray, List.set_cons_succ, List.set_cons_zero])
  have hk3 := blk_upT hk3 hB6
  have hk5 := blk_upT hk5 hB6
  have hB := below_more hB hB6
  refine wpAnyH_ready (rs := [7]) (by kernel_rfl) (by simp) ?_
  refine AllReadyH.cons rfl (fun K hK => ?_) AllReadyH.nil
  (try simp only [List.getElem_toArray, List.getElem_cons_succ, List.getElem_cons_zero])
  go_simp
  go_at_call 9; refine (CS.out _ _ _ _ _ hO6.rd (HR5.out.below hB)).mono ?_; rintro e' x6 ⟨rfl, hB7⟩
  (try (go_wp2_with fail))
  refine hK.out _ _ ?_ (fun hHeld => ?_)
  · exact ⟨blk_upT hk3 hB7, blk_upT hk5 hB7⟩
  clear hK K
  (try simp only [Act.put, List.setIfInBounds_toArray, List.set_cons_succ, List.set_cons_zero])
  refine wpAnyH_take (i := 8) (v := .bool false) rfl (by kernel_rfl) (by kernel_rfl) (by kernel_rfl) (fun _ _ _ h => h) (Or.inl ⟨by rfl, ?_⟩) (by assumption) ?_
  · intro w hSw; (try dsimp only at hSw); simp only [List.getElem_toArray, List.getElem_cons_succ, List.getElem_cons_zero]; first | (go_simp; done) | (simp [execOp, Act.eval]; done)
  (try simp only [List.getElem_toArray, List.getElem_cons_succ, List.getElem_cons_zero, Act.put, List.setIfInBounds_toArray, List.set_cons_succ, List.set_cons_zero])
  refine wpAnyH_take (i := 9) (v := ?_) rfl (by kernel_rfl) (by kernel_rfl) (by kernel_rfl) (fun _ _ _ h => h) (Or.inl ⟨by rfl, ?_⟩) (by assumption) ?_
  rotate_left 1
  · intro w hSw; (try dsimp only at hSw); simp only [List.getElem_toArray, List.getElem_cons_succ, List.getElem_cons_zero]; go_simp; try (with_reducible rfl)
  (try simp only [List.getElem_toArray, List.getElem_cons_succ, List.getElem_cons_zero, Act.put, List.setIfInBounds_toArray, List.set_cons_succ, List.set_cons_zero])
  refine wpAnyH_done (by kernel_rfl) ?_ _
  have hk3 := blk_upT hk3 hB7
  have hB := below_more hB hB7
  clear hk5 hO6 hB7 hB6
  by_cases hf0 : f = 0
  · subst hf0
    obtain ⟨hbb, hbt⟩ := HBK.out rfl
    have HY := Lib.hid (CY.out x6 (HR3.out.below hB))
    rw [hbt] at HY
    have HB := Lib.hid (below_more HBW.out hB)
    clear hB
    go_upto_region 10 with (first
      | ((with_reducible refine at_load 27 (.tmp 3) ?_); refine wpList_load_mid rfl 27 (.tmp 3) rfl g3 0 (by first | rfl | (simp [Act.eval]; done)) [.int .u64 (s : Int), .slice A3 m c3] _ (Blk.range hk3) Try.underlying27 rfl (by kernel_rfl) ?_)
      | (go_at_call 11; refine (HY.out).mono ?_; rintro e' x7 ⟨A8, n8, c8, rfl, hR8, hn8, hc8, hB8⟩))
    have hcv : (convert 22 9 (.slice A8 n8 c8)).run Try.prog x7 = .ok (.string S) x7 := by rw [HS.out, ← hbb]; exact conv8 x7 A8 n8 c8 _ hR8
    have HB9 := Lib.hid (below_more HB.out hB8)
    have hcv2 := HCV.out x7 HB9.out
    unfold maxLen at hc8
    clear hR8 hB8 hbb hbt hk3
    go_wp2_with (first
      | (go_at_call 6; refine (CA.out _).mono ?_; rintro e' x8 ⟨rfl, hB10⟩))
    go_ret
    exact ⟨rfl, below_more HB9.out hB10⟩
  · have hf0' : ¬ (f : Int) = 0 := by omega
    have HB := Lib.hid (below_more HBW.out hB)
    clear hB hk3
    go_wp2_with (first
      | (go_at_call 6; refine (CA.out _).mono ?_; rintro e' x8 ⟨rfl, hB10⟩))
    go_ret
    exact ⟨rfl, below_more HB.out hB10⟩
end Go.Proofs.Ythkkllcpogagiaa
