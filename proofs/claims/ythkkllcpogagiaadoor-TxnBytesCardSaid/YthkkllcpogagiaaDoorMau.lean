/- Merged texts: TxnS. -/
import Derived.Test.YthkkllcpogagiaaDoorMat
import Derived.Test.YthkkllcpogagiaaDoorMad
import Derived.Test.YthkkllcpogagiaaDoorMak
import Derived.Test.YthkkllcpogagiaaDoorMah
import Derived.Deep.RegionHeld3
import Derived.Deep.CutRange
import Derived.Deep.DeepCutAuto
/- The walk of TxnBytes, over what package txn is to answer. -/
namespace Go.Proofs.YthkkllcpogagiaaDoor
open Go.RowKit
set_option linter.unusedVariables false
set_option linter.unusedSimpArgs false
set_option maxRecDepth 100000 in
theorem blk_upT {w W : World} {g : Nat} {cs : List Value} {t : TypeId} (h : Blk w g cs t) (hb : Below w.heap.size w W) : Blk W g cs t := h.below hb h.lt
structure TxnId : Prop where
  id : ∀ (W : World) (A : Option Addr) (n c : Nat) (b : List UInt8), Tab W → Rd W A n b → n ≤ c → c ≤ maxLen → n ≤ 100000 → Calls Tryd.prog 11 #[.slice A n c] W (Ret W (.agg ((sha (sha b)).map B8).toArray))
set_option maxRecDepth 100000 in
theorem osenc_le (M : Nat) : ∀ O : List (Nat × List UInt8), (∀ o ∈ O, o.2.length ≤ M) → (osenc O).length ≤ O.length * (17 + M)
  | [], _ => by simp [osenc]
  | o :: O, h => by
    have h1 := osenc_le M O (fun x hx => h x (by simp [hx]))
    have h2 := h o (by simp)
    have h3 := more_le o.2.length
    rw [osenc_cons, List.length_append, List.length_cons, Nat.succ_mul]
    unfold oenc
    rw [List.length_append, List.length_append, little_len, cnt_len]
    omega
set_option maxRecDepth 100000 in
theorem tbB_le (s : Nat) (O : List (Nat × List UInt8)) : (tbB s O).length ≤ 1000 := by
  by_cases h : tbE s O = 0
  · obtain ⟨h1, h2, _⟩ := tbE_ok h
    unfold tbB
    rw [if_pos h]
    unfold tenc
    have h3 := osenc_le 64 O h2
    have h4 := more_le O.length
    rw [List.length_append, List.length_append, List.length_append, little_len, cnt_len]
    simp
    omega
  · unfold tbB
    rw [if_neg h]
    exact Nat.zero_le _
set_option maxRecDepth 100000 in
set_option maxHeartbeats 8000000 in
theorem txnBytes_walk (K : TxnOk) (KI : TxnId) (s : Nat) (A : Option Addr) (n c : Nat) (O : List (Nat × List UInt8)) (w : World) (hT : Tab w) (hs64 : s < 18446744073709551616) (w1 : RdT w A n O ∧ n ≤ c ∧ c ≤ maxLen) : Calls Tryd.prog 3 #[.agg #[.int .u64 (s : Int), .slice A n c]] w (Ret w (.bool true)) := by
  obtain ⟨hr, hnc, hcm⟩ := w1
  have hln := hr.len
  have CA : Hid (∀ W, Calls Tryd.prog 5 #[] W (Ret W (.bool true))) := Lib.hid fun W => awake14_calls K W
  have hk1 : Blk (w.alloc (.cells #[.int .u64 (s : Int), .slice A n c] 25)) w.heap.size [.int .u64 (s : Int), .slice A n c] 25 := Blk.new w _ _
  have hB0 : Below w.heap.size w (w.alloc (.cells #[.int .u64 (s : Int), .slice A n c] 25)) := below_al (Below.refl _ w) _
  obtain ⟨W0, hW0⟩ : ∃ z, z = w.alloc (.cells #[.int .u64 (s : Int), .slice A n c] 25) := ⟨_, rfl⟩
  obtain ⟨g1, hg1⟩ : ∃ z, z = w.heap.size := ⟨_, rfl⟩
  rw [← hW0] at hk1 hB0
  rw [← hg1] at hk1
  have HW0 := Lib.hid hW0
  have HG1 := Lib.hid hg1
  have hr0 : RdT W0 A n O := hr.below hB0
  have CSM : Hid (Calls Tryd.prog 4 #[.agg #[.int .u64 (s : Int), .slice A n c]] W0 (Ret W0 (.bool (sml14 O)))) := Lib.hid (tsmall_calls s A n c O W0 hr0 (by omega))
  have HB0 := Lib.hid hB0
  have HK1 := Lib.hid hk1
  by_cases hs : sml14 O = false
  · rw [hs] at CSM
    unfold maxLen at hcm
    clear hr hr0 hk1 hW0 hB0 hg1 K KI hT
    go_enter Tryd.func3, Tryd.ntmps3
    go_upto_region 1 with fail
    rw [← HW0.out, ← HG1.out]
    have hk1 := HK1.out
    go_wp2_with (first
      | ((with_reducible refine at_load 25 (.tmp 1) ?_); refine wpList_load_mid rfl 25 (.tmp 1) rfl g1 0 (by first | rfl | (simp [Act.eval]; done)) [.int .u64 (s : Int), .slice A n c] _ (Blk.range hk1) Tryd.underlying25 rfl (by kernel_rfl) ?_)
      | (go_at_call 4; refine (CSM.out).mono ?_; rintro e' x1 ⟨rfl, hB1⟩)
      | (go_at_call 5; refine (CA.out _).mono ?_; rintro e' x2 ⟨rfl, hB2⟩))
    go_ret
    exact ⟨rfl, below_more HB0.out (below_more hB1 hB2)⟩
  have hs : sml14 O = true := by simpa using hs
  rw [hs] at CSM
  obtain ⟨h20, h200⟩ := sml14_yes hs
  have hall := hr.all
  obtain ⟨f, hf⟩ : ∃ z, z = tbE s O := ⟨_, rfl⟩
  obtain ⟨B, hBB⟩ : ∃ z, z = tbB s O := ⟨_, rfl⟩
  obtain ⟨Z, hZ⟩ : ∃ z : ByteArray, z = ⟨B.toArray⟩ := ⟨_, rfl⟩
  have hBl : B.length ≤ 1000 := by rw [hBB]; exact tbB_le s O
  obtain ⟨V, hV⟩ : ∃ z, z = (sha (sha B)).map B8 := ⟨_, rfl⟩
  have heqH : ∀ W, (Op.equalIn 10000 42 (.agg V.toArray) (.agg V.toArray)).run Tryd.prog W = .ok true W := by intro W; rw [hV]; exact equal_self 42 5 32 .u8 Tryd.underlying42 Tryd.underlying5 (by kernel_rfl) (by kernel_rfl) (by kernel_rfl) _ (by rw [List.length_map, sha_len]) (b8_wf _) W
  have CG : Hid (∀ W, Below W0.heap.size W0 W → Calls Tryd.prog 6 #[.agg #[.int .u64 (s : Int), .slice A n c]] W fun e w' => ∃ A' n' c', e = .returned (.tuple #[.slice A' n' c', .int .i64 (f : Int)]) ∧ Rd w' A' n' B ∧ n' ≤ c' ∧ c' ≤ maxLen ∧ Below W.heap.size W w') := Lib.hid fun W hb => by
    rw [hf, hBB]
    exact K.bytes W s A n c O hs64 (hr0.below hb) hnc hcm (by omega) h200
  have CF : Hid (∀ W A' c', RdT W A' n O → Calls Tryd.prog 8 #[.agg #[.int .u64 (s : Int), .slice A' n c']] W fun e w' => ∃ A2 c2, e = .returned (.agg #[.int .u64 (s : Int), .slice A2 n c2]) ∧ OwnG w' W.heap.size 57 2 A2 n c2 (O.map DO) ∧ Below W.heap.size W w') := Lib.hid fun W A' c' h => tref_calls s A' n c' O W h (by omega)
  have CR : Hid (∀ W A' c', RdG W 2 A' n (O.map DO) → Calls Tryd.prog 7 #[.agg #[.int .u64 (s : Int), .slice A' n c']] W (Ret W (.tuple #[.string Z, .int .i64 (f : Int)]))) := Lib.hid fun W A' c' h => by
    rw [hZ, hBB, hf]
    exact tbytes_calls s A' n c' O W h (by omega) hs64 hall (fun o ho => by have := h200 o ho; omega)
  have CS : Hid (∀ W A2 c2 A' c', RdG W 2 A2 n (O.map DO) → RdG W 2 A' n (O.map DO) → Calls Tryd.prog 10 #[.agg #[.int .u64 (s : Int), .slice A2 n c2], .agg #[.int .u64 (s : Int), .slice A' n c']] W (Ret W (.bool true))) := Lib.hid fun W A2 c2 A' c' h1 h2 => tsame_calls s A2 A' n c2 c' O W h1 h2 (by omega)
  have CP : Hid (f = 0 → ∀ W A' n' c', Rd W A' n' B → n' ≤ c' → c' ≤ maxLen → Calls Tryd.prog 9 #[.slice A' n' c'] W fun e w' => ∃ A2 c2, e = .returned (.tuple #[.agg #[.int .u64 (s : Int), .slice A2 n c2], .int .i64 0]) ∧ RdT w' A2 n O ∧ c2 ≤ maxLen ∧ n ≤ c2 ∧ Below W.heap.size W w') := Lib.hid fun h0 W A' n' c' h1 h2 h3 => by
    have h := K.parse W A' n' c' B h1 h2 h3 (by have := h1.len; omega)
    have hBt : B = tenc s O := by rw [hBB]; unfold tbB; rw [if_pos (by rw [← hf]; exact h0)]
    obtain ⟨p1, p2, p3⟩ := tp_enc s O hs64 hall (by rw [← hf]; exact h0)
    rw [← hBt] at p1 p2 p3
    rw [p1, p2, p3] at h
    refine h.mono ?_
    rintro e w' ⟨A2, n2, c2, rfl, k1, k2, k3, k4⟩
    have hn2 := k1.len
    rw [hln] at hn2
    subst hn2
    exact ⟨A2, c2, rfl, k1, k3, k2, k4⟩
  have CI0 : Hid (∀ W A' n' c', Below W0.heap.size W0 W → Rd W A' n' B → n' ≤ c' → c' ≤ maxLen → Calls Tryd.prog 11 #[.slice A' n' c'] W (Ret W (.agg V.toArray))) := Lib.hid fun W A' n' c' hb h1 h2 h3 => by
    rw [hV]
    exact KI.id W A' n' c' B (hT.all (below_more hB0 hb)) h1 h2 h3 (by have := h1.len; omega)
  have CT : Hid (∀ W, Calls Tryd.prog 12 #[.string Z] W (Ret W (.agg V.toArray))) := Lib.hid fun W => by
    have h := rtwice_calls Z W (by rw [hZ, bstr_size]; omega)
    rw [show Z.data.toList = B from by rw [hZ], ← hV] at h
    exact h
  have HCV : Hid (∀ W A' n' c', Rd W A' n' B → (convert 28 9 (.slice A' n' c')).run Tryd.prog W = .ok (.string Z) W) := Lib.hid fun W A' n' c' h => by rw [hZ]; exact conv8 W A' n' c' B h
  have HR0 := Lib.hid hr0
  unfold maxLen at hcm
  clear hr hr0 hk1 hW0 hB0 hg1 K KI hT hs h20 h200 hall hf hBB hZ hBl hV hln
  go_enter Tryd.func3, Tryd.ntmps3
  go_upto_region 1 with fail
  rw [← HW0.out, ← HG1.out]
  have hk1 := HK1.out
  go_upto_region 3 with (first
    | ((with_reducible refine at_load 25 (.tmp 1) ?_); refine wpList_load_mid rfl 25 (.tmp 1) rfl g1 0 (by first | rfl | (simp [Act.eval]; done)) [.int .u64 (s : Int), .slice A n c] _ (Blk.range hk1) Tryd.underlying25 rfl (by kernel_rfl) ?_)
    | (go_at_call 4; refine (CSM.out).mono ?_; rintro e' x1 ⟨rfl, hB1⟩))
  have hk1 := blk_upT hk1 hB1
  go_upto_region 4 with (first
    | ((with_reducible refine at_load 25 (.tmp 1) ?_); refine wpList_load_mid rfl 25 (.tmp 1) rfl g1 0 (by first | rfl | (simp [Act.eval]; done)) [.int .u64 (s : Int), .slice A n c] _ (Blk.range hk1) Tryd.underlying25 rfl (by kernel_rfl) ?_)
    | (go_at_call 6; refine (CG.out _ hB1).mono ?_; rintro e' x2 ⟨A3, n3, c3, rfl, hR3, hn3, hc3, hB2⟩))
  have hk1 := blk_upT hk1 hB2
  have hB := below_more hB1 hB2
  have HC3 := Lib.hid hc3
  unfold maxLen at hc3
  go_upto_region 5 with (first
    | ((with_reducible refine at_load 25 (.tmp 1) ?_); refine wpList_load_mid rfl 25 (.tmp 1) rfl g1 0 (by first | rfl | (simp [Act.eval]; done)) [.int .u64 (s : Int), .slice A n c] _ (Blk.range hk1) Tryd.underlying25 rfl (by kernel_rfl) ?_)
    | (go_at_call 8; refine (CF.out _ _ _ (HR0.out.below hB)).mono ?_; rintro e' x3 ⟨A4, c4, rfl, hO4, hB3⟩)
    | (go_at_call 7; refine (CR.out _ _ _ hO4.rd).mono ?_; rintro e' x4 ⟨rfl, hB4⟩))
  have hk1 := blk_upT (blk_upT hk1 hB3) hB4
  have hR3 := (hR3.below hB3).below hB4
  have HB4 := Lib.hid (below_more (below_more hB hB3) hB4)
  have HR3 := Lib.hid hR3
  have hcv := HCV.out x4 A3 n3 c3 hR3
  have HK4 := Lib.hid hk1
  clear hB hB1 hB2 hB3 hB4 hO4 CG CR CSM HK1 hR3
  by_cases hf0 : f = 0
  · have CPP := Lib.hid (CP.out hf0 x4 A3 n3 c3 HR3.out hn3 HC3.out)
    subst hf0
    go_upto_region 9 with fail
    clear hcv CP
    go_upto_region 10 with (first
      | (go_at_call 9; refine (CPP.out).mono ?_; rintro e' x5 ⟨A5, c5, rfl, hR5, hc5, hn5, hB5⟩))
    have hk7 : Blk (x5.alloc (.cells #[.int .u64 (s : Int), .slice A5 n c5] 25)) x5.heap.size [.int .u64 (s : Int), .slice A5 n c5] 25 := Blk.new x5 _ _
    have hba : Below x5.heap.size x5 (x5.alloc (.cells #[.int .u64 (s : Int), .slice A5 n c5] 25)) := below_al (Below.refl _ x5) _
    obtain ⟨x6, hx6⟩ : ∃ z, z = x5.alloc (.cells #[.int .u64 (s : Int), .slice A5 n c5] 25) := ⟨_, rfl⟩
    obtain ⟨g7, hg7⟩ : ∃ z, z = x5.heap.size := ⟨_, rfl⟩
    rw [← hx6, ← hg7] at hk7
    rw [← hx6] at hba
    rw [← hx6, ← hg7]
    have hB6 := below_more hB5 hba
    have HR5 : Hid (RdT x6.drew A5 n O) := Lib.hid (hR5.below hba.drew)
    have HBW : Hid (Below W0.heap.size W0 x6.drew) := Lib.hid (below_more HB4.out hB6).drew
    have HRA : Hid (RdT x6.drew A n O) := Lib.hid (HR0.out.below HBW.out)
    have HRX : Hid (Rd x6.drew A3 n3 B) := Lib.hid (HR3.out.below hB6.drew)
    have CI : Hid (∀ W, Below x6.drew.heap.size x6.drew W → Calls Tryd.prog 11 #[.slice A3 n3 c3] W (Ret W (.agg V.toArray))) := Lib.hid fun W hb => CI0.out W A3 n3 c3 (below_more HBW.out hb) (HRX.out.below hb) hn3 HC3.out
    have hk1 := (blk_upT HK4.out hB6).drew
    have hk7 := hk7.drew
    have hB : Below x6.drew.heap.size x6.drew x6.drew := Below.refl _ _
    unfold maxLen at hc5
    clear hB5 hB6 hba hx6 hg7 hR5 CPP CI0 HK4 HR0 HR3
    refine wp_region_held_drew (S := fun W => Blk W g7 [.int .u64 (s : Int), .slice A5 n c5] 25 ∧ Blk W g1 [.int .u64 (s : Int), .slice A n c] 25) (by kernel_rfl) ?_ (fun hHeld => ?_)
    · exact ⟨hk7, hk1⟩
    refine wpAnyH_take (i := 0) (v := ?_) rfl (by kernel_rfl) (by kernel_rfl) (by kernel_rfl) (fun _ _ _ h => h) (Or.inl ⟨by rfl, ?_⟩) (by assumption) ?_
    rotate_left 1
    · intro w hSw; (try dsimp only at hSw); simp only [List.getElem_toArray, List.getElem_cons_succ, List.getElem_cons_zero]; go_simp; try (with_reducible rfl)
    (try simp only [List.getElem_toArray, List.getElem_cons_succ, List.getElem_cons_zero, Act.put, List.setIfInBounds_toArray, List.set_cons_succ, List.set_cons_zero])
    refine wpAnyH_take (i := 1) (v := .bool true) rfl (by kernel_rfl) (by kernel_rfl) (by kernel_rfl) (fun _ _ _ h => h) (Or.inl ⟨by rfl, ?_⟩) (by assumption) ?_
    · intro w hSw; (try dsimp only at hSw); simp only [List.getElem_toArray, List.getElem_cons_succ, List.getElem_cons_zero]; first | (go_simp; done) | (simp [execOp, Act.eval]; done)
    (try simp only [List.getElem_toArray, List.getElem_cons_succ, List.getElem_cons_zero, Act.put, List.setIfInBounds_toArray, List.set_cons_succ, List.set_cons_zero])
    refine wpAnyH_take (i := 2) (v := ?_) rfl (by kernel_rfl) (by kernel_rfl) (by kernel_rfl) (fun _ _ _ h => h) (Or.inl ⟨by rfl, ?_⟩) (by assumption) ?_
    rotate_left 1
    · intro w hSw; (try dsimp only at hSw); simp only [List.getElem_toArray, List.getElem_cons_succ, List.getElem_cons_zero]; go_simp; try (with_reducible rfl)
    (try simp only [List.getElem_toArray, List.getElem_cons_succ, List.getElem_cons_zero, Act.put, List.setIfInBounds_toArray, List.set_cons_succ, List.set_cons_zero])
    refine wpAnyH_take (i := 3) rfl (by kernel_rfl) (by kernel_rfl) (by kernel_rfl) (fun _ _ _ h => h) (yieldsIf_load_mid (by rfl) _ _ rfl _ _ rfl [.int .u64 (s : Int), .slice A5 n c5] _ (fun w hSw => Blk.range hSw.1) Tryd.underlying25 rfl (by kernel_rfl)) (by assumption) ?_
    (try simp only [List.getElem_toArray, List.getElem_cons_succ, List.getElem_cons_zero, Act.put, List.setIfInBounds_toArray, List.set_cons_succ, List.set_cons_zero])
    refine wpAnyH_take (i := 5) rfl (by kernel_rfl) (by kernel_rfl) (by kernel_rfl) (fun _ _ _ h => h) (yieldsIf_load_mid (by rfl) _ _ rfl _ _ rfl [.int .u64 (s : Int), .slice A n c] _ (fun w hSw => Blk.range hSw.2) Tryd.underlying25 rfl (by kernel_rfl)) (by assumption) ?_
    (try simp only [List.getElem_toArray, List.getElem_cons_succ, List.getElem_cons_zero, Act.put, List.setIfInBounds_toArray, List.set_cons_succ, List.set_cons_zero])
    refine wpAnyH_ready (rs := [4]) (by kernel_rfl) (by simp) ?_
    refine AllReadyH.cons rfl (fun K hK => ?_) AllReadyH.nil
    (try simp only [List.getElem_toArray, List.getElem_cons_succ, List.getElem_cons_zero])
    go_simp
    go_at_call 8; refine (CF.out _ _ _ (HR5.out.below hB)).mono ?_; rintro e' y1 ⟨A6, c6, rfl, hO6, hC1⟩
    (try (go_wp2_with fail))
    refine hK.out _ _ ?_ (fun hHeld => ?_)
    · exact ⟨blk_upT hk7 hC1, blk_upT hk1 hC1⟩
    clear hK K
    (try simp only [Act.put, List.setIfInBounds_toArray, List.set_cons_succ, List.set_cons_zero])
    have hk7 := blk_upT hk7 hC1
    have hk1 := blk_upT hk1 hC1
    have hB := below_more hB hC1
    have HO6 := Lib.hid hO6.rd
    clear hO6
    refine wpAnyH_ready (rs := [6]) (by kernel_rfl) (by simp) ?_
    refine AllReadyH.cons rfl (fun K hK => ?_) AllReadyH.nil
    (try simp only [List.getElem_toArray, List.getElem_cons_succ, List.getElem_cons_zero])
    go_simp
    go_at_call 8; refine (CF.out _ _ _ (HRA.out.below hB)).mono ?_; rintro e' y2 ⟨A8, c8, rfl, hO8, hC2⟩
    (try (go_wp2_with fail))
    refine hK.out _ _ ?_ (fun hHeld => ?_)
    · exact ⟨blk_upT hk7 hC2, blk_upT hk1 hC2⟩
    clear hK K
    (try simp only [Act.put, List.setIfInBounds_toArray, List.set_cons_succ, List.set_cons_zero])
    have hk7 := blk_upT hk7 hC2
    have hk1 := blk_upT hk1 hC2
    have hB := below_more hB hC2
    have HO6 := Lib.hid (HO6.out.below hC2)
    have HO8 := Lib.hid hO8.rd
    clear hO8
    refine wpAnyH_ready (rs := [7]) (by kernel_rfl) (by simp) ?_
    refine AllReadyH.cons rfl (fun K hK => ?_) AllReadyH.nil
    (try simp only [List.getElem_toArray, List.getElem_cons_succ, List.getElem_cons_zero])
    go_simp
    go_at_call 10; refine (CS.out _ _ _ _ _ HO6.out HO8.out).mono ?_; rintro e' y3 ⟨rfl, hC3⟩
    (try (go_wp2_with fail))
    refine hK.out _ _ ?_ (fun hHeld => ?_)
    · exact ⟨blk_upT hk7 hC3, blk_upT hk1 hC3⟩
    clear hK K
    (try simp only [Act.put, List.setIfInBounds_toArray, List.set_cons_succ, List.set_cons_zero])
    have hk7 := blk_upT hk7 hC3
    have hk1 := blk_upT hk1 hC3
    have hB := below_more hB hC3
    refine wpAnyH_take (i := 8) (v := .bool true) rfl (by kernel_rfl) (by kernel_rfl) (by kernel_rfl) (fun _ _ _ h => h) (Or.inl ⟨by rfl, ?_⟩) (by assumption) ?_
    · intro w hSw; (try dsimp only at hSw); simp only [List.getElem_toArray, List.getElem_cons_succ, List.getElem_cons_zero]; first | (go_simp; done) | (simp [execOp, Act.eval]; done)
    (try simp only [List.getElem_toArray, List.getElem_cons_succ, List.getElem_cons_zero, Act.put, List.setIfInBounds_toArray, List.set_cons_succ, List.set_cons_zero])
    refine wpAnyH_take (i := 9) (v := ?_) rfl (by kernel_rfl) (by kernel_rfl) (by kernel_rfl) (fun _ _ _ h => h) (Or.inl ⟨by rfl, ?_⟩) (by assumption) ?_
    rotate_left 1
    · intro w hSw; (try dsimp only at hSw); simp only [List.getElem_toArray, List.getElem_cons_succ, List.getElem_cons_zero]; go_simp; try (with_reducible rfl)
    (try simp only [List.getElem_toArray, List.getElem_cons_succ, List.getElem_cons_zero, Act.put, List.setIfInBounds_toArray, List.set_cons_succ, List.set_cons_zero])
    refine wpAnyH_take (i := 10) (v := ?_) rfl (by kernel_rfl) (by kernel_rfl) (by kernel_rfl) (fun _ _ _ h => h) (Or.inl ⟨by rfl, ?_⟩) (by assumption) ?_
    rotate_left 1
    · intro w hSw; (try dsimp only at hSw); simp only [List.getElem_toArray, List.getElem_cons_succ, List.getElem_cons_zero]; go_simp; try (with_reducible rfl)
    (try simp only [List.getElem_toArray, List.getElem_cons_succ, List.getElem_cons_zero, Act.put, List.setIfInBounds_toArray, List.set_cons_succ, List.set_cons_zero])
    refine wpAnyH_take (i := 12) (v := ?_) rfl (by kernel_rfl) (by kernel_rfl) (by kernel_rfl) (fun _ _ _ h => h) (Or.inl ⟨by rfl, ?_⟩) (by assumption) ?_
    rotate_left 1
    · intro w hSw; (try dsimp only at hSw); simp only [List.getElem_toArray, List.getElem_cons_succ, List.getElem_cons_zero]; go_simp; try (with_reducible rfl)
    (try simp only [List.getElem_toArray, List.getElem_cons_succ, List.getElem_cons_zero, Act.put, List.setIfInBounds_toArray, List.set_cons_succ, List.set_cons_zero])
    refine wpAnyH_ready (rs := [11]) (by kernel_rfl) (by simp) ?_
    refine AllReadyH.cons rfl (fun K hK => ?_) AllReadyH.nil
    (try simp only [List.getElem_toArray, List.getElem_cons_succ, List.getElem_cons_zero])
    go_simp
    go_at_call 11; refine (CI.out _ hB).mono ?_; rintro e' y4 ⟨rfl, hC4⟩
    (try (go_wp2_with fail))
    refine hK.out _ _ ?_ (fun hHeld => ?_)
    · exact ⟨blk_upT hk7 hC4, blk_upT hk1 hC4⟩
    clear hK K
    (try simp only [Act.put, List.setIfInBounds_toArray, List.set_cons_succ, List.set_cons_zero])
    have hk7 := blk_upT hk7 hC4
    have hk1 := blk_upT hk1 hC4
    have hB := below_more hB hC4
    refine wpAnyH_ready (rs := [13]) (by kernel_rfl) (by simp) ?_
    refine AllReadyH.cons rfl (fun K hK => ?_) AllReadyH.nil
    (try simp only [List.getElem_toArray, List.getElem_cons_succ, List.getElem_cons_zero])
    go_simp
    go_at_call 12; refine (CT.out _).mono ?_; rintro e' y5 ⟨rfl, hC5⟩
    (try (go_wp2_with fail))
    refine hK.out _ _ ?_ (fun hHeld => ?_)
    · exact ⟨blk_upT hk7 hC5, blk_upT hk1 hC5⟩
    clear hK K
    (try simp only [Act.put, List.setIfInBounds_toArray, List.set_cons_succ, List.set_cons_zero])
    have hk7 := blk_upT hk7 hC5
    have hk1 := blk_upT hk1 hC5
    have hB := below_more hB hC5
    refine wpAnyH_take (i := 14) (v := .bool true) rfl (by kernel_rfl) (by kernel_rfl) (by kernel_rfl) (fun _ _ _ h => h) (Or.inl ⟨by rfl, ?_⟩) (by assumption) ?_
    · intro w hSw; (try dsimp only at hSw); simp only [List.getElem_toArray, List.getElem_cons_succ, List.getElem_cons_zero]; first | (go_simp; done) | (simp [execOp, Act.eval, heqH]; done) | (simp [execOp, Act.eval, Op.eqRun, heqH]; done)
    (try simp only [List.getElem_toArray, List.getElem_cons_succ, List.getElem_cons_zero, Act.put, List.setIfInBounds_toArray, List.set_cons_succ, List.set_cons_zero])
    refine wpAnyH_take (i := 15) (v := ?_) rfl (by kernel_rfl) (by kernel_rfl) (by kernel_rfl) (fun _ _ _ h => h) (Or.inl ⟨by rfl, ?_⟩) (by assumption) ?_
    rotate_left 1
    · intro w hSw; (try dsimp only at hSw); simp only [List.getElem_toArray, List.getElem_cons_succ, List.getElem_cons_zero]; go_simp; try (with_reducible rfl)
    (try simp only [List.getElem_toArray, List.getElem_cons_succ, List.getElem_cons_zero, Act.put, List.setIfInBounds_toArray, List.set_cons_succ, List.set_cons_zero])
    refine wpAnyH_take (i := 16) (v := ?_) rfl (by kernel_rfl) (by kernel_rfl) (by kernel_rfl) (fun _ _ _ h => h) (Or.inl ⟨by rfl, ?_⟩) (by assumption) ?_
    rotate_left 1
    · intro w hSw; (try dsimp only at hSw); simp only [List.getElem_toArray, List.getElem_cons_succ, List.getElem_cons_zero]; go_simp; try (with_reducible rfl)
    (try simp only [List.getElem_toArray, List.getElem_cons_succ, List.getElem_cons_zero, Act.put, List.setIfInBounds_toArray, List.set_cons_succ, List.set_cons_zero])
    refine wpAnyH_ready (rs := [17]) (by kernel_rfl) (by simp) ?_
    refine AllReadyH.cons rfl (fun K hK => ?_) AllReadyH.nil
    (try simp only [List.getElem_toArray, List.getElem_cons_succ, List.getElem_cons_zero])
    go_simp
    go_at_call 5; refine (CA.out _).mono ?_; rintro e' y6 ⟨rfl, hC6⟩
    (try (go_wp2_with fail))
    refine hK.out _ _ ?_ (fun hHeld => ?_)
    · exact ⟨blk_upT hk7 hC6, blk_upT hk1 hC6⟩
    clear hK K
    (try simp only [Act.put, List.setIfInBounds_toArray, List.set_cons_succ, List.set_cons_zero])
    have hk7 := blk_upT hk7 hC6
    have hk1 := blk_upT hk1 hC6
    have hB := below_more hB hC6
    refine wpAnyH_take (i := 18) (v := ?_) rfl (by kernel_rfl) (by kernel_rfl) (by kernel_rfl) (fun _ _ _ h => h) (Or.inl ⟨by rfl, ?_⟩) (by assumption) ?_
    rotate_left 1
    · intro w hSw; (try dsimp only at hSw); simp only [List.getElem_toArray, List.getElem_cons_succ, List.getElem_cons_zero]; go_simp; try (with_reducible rfl)
    (try simp only [List.getElem_toArray, List.getElem_cons_succ, List.getElem_cons_zero, Act.put, List.setIfInBounds_toArray, List.set_cons_succ, List.set_cons_zero])
    refine wpAnyH_take (i := 19) (v := ?_) rfl (by kernel_rfl) (by kernel_rfl) (by kernel_rfl) (fun _ _ _ h => h) (Or.inl ⟨by rfl, ?_⟩) (by assumption) ?_
    rotate_left 1
    · intro w hSw; (try dsimp only at hSw); simp only [List.getElem_toArray, List.getElem_cons_succ, List.getElem_cons_zero]; go_simp; try (with_reducible rfl)
    (try simp only [List.getElem_toArray, List.getElem_cons_succ, List.getElem_cons_zero, Act.put, List.setIfInBounds_toArray, List.set_cons_succ, List.set_cons_zero])
    refine wpAnyH_done (by kernel_rfl) ?_ _
    have HB9 := Lib.hid (below_more HBW.out hB)
    clear hB hC1 hC2 hC3 hC4 hC5 hC6
    go_wp2
    go_ret
    exact ⟨rfl, below_more HB0.out HB9.out⟩
  · have hf0' : ¬ (f : Int) = 0 := by omega
    clear CP hk1
    go_wp2_with (first
      | (go_at_call 5; refine (CA.out _).mono ?_; rintro e' x8 ⟨rfl, hB8⟩))
    go_ret
    exact ⟨rfl, below_more HB0.out (below_more HB4.out hB8)⟩
end Go.Proofs.YthkkllcpogagiaaDoor
