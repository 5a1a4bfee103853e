/- Merged texts: MrkD MrkN. -/
import Derived.Test.YtnfcnjboeocnmaaDoorMaw
import Derived.Test.YtnfcnjboeocnmaaDoorMat
import Derived.Test.YtnfcnjboeocnmaaDoorMau
/- The contracts of the document's own Root and Doubled of layer 8. -/
namespace Go.Proofs.YtnfcnjboeocnmaaDoor
open Go.RowKit
set_option linter.unusedVariables false
set_option linter.unusedSimpArgs false

set_option maxRecDepth 100000 in
theorem depth_le6 (n : Nat) (h : n ≤ 64) : depth n ≤ 6 := by
  by_cases hn : n ≤ 1
  · rw [depth_small n hn]; omega
  · have h1 := depth_low n (by omega)
    rcases Nat.lt_or_ge (depth n) 7 with h2 | h2
    · omega
    · have h3 := Nat.pow_le_pow_right (n := 2) (by omega) (show 6 ≤ depth n - 1 by omega)
      omega
set_option maxRecDepth 100000 in
theorem pairs_false (l : List (List UInt8)) (h : ∀ i, 2 * i + 1 < l.length → hat l (2 * i) ≠ hat l (2 * i + 1)) : pairs l = false := by
  unfold pairs
  rw [List.any_eq_false]
  intro i hi
  have := h i (by rw [List.mem_range] at hi; omega)
  simpa using this
set_option maxRecDepth 100000 in
theorem pairs_true (l : List (List UInt8)) (i : Nat) (h1 : 2 * i + 1 < l.length) (h2 : hat l (2 * i) = hat l (2 * i + 1)) : pairs l = true := by
  unfold pairs
  rw [List.any_eq_true]
  exact ⟨i, by rw [List.mem_range]; omega, by simpa using h2⟩
set_option maxRecDepth 100000 in
theorem dbl_true (l : List (List UInt8)) (k : Nat) (hk : k < depth l.length) (h : pairs (lev k l) = true) : dbl l = true := by
  unfold dbl
  rw [List.any_eq_true]
  exact ⟨k, by rw [List.mem_range]; exact hk, h⟩
set_option maxRecDepth 100000 in
theorem dbl_false (l : List (List UInt8)) (h : ∀ k, k < depth l.length → pairs (lev k l) = false) : dbl l = false := by
  unfold dbl
  rw [List.any_eq_false]
  intro k hk
  rw [h k (by rw [List.mem_range] at hk; exact hk)]
  simp
set_option maxRecDepth 100000 in
/-- Two hashes are equal if their bytes are. -/
theorem eq32 {P : Program} (t e : TypeId) (ht : P.underlying t = some (.array 32 e)) (he : P.underlying e = some (.int .u8)) (hce : P.cellsOf e = 1) (hct : P.cellsOf t = 32) (hk : P.keyTypeAt 2 t = true) (a b : List UInt8) (ha : a.length = 32) (hb : b.length = 32) (B : Bool) (hB : decide (a = b) = B) (w : World) :
    (Op.equalIn 10000 t (.agg (a.map B8).toArray) (.agg (b.map B8).toArray)).run P w = .ok B w := by
  have hf : ∀ l : List UInt8, l.length = 32 → (Value.agg (l.map B8).toArray).formed P t = true := fun l hl => by simp [Value.formed, ht, hct, hl]
  obtain ⟨r, hr, hiff⟩ := run_equalIn_deep (P := P) 9998 2 t hk w 2 2 _ _ _ _ (hf a ha) (hf b hb) (lits_bytes t e ht he hce hct a ha) (lits_bytes t e ht he hce hct b hb)
  rw [hr]
  have : r = B := by
    rw [← hB]
    cases hr' : r
    · have hne : ¬ a = b := fun e => by rw [hiff.2 (by rw [e])] at hr'; cases hr'
      rw [decide_eq_false hne]
    · rw [decide_eq_true (blits_inj (hiff.1 hr'))]
  rw [this]
set_option maxRecDepth 100000 in
theorem eqR32 (a b : List UInt8) (ha : a.length = 32) (hb : b.length = 32) (B : Bool) (hB : decide (a = b) = B) (w : World) : (Op.equalIn 10000 34 (.agg (a.map B8).toArray) (.agg (b.map B8).toArray)).run Tryd.prog w = .ok B w :=
  eq32 34 5 Tryd.underlying34 Tryd.underlying5 (by kernel_rfl) (by kernel_rfl) (by kernel_rfl) a b ha hb B hB w
set_option maxRecDepth 100000 in
theorem eqG32 (a b : List UInt8) (ha : a.length = 32) (hb : b.length = 32) (B : Bool) (hB : decide (a = b) = B) (w : World) : (Op.equalIn 10000 35 (.agg (a.map B8).toArray) (.agg (b.map B8).toArray)).run Tryd.prog w = .ok B w :=
  eq32 35 5 Tryd.underlying35 Tryd.underlying5 (by kernel_rfl) (by kernel_rfl) (by kernel_rfl) a b ha hb B hB w
set_option maxRecDepth 100000 in
set_option maxHeartbeats 4000000 in
theorem droot_calls (A : Option Addr) (n c : Nat) (L : List (List UInt8)) (w : World) (hr : RdH w A n L) (hn : n ≤ 64) : Calls Tryd.prog 14 #[.slice A n c] w (Ret w (.agg ((rootH L).map B8).toArray)) := by
  have hln := hr.len
  obtain ⟨V, hV⟩ : ∃ V, V = (rootH L).map B8 := ⟨_, rfl⟩
  have hv32 : V.length = 32 := by rw [hV, List.length_map, rootH_len L hr.all]
  have IV : Hid ((Tryd.prog.info? 34).map (·.size) = some V.length) := Lib.hid (by rw [hv32]; exact i32r)
  have LV : Hid (z32.length = V.length) := Lib.hid (by rw [hv32]; rfl)
  have OV : Hid (∀ v ∈ V, v.oneCell' = true) := Lib.hid (by rw [hV]; exact b8_one _)
  have hz : Blk (w.alloc (.cells z32.toArray 34)) w.heap.size z32 34 := Blk.new w _ _
  have HB := Lib.hid (below_al (Below.refl _ w) (.cells z32.toArray 34))
  obtain ⟨w0, hw0⟩ : ∃ w0, w0 = w.alloc (.cells z32.toArray 34) := ⟨_, rfl⟩
  rw [← hw0] at hz HB
  have hw1 : w.alloc (.cells #[.int .u8 0, .int .u8 0, .int .u8 0, .int .u8 0, .int .u8 0, .int .u8 0, .int .u8 0, .int .u8 0, .int .u8 0, .int .u8 0, .int .u8 0, .int .u8 0, .int .u8 0, .int .u8 0, .int .u8 0, .int .u8 0, .int .u8 0, .int .u8 0, .int .u8 0, .int .u8 0, .int .u8 0, .int .u8 0, .int .u8 0, .int .u8 0, .int .u8 0, .int .u8 0, .int .u8 0, .int .u8 0, .int .u8 0, .int .u8 0, .int .u8 0, .int .u8 0] 34) = w0 := hw0.symm
  by_cases h0 : n = 0
  · have hd : (n : Int) = 0 := by omega
    have hVz : V = z32 := by rw [hV]; unfold rootH; rw [if_pos (by omega)]; rfl
    have HVZ : Hid (#[Value.int .u8 0, .int .u8 0, .int .u8 0, .int .u8 0, .int .u8 0, .int .u8 0, .int .u8 0, .int .u8 0, .int .u8 0, .int .u8 0, .int .u8 0, .int .u8 0, .int .u8 0, .int .u8 0, .int .u8 0, .int .u8 0, .int .u8 0, .int .u8 0, .int .u8 0, .int .u8 0, .int .u8 0, .int .u8 0, .int .u8 0, .int .u8 0, .int .u8 0, .int .u8 0, .int .u8 0, .int .u8 0, .int .u8 0, .int .u8 0, .int .u8 0, .int .u8 0] = V.toArray) := Lib.hid (by rw [hVz]; rfl)
    rw [← hV]
    clear hV hv32 hVz hr hw0
    go_enter Tryd.func14, Tryd.ntmps14
    go_upto_region 1 with fail
    try rw [hw1]
    clear hw1
    go_wp2_with ((with_reducible refine at_store 34 (.tmp 2) (.tmp 6) ?_); refine wpList_store_blk rfl 34 (.tmp 2) (.tmp 6) rfl w.heap.size z32 V 34 rfl (by first | (simp only [Act.eval]; exact congrArg Value.agg HVZ.out) | (rw [← HVZ.out]; rfl)) hz LV.out IV.out OV.out ?_; intro w6 hb6 ho6)
    refine bodyPost_ret (v := .agg V.toArray) ?_ rfl ⟨rfl, below_only HB.out ho6 (Nat.le_refl _)⟩
    exact results_one Tryd.results14 _ _ w.heap.size 34 _ (0, 0) _ (by rfl) hb6 Tryd.underlying34 rfl IV.out
  · have hd : ¬ (n : Int) = 0 := by omega
    obtain ⟨d, hdd⟩ : ∃ d, d = depth n := ⟨_, rfl⟩
    have hd6 : d ≤ 6 := by rw [hdd]; exact depth_le6 n hn
    have CD : Hid (∀ W, Calls Tryd.prog 24 #[.int .i64 (n : Int)] W (Ret W (.int .i64 (d : Int)))) := Lib.hid fun W => by rw [hdd]; exact ddepth_calls n hn W
    have CN : Hid (∀ W, Below w0.heap.size w0 W → Calls Tryd.prog 26 #[.slice A n c, .int .i64 (d : Int), .int .i64 0] W (Ret W (.agg V.toArray))) := Lib.hid fun W h => by
      have := dnode_calls A n c L w hr hn d 0 W (below_more HB.out h) (by omega) (by rw [hdd, wide_one n (by omega)]; omega)
      have hv : hat (lev d L) 0 = rootH L := by unfold rootH; rw [if_neg (by omega), hln, hdd]
      rw [hv] at this
      rw [hV]
      exact this
    rw [← hV]
    clear hV hv32 hr hw0 hdd
    go_enter Tryd.func14, Tryd.ntmps14
    go_upto_region 1 with fail
    try rw [hw1]
    clear hw1
    go_wp2_with (first
      | (go_at_call 24; refine (CD.out _).mono ?_; rintro e' v1 ⟨rfl, d1⟩)
      | (go_at_call 26; refine (CN.out _ d1).mono ?_; rintro e' v2 ⟨rfl, d2⟩)
      | ((with_reducible refine at_store 34 (.tmp 2) (.tmp 11) ?_); refine wpList_store_blk rfl 34 (.tmp 2) (.tmp 11) rfl w.heap.size z32 V 34 rfl rfl (hz.up (below_more d1 d2)) LV.out IV.out OV.out ?_; intro w6 hb6 ho6))
    refine bodyPost_ret (v := .agg V.toArray) ?_ rfl ⟨rfl, below_only (below_more HB.out (below_more d1 d2)) ho6 (Nat.le_refl _)⟩
    exact results_one Tryd.results14 _ _ w.heap.size 34 _ (0, 0) _ (by rfl) hb6 Tryd.underlying34 rfl IV.out
set_option maxRecDepth 100000 in
set_option maxHeartbeats 4000000 in
theorem ddoubled_calls (A : Option Addr) (n c : Nat) (L : List (List UInt8)) (w : World) (hr : RdH w A n L) (hn : n ≤ 64) : Calls Tryd.prog 12 #[.slice A n c] w (Ret w (.bool (dbl L))) := by
  obtain ⟨d, hdd⟩ : ∃ d, d = depth n := ⟨_, rfl⟩
  have hd6 : d ≤ 6 := by rw [hdd]; exact depth_le6 n hn
  obtain ⟨R, hR⟩ : ∃ R, R = dbl L := ⟨_, rfl⟩
  have hlev : ∀ k, (lev k L).length = wide n k := fun k => by rw [lev_len, hr.len]
  have HT : Hid (∀ t j, t < d → 2 * j + 1 < wide n t → hat (lev t L) (2 * j) = hat (lev t L) (2 * j + 1) → R = true) := Lib.hid fun t j h1 h2 h3 => by
    rw [hR]
    exact dbl_true L t (by rw [hr.len, ← hdd]; exact h1) (pairs_true _ j (by rw [hlev]; exact h2) h3)
  have HF : Hid ((∀ k, k < d → pairs (lev k L) = false) → R = false) := Lib.hid fun h => by
    rw [hR]
    exact dbl_false L (fun k hk => h k (by rw [hr.len, ← hdd] at hk; exact hk))
  have HP : Hid (∀ t, (∀ i, 2 * i + 1 < wide n t → hat (lev t L) (2 * i) ≠ hat (lev t L) (2 * i + 1)) → pairs (lev t L) = false) := Lib.hid fun t h => pairs_false _ (fun i hi => h i (by rw [hlev] at hi; exact hi))
  have H32 : Hid (∀ t i, i < wide n t → (hat (lev t L) i).length = 32) := Lib.hid fun t i hi => hat_32 (lev_32 L hr.all t) (by rw [hlev]; exact hi)
  have CD : Hid (∀ W, Calls Tryd.prog 24 #[.int .i64 (n : Int)] W (Ret W (.int .i64 (d : Int)))) := Lib.hid fun W => by rw [hdd]; exact ddepth_calls n hn W
  have CN : Hid (∀ W k i, Below w.heap.size w W → k ≤ 20 → i < wide n k → Calls Tryd.prog 26 #[.slice A n c, .int .i64 (k : Int), .int .i64 (i : Int)] W (Ret W (.agg ((hat (lev k L) i).map B8).toArray))) := Lib.hid fun W k i h1 h2 h3 => dnode_calls A n c L w hr hn k i W h1 h2 h3
  have HW : Hid (∀ t, wide n t ≤ 65) := Lib.hid fun t => by have := wide_le n t; omega
  rw [← hR]
  clear hR hr hlev hdd
  go_enter Tryd.func12, Tryd.ntmps12
  go_wp2
  go_loopw [3] (fun i wr => ∃ t : Nat, i = .int .i64 (t : Int) ∧ t ≤ d ∧ (∀ k, k < t → pairs (lev k L) = false) ∧ Below w.heap.size w wr) (fun i _ => d - (intOf i).toNat)
  case atStart => exact ⟨0, by first | rfl | go_num, by omega, fun k hk => absurd hk (by omega), Below.refl _ w⟩
  case round =>
    obtain ⟨t, rfl, htd, hno, hbel⟩ := hrel
    by_cases hlt : t < d
    · have hlt' : (t : Int) < (d : Int) := by omega
      have HNO := Lib.hid hno
      obtain ⟨wk, hwk⟩ : ∃ x, x = wide n t := ⟨_, rfl⟩
      have hwk65 : wk ≤ 65 := by rw [hwk]; exact HW.out t
      have CW : Hid (∀ W, Calls Tryd.prog 25 #[.int .i64 (n : Int), .int .i64 (t : Int)] W (Ret W (.int .i64 (wk : Int)))) := Lib.hid fun W => by rw [hwk]; exact dwide_calls n t (by omega) (by omega) W
      have HWK := Lib.hid hwk
      have ht20 : t ≤ 20 := by omega
      obtain ⟨wo, hwo⟩ : ∃ wo, wo = wr := ⟨_, rfl⟩
      rw [← hwo] at hbel ⊢
      clear hno hwk hwo
      go_wp2_with (go_at_call 24; refine (CD.out _).mono ?_; rintro e' v1 ⟨rfl, d1⟩)
      have hb1 := below_more hbel d1
      clear d1 hbel
      go_loopw [4] (fun i wr => ∃ j : Nat, i = .int .i64 (j : Int) ∧ j ≤ 100 ∧ (∀ i, i < j → hat (lev t L) (2 * i) ≠ hat (lev t L) (2 * i + 1)) ∧ Below w.heap.size w wr) (fun i _ => 100 - (intOf i).toNat)
      case atStart => exact ⟨0, by first | rfl | go_num, by omega, fun k hk => absurd hk (by omega), hb1⟩
      case round =>
        obtain ⟨j, rfl, hj100, hnj, hbj⟩ := hrel
        obtain ⟨a2, ha2⟩ : ∃ a, a = 2 * j := ⟨_, rfl⟩
        obtain ⟨a3, ha3⟩ : ∃ a, a = 2 * j + 1 := ⟨_, rfl⟩
        have m1 : IntKind.i64.wrap (2 * (j : Int)) = (a2 : Int) := by rw [IntKind.wrap_i64]; omega
        have m2 : IntKind.i64.wrap ((a2 : Int) + 1) = (a3 : Int) := by rw [IntKind.wrap_i64]; omega
        have HNJ := Lib.hid hnj
        clear hnj
        by_cases hin : a3 < wk
        · have hin' : (a3 : Int) < (wk : Int) := by omega
          obtain ⟨x, hx⟩ : ∃ x, x = hat (lev t L) a2 := ⟨_, rfl⟩
          obtain ⟨y, hy⟩ : ∃ y, y = hat (lev t L) a3 := ⟨_, rfl⟩
          have hx32 : x.length = 32 := by rw [hx]; exact H32.out t a2 (by rw [← HWK.out]; omega)
          have hy32 : y.length = 32 := by rw [hy]; exact H32.out t a3 (by rw [← HWK.out]; omega)
          obtain ⟨X, hX⟩ : ∃ X, X = x.map B8 := ⟨_, rfl⟩
          obtain ⟨Y, hY⟩ : ∃ Y, Y = y.map B8 := ⟨_, rfl⟩
          have C2 : Hid (∀ W, Below w.heap.size w W → Calls Tryd.prog 26 #[.slice A n c, .int .i64 (t : Int), .int .i64 (a2 : Int)] W (Ret W (.agg X.toArray))) := Lib.hid fun W h => by rw [hX, hx]; exact CN.out W t a2 h ht20 (by rw [← HWK.out]; omega)
          have C3 : Hid (∀ W, Below w.heap.size w W → Calls Tryd.prog 26 #[.slice A n c, .int .i64 (t : Int), .int .i64 (a3 : Int)] W (Ret W (.agg Y.toArray))) := Lib.hid fun W h => by rw [hY, hy]; exact CN.out W t a3 h ht20 (by rw [← HWK.out]; omega)
          obtain ⟨B, hB⟩ : ∃ B, B = decide (x = y) := ⟨_, rfl⟩
          have heq : ∀ W, (Op.equalIn 10000 34 (.agg X.toArray) (.agg Y.toArray)).run Tryd.prog W = .ok B W := fun W => by rw [hX, hY]; exact eqR32 x y hx32 hy32 B hB.symm W
          have HXY : Hid (hat (lev t L) (2 * j) = x ∧ hat (lev t L) (2 * j + 1) = y) := Lib.hid ⟨by rw [hx, ha2], by rw [hy, ha3]⟩
          have HBB := Lib.hid hB
          have HIN : Hid (2 * j + 1 < wide n t) := Lib.hid (by rw [← HWK.out, ← ha3]; exact hin)
          have hj1 : j + 1 ≤ 100 := by omega
          clear hx hy hX hY hx32 hy32 hB ha2 ha3
          cases hBc : B
          · rw [hBc] at heq HBB
            go_wp2_with (first
              | (go_at_call 25; refine (CW.out _).mono ?_; rintro e' y1 ⟨rfl, f1⟩)
              | (go_at_call 26; first | ((with_reducible refine (C2.out _ (below_more hbj f1)).mono ?_); rintro e' y2 ⟨rfl, f2⟩) | ((with_reducible refine (C3.out _ (below_more (below_more hbj f1) f2)).mono ?_); rintro e' y3 ⟨rfl, f3⟩)))
            go_roundw
            case rel =>
              refine ⟨j + 1, by go_num, hj1, fun i hi => ?_, below_more (below_more (below_more hbj f1) f2) f3⟩
              rcases Nat.lt_or_ge i j with h | h
              · exact HNJ.out i h
              · have e : i = j := by omega
                subst e
                rw [HXY.out.1, HXY.out.2]
                exact of_decide_eq_false HBB.out.symm
            case measure => simp [intOf]; omega
          · rw [hBc] at heq HBB
            have hRt := HT.out t j hlt HIN.out (by rw [HXY.out.1, HXY.out.2]; exact of_decide_eq_true HBB.out.symm)
            have HRT := Lib.hid hRt
            clear hRt
            go_wp2_with (first
              | (go_at_call 25; refine (CW.out _).mono ?_; rintro e' y1 ⟨rfl, f1⟩)
              | (go_at_call 26; first | ((with_reducible refine (C2.out _ (below_more hbj f1)).mono ?_); rintro e' y2 ⟨rfl, f2⟩) | ((with_reducible refine (C3.out _ (below_more (below_more hbj f1) f2)).mono ?_); rintro e' y3 ⟨rfl, f3⟩)))
            go_ret
            exact ⟨by rw [HRT.out]; rfl, below_more (below_more (below_more hbj f1) f2) f3⟩
        · have hin' : ¬ (a3 : Int) < (wk : Int) := by omega
          have hpt := HP.out t (fun i hi => HNJ.out i (by rw [← HWK.out] at hi; omega))
          have HPT := Lib.hid hpt
          clear hpt ha2 ha3
          go_wp2_with (go_at_call 25; refine (CW.out _).mono ?_; rintro e' y1 ⟨rfl, f1⟩)
          go_roundw
          case rel =>
            refine ⟨t + 1, by go_num, by omega, fun k hk => ?_, below_more hbj f1⟩
            rcases Nat.lt_or_ge k t with h | h
            · exact HNO.out k h
            · have e : k = t := by omega
              subst e
              exact HPT.out
          case measure => simp [intOf]; omega
    · have hlt' : ¬ (t : Int) < (d : Int) := by omega
      have hRf := HF.out (fun k hk => hno k (by omega))
      have HRF := Lib.hid hRf
      clear hRf hno
      go_wp2_with (go_at_call 24; refine (CD.out _).mono ?_; rintro e' v1 ⟨rfl, d1⟩)
      go_ret
      exact ⟨by rw [HRF.out]; rfl, below_more hbel d1⟩
end Go.Proofs.YtnfcnjboeocnmaaDoor

/- Plain mathematics of layer 8: a list with its last hash once more; two lists with one root. -/
namespace Go.Proofs.YtnfcnjboeocnmaaDoor
set_option linter.unusedVariables false

set_option maxRecDepth 100000 in
/-- An odd list with its last hash once more has the same level above it. -/
theorem abv_twice : ∀ (l : List (List UInt8)), l.length % 2 = 1 → abv (l ++ [hat l (l.length - 1)]) = abv l
  | [], h => by simp at h
  | [a], _ => by simp [abv, hat]
  | [a, b], h => by simp at h
  | a :: b :: c :: r, h => by
    have h1 := abv_twice (c :: r) (by simp at h ⊢; omega)
    have e : hat (a :: b :: c :: r) ((a :: b :: c :: r).length - 1) = hat (c :: r) ((c :: r).length - 1) := by
      simp [hat]
    rw [e]
    show pr a b :: abv (c :: r ++ [hat (c :: r) ((c :: r).length - 1)]) = _
    rw [h1]
    rfl
set_option maxRecDepth 100000 in
theorem root_twice (l : List (List UInt8)) (h : l.length % 2 = 1) (h2 : 1 < l.length) : rootH (l ++ [hat l (l.length - 1)]) = rootH l := by
  rw [← rootH_abv _ (by rw [List.length_append]; simp; omega), abv_twice l h, rootH_abv l h2]
set_option maxRecDepth 100000 in
theorem hat_app_left (l r : List (List UInt8)) (i : Nat) (h : i < l.length) : hat (l ++ r) i = hat l i := by
  unfold hat
  rw [List.getD_eq_getElem?_getD, List.getD_eq_getElem?_getD, List.getElem?_append_left h]
set_option maxRecDepth 100000 in
theorem hat_app_last (l : List (List UInt8)) (x : List UInt8) : hat (l ++ [x]) l.length = x := by
  unfold hat
  rw [List.getD_eq_getElem?_getD, List.getElem?_append_right (Nat.le_refl _)]
  simp
set_option maxRecDepth 100000 in
theorem pairs_at (l : List (List UInt8)) (i : Nat) (h1 : 2 * i + 1 < l.length) (h2 : hat l (2 * i) = hat l (2 * i + 1)) : pairs l = true := by
  unfold pairs
  rw [List.any_eq_true]
  exact ⟨i, by rw [List.mem_range]; omega, by simpa using h2⟩
set_option maxRecDepth 100000 in
theorem dbl_twice (l : List (List UInt8)) (h : l.length % 2 = 1) (h2 : 1 < l.length) : dbl (l ++ [hat l (l.length - 1)]) = true := by
  rw [dbl_abv _ (by rw [List.length_append]; simp; omega)]
  have : pairs (l ++ [hat l (l.length - 1)]) = true := by
    refine pairs_at _ (l.length / 2) (by rw [List.length_append]; simp; omega) ?_
    rw [show 2 * (l.length / 2) + 1 = l.length from by omega, hat_app_last, hat_app_left _ _ _ (by omega)]
    congr 1
    omega
  rw [this]
  rfl
set_option maxRecDepth 100000 in
theorem beside_min (n i : Nat) (h : i < (n + 1) / 2) : beside n i = min (2 * i + 1) (n - 1) := by
  unfold beside
  split <;> omega
set_option maxRecDepth 100000 in
theorem hat_ext {a b : List (List UInt8)} (hl : a.length = b.length) (h : ∀ i, i < a.length → hat a i = hat b i) : a = b := by
  refine List.ext_getElem hl fun i h1 h2 => ?_
  have := h i h1
  unfold hat at this
  rw [List.getD_eq_getElem?_getD, List.getD_eq_getElem?_getD, List.getElem?_eq_getElem h1, List.getElem?_eq_getElem h2] at this
  simpa using this
set_option maxRecDepth 100000 in
/-- Where the levels above are one and no pair clashes, the lists are one. -/
theorem abv_apart {a b : List (List UInt8)} (hl : a.length = b.length) (hab : abv a = abv b) (hno : ∀ i, i < (a.length + 1) / 2 → hat (abv a) i = hat (abv b) i → hat a (2 * i) = hat b (2 * i) ∧ hat a (beside a.length i) = hat b (beside a.length i)) : a = b := by
  refine hat_ext hl fun i hi => ?_
  have h1 := hno (i / 2) (by omega) (by rw [hab])
  rcases Nat.mod_two_eq_zero_or_one i with h | h
  · have e : 2 * (i / 2) = i := by omega
    rw [e] at h1
    exact h1.1
  · have e : beside a.length (i / 2) = i := by
      unfold beside
      rw [if_pos (by omega)]
      omega
    rw [e] at h1
    exact h1.2
set_option maxRecDepth 100000 in
/-- A list of one hash is its root. -/
theorem root_single {a : List (List UInt8)} (h : a.length = 1) : a = [rootH a] := by
  match a, h with
  | [x], _ => rw [rootH_one]
end Go.Proofs.YtnfcnjboeocnmaaDoor
