/- Merged texts: ClaC. -/
import Derived.Test.YtpoinhjkdgcnaaaDoorMbb
import Derived.Test.YtpoinhjkdgcnaaaDoorMaw
import Derived.Test.YtpoinhjkdgcnaaaDoorMak
import Derived.Test.YtpoinhjkdgcnaaaDoorMam
import Derived.Deep.RegionHeld3
/- The contract of the document's own Texts of layer 10. -/
namespace Go.Proofs.YtpoinhjkdgcnaaaDoor
open Go.RowKit
set_option linter.unusedVariables false
set_option linter.unusedSimpArgs false

/-- The texts of a list, up to level k. -/
def txsK (T : List (List UInt8)) (k : Nat) : List (List UInt8) := T ++ ((List.range k).map (tlev (sums T))).flatten
/-- And the first j of the next level. -/
def txsJ (T : List (List UInt8)) (k j : Nat) : List (List UInt8) := txsK T k ++ (List.range j).map (tn (sums T) k)
set_option maxRecDepth 100000 in
theorem txsK_zero (T : List (List UInt8)) : txsK T 0 = T := by simp [txsK]
set_option maxRecDepth 100000 in
theorem txsK_all (T : List (List UInt8)) : txsK T (depth T.length) = txs T := rfl
set_option maxRecDepth 100000 in
theorem txsJ_zero (T : List (List UInt8)) (k : Nat) : txsJ T k 0 = txsK T k := by simp [txsJ]
set_option maxRecDepth 100000 in
theorem txsJ_succ (T : List (List UInt8)) (k j : Nat) : txsJ T k (j + 1) = txsJ T k j ++ [tn (sums T) k j] := by
  unfold txsJ
  rw [List.range_succ, List.map_append, List.append_assoc]
  rfl
set_option maxRecDepth 100000 in
theorem txsJ_full (T : List (List UInt8)) (k : Nat) : txsJ T k (wide T.length (k + 1)) = txsK T (k + 1) := by
  unfold txsJ txsK
  rw [List.range_succ, List.map_append, List.flatten_append, List.append_assoc]
  congr 2
  simp [tlev, sums_len]
set_option maxRecDepth 100000 in
theorem txsK_len (T : List (List UInt8)) (h : T.length ≤ 64) : ∀ k, (txsK T k).length ≤ 64 + 64 * k
  | 0 => by rw [txsK_zero]; omega
  | k + 1 => by
    rw [← txsJ_full]
    unfold txsJ
    have h1 := txsK_len T h k
    have h2 := wide_64 T.length h (k + 1)
    rw [List.length_append, List.length_map, List.length_range]
    omega
set_option maxRecDepth 100000 in
theorem txsJ_len (T : List (List UInt8)) (h : T.length ≤ 64) (k j : Nat) (hj : j ≤ 64) : (txsJ T k j).length ≤ 128 + 64 * k := by
  have h1 := txsK_len T h k
  unfold txsJ
  rw [List.length_append, List.length_map, List.length_range]
  omega
set_option maxRecDepth 100000 in
/-- A row of strings is no row of arrays. -/
theorem OwnS.ne_own {w : World} {b b' n c n' c' : Nat} {e : TypeId} {A A' : Option Addr} {L L' : List (List UInt8)} (h : OwnS w b A n c L) (k : OwnH w b' e A' n' c' L') (hne : 9 ≠ e) : ∀ g, blkOf A = some g → ¬ blkOf A' = some g := fun g h1 h2 => by
  rcases h.2.2 with ⟨hv, _⟩ | ⟨g1, cap, cur, hv, _, hr, _⟩
  · injection hv with e1; rw [e1] at h1; simp [blkOf] at h1
  · rcases k.2.2.2 with ⟨kv, _⟩ | ⟨g2, cap2, cur2, kv, _, kr, _⟩
    · injection kv with e1; rw [e1] at h2; simp [blkOf] at h2
    · injection hv with e1
      injection kv with e2
      rw [e1] at h1
      rw [e2] at h2
      have e3 : g1 = g := by simpa [blkOf] using h1
      have e4 : g2 = g := by simpa [blkOf] using h2
      rw [e3] at hr
      rw [e4, hr] at kr
      injection kr with e5
      injection e5 with _ e6
      exact hne e6
set_option maxRecDepth 100000 in
set_option maxHeartbeats 4000000 in
theorem dtexts_calls (A : Option Addr) (n c : Nat) (T : List (List UInt8)) (w : World) (hr : RdS w A n T) (hn : n ≤ 64) (hT2 : ∀ t ∈ T, t.length ≤ 100000) :
    Calls Tryd.prog 12 #[.slice A n c] w fun e w' => ∃ A' c', e = .returned (.slice A' (txs T).length c') ∧ OwnS w' w.heap.size A' (txs T).length c' (txs T) ∧ Below w.heap.size w w' := by
  have hln := hr.len
  have HR := Lib.hid hr
  have HT2 := Lib.hid hT2
  obtain ⟨D, hD⟩ : ∃ D, D = depth n := ⟨_, rfl⟩
  have hD6 : D ≤ 6 := by rw [hD]; exact depth_le6 n hn
  have CD : Hid (∀ W : World, Calls Tryd.prog 28 #[.int .i64 (n : Int)] W (Ret W (.int .i64 (D : Int)))) := Lib.hid fun W => by rw [hD]; exact ddepth16_calls n (by omega) W
  have CW : Hid (∀ (W : World) (t : Nat), t ≤ 16 → Calls Tryd.prog 29 #[.int .i64 (n : Int), .int .i64 (t : Int)] W (Ret W (.int .i64 (wide n t : Int)))) := Lib.hid fun W t ht => dwide16_calls n t (by omega) (Nat.le_trans ht (by decide)) W
  have HALL : Hid (txsK T D = txs T) := Lib.hid (by rw [hD, ← hln]; rfl)
  have hwl := fun t => wide_64 n hn t
  have HWL := Lib.hid hwl
  clear hr hT2 hD hwl
  go_enter Tryd.func12, Tryd.ntmps12
  go_wp2
  go_loopw [14, 3, 4] (fun kv ov sv wr => ∃ (t : Nat) (A1 : Option Addr) (c1 : Nat) (A2 : Option Addr) (c2 : Nat), kv = .int .i64 (t : Int) ∧ ov = .slice A1 t c1 ∧ sv = .slice A2 t c2 ∧ t ≤ n ∧ OwnS wr w.heap.size A1 t c1 (T.take t) ∧ OwnH wr w.heap.size 46 A2 t c2 ((sums T).take t) ∧ Below w.heap.size w wr) (fun kv _ _ _ => n - (intOf kv).toNat)
  case atStart => exact ⟨0, none, 0, none, 0, by first | rfl | go_num, rfl, rfl, by omega, by rw [List.take_zero]; exact OwnS.nil _ _, by rw [List.take_zero]; exact OwnH.nil _ _ _, Below.refl _ _⟩
  case round =>
    obtain ⟨t, A1, c1, A2, c2, rfl, rfl, rfl, htn, hown, hownH, hbel⟩ := hrel
    obtain ⟨wo, hwo⟩ : ∃ x, x = wr := ⟨_, rfl⟩
    rw [← hwo] at hown hownH hbel ⊢
    clear hwo
    by_cases hlt : t < n
    · have hlt' : (t : Int) < (n : Int) := by omega
      obtain ⟨b, off, rfl, hb, sc⟩ := (HR.out.below hbel).at_ hlt
      have hnx := take_hat T t (by omega)
      have hnxS := take_hat (sums T) t (by rw [sums_len]; omega)
      have hxT : hat T t ∈ T := by unfold hat; rw [List.getD_eq_getElem?_getD, List.getElem?_eq_getElem (by omega)]; exact List.getElem_mem _
      have hle := HT2.out _ hxT
      obtain ⟨x, hx⟩ : ∃ x, x = hat T t := ⟨_, rfl⟩
      obtain ⟨y, hy⟩ : ∃ y, y = ds x := ⟨_, rfl⟩
      have hTx : hat (sums T) t = y := by rw [sums_at T t (by omega), hy, hx]
      rw [← hx] at hnx sc hle
      rw [hTx] at hnxS
      have HNX := Lib.hid hnx
      have HNS := Lib.hid hnxS
      obtain ⟨Y, hY⟩ : ∃ V, V = y.map B8 := ⟨_, rfl⟩
      have y32 : y.length = 32 := by rw [hy]; exact ds_len _
      have HY := Lib.hid hY
      have HY32 := Lib.hid y32
      have LY : Hid (Y.length = 32) := Lib.hid (by rw [hY, List.length_map, y32])
      have CT : Hid (∀ W : World, Calls Tryd.prog 27 #[STR x] W (Ret W (.agg Y.toArray))) := Lib.hid fun W => by
        have := rtwice_calls ⟨x.toArray⟩ W (by rw [bstr_size]; exact hle)
        rw [hY, hy]
        exact this
      obtain ⟨T', hT'⟩ : ∃ T', T' = T.take t := ⟨_, rfl⟩
      obtain ⟨U', hU'⟩ : ∃ T', T' = (sums T).take t := ⟨_, rfl⟩
      rw [← hT'] at hown
      rw [← hU'] at hownH
      have HT' := Lib.hid hT'
      have HU' := Lib.hid hU'
      clear hnx hnxS hxT hTx hT' hU' hx hy hY y32
      go_wp2_with (first
        | ((with_reducible refine at_bsP 33 1 #[(0, .tmp 19)] ?_); refine wpList_bsS rfl (.tmp 19) rfl x (by first | rfl | (simp [Act.eval]; done)) ?_; intro g w1 hb1 hg1 hl1 hf1 hB1)
        | ((with_reducible refine at_app 33 (.tmp 18) (.tmp 20) ?_); refine wpList_appS rfl (.tmp 18) (.tmp 20) rfl w.heap.size w (below_more hbel hB1) (Nat.le_refl _) A1 t c1 T' (by first | rfl | simp [Act.eval]) (hown.up hB1) g x (by first | rfl | simp [Act.eval]) hb1 (by omega) ?_; intro A3 c3 w2 ho2 hf2 hB2; have hoH2 := (hownH.up hB1).frm hf2 (fun k hk e => (hown.up hB1).ne_own (hownH.up hB1) (by decide) k e hk))
        | (go_at_call 27; refine (CT.out w2).mono ?_; rintro e' w3 ⟨rfl, d3⟩)
        | ((with_reducible refine at_bsP 38 1 #[(0, .tmp 24)] ?_); refine wpList_bsE rfl 38 46 Tryd.underlying38 infoR (.tmp 24) rfl Y (by first | rfl | simp [Act.eval]) LY.out ?_; intro g4 w4 hb4 hg4 hl4 hf4 hB4)
        | ((with_reducible refine at_app 38 (.tmp 22) (.tmp 25) ?_); refine wpList_appE rfl 38 46 Tryd.underlying38 infoR (.tmp 22) (.tmp 25) rfl w.heap.size w (below_more (below_more hB2 d3) hB4) (Nat.le_refl _) A2 t c2 U' (by first | rfl | simp [Act.eval]) ((hoH2.up d3).up hB4) g4 y Y HY.out HY32.out (by first | rfl | simp [Act.eval]) hb4 (by omega) ?_; intro A5 c5 w5 ho5 hf5 hB5; have hoS5 := ((ho2.up d3).up hB4).frm hf5 (fun k hk e => ((ho2.up d3).up hB4).ne_own ((hoH2.up d3).up hB4) (by decide) k hk e)))
      go_roundw
      case rel => exact ⟨t + 1, A3, c3, A5, c5, by go_num, rfl, rfl, by omega, by rw [HNX.out, ← HT'.out]; exact hoS5, by rw [HNS.out, ← HU'.out]; exact ho5, hB5⟩
      case measure => simp [intOf]; omega
    · have hlt' : ¬ (t : Int) < (n : Int) := by omega
      have e : t = n := by omega
      subst e
      rw [List.take_of_length_le (by omega)] at hown
      rw [List.take_of_length_le (by rw [sums_len]; omega)] at hownH
      have CN : Hid (∀ (W : World) (k a : Nat), RdH W A2 t (sums T) → k ≤ 16 → a < wide t k → Calls Tryd.prog 30 #[.slice A2 t c2, .int .i64 (k : Int), .int .i64 (a : Int)] W (Ret W (.agg ((hat (lev k (sums T)) a).map B8).toArray))) := Lib.hid fun W k a h1 h2 h3 => dnode_calls A2 t c2 (sums T) W h1 hn k a W (Below.refl _ _) (Nat.le_trans h2 (by decide)) h3
      have hown0 : OwnS wo w.heap.size A1 t c1 (txsK T 0) := by rw [txsK_zero]; exact hown
      have hsa : ∀ (q o : Nat) W, (Instr.sliceAt 46 (.pointer (some ⟨q, o, none⟩)) none none none).run Tryd.prog W = .ok (.slice (some ⟨q, o, none⟩) 32 32) W := fun q o W => run_sl_all 46 5 32 Tryd.underlying46 size8 q o (by omega) W
      have hw0 := hbel.size
      have hA2 : Hid (∀ q, blkOf A2 = some q → q < wo.heap.size) := Lib.hid fun q hq => hownH.blklt hq
      obtain ⟨n, rfl⟩ : ∃ n, n = t := ⟨_, rfl⟩
      clear hown
      go_wp2
      go_loopw [7, 3] (fun lv ov wr => ∃ (k m : Nat) (A3 : Option Addr) (c3 : Nat), lv = .int .i64 ((k + 1 : Nat) : Int) ∧ ov = .slice A3 m c3 ∧ k ≤ D ∧ OwnS wr w.heap.size A3 m c3 (txsK T k) ∧ OwnH wr w.heap.size 46 A2 n c2 (sums T) ∧ Below w.heap.size w wr ∧ wo.heap.size ≤ wr.heap.size) (fun lv _ _ => D + 1 - (intOf lv).toNat)
      case atStart => exact ⟨0, n, A1, c1, by first | rfl | go_num, rfl, by omega, hown0, hownH, hbel, Nat.le_refl _⟩
      case round =>
        obtain ⟨k, m, A3, c3, rfl, rfl, hkD, hown, hH, hbel2, hsz2⟩ := hrel
        obtain ⟨wp, hwp⟩ : ∃ x, x = wr := ⟨_, rfl⟩
        rw [← hwp] at hown hH hbel2 hsz2 ⊢
        clear hwp hown0 hownH hbel
        obtain ⟨lv, hlv⟩ : ∃ x, x = k + 1 := ⟨_, rfl⟩
        rw [← hlv]
        by_cases hlt : k < D
        · have hlt2 : (lv : Int) ≤ (D : Int) := by omega
          have u0 : IntKind.i64.wrap ((lv : Int) - 1) = (k : Int) := by rw [IntKind.wrap_i64]; omega
          have CWk : Hid (∀ W : World, Calls Tryd.prog 29 #[.int .i64 (n : Int), .int .i64 (k : Int)] W (Ret W (.int .i64 (wide n k : Int)))) := Lib.hid fun W => CW.out W k (by omega)
          obtain ⟨wk, hwk⟩ : ∃ x, x = wide n k := ⟨_, rfl⟩
          obtain ⟨wl, hwl⟩ : ∃ x, x = wide n (k + 1) := ⟨_, rfl⟩
          have CWl : Hid (∀ W : World, Calls Tryd.prog 29 #[.int .i64 (n : Int), .int .i64 (lv : Int)] W (Ret W (.int .i64 (wl : Int)))) := Lib.hid fun W => by rw [hlv, hwl]; exact CW.out W (k + 1) (by omega)
          rw [← hwk] at CWk
          have hwk64 : wk ≤ 64 := by rw [hwk]; exact HWL.out k
          have hwl64 : wl ≤ 64 := by rw [hwl]; exact HWL.out (k + 1)
          have HWK := Lib.hid hwk
          have HWLE := Lib.hid hwl
          have HWW : Hid (wl = (wk + 1) / 2) := Lib.hid (by rw [hwl, hwk]; rfl)
          have HLV := Lib.hid hlv
          clear hwk hwl hlv
          go_wp2_with (first
            | (go_at_call 28; refine (CD.out _).mono ?_; rintro e' v1 ⟨rfl, d1⟩)
            | (go_at_call 29; refine (CWk.out _).mono ?_; rintro e' v2 ⟨rfl, d2⟩))
          have hown2 := (hown.up d1).up d2
          have hH2 := (hH.up d1).up d2
          have hbel2b := below_more (below_more hbel2 d1) d2
          have hsz2b : wo.heap.size ≤ v2.heap.size := Nat.le_trans hsz2 (Nat.le_trans d1.size d2.size)
          clear hown hH hbel2 d1 d2
          go_loopw [9, 3] (fun jv ov wr => ∃ (j m3 : Nat) (A3 : Option Addr) (c3 : Nat), jv = .int .i64 (j : Int) ∧ ov = .slice A3 m3 c3 ∧ j ≤ wl ∧ OwnS wr w.heap.size A3 m3 c3 (txsJ T k j) ∧ OwnH wr w.heap.size 46 A2 n c2 (sums T) ∧ Below w.heap.size w wr ∧ wo.heap.size ≤ wr.heap.size) (fun jv _ _ => wl - (intOf jv).toNat)
          case atStart => exact ⟨0, m, A3, c3, by first | rfl | go_num, rfl, by omega, by rw [txsJ_zero]; exact hown2, hH2, hbel2b, hsz2b⟩
          case round =>
          obtain ⟨j, m3, A3, c3, rfl, rfl, hjl', hown, hH, hbel3, hsz3⟩ := hrel
          obtain ⟨wq, hwq⟩ : ∃ x, x = wr := ⟨_, rfl⟩
          rw [← hwq] at hown hH hbel3 hsz3 ⊢
          clear hwq hown2 hH2 hbel2b hsz2b
          by_cases hjl : j < wl
          · have hjl2 : (j : Int) < (wl : Int) := by omega
            obtain ⟨a2, ha2⟩ : ∃ a, a = 2 * j := ⟨_, rfl⟩
            obtain ⟨b2, hb2⟩ : ∃ a, a = 2 * j + 1 := ⟨_, rfl⟩
            have hjw : j < (wide n k + 1) / 2 := by rw [← HWK.out, ← HWW.out]; exact hjl
            have hwk := HWK.out
            obtain ⟨x, hx⟩ : ∃ x, x = hat (lev k (sums T)) (2 * j) := ⟨_, rfl⟩
            have x32 : x.length = 32 := by rw [hx]; exact hat_32 (lev_32 _ (sums_32 T) k) (by rw [lev_len, sums_len, hln]; omega)
            obtain ⟨X, hX⟩ : ∃ V, V = x.map B8 := ⟨_, rfl⟩
            have HX := Lib.hid hX
            have HX32 := Lib.hid x32
            have IX : Hid ((Tryd.prog.info? 46).map (·.size) = some X.length) := Lib.hid (by rw [hX, List.length_map, x32]; kernel_rfl)
            have LX : Hid (z32.length = X.length) := Lib.hid (by rw [hX, List.length_map, x32]; rfl)
            have OX : Hid (∀ v ∈ X, v.oneCell' = true) := Lib.hid (by rw [hX]; exact b8_one _)
            obtain ⟨y, hy⟩ : ∃ x, x = hat (lev k (sums T)) (beside (wide n k) j) := ⟨_, rfl⟩
            have y32 : y.length = 32 := by rw [hy]; exact hat_32 (lev_32 _ (sums_32 T) k) (by rw [lev_len, sums_len, hln]; exact beside_lt _ _ hjw)
            obtain ⟨Y, hY⟩ : ∃ V, V = y.map B8 := ⟨_, rfl⟩
            have HY := Lib.hid hY
            have HY32 := Lib.hid y32
            have IY : Hid ((Tryd.prog.info? 46).map (·.size) = some Y.length) := Lib.hid (by rw [hY, List.length_map, y32]; kernel_rfl)
            have LY : Hid (z32.length = Y.length) := Lib.hid (by rw [hY, List.length_map, y32]; rfl)
            have OY : Hid (∀ v ∈ Y, v.oneCell' = true) := Lib.hid (by rw [hY]; exact b8_one _)
            have LXY : Hid (X.length = Y.length) := Lib.hid (by rw [hX, hY, List.length_map, List.length_map, x32, y32])
            have htn : tn (sums T) k j = x ++ y := by unfold tn; rw [sums_len, hln, ← hx, ← hy]
            have hnx := txsJ_succ T k j
            rw [htn] at hnx
            obtain ⟨J, hJ⟩ : ∃ J, J = txsJ T k j := ⟨_, rfl⟩
            rw [← hJ] at hown hnx
            have HNX := Lib.hid hnx
            have HJ := Lib.hid hJ
            have hadd : ∀ W, (Op.stringOp .add ⟨x.toArray⟩ ⟨y.toArray⟩).run Tryd.prog W = .ok (.string ⟨(x ++ y).toArray⟩) W := fun W => bstr_add x y (by omega) (by omega) W
            have CNa : Hid (∀ W : World, RdH W A2 n (sums T) → Calls Tryd.prog 30 #[.slice A2 n c2, .int .i64 (k : Int), .int .i64 (a2 : Int)] W (Ret W (.agg X.toArray))) := Lib.hid fun W h => by rw [hX, hx, ha2]; exact CN.out W k (2 * j) h (by omega) (by omega)
            have HN3 : m3 ≤ 1000 := by have h1 := hown.len; have h2 := txsJ_len T (by omega) k j (by omega); rw [← hJ] at h2; omega
            have u1 := HLV.out
            have u2 : IntKind.i64.wrap (2 * (j : Int)) = (a2 : Int) := by rw [IntKind.wrap_i64]; omega
            have u3 : IntKind.i64.wrap ((a2 : Int) + 1) = (b2 : Int) := by rw [IntKind.wrap_i64]; omega
            have hj64 : j ≤ 64 := by omega
            have ho := hown
            have hB := hbel3
            by_cases hbs : 2 * j + 1 < wide n k
            · have CNb : Hid (∀ W : World, RdH W A2 n (sums T) → Calls Tryd.prog 30 #[.slice A2 n c2, .int .i64 (k : Int), .int .i64 (b2 : Int)] W (Ret W (.agg Y.toArray))) := Lib.hid fun W h => by
                have e : beside (wide n k) j = 2 * j + 1 := by unfold beside; rw [if_pos hbs]
                rw [hY, hy, hb2, e]; exact CN.out W k (2 * j + 1) h (by omega) hbs
              have t1 : (b2 : Int) < (wk : Int) := by omega
              clear hx hy hX hY x32 y32 hJ hnx htn ha2 hb2 hbs hjw hwk u1 hown hbel3
              go_upto_region 17 with (first
                | (go_at_call 29; refine (CWl.out _).mono ?_; rintro e' y0 ⟨rfl, e0⟩; have ho := ho.up e0; have hH := hH.up e0; have hB := below_more hB e0; have sz0 := e0.size)
                | (go_at_call 30; refine (CNa.out _ hH.rd).mono ?_; rintro e' y1 ⟨rfl, e1⟩; have ho := ho.up e1; have hH := hH.up e1; have hB := below_more hB e1; have sz1 := e1.size; have szB := hB.size)
                | ((with_reducible refine at_alloc 46 ?_); refine wpList_allocT rfl 46 z32 (by kernel_rfl) rfl w.heap.size w hB (Nat.le_refl _) ?_; intro g10 z10 hk10 hgz10 hlz10 hfz10 hB; have ho := ho.frm hfz10 (fun _ _ h => h); have hH := hH.frm hfz10 (fun _ _ h => h))
                | ((with_reducible refine at_store 46 (.tmp 10) (.tmp 53) ?_); have nb := ho.ne_blk hk10 (by decide); have nh : ∀ q, blkOf A2 = some q → q ≠ g10 := fun q hq => (by have := hA2.out q hq; omega); refine wpList_store_blk rfl 46 (.tmp 10) (.tmp 53) rfl g10 z32 X 46 rfl rfl hk10 LX.out IX.out OX.out ?_; intro s10 hk10 hos10; have ho := ho.frm (Frm.only hos10 (S := fun i => i = g10) rfl) (fun q hq e => nb q hq e); have hH := hH.frm (Frm.only hos10 (S := fun i => i = g10) rfl) (fun q hq e => nh q hq e); have hB := hB.trans (hos10.below (by omega)); have szs10 := hos10.size))
              go_upto_region 18 with (first
                | ((with_reducible refine at_load 46 (.tmp 10) ?_); refine wpList_load_mid rfl 46 (.tmp 10) rfl (g10) 0 (by first | rfl | simp [Act.eval]) X _ (Blk.range hk10) Tryd.underlying46 rfl IX.out ?_)
                | ((with_reducible refine at_alloc 46 ?_); refine wpList_allocT rfl 46 z32 (by kernel_rfl) rfl w.heap.size w hB (Nat.le_refl _) ?_; intro g11 z11 hk11 hgz11 hlz11 hfz11 hB; have ho := ho.frm hfz11 (fun _ _ h => h); have hH := hH.frm hfz11 (fun _ _ h => h); have hk10 := hk10.stepF hfz11)
                | ((with_reducible refine at_store 46 (.tmp 11) (.tmp 54) ?_); have nb := ho.ne_blk hk11 (by decide); have nh : ∀ q, blkOf A2 = some q → q ≠ g11 := fun q hq => (by have := hA2.out q hq; omega); refine wpList_store_blk rfl 46 (.tmp 11) (.tmp 54) rfl g11 z32 X 46 rfl rfl hk11 LX.out IX.out OX.out ?_; intro s11 hk11 hos11; have ho := ho.frm (Frm.only hos11 (S := fun i => i = g11) rfl) (fun q hq e => nb q hq e); have hH := hH.frm (Frm.only hos11 (S := fun i => i = g11) rfl) (fun q hq e => nh q hq e); have hB := hB.trans (hos11.below (by omega)); have szs11 := hos11.size; have hk10 := hos11.blk hk10 (by omega)))
              go_upto_region 20 with (first
                | (go_at_call 30; refine (CNb.out _ hH.rd).mono ?_; rintro e' y2 ⟨rfl, e2⟩; have ho := ho.up e2; have hH := hH.up e2; have hB := below_more hB e2; have hk10 := hk10.up e2; have hk11 := hk11.up e2; have sz2 := e2.size)
                | ((with_reducible refine at_store 46 (.tmp 11) (.tmp 66) ?_); have nb := ho.ne_blk hk11 (by decide); have nh : ∀ q, blkOf A2 = some q → q ≠ g11 := fun q hq => (by have := hA2.out q hq; omega); refine wpList_store_blk rfl 46 (.tmp 11) (.tmp 66) rfl g11 X Y 46 rfl rfl hk11 LXY.out IY.out OY.out ?_; intro s12 hk11 hos12; have ho := ho.frm (Frm.only hos12 (S := fun i => i = g11) rfl) (fun q hq e => nb q hq e); have hH := hH.frm (Frm.only hos12 (S := fun i => i = g11) rfl) (fun q hq e => nh q hq e); have hB := hB.trans (hos12.below (by omega)); have szs12 := hos12.size; have hk10 := hos12.blk hk10 (by omega)))
              have CX : Hid (∀ W : World, Blk W g10 X 46 → (convert 23 9 (.slice (some ⟨g10, 0, none⟩) 32 32)).run Tryd.prog W = .ok (STR x) W) := Lib.hid fun W h => conv8 W _ 32 32 x (hash_rd h HX.out HX32.out)
              have CY : Hid (∀ W : World, Blk W g11 Y 46 → (convert 23 9 (.slice (some ⟨g11, 0, none⟩) 32 32)).run Tryd.prog W = .ok (STR y) W) := Lib.hid fun W h => conv8 W _ 32 32 y (hash_rd h HY.out HY32.out)
              refine wp_region_held_drew (S := fun W => (convert 23 9 (.slice (some ⟨g10, 0, none⟩) 32 32)).run Tryd.prog W = .ok (.string ⟨x.toArray⟩) W ∧ (convert 23 9 (.slice (some ⟨g11, 0, none⟩) 32 32)).run Tryd.prog W = .ok (.string ⟨y.toArray⟩) W) (by kernel_rfl) ?_ (fun hHeld => ?_)
              · exact ⟨CX.out _ hk10.drew, CY.out _ hk11.drew⟩
              refine wpAnyH_take (i := 0) (v := ?_) rfl (by kernel_rfl) (by kernel_rfl) (by kernel_rfl) (fun _ _ _ h => h) (Or.inl ⟨by rfl, ?_⟩) (by assumption) ?_
              rotate_left 1
              · intro w hSw; (try dsimp only at hSw); simp only [List.getElem_toArray, List.getElem_cons_succ, List.getElem_cons_zero]; go_simp; try (with_reducible rfl)
              (try simp only [List.getElem_toArray, List.getElem_cons_succ, List.getElem_cons_zero, Act.put, List.setIfInBounds_toArray, List.set_cons_succ, List.set_cons_zero])
              refine wpAnyH_take (i := 1) (v := .slice (some ⟨g10, 0, none⟩) 32 32) rfl (by kernel_rfl) (by kernel_rfl) (by kernel_rfl) (fun _ _ _ h => h) (Or.inl ⟨by rfl, ?_⟩) (by assumption) ?_
              · intro w hSw; (try dsimp only at hSw); simp only [List.getElem_toArray, List.getElem_cons_succ, List.getElem_cons_zero]; first | (go_simp; done) | (simp [execOp, Act.eval, hsa]; done)
              (try simp only [List.getElem_toArray, List.getElem_cons_succ, List.getElem_cons_zero, Act.put, List.setIfInBounds_toArray, List.set_cons_succ, List.set_cons_zero])
              refine wpAnyH_take (i := 2) (v := .string ⟨x.toArray⟩) rfl (by kernel_rfl) (by kernel_rfl) (by kernel_rfl) (fun _ _ _ h => h) (Or.inl ⟨by rfl, ?_⟩) (by assumption) ?_
              · intro w hSw; (try dsimp only at hSw); simp only [List.getElem_toArray, List.getElem_cons_succ, List.getElem_cons_zero]; have hc := hSw.1; first | (simp [execOp, Act.eval, hc]; done) | (go_simp; done)
              (try simp only [List.getElem_toArray, List.getElem_cons_succ, List.getElem_cons_zero, Act.put, List.setIfInBounds_toArray, List.set_cons_succ, List.set_cons_zero])
              refine wpAnyH_take (i := 3) (v := .slice (some ⟨g11, 0, none⟩) 32 32) rfl (by kernel_rfl) (by kernel_rfl) (by kernel_rfl) (fun _ _ _ h => h) (Or.inl ⟨by rfl, ?_⟩) (by assumption) ?_
              · intro w hSw; (try dsimp only at hSw); simp only [List.getElem_toArray, List.getElem_cons_succ, List.getElem_cons_zero]; first | (go_simp; done) | (simp [execOp, Act.eval, hsa]; done)
              (try simp only [List.getElem_toArray, List.getElem_cons_succ, List.getElem_cons_zero, Act.put, List.setIfInBounds_toArray, List.set_cons_succ, List.set_cons_zero])
              refine wpAnyH_take (i := 4) (v := .string ⟨y.toArray⟩) rfl (by kernel_rfl) (by kernel_rfl) (by kernel_rfl) (fun _ _ _ h => h) (Or.inl ⟨by rfl, ?_⟩) (by assumption) ?_
              · intro w hSw; (try dsimp only at hSw); simp only [List.getElem_toArray, List.getElem_cons_succ, List.getElem_cons_zero]; have hc := hSw.2; first | (simp [execOp, Act.eval, hc]; done) | (go_simp; done)
              (try simp only [List.getElem_toArray, List.getElem_cons_succ, List.getElem_cons_zero, Act.put, List.setIfInBounds_toArray, List.set_cons_succ, List.set_cons_zero])
              refine wpAnyH_take (i := 5) (v := ?_) rfl (by kernel_rfl) (by kernel_rfl) (by kernel_rfl) (fun _ _ _ h => h) (Or.inl ⟨by rfl, ?_⟩) (by assumption) ?_
              rotate_left 1
              · intro w hSw; (try dsimp only at hSw); simp only [List.getElem_toArray, List.getElem_cons_succ, List.getElem_cons_zero]; go_simp; try (with_reducible rfl)
              (try simp only [List.getElem_toArray, List.getElem_cons_succ, List.getElem_cons_zero, Act.put, List.setIfInBounds_toArray, List.set_cons_succ, List.set_cons_zero])
              refine wpAnyH_ready (rs := [6]) (by kernel_rfl) (by simp) ?_
              refine AllReadyH.cons rfl (fun K hK => ?_) AllReadyH.nil
              (try simp only [List.getElem_toArray, List.getElem_cons_succ, List.getElem_cons_zero])
              refine Eq.mpr (if_pos (by first | rfl | simp [Region.wanted, yielded, Act.put])) ?_
              refine wp_bsS _ rfl (x ++ y) (by first | rfl | simp [Act.eval]) ?_
              intro g6 x6 hb6 hg6 hl6 hf6 hB6
              have sz6 : s12.heap.size ≤ x6.heap.size := hf6.size
              have hk10 := hk10.drew.stepF hf6
              have hk11 := hk11.drew.stepF hf6
              have ho := (ho.up (below_dr (Below.refl _ _))).frm hf6 (fun _ _ h => h)
              have hH := (hH.up (below_dr (Below.refl _ _))).frm hf6 (fun _ _ h => h)
              have hB := (below_dr hB).trans (hB6.mono (below_dr hB).size)
              refine hK.out _ _ ?_ (fun hHeld => ?_)
              · exact ⟨CX.out _ hk10, CY.out _ hk11⟩
              clear hK K
              (try simp only [Act.put, List.setIfInBounds_toArray, List.set_cons_succ, List.set_cons_zero])
              refine wpAnyH_ready (rs := [7]) (by kernel_rfl) (by simp) ?_
              refine AllReadyH.cons rfl (fun K hK => ?_) AllReadyH.nil
              (try simp only [List.getElem_toArray, List.getElem_cons_succ, List.getElem_cons_zero])
              refine Eq.mpr (if_pos (by first | rfl | simp [Region.wanted, yielded, Act.put])) ?_
              have n10 := ho.ne_blk hk10 (by decide)
              have n11 := ho.ne_blk hk11 (by decide)
              have nH := ho.ne_own hH (by decide)
              refine wp_appS (.tmp 67) (.tmp 73) rfl w.heap.size w hB (Nat.le_refl _) A3 m3 c3 J (by first | rfl | simp [Act.eval]) ho g6 (x ++ y) (by first | rfl | simp [Act.eval]) hb6 (by omega) ?_
              intro A7 c7 x7 ho7 hf7 hB
              have sz7 := hf7.size
              have hk10 := hf7.blk hk10 (fun h => n10 _ h rfl)
              have hk11 := hf7.blk hk11 (fun h => n11 _ h rfl)
              have hH := hH.frm hf7 (fun k hk e => nH k e hk)
              refine hK.out _ _ ?_ (fun hHeld => ?_)
              · exact ⟨CX.out _ hk10, CY.out _ hk11⟩
              clear hK K
              (try simp only [Act.put, List.setIfInBounds_toArray, List.set_cons_succ, List.set_cons_zero])
              refine wpAnyH_take (i := 8) (v := ?_) rfl (by kernel_rfl) (by kernel_rfl) (by kernel_rfl) (fun _ _ _ h => h) (Or.inl ⟨by rfl, ?_⟩) (by assumption) ?_
              rotate_left 1
              · intro w hSw; (try dsimp only at hSw); simp only [List.getElem_toArray, List.getElem_cons_succ, List.getElem_cons_zero]; go_simp; try (with_reducible rfl)
              (try simp only [List.getElem_toArray, List.getElem_cons_succ, List.getElem_cons_zero, Act.put, List.setIfInBounds_toArray, List.set_cons_succ, List.set_cons_zero])
              refine wpAnyH_done (by kernel_rfl) ?_ _
              clear hb6 hf6 hB6 hf7 hk10 hk11 ho
              go_wp2
              go_roundw
              case rel => exact ⟨j + 1, m3 + 1, A7, c7, by go_num, rfl, by omega, by rw [HNX.out]; exact ho7, hH, hB, by omega⟩
              case measure => simp [intOf]; omega
            · have e : y = x := by
                have e : beside (wide n k) j = 2 * j := by unfold beside; rw [if_neg hbs]
                rw [hy, hx, e]
              have HEY : Hid (Y = X) := Lib.hid (by rw [hY, hX, e])
              clear e
              have t1 : ¬ (b2 : Int) < (wk : Int) := by omega
              clear hx hy hX hY x32 y32 hJ hnx htn ha2 hb2 hbs hjw hwk u1 hown hbel3
              go_upto_region 17 with (first
                | (go_at_call 29; refine (CWl.out _).mono ?_; rintro e' y0 ⟨rfl, e0⟩; have ho := ho.up e0; have hH := hH.up e0; have hB := below_more hB e0; have sz0 := e0.size)
                | (go_at_call 30; refine (CNa.out _ hH.rd).mono ?_; rintro e' y1 ⟨rfl, e1⟩; have ho := ho.up e1; have hH := hH.up e1; have hB := below_more hB e1; have sz1 := e1.size; have szB := hB.size)
                | ((with_reducible refine at_alloc 46 ?_); refine wpList_allocT rfl 46 z32 (by kernel_rfl) rfl w.heap.size w hB (Nat.le_refl _) ?_; intro g10 z10 hk10 hgz10 hlz10 hfz10 hB; have ho := ho.frm hfz10 (fun _ _ h => h); have hH := hH.frm hfz10 (fun _ _ h => h))
                | ((with_reducible refine at_store 46 (.tmp 10) (.tmp 53) ?_); have nb := ho.ne_blk hk10 (by decide); have nh : ∀ q, blkOf A2 = some q → q ≠ g10 := fun q hq => (by have := hA2.out q hq; omega); refine wpList_store_blk rfl 46 (.tmp 10) (.tmp 53) rfl g10 z32 X 46 rfl rfl hk10 LX.out IX.out OX.out ?_; intro s10 hk10 hos10; have ho := ho.frm (Frm.only hos10 (S := fun i => i = g10) rfl) (fun q hq e => nb q hq e); have hH := hH.frm (Frm.only hos10 (S := fun i => i = g10) rfl) (fun q hq e => nh q hq e); have hB := hB.trans (hos10.below (by omega)); have szs10 := hos10.size))
              go_upto_region 18 with (first
                | ((with_reducible refine at_load 46 (.tmp 10) ?_); refine wpList_load_mid rfl 46 (.tmp 10) rfl (g10) 0 (by first | rfl | simp [Act.eval]) X _ (Blk.range hk10) Tryd.underlying46 rfl IX.out ?_)
                | ((with_reducible refine at_alloc 46 ?_); refine wpList_allocT rfl 46 z32 (by kernel_rfl) rfl w.heap.size w hB (Nat.le_refl _) ?_; intro g11 z11 hk11 hgz11 hlz11 hfz11 hB; have ho := ho.frm hfz11 (fun _ _ h => h); have hH := hH.frm hfz11 (fun _ _ h => h); have hk10 := hk10.stepF hfz11)
                | ((with_reducible refine at_store 46 (.tmp 11) (.tmp 54) ?_); have nb := ho.ne_blk hk11 (by decide); have nh : ∀ q, blkOf A2 = some q → q ≠ g11 := fun q hq => (by have := hA2.out q hq; omega); refine wpList_store_blk rfl 46 (.tmp 11) (.tmp 54) rfl g11 z32 X 46 rfl rfl hk11 LX.out IX.out OX.out ?_; intro s11 hk11 hos11; have ho := ho.frm (Frm.only hos11 (S := fun i => i = g11) rfl) (fun q hq e => nb q hq e); have hH := hH.frm (Frm.only hos11 (S := fun i => i = g11) rfl) (fun q hq e => nh q hq e); have hB := hB.trans (hos11.below (by omega)); have szs11 := hos11.size; have hk10 := hos11.blk hk10 (by omega)))
              go_upto_region 20 with fail
              rw [← HEY.out] at hk11
              have CX : Hid (∀ W : World, Blk W g10 X 46 → (convert 23 9 (.slice (some ⟨g10, 0, none⟩) 32 32)).run Tryd.prog W = .ok (STR x) W) := Lib.hid fun W h => conv8 W _ 32 32 x (hash_rd h HX.out HX32.out)
              have CY : Hid (∀ W : World, Blk W g11 Y 46 → (convert 23 9 (.slice (some ⟨g11, 0, none⟩) 32 32)).run Tryd.prog W = .ok (STR y) W) := Lib.hid fun W h => conv8 W _ 32 32 y (hash_rd h HY.out HY32.out)
              refine wp_region_held_drew (S := fun W => (convert 23 9 (.slice (some ⟨g10, 0, none⟩) 32 32)).run Tryd.prog W = .ok (.string ⟨x.toArray⟩) W ∧ (convert 23 9 (.slice (some ⟨g11, 0, none⟩) 32 32)).run Tryd.prog W = .ok (.string ⟨y.toArray⟩) W) (by kernel_rfl) ?_ (fun hHeld => ?_)
              · exact ⟨CX.out _ hk10.drew, CY.out _ hk11.drew⟩
              refine wpAnyH_take (i := 0) (v := ?_) rfl (by kernel_rfl) (by kernel_rfl) (by kernel_rfl) (fun _ _ _ h => h) (Or.inl ⟨by rfl, ?_⟩) (by assumption) ?_
              rotate_left 1
              · intro w hSw; (try dsimp only at hSw); simp only [List.getElem_toArray, List.getElem_cons_succ, List.getElem_cons_zero]; go_simp; try (with_reducible rfl)
              (try simp only [List.getElem_toArray, List.getElem_cons_succ, List.getElem_cons_zero, Act.put, List.setIfInBounds_toArray, List.set_cons_succ, List.set_cons_zero])
              refine wpAnyH_take (i := 1) (v := .slice (some ⟨g10, 0, none⟩) 32 32) rfl (by kernel_rfl) (by kernel_rfl) (by kernel_rfl) (fun _ _ _ h => h) (Or.inl ⟨by rfl, ?_⟩) (by assumption) ?_
              · intro w hSw; (try dsimp only at hSw); simp only [List.getElem_toArray, List.getElem_cons_succ, List.getElem_cons_zero]; first | (go_simp; done) | (simp [execOp, Act.eval, hsa]; done)
              (try simp only [List.getElem_toArray, List.getElem_cons_succ, List.getElem_cons_zero, Act.put, List.setIfInBounds_toArray, List.set_cons_succ, List.set_cons_zero])
              refine wpAnyH_take (i := 2) (v := .string ⟨x.toArray⟩) rfl (by kernel_rfl) (by kernel_rfl) (by kernel_rfl) (fun _ _ _ h => h) (Or.inl ⟨by rfl, ?_⟩) (by assumption) ?_
              · intro w hSw; (try dsimp only at hSw); simp only [List.getElem_toArray, List.getElem_cons_succ, List.getElem_cons_zero]; have hc := hSw.1; first | (simp [execOp, Act.eval, hc]; done) | (go_simp; done)
              (try simp only [List.getElem_toArray, List.getElem_cons_succ, List.getElem_cons_zero, Act.put, List.setIfInBounds_toArray, List.set_cons_succ, List.set_cons_zero])
              refine wpAnyH_take (i := 3) (v := .slice (some ⟨g11, 0, none⟩) 32 32) rfl (by kernel_rfl) (by kernel_rfl) (by kernel_rfl) (fun _ _ _ h => h) (Or.inl ⟨by rfl, ?_⟩) (by assumption) ?_
              · intro w hSw; (try dsimp only at hSw); simp only [List.getElem_toArray, List.getElem_cons_succ, List.getElem_cons_zero]; first | (go_simp; done) | (simp [execOp, Act.eval, hsa]; done)
              (try simp only [List.getElem_toArray, List.getElem_cons_succ, List.getElem_cons_zero, Act.put, List.setIfInBounds_toArray, List.set_cons_succ, List.set_cons_zero])
              refine wpAnyH_take (i := 4) (v := .string ⟨y.toArray⟩) rfl (by kernel_rfl) (by kernel_rfl) (by kernel_rfl) (fun _ _ _ h => h) (Or.inl ⟨by rfl, ?_⟩) (by assumption) ?_
              · intro w hSw; (try dsimp only at hSw); simp only [List.getElem_toArray, List.getElem_cons_succ, List.getElem_cons_zero]; have hc := hSw.2; first | (simp [execOp, Act.eval, hc]; done) | (go_simp; done)
              (try simp only [List.getElem_toArray, List.getElem_cons_succ, List.getElem_cons_zero, Act.put, List.setIfInBounds_toArray, List.set_cons_succ, List.set_cons_zero])
              refine wpAnyH_take (i := 5) (v := ?_) rfl (by kernel_rfl) (by kernel_rfl) (by kernel_rfl) (fun _ _ _ h => h) (Or.inl ⟨by rfl, ?_⟩) (by assumption) ?_
              rotate_left 1
              · intro w hSw; (try dsimp only at hSw); simp only [List.getElem_toArray, List.getElem_cons_succ, List.getElem_cons_zero]; go_simp; try (with_reducible rfl)
              (try simp only [List.getElem_toArray, List.getElem_cons_succ, List.getElem_cons_zero, Act.put, List.setIfInBounds_toArray, List.set_cons_succ, List.set_cons_zero])
              refine wpAnyH_ready (rs := [6]) (by kernel_rfl) (by simp) ?_
              refine AllReadyH.cons rfl (fun K hK => ?_) AllReadyH.nil
              (try simp only [List.getElem_toArray, List.getElem_cons_succ, List.getElem_cons_zero])
              refine Eq.mpr (if_pos (by first | rfl | simp [Region.wanted, yielded, Act.put])) ?_
              refine wp_bsS _ rfl (x ++ y) (by first | rfl | simp [Act.eval]) ?_
              intro g6 x6 hb6 hg6 hl6 hf6 hB6
              have sz6 : s11.heap.size ≤ x6.heap.size := hf6.size
              have hk10 := hk10.drew.stepF hf6
              have hk11 := hk11.drew.stepF hf6
              have ho := (ho.up (below_dr (Below.refl _ _))).frm hf6 (fun _ _ h => h)
              have hH := (hH.up (below_dr (Below.refl _ _))).frm hf6 (fun _ _ h => h)
              have hB := (below_dr hB).trans (hB6.mono (below_dr hB).size)
              refine hK.out _ _ ?_ (fun hHeld => ?_)
              · exact ⟨CX.out _ hk10, CY.out _ hk11⟩
              clear hK K
              (try simp only [Act.put, List.setIfInBounds_toArray, List.set_cons_succ, List.set_cons_zero])
              refine wpAnyH_ready (rs := [7]) (by kernel_rfl) (by simp) ?_
              refine AllReadyH.cons rfl (fun K hK => ?_) AllReadyH.nil
              (try simp only [List.getElem_toArray, List.getElem_cons_succ, List.getElem_cons_zero])
              refine Eq.mpr (if_pos (by first | rfl | simp [Region.wanted, yielded, Act.put])) ?_
              have n10 := ho.ne_blk hk10 (by decide)
              have n11 := ho.ne_blk hk11 (by decide)
              have nH := ho.ne_own hH (by decide)
              refine wp_appS (.tmp 67) (.tmp 73) rfl w.heap.size w hB (Nat.le_refl _) A3 m3 c3 J (by first | rfl | simp [Act.eval]) ho g6 (x ++ y) (by first | rfl | simp [Act.eval]) hb6 (by omega) ?_
              intro A7 c7 x7 ho7 hf7 hB
              have sz7 := hf7.size
              have hk10 := hf7.blk hk10 (fun h => n10 _ h rfl)
              have hk11 := hf7.blk hk11 (fun h => n11 _ h rfl)
              have hH := hH.frm hf7 (fun k hk e => nH k e hk)
              refine hK.out _ _ ?_ (fun hHeld => ?_)
              · exact ⟨CX.out _ hk10, CY.out _ hk11⟩
              clear hK K
              (try simp only [Act.put, List.setIfInBounds_toArray, List.set_cons_succ, List.set_cons_zero])
              refine wpAnyH_take (i := 8) (v := ?_) rfl (by kernel_rfl) (by kernel_rfl) (by kernel_rfl) (fun _ _ _ h => h) (Or.inl ⟨by rfl, ?_⟩) (by assumption) ?_
              rotate_left 1
              · intro w hSw; (try dsimp only at hSw); simp only [List.getElem_toArray, List.getElem_cons_succ, List.getElem_cons_zero]; go_simp; try (with_reducible rfl)
              (try simp only [List.getElem_toArray, List.getElem_cons_succ, List.getElem_cons_zero, Act.put, List.setIfInBounds_toArray, List.set_cons_succ, List.set_cons_zero])
              refine wpAnyH_done (by kernel_rfl) ?_ _
              clear hb6 hf6 hB6 hf7 hk10 hk11 ho
              go_wp2
              go_roundw
              case rel => exact ⟨j + 1, m3 + 1, A7, c7, by go_num, rfl, by omega, by rw [HNX.out]; exact ho7, hH, hB, by omega⟩
              case measure => simp [intOf]; omega
          · have hjl2 : ¬ (j : Int) < (wl : Int) := by omega
            have ej : j = wide n (k + 1) := by rw [← HWLE.out]; omega
            have hown4 : OwnS wq w.heap.size A3 m3 c3 (txsK T (k + 1)) := by rw [← txsJ_full, hln, ← ej]; exact hown
            clear hown
            go_wp2_with (go_at_call 29; refine (CWl.out _).mono ?_; rintro e' v3 ⟨rfl, d3⟩)
            go_roundw
            case rel => exact ⟨k + 1, m3, A3, c3, by rw [HLV.out]; go_num, rfl, by omega, hown4.up d3, hH.up d3, below_more hbel3 d3, Nat.le_trans hsz3 d3.size⟩
            case measure => simp [intOf]; omega
        · have hlt2 : ¬ (lv : Int) ≤ (D : Int) := by omega
          have ek : k = D := by omega
          have hown4 : OwnS wp w.heap.size A3 m c3 (txs T) := by rw [← HALL.out, ← ek]; exact hown
          clear hlv
          have em : m = (txs T).length := hown4.len.symm
          have HO := Lib.hid hown4
          have HM := Lib.hid em
          clear hown hown4 em
          go_wp2_with (go_at_call 28; refine (CD.out _).mono ?_; rintro e' v1 ⟨rfl, d1⟩)
          go_ret
          exact ⟨A3, c3, by (rw [← HM.out]; rfl), by (rw [← HM.out]; exact HO.out.up d1), below_more hbel2 d1⟩
end Go.Proofs.YtpoinhjkdgcnaaaDoor
