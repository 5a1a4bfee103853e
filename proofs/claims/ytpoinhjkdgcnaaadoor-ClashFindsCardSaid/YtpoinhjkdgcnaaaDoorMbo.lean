/- Merged texts: ClbC. -/
import Derived.Test.YtpoinhjkdgcnaaaDoorMbn
/- The contract of package clash's Texts. -/
namespace Go.Proofs.YtpoinhjkdgcnaaaDoor
open Go.RowKit
set_option linter.unusedVariables false
set_option linter.unusedSimpArgs false

set_option maxRecDepth 100000 in
set_option maxHeartbeats 4000000 in
theorem gtexts_calls (A : Option Addr) (n c : Nat) (T : List (List UInt8)) (w : World) (hr : RdM w A n T) (hT : Tab w) (hn : n ≤ 64) (hT2 : ∀ t ∈ T, t.length ≤ 100000) :
    Calls Tryd.prog 11 #[.slice A n c] w fun e w' => ∃ A' c', e = .returned (.slice A' (txs T).length c') ∧ OwnT w' w.heap.size A' (txs T).length c' (txs T) ∧ Below w.heap.size w w' := by
  have hln := hr.len
  have HR := Lib.hid hr
  have HT := Lib.hid hT
  have HT2 := Lib.hid hT2
  clear hr hT hT2
  go_enter Tryd.func11, Tryd.ntmps11
  go_wp2
  go_loopw [9, 3, 4] (fun kv ov sv wr => ∃ (t : Nat) (A1 : Option Addr) (c1 : Nat) (A3 : Option Addr) (c3 : Nat), kv = .int .i64 (t : Int) ∧ ov = .slice A1 t c1 ∧ sv = .slice A3 t c3 ∧ t ≤ n ∧ OwnT wr w.heap.size A1 t c1 (T.take t) ∧ OwnH wr w.heap.size 47 A3 t c3 ((sums T).take t) ∧ Below w.heap.size w wr) (fun kv _ _ _ => n - (intOf kv).toNat)
  case atStart => exact ⟨0, none, 0, none, 0, by first | rfl | go_num, rfl, rfl, by omega, by rw [List.take_zero]; exact OwnT.nil _ _, by rw [List.take_zero]; exact OwnH.nil _ _ _, Below.refl _ _⟩
  case round =>
    obtain ⟨t, A1, c1, A3, c3, rfl, rfl, rfl, htn, hownT, hownH, hbel⟩ := hrel
    obtain ⟨wo, hwo⟩ : ∃ x, x = wr := ⟨_, rfl⟩
    rw [← hwo] at hownT hownH hbel ⊢
    clear hwo
    by_cases hlt : t < n
    · have hlt' : (t : Int) < (n : Int) := by omega
      obtain ⟨b, off, A2, m, c2, hl, rfl, sc0, h1, h2, hrd⟩ := (HR.out).at_ hlt
      have sc := (hbel.cell (p := ⟨b, off + t, none⟩) (World.block_lt_of_cell? w ⟨b, off + t, none⟩ sc0)).trans sc0
      have hnx := take_hat T t (by omega)
      have hnxS := take_hat (sums T) t (by rw [sums_len]; omega)
      have hle : (T[t]).length ≤ 100000 := HT2.out _ (List.getElem_mem hl)
      obtain ⟨x, hx⟩ : ∃ x, x = T[t] := ⟨_, rfl⟩
      obtain ⟨y, hy⟩ : ∃ y, y = ds x := ⟨_, rfl⟩
      have hxx : hat T t = x := by rw [hx]; unfold hat; rw [List.getD_eq_getElem?_getD, List.getElem?_eq_getElem hl]; rfl
      have hTx : hat (sums T) t = y := by rw [sums_at T t (by omega), hy, hxx]
      rw [← hx] at hrd hle
      rw [hTx] at hnxS
      rw [hxx] at hnx
      have HNX := Lib.hid hnx
      have HNS := Lib.hid hnxS
      obtain ⟨Y, hY⟩ : ∃ V, V = y.map B8 := ⟨_, rfl⟩
      have y32 : y.length = 32 := by rw [hy]; exact ds_len _
      have HY := Lib.hid hY
      have HY32 := Lib.hid y32
      have LY : Hid (Y.length = 32) := Lib.hid (by rw [hY, List.length_map, y32])
      have CT : Hid (∀ (W : World) (g : Nat), Blk W g [.slice A2 m c2] 23 → Below w.heap.size w W → Calls Tryd.prog 19 #[.slice (some ⟨g, 0, none⟩) 1 1] W (Ret W (.agg Y.toArray))) := Lib.hid fun W g k1 k2 => by
        rw [hY, hy]
        exact twice_blk W g A2 m c2 x k1 (hrd.below k2) h1 h2 hle (HT.out.all k2)
      have CJ : Hid (∀ (W : World) (g : Nat), Blk W g [.slice A2 m c2] 23 → Below w.heap.size w W → Calls Tryd.prog 25 #[.slice (some ⟨g, 0, none⟩) 1 1] W (Mk W x)) := Lib.hid fun W g k1 k2 => join_one W g A2 m c2 x k1 (hrd.below k2) h1 h2 hle
      obtain ⟨T1, hT1⟩ : ∃ T', T' = T.take t := ⟨_, rfl⟩
      obtain ⟨S1, hS1⟩ : ∃ T', T' = (sums T).take t := ⟨_, rfl⟩
      rw [← hT1] at hownT
      rw [← hS1] at hownH
      have HT1 := Lib.hid hT1
      have HS1 := Lib.hid hS1
      have ho := hownT
      have hH := hownH
      have hB := hbel
      clear hnx hnxS hTx hT1 hS1 hx hxx hy hY y32 hownT hownH hbel hrd hle sc0
      go_wp2_with (first
        | ((with_reducible refine at_bsP 22 1 #[(0, .tmp 14)] ?_); refine wpList_bsV rfl (.tmp 14) rfl A2 m c2 (by first | rfl | (simp [Act.eval]; done)) ?_; intro g1 w1 hb1 hg1 hl1 hB1; have ho := ho.up hB1; have hH := hH.up hB1; have hB := below_more hB hB1)
        | (go_at_call 25; refine (CJ.out _ g1 hb1 hB).mono ?_; rintro e' w2 ⟨A4, n4, c4, rfl, ho4, hB2⟩; have ho := ho.up hB2; have hH := hH.up hB2; have hB := below_more hB hB2)
        | ((with_reducible refine at_bsP 22 1 #[(0, .tmp 16)] ?_); refine wpList_bsV rfl (.tmp 16) rfl A4 n4 c4 (by first | rfl | (simp [Act.eval]; done)) ?_; intro g3 w3 hb3 hg3 hl3 hB3; have ho := ho.up hB3; have hH := hH.up hB3; have ho4 := ho4.up hB3; have hB := below_more hB hB3)
        | ((with_reducible refine at_app 22 (.tmp 13) (.tmp 17) ?_); refine wpList_appT rfl (.tmp 13) (.tmp 17) rfl w.heap.size w hB (Nat.le_refl _) A1 t c1 T1 (by first | rfl | (simp [Act.eval]; done)) ho (some ⟨g3, 0, none⟩) 1 1 [x] (by first | rfl | (simp [Act.eval]; done)) (srcT_one hb3 ho4) (by omega) ?_; intro A5 c5 w4 ho5 hf5 hB; have hH := hH.appT ho (by decide) hf5)
        | ((with_reducible refine at_bsP 22 1 #[(0, .tmp 20)] ?_); refine wpList_bsV rfl (.tmp 20) rfl A2 m c2 (by first | rfl | (simp [Act.eval]; done)) ?_; intro g6 w6 hb6 hg6 hl6 hB6; have ho5 := ho5.up hB6; have hH := hH.up hB6; have hB := below_more hB hB6)
        | (go_at_call 19; refine (CT.out _ g6 hb6 hB).mono ?_; rintro e' w7 ⟨rfl, hB7⟩; have ho5 := ho5.up hB7; have hH := hH.up hB7; have hB := below_more hB hB7)
        | ((with_reducible refine at_bsP 24 1 #[(0, .tmp 22)] ?_); refine wpList_bsE rfl 24 47 Tryd.underlying24 infoG (.tmp 22) rfl Y (by first | rfl | (simp [Act.eval]; done)) LY.out ?_; intro g8 w8 hb8 hg8 hl8 hf8 hB8; have ho5 := ho5.up hB8; have hH := hH.up hB8; have hB := below_more hB hB8)
        | ((with_reducible refine at_app 24 (.tmp 19) (.tmp 23) ?_); refine wpList_appE rfl 24 47 Tryd.underlying24 infoG (.tmp 19) (.tmp 23) rfl w.heap.size w hB (Nat.le_refl _) A3 t c3 S1 (by first | rfl | (simp [Act.eval]; done)) hH g8 y Y HY.out HY32.out (by first | rfl | (simp [Act.eval]; done)) hb8 (by omega) ?_; intro A9 c9 w9 hH9 hf9 hB9; have ho5 := ho5.appH hH (by decide) (by decide) hf9))
      go_roundw
      case rel => exact ⟨t + 1, A5, c5, A9, c9, by go_num, rfl, rfl, by omega, by rw [HNX.out, ← HT1.out]; exact ho5, by rw [HNS.out, ← HS1.out]; exact hH9, hB9⟩
      case measure => simp [intOf]; omega
    · have hlt' : ¬ (t : Int) < (n : Int) := by omega
      have e : t = n := by omega
      subst e
      rw [List.take_of_length_le (by omega)] at hownT
      rw [List.take_of_length_le (by rw [sums_len]; omega)] at hownH
      have HO := Lib.hid hownT
      have HH := Lib.hid hownH
      have hcap := hownH.cap
      have hwl := fun k => wide_64 t hn k
      have HWL := Lib.hid hwl
      have hD6 : depth t ≤ 6 := depth_le6 t hn
      clear hownT hownH hwl
      go_wp2
      go_loopw [3, 4] (fun ov sv wr => ∃ (k q m : Nat) (A1 : Option Addr) (c1 : Nat) (A3 : Option Addr) (c3 bs : Nat), ov = .slice A1 q c1 ∧ sv = .slice A3 m c3 ∧ m = wide t k ∧ q = (txsK T k).length ∧ k ≤ depth t ∧ OwnT wr w.heap.size A1 q c1 (txsK T k) ∧ OwnH wr bs 47 A3 m c3 (lev k (sums T)) ∧ m ≤ c3 ∧ c3 ≤ maxLen ∧ Below w.heap.size w wr) (fun _ sv _ => lenOf sv)
      case atStart => exact ⟨0, t, t, A1, c1, A3, c3, _, rfl, rfl, rfl, by rw [txsK_zero, hln], Nat.zero_le _, by rw [txsK_zero]; exact HO.out, HH.out, hcap.1, hcap.2, hbel⟩
      case round =>
        obtain ⟨k, q, m, A5, c5, A7, c7, bs, rfl, rfl, hm, hq, hkd, hoT, hoH, hmc, hcm, hbel2⟩ := hrel
        obtain ⟨wx, hwx⟩ : ∃ x, x = wr := ⟨_, rfl⟩
        rw [← hwx] at hoT hoH hbel2 ⊢
        clear hwx
        have hm64 : m ≤ 64 := by rw [hm]; exact HWL.out k
        by_cases hlt2 : 1 < m
        · have hlt3 : (1 : Int) < (m : Int) := by omega
          have hk1 : k < depth t := wide_less t k (by rw [← hm]; exact hlt2)
          have hq6 : q ≤ 1000 := by have := txsK_len T (by omega) k; omega
          obtain ⟨m2, hm2⟩ : ∃ z, z = (m + 1) / 2 := ⟨_, rfl⟩
          obtain ⟨LV, hLV⟩ : ∃ z, z = lev k (sums T) := ⟨_, rfl⟩
          obtain ⟨TK, hTK⟩ : ∃ z, z = txsK T k := ⟨_, rfl⟩
          have HN : Hid (txsK T (k + 1) = TK ++ pl LV) := Lib.hid (by
            rw [hTK, hLV, ← tlev_pl]
            unfold txsK
            rw [List.range_succ, List.map_append, List.flatten_append, List.append_assoc]
            simp)
          have HV : Hid (lev (k + 1) (sums T) = abv LV) := Lib.hid (by rw [hLV]; rfl)
          have HM : Hid (m2 = wide t (k + 1)) := Lib.hid (by rw [hm2, hm]; rfl)
          have HQ : Hid (q = TK.length) := Lib.hid (by rw [hTK]; exact hq)
          have HP : Hid ((pl LV).length = m2) := Lib.hid (by rw [pl_len, show LV.length = m from by rw [hLV]; exact hoH.1, hm2])
          rw [← hLV] at hoH
          rw [← hTK] at hoT
          have CP : Hid (∀ W, RdH W A7 m LV → Calls Tryd.prog 26 #[.slice A7 m c7] W fun e w' => ∃ A' c', e = .returned (.slice A' m2 c') ∧ OwnT w' W.heap.size A' m2 c' (pl LV) ∧ Below W.heap.size W w') := Lib.hid fun W h => by rw [hm2]; exact gpairs_calls A7 m c7 LV W h hm64
          have CB : Hid (∀ W, RdH W A7 m LV → Below w.heap.size w W → Calls Tryd.prog 24 #[.slice A7 m c7] W fun e w' => ∃ A' c', e = .returned (.slice A' m2 c') ∧ OwnH w' W.heap.size 47 A' m2 c' (abv LV) ∧ Below W.heap.size W w') := Lib.hid fun W h h2 => by rw [hm2]; exact gaboveO_calls A7 m c7 LV W h (HT.out.all h2) hm64 hmc hcm
          have ho := hoT
          have hH := hoH
          have hB := hbel2
          have hm2l : m2 < m := by omega
          have hm264 : m2 ≤ 64 := by omega
          clear hLV hTK hm2 hm hq hoT hoH hbel2
          go_wp2_with (first
            | (go_at_call 26; refine (CP.out _ hH.rd).mono ?_; rintro e' w1 ⟨A1', c1', rfl, ho1, hB1⟩; have ho := ho.up hB1; have hH := hH.up hB1; have hB := below_more hB hB1)
            | ((with_reducible refine at_app 22 (.tmp 31) (.tmp 33) ?_); refine wpList_appT rfl (.tmp 31) (.tmp 33) rfl w.heap.size w hB (Nat.le_refl _) A5 q c5 TK (by first | rfl | (simp [Act.eval]; done)) ho A1' m2 c1' (pl LV) (by first | rfl | (simp [Act.eval]; done)) ho1.src (by omega) ?_; intro A8 c8 w2 ho8 hf8 hB; have hH := hH.appT ho (by decide) hf8)
            | (go_at_call 24; refine (CB.out _ hH.rd hB).mono ?_; rintro e' w3 ⟨A9, c9, rfl, hH9, hB9⟩; have ho8 := ho8.up hB9; have hB := below_more hB hB9))
          go_roundw
          case rel => exact ⟨k + 1, q + m2, m2, A8, c8, A9, c9, _, rfl, rfl, HM.out, by rw [HN.out, List.length_append, ← HQ.out, HP.out], hk1, by rw [HN.out]; exact ho8, by rw [HV.out]; exact hH9, hH9.cap.1, hH9.cap.2, hB⟩
          case measure => simp [lenOf]; omega
        · have hlt3 : ¬ (1 : Int) < (m : Int) := by omega
          have e : k = depth t := by
            rcases Nat.lt_or_ge k (depth t) with h | h
            · have := wide_more t k h; omega
            · omega
          have e2 : txsK T k = txs T := by rw [e]; show txsK T (depth t) = _; rw [← hln]; rfl
          have HO2 : Hid (OwnT wx w.heap.size A5 q c5 (txs T)) := Lib.hid (by rw [← e2]; exact hoT)
          have HQ2 : Hid (q = (txs T).length) := Lib.hid (by rw [← e2]; exact hq)
          clear hoT hoH e2 e hm hq
          go_wp2
          go_ret
          exact ⟨A5, c5, by rw [← HQ2.out]; rfl, by rw [← HQ2.out]; exact HO2.out, hbel2⟩
end Go.Proofs.YtpoinhjkdgcnaaaDoor
