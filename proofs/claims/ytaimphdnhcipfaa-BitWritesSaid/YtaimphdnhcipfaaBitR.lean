/- The walk of BitReads, over what package bit is to answer. -/
import Derived.Test.YtaimphdnhcipfaaBitW
namespace Go.Proofs.Ytaimphdnhcipfaa
open Go.RowKit
set_option linter.unusedVariables false
set_option linter.unusedSimpArgs false

set_option maxRecDepth 100000 in
set_option maxHeartbeats 2000000 in
theorem bitReads_walk {BW : World → Nat → (Nat → Prop) → List Bool → Prop} {BR : World → Nat → Nat → (Nat → Prop) → List Bool → Prop} (K : BitOk BW BR) (A : Option Addr) (n c : Nat) (b : List UInt8) (A1 : Option Addr) (m k : Nat) (P : List Op3) (w : World) (w0 : Rd w A n b ∧ n ≤ c ∧ c ≤ maxLen) (w1 : RdP w A1 m P ∧ m ≤ k ∧ k ≤ maxLen) (hbig : n ≤ 140737488355328) : Calls Try.prog 4 #[.slice A n c, .slice A1 m k] w (Ret w (.bool true)) := by
  obtain ⟨hb, hnc, hcm⟩ := w0
  obtain ⟨hP, hmk, hkm⟩ := w1
  have hbl := hb.len
  have CO : Hid (∀ W, Below w.heap.size w W → Calls Try.prog 17 #[.slice A n c] W fun e w' => ∃ p S, e = .returned (.pointer (some ⟨p, 0, none⟩)) ∧ BR w' w.heap.size p S (unp b) ∧ Below W.heap.size W w' ∧ ∀ i, S i → W.heap.size ≤ i) := Lib.hid fun W h => K.of_ W A n c b w.heap.size (RdF.old hb h (fun _ h => h)) hnc hcm hbig h.size
  unfold maxLen at hkm hcm
  have HP := Lib.hid hP
  have HK := Lib.hid K
  have CA : Hid (∀ W, Calls Try.prog 16 #[] W (Ret W (.bool true))) := Lib.hid fun W => awake11_calls K W
  obtain ⟨s0, hs0⟩ : ∃ z, z = tx (unp b) := ⟨_, rfl⟩
  have CAL : Hid (n ≤ 60 → ∀ W, Below w.heap.size w W → Calls Try.prog 18 #[.slice A n c] W (Ret W (.string s0))) := Lib.hid fun h60 W h => by rw [hs0]; exact zall_calls A n c b W (hb.below h) (by omega)
  have HS0 := Lib.hid hs0
  have HUL : Hid ((unp b).length = 8 * n) := Lib.hid (by rw [unp_len, hbl])
  clear hP K hb hs0 hbl
  go_enter Try.func4, Try.ntmps4
  go_upto_region 4 with (first
    | (go_at_call 17; refine (CO.out _ (Below.refl _ _)).mono ?_; rintro e' w1 ⟨p, S0, rfl, hR0, hB0, hS0⟩))
  by_cases h60 : 60 < n
  · have h61 : (60 : Int) < (n : Int) := by omega
    go_wp2_with (first
      | (go_at_call 16; refine (CA.out _).mono ?_; rintro e' y9 ⟨rfl, hB9⟩))
    go_ret
    exact ⟨rfl, below_more hB0 hB9⟩
  have h61 : ¬ (60 : Int) < (n : Int) := by omega
  go_upto_region 7 with (first
    | (go_at_call 18; refine (CAL.out (by omega) _ hB0).mono ?_; rintro e' w2 ⟨rfl, hB2⟩; have hR0 := HK.out.rfrm hR0 (X := fun _ => False) (Frm.of_below hB2) (fun _ h => h.elim); have hB0 := below_more hB0 hB2))
  go_wp2
  go_loopw [6, 32] (fun sv kv wr => ∃ (t : Nat) (s : ByteArray) (S : Nat → Prop) (l : List Bool), kv = .int .i64 (t : Int) ∧ sv = .string s ∧ t ≤ m ∧ t ≤ 30 ∧ s = tx l ∧ l.length ≤ 480 ∧ BR wr w.heap.size p S l ∧ (∀ i, S i → w.heap.size ≤ i) ∧ Below w.heap.size w wr) (fun _ kv _ => m - (intOf kv).toNat)
  case atStart => exact ⟨0, _, S0, _, by first | rfl | go_num, rfl, by omega, by omega, HS0.out, by rw [HUL.out]; omega, hR0, hS0, hB0⟩
  case round =>
    obtain ⟨t, s, S, l, rfl, rfl, htm, ht30, hs, hll, hR, hSn, hBr⟩ := hrel
    obtain ⟨wo, hwo⟩ : ∃ x, x = wr := ⟨_, rfl⟩
    rw [← hwo] at hR hBr ⊢
    clear hwo hR0 hB0 hS0
    have HS := Lib.hid hs
    clear hs
    have hB := hBr
    by_cases hlt : t < m
    · have hlt' : (t : Int) < (m : Int) := by omega
      obtain ⟨bb, off, hl, rfl, hrg, hok⟩ := HP.out.at_ hB hlt
      obtain ⟨o, ho⟩ : ∃ z, z = P[t] := ⟨_, rfl⟩
      rw [← ho] at hrg hok
      clear ho
      obtain ⟨X, hX⟩ : ∃ z, z = o.cells := ⟨_, rfl⟩
      have IX : Hid ((Try.prog.info? 27).map (·.size) = some X.length) := Lib.hid (by rw [hX]; exact op3_size o)
      have LX : Hid (zerosP.length = X.length) := Lib.hid (by rw [hX]; rfl)
      have OX : Hid (∀ v ∈ X, v.oneCell' = true) := Lib.hid (by rw [hX]; exact op3_one o)
      rw [← hX] at hrg
      have HRG := Lib.hid hrg
      have n1 := hok.n1
      have m0 := hok.m0
      have m1 := hok.m1
      have HX := Lib.hid hX
      have hSL := HK.out.rlt hR
      have szB := hB.size
      clear hrg hX hok hBr
      go_upto_region 10 with (first
        | ((with_reducible refine at_load 27 (.tmp 35) ?_); refine wpList_load_mid rfl 27 (.tmp 35) rfl bb (off + t * 3) (by first | rfl | (simp [Act.eval]; done)) X _ HRG.out Try.underlying27 rfl IX.out ?_)
        | ((with_reducible refine at_alloc 27 ?_); refine wpList_allocT rfl 27 zerosP (by kernel_rfl) rfl w.heap.size w hB (Nat.le_refl _) ?_; intro g6 z6 hb6 hg6 hl6 hf6 hB; have hng : ¬ S g6 := fun h => (by have := hSL g6 h; omega); have hR := HK.out.rfrm hR hf6 (fun _ h => h.elim))
        | ((with_reducible refine at_store 27 (.tmp 8) (.tmp 36) ?_); refine wpList_store_blk rfl 27 (.tmp 8) (.tmp 36) rfl g6 zerosP X 27 rfl rfl hb6 LX.out IX.out OX.out ?_; intro s6 hk6 ho6; have hB := hB.trans (ho6.below (by omega)); have hR := HK.out.rfrm hR (Frm.only ho6 (S := fun i => i = g6) rfl) (fun i hi => ⟨fun h => hng (hi ▸ h), (by omega)⟩)))
      obtain ⟨oo, on, om⟩ := o
      have hk7 : Blk s6 g6 [.bool oo, .int .u64 (on : Int), .int .i64 om] 27 := by have := hk6; rw [HX.out] at this; exact this
      clear HX hk6 hb6 ho6 hf6
      have hk6 := hk7
      have d0 : _ = some (Value.bool oo) := hk6.cell 0
      have d1 : _ = some (Value.int .u64 (on : Int)) := hk6.cell 1
      have d2 : _ = some (Value.int .i64 om) := hk6.cell 2
      replace n1 : on < 18446744073709551616 := n1
      replace m0 : -9223372036854775808 ≤ om := m0
      replace m1 : om ≤ 9223372036854775807 := m1
      clear hk7
      by_cases h29 : 29 < t
      · have hd29 : (29 : Int) < (t : Int) := by omega
        clear hk6 d0 d1 d2 hR
        go_wp2_with (first
          | (go_at_call 16; refine (CA.out _).mono ?_; rintro e' y9 ⟨rfl, hB9⟩))
        go_ret
        exact ⟨rfl, below_more hB hB9⟩
      · have hd29 : ¬ (29 : Int) < (t : Int) := by omega
        cases oo
        · obtain ⟨wd, hwd⟩ : ∃ z, z = hld om 64 := ⟨_, rfl⟩
          have hwd64 : wd ≤ 64 := by rw [hwd]; exact hld_le _ _
          obtain ⟨l2, hl2⟩ : ∃ z, z = btL l wd := ⟨_, rfl⟩
          have hl2l : l2.length ≤ l.length := by rw [hl2]; exact btL_len _ _
          obtain ⟨s2, hs2⟩ : ∃ z, z = tx l2 := ⟨_, rfl⟩
          obtain ⟨N2, hN2⟩ : ∃ z, z = l2.length := ⟨_, rfl⟩
          obtain ⟨z2, hz2⟩ : ∃ z, z = num l2 := ⟨_, rfl⟩
          have hsz2 : s2.size = N2 := by rw [hs2, tx_size, hN2]
          have HS2 := Lib.hid hs2
          have HCL : Hid ((¬ N2 < 8 → cln l2 = false) ∧ (N2 < 8 → z2 = 0 → cln l2 = true) ∧ (¬ z2 = 0 → cln l2 = false)) := Lib.hid (by
            rw [hN2, hz2]
            unfold cln
            exact ⟨fun h => by rw [decide_eq_false h]; rfl, fun h h' => by rw [decide_eq_true h, decide_eq_true h']; rfl, fun h => by rw [decide_eq_false h, Bool.and_false]⟩)
          have CNU : Hid (N2 ≤ 64 → ∀ W, Calls Try.prog 23 #[.string s2] W (Ret W (.int .u64 (z2 : Int)))) := Lib.hid fun h W => by rw [hs2, hz2]; exact znum_calls l2 (by omega) W
          have CLF : Hid (∀ (W : World) S', BR W w.heap.size p S' l2 → Calls Try.prog 24 #[.pointer (some ⟨p, 0, none⟩)] W (Ret W (.int .i64 (N2 : Int)))) := Lib.hid fun W S' h => by rw [hN2]; exact HK.out.left W w.heap.size p S' l2 h (by omega)
          obtain ⟨v2, hv2⟩ : ∃ z, z = btV l wd := ⟨_, rfl⟩
          obtain ⟨e2, he2⟩ : ∃ z, z = btE l wd := ⟨_, rfl⟩
          have CT : Hid (∀ (W : World), BR W w.heap.size p S l → Calls Try.prog 21 #[.pointer (some ⟨p, 0, none⟩), .int .i64 om] W fun e w' => ∃ S', e = .returned (.tuple #[.int .u64 (v2 : Int), .int .i64 (e2 : Int)]) ∧ BR w' w.heap.size p S' l2 ∧ Frm S W w' ∧ ∀ i, S' i → S i ∨ W.heap.size ≤ i) := Lib.hid fun W h => by
            have := HK.out.take W w.heap.size p S l om h (by omega) m0 m1
            rw [← hwd, ← hl2, ← hv2, ← he2] at this
            exact this
          have CH : Hid (∀ W, Calls Try.prog 12 #[.int .i64 om, .int .i64 0, .int .i64 64] W (Ret W (.int .i64 (wd : Int)))) := Lib.hid fun W => by rw [hwd]; exact bheld_calls om 64 (by omega) W
          have CD : Hid (∀ W, Calls Try.prog 22 #[.string s, .int .i64 (wd : Int)] W (Ret W (.tuple #[.string s2, .int .u64 (v2 : Int), .int .i64 (e2 : Int)]))) := Lib.hid fun W => by rw [HS.out, hs2, hl2, hv2, he2]; exact ztake_calls l wd hwd64 W
          clear hl2 hs2 hz2 hv2 he2 hwd
          go_upto_region 20 with (first
            | (go_at_call 21; refine (CT.out _ hR).mono ?_; rintro e' x5 ⟨S2, rfl, hR, hF5, hS5⟩; have hS2 : ∀ i, S2 i → w.heap.size ≤ i := fun i hi => (hS5 i hi).elim (hSn i) (fun h => Nat.le_trans hB.size h); have hB := below_frmB hB hF5 hB.size hSn; have hk6 := hF5.blk hk6 hng; have d2 : _ = some (Value.int .i64 om) := hk6.cell 2)
            | (go_at_call 12; refine (CH.out _).mono ?_; rintro e' x4 ⟨rfl, hB4⟩; have hB := below_more hB hB4; have hR := HK.out.rfrm hR (X := fun _ => False) (Frm.of_below hB4) (fun _ h => h.elim))
            | (go_at_call 22; refine (CD.out _).mono ?_; rintro e' x6 ⟨rfl, hB6⟩; have hB := below_more hB hB6; have hR := HK.out.rfrm hR (X := fun _ => False) (Frm.of_below hB6) (fun _ h => h.elim)))
          clear hk6 d0 d1 d2 CT CH CD
          by_cases h8 : N2 < 8
          · by_cases hz : z2 = 0
            · have h80 : (N2 : Int) < 8 := by omega
              have hz0 : (z2 : Int) = 0 := by omega
              have CC : Hid (∀ (W : World) S', BR W w.heap.size p S' l2 → Calls Try.prog 25 #[.pointer (some ⟨p, 0, none⟩)] W (Ret W (.bool true))) := Lib.hid fun W S' h => by
                have := HK.out.clean W w.heap.size p S' l2 h (by omega)
                rw [HCL.out.2.1 h8 hz] at this
                exact this
              go_wp2_with (first
                | (go_at_call 23; refine (CNU.out (by omega) _).mono ?_; rintro e' x6 ⟨rfl, hB6⟩; have hB := below_more hB hB6; have hR := HK.out.rfrm hR (X := fun _ => False) (Frm.of_below hB6) (fun _ h => h.elim))
                | (go_at_call 24; refine (CLF.out _ _ hR).mono ?_; rintro e' x7 ⟨rfl, hB7⟩; have hB := below_more hB hB7; have hR := HK.out.rfrm hR (X := fun _ => False) (Frm.of_below hB7) (fun _ h => h.elim))
                | (go_at_call 25; refine (CC.out _ _ hR).mono ?_; rintro e' x8 ⟨rfl, hB8⟩; have hB := below_more hB hB8; have hR := HK.out.rfrm hR (X := fun _ => False) (Frm.of_below hB8) (fun _ h => h.elim)))
              go_roundw
              case rel => exact ⟨t + 1, s2, S2, l2, by go_num, rfl, by omega, by omega, HS2.out, by omega, hR, hS2, hB⟩
              case measure => simp [intOf]; omega
            · have h80 : (N2 : Int) < 8 := by omega
              have hz0 : ¬ (z2 : Int) = 0 := by omega
              have CC : Hid (∀ (W : World) S', BR W w.heap.size p S' l2 → Calls Try.prog 25 #[.pointer (some ⟨p, 0, none⟩)] W (Ret W (.bool false))) := Lib.hid fun W S' h => by
                have := HK.out.clean W w.heap.size p S' l2 h (by omega)
                rw [HCL.out.2.2 hz] at this
                exact this
              go_wp2_with (first
                | (go_at_call 23; refine (CNU.out (by omega) _).mono ?_; rintro e' x6 ⟨rfl, hB6⟩; have hB := below_more hB hB6; have hR := HK.out.rfrm hR (X := fun _ => False) (Frm.of_below hB6) (fun _ h => h.elim))
                | (go_at_call 24; refine (CLF.out _ _ hR).mono ?_; rintro e' x7 ⟨rfl, hB7⟩; have hB := below_more hB hB7; have hR := HK.out.rfrm hR (X := fun _ => False) (Frm.of_below hB7) (fun _ h => h.elim))
                | (go_at_call 25; refine (CC.out _ _ hR).mono ?_; rintro e' x8 ⟨rfl, hB8⟩; have hB := below_more hB hB8; have hR := HK.out.rfrm hR (X := fun _ => False) (Frm.of_below hB8) (fun _ h => h.elim)))
              go_roundw
              case rel => exact ⟨t + 1, s2, S2, l2, by go_num, rfl, by omega, by omega, HS2.out, by omega, hR, hS2, hB⟩
              case measure => simp [intOf]; omega
          · have h80 : ¬ (N2 : Int) < 8 := by omega
            have CC : Hid (∀ (W : World) S', BR W w.heap.size p S' l2 → Calls Try.prog 25 #[.pointer (some ⟨p, 0, none⟩)] W (Ret W (.bool false))) := Lib.hid fun W S' h => by
              have := HK.out.clean W w.heap.size p S' l2 h (by omega)
              rw [HCL.out.1 h8] at this
              exact this
            go_wp2_with (first
              | (go_at_call 23; refine (CNU.out (by omega) _).mono ?_; rintro e' x6 ⟨rfl, hB6⟩; have hB := below_more hB hB6; have hR := HK.out.rfrm hR (X := fun _ => False) (Frm.of_below hB6) (fun _ h => h.elim))
              | (go_at_call 24; refine (CLF.out _ _ hR).mono ?_; rintro e' x7 ⟨rfl, hB7⟩; have hB := below_more hB hB7; have hR := HK.out.rfrm hR (X := fun _ => False) (Frm.of_below hB7) (fun _ h => h.elim))
              | (go_at_call 25; refine (CC.out _ _ hR).mono ?_; rintro e' x8 ⟨rfl, hB8⟩; have hB := below_more hB hB8; have hR := HK.out.rfrm hR (X := fun _ => False) (Frm.of_below hB8) (fun _ h => h.elim)))
            go_roundw
            case rel => exact ⟨t + 1, s2, S2, l2, by go_num, rfl, by omega, by omega, HS2.out, by omega, hR, hS2, hB⟩
            case measure => simp [intOf]; omega
        · by_cases hneg : om < 0
          · have h5 : ¬ 0 < om := by omega
            have h6 : om ≤ 0 := by omega
            have h7 : ¬ 0 ≤ om := by omega
            have hto : om.toNat = 0 := by omega
            obtain ⟨l2, hl2⟩ : ∃ z, z = rnL l 0 := ⟨_, rfl⟩
            have hl2l : l2.length ≤ l.length := by rw [hl2]; exact rnL_len _ _
            obtain ⟨s2, hs2⟩ : ∃ z, z = tx l2 := ⟨_, rfl⟩
            obtain ⟨N2, hN2⟩ : ∃ z, z = l2.length := ⟨_, rfl⟩
            obtain ⟨z2, hz2⟩ : ∃ z, z = num l2 := ⟨_, rfl⟩
            have hsz2 : s2.size = N2 := by rw [hs2, tx_size, hN2]
            have HS2 := Lib.hid hs2
            have HCL : Hid ((¬ N2 < 8 → cln l2 = false) ∧ (N2 < 8 → z2 = 0 → cln l2 = true) ∧ (¬ z2 = 0 → cln l2 = false)) := Lib.hid (by
              rw [hN2, hz2]
              unfold cln
              exact ⟨fun h => by rw [decide_eq_false h]; rfl, fun h h' => by rw [decide_eq_true h, decide_eq_true h']; rfl, fun h => by rw [decide_eq_false h, Bool.and_false]⟩)
            have CNU : Hid (N2 ≤ 64 → ∀ W, Calls Try.prog 23 #[.string s2] W (Ret W (.int .u64 (z2 : Int)))) := Lib.hid fun h W => by rw [hs2, hz2]; exact znum_calls l2 (by omega) W
            have CLF : Hid (∀ (W : World) S', BR W w.heap.size p S' l2 → Calls Try.prog 24 #[.pointer (some ⟨p, 0, none⟩)] W (Ret W (.int .i64 (N2 : Int)))) := Lib.hid fun W S' h => by rw [hN2]; exact HK.out.left W w.heap.size p S' l2 h (by omega)
            obtain ⟨v2, hv2⟩ : ∃ z, z = rnV l 0 := ⟨_, rfl⟩
            obtain ⟨e2, he2⟩ : ∃ z, z = rnE l 0 := ⟨_, rfl⟩
            have CR : Hid (∀ (W : World), BR W w.heap.size p S l → Calls Try.prog 19 #[.pointer (some ⟨p, 0, none⟩), .int .i64 om] W fun e w' => ∃ S', e = .returned (.tuple #[.int .i64 (v2 : Int), .int .i64 (e2 : Int)]) ∧ BR w' w.heap.size p S' l2 ∧ Frm S W w' ∧ ∀ i, S' i → S i ∨ W.heap.size ≤ i) := Lib.hid fun W h => by
              have := HK.out.run W w.heap.size p S l om h (by omega) (by omega) (by omega)
              rw [hto, ← hl2, ← hv2, ← he2] at this
              exact this
            have CD : Hid (∀ W, Calls Try.prog 20 #[.string s, .int .i64 0] W (Ret W (.tuple #[.string s2, .int .i64 (v2 : Int), .int .i64 (e2 : Int)]))) := Lib.hid fun W => by rw [HS.out, hs2, hl2, hv2, he2]; exact zrun_calls l 0 (by omega) (by omega) W
            clear hl2 hs2 hz2 hv2 he2 hto
            go_upto_region 15 with (first
              | (go_at_call 19; refine (CR.out _ hR).mono ?_; rintro e' x5 ⟨S2, rfl, hR, hF5, hS5⟩; have hS2 : ∀ i, S2 i → w.heap.size ≤ i := fun i hi => (hS5 i hi).elim (hSn i) (fun h => Nat.le_trans hB.size h); have hB := below_frmB hB hF5 hB.size hSn; have hk6 := hF5.blk hk6 hng; have d2 : _ = some (Value.int .i64 om) := hk6.cell 2)
              | (go_at_call 20; refine (CD.out _).mono ?_; rintro e' x6 ⟨rfl, hB6⟩; have hB := below_more hB hB6; have hR := HK.out.rfrm hR (X := fun _ => False) (Frm.of_below hB6) (fun _ h => h.elim)))
            clear hk6 d0 d1 d2 CR CD
            by_cases h8 : N2 < 8
            · by_cases hz : z2 = 0
              · have h80 : (N2 : Int) < 8 := by omega
                have hz0 : (z2 : Int) = 0 := by omega
                have CC : Hid (∀ (W : World) S', BR W w.heap.size p S' l2 → Calls Try.prog 25 #[.pointer (some ⟨p, 0, none⟩)] W (Ret W (.bool true))) := Lib.hid fun W S' h => by
                  have := HK.out.clean W w.heap.size p S' l2 h (by omega)
                  rw [HCL.out.2.1 h8 hz] at this
                  exact this
                go_wp2_with (first
                  | (go_at_call 23; refine (CNU.out (by omega) _).mono ?_; rintro e' x6 ⟨rfl, hB6⟩; have hB := below_more hB hB6; have hR := HK.out.rfrm hR (X := fun _ => False) (Frm.of_below hB6) (fun _ h => h.elim))
                  | (go_at_call 24; refine (CLF.out _ _ hR).mono ?_; rintro e' x7 ⟨rfl, hB7⟩; have hB := below_more hB hB7; have hR := HK.out.rfrm hR (X := fun _ => False) (Frm.of_below hB7) (fun _ h => h.elim))
                  | (go_at_call 25; refine (CC.out _ _ hR).mono ?_; rintro e' x8 ⟨rfl, hB8⟩; have hB := below_more hB hB8; have hR := HK.out.rfrm hR (X := fun _ => False) (Frm.of_below hB8) (fun _ h => h.elim)))
                go_roundw
                case rel => exact ⟨t + 1, s2, S2, l2, by go_num, rfl, by omega, by omega, HS2.out, by omega, hR, hS2, hB⟩
                case measure => simp [intOf]; omega
              · have h80 : (N2 : Int) < 8 := by omega
                have hz0 : ¬ (z2 : Int) = 0 := by omega
                have CC : Hid (∀ (W : World) S', BR W w.heap.size p S' l2 → Calls Try.prog 25 #[.pointer (some ⟨p, 0, none⟩)] W (Ret W (.bool false))) := Lib.hid fun W S' h => by
                  have := HK.out.clean W w.heap.size p S' l2 h (by omega)
                  rw [HCL.out.2.2 hz] at this
                  exact this
                go_wp2_with (first
                  | (go_at_call 23; refine (CNU.out (by omega) _).mono ?_; rintro e' x6 ⟨rfl, hB6⟩; have hB := below_more hB hB6; have hR := HK.out.rfrm hR (X := fun _ => False) (Frm.of_below hB6) (fun _ h => h.elim))
                  | (go_at_call 24; refine (CLF.out _ _ hR).mono ?_; rintro e' x7 ⟨rfl, hB7⟩; have hB := below_more hB hB7; have hR := HK.out.rfrm hR (X := fun _ => False) (Frm.of_below hB7) (fun _ h => h.elim))
                  | (go_at_call 25; refine (CC.out _ _ hR).mono ?_; rintro e' x8 ⟨rfl, hB8⟩; have hB := below_more hB hB8; have hR := HK.out.rfrm hR (X := fun _ => False) (Frm.of_below hB8) (fun _ h => h.elim)))
                go_roundw
                case rel => exact ⟨t + 1, s2, S2, l2, by go_num, rfl, by omega, by omega, HS2.out, by omega, hR, hS2, hB⟩
                case measure => simp [intOf]; omega
            · have h80 : ¬ (N2 : Int) < 8 := by omega
              have CC : Hid (∀ (W : World) S', BR W w.heap.size p S' l2 → Calls Try.prog 25 #[.pointer (some ⟨p, 0, none⟩)] W (Ret W (.bool false))) := Lib.hid fun W S' h => by
                have := HK.out.clean W w.heap.size p S' l2 h (by omega)
                rw [HCL.out.1 h8] at this
                exact this
              go_wp2_with (first
                | (go_at_call 23; refine (CNU.out (by omega) _).mono ?_; rintro e' x6 ⟨rfl, hB6⟩; have hB := below_more hB hB6; have hR := HK.out.rfrm hR (X := fun _ => False) (Frm.of_below hB6) (fun _ h => h.elim))
                | (go_at_call 24; refine (CLF.out _ _ hR).mono ?_; rintro e' x7 ⟨rfl, hB7⟩; have hB := below_more hB hB7; have hR := HK.out.rfrm hR (X := fun _ => False) (Frm.of_below hB7) (fun _ h => h.elim))
                | (go_at_call 25; refine (CC.out _ _ hR).mono ?_; rintro e' x8 ⟨rfl, hB8⟩; have hB := below_more hB hB8; have hR := HK.out.rfrm hR (X := fun _ => False) (Frm.of_below hB8) (fun _ h => h.elim)))
              go_roundw
              case rel => exact ⟨t + 1, s2, S2, l2, by go_num, rfl, by omega, by omega, HS2.out, by omega, hR, hS2, hB⟩
              case measure => simp [intOf]; omega
          · obtain ⟨nn, hnn⟩ : ∃ z : Nat, om = (z : Int) := ⟨om.toNat, by omega⟩
            subst hnn
            have h5 : ¬ (nn : Int) < 0 := by omega
            have h7 : 0 ≤ (nn : Int) := by omega
            have hto : (nn : Int).toNat = nn := by omega
            obtain ⟨l2, hl2⟩ : ∃ z, z = rnL l nn := ⟨_, rfl⟩
            have hl2l : l2.length ≤ l.length := by rw [hl2]; exact rnL_len _ _
            obtain ⟨s2, hs2⟩ : ∃ z, z = tx l2 := ⟨_, rfl⟩
            obtain ⟨N2, hN2⟩ : ∃ z, z = l2.length := ⟨_, rfl⟩
            obtain ⟨z2, hz2⟩ : ∃ z, z = num l2 := ⟨_, rfl⟩
            have hsz2 : s2.size = N2 := by rw [hs2, tx_size, hN2]
            have HS2 := Lib.hid hs2
            have HCL : Hid ((¬ N2 < 8 → cln l2 = false) ∧ (N2 < 8 → z2 = 0 → cln l2 = true) ∧ (¬ z2 = 0 → cln l2 = false)) := Lib.hid (by
              rw [hN2, hz2]
              unfold cln
              exact ⟨fun h => by rw [decide_eq_false h]; rfl, fun h h' => by rw [decide_eq_true h, decide_eq_true h']; rfl, fun h => by rw [decide_eq_false h, Bool.and_false]⟩)
            have CNU : Hid (N2 ≤ 64 → ∀ W, Calls Try.prog 23 #[.string s2] W (Ret W (.int .u64 (z2 : Int)))) := Lib.hid fun h W => by rw [hs2, hz2]; exact znum_calls l2 (by omega) W
            have CLF : Hid (∀ (W : World) S', BR W w.heap.size p S' l2 → Calls Try.prog 24 #[.pointer (some ⟨p, 0, none⟩)] W (Ret W (.int .i64 (N2 : Int)))) := Lib.hid fun W S' h => by rw [hN2]; exact HK.out.left W w.heap.size p S' l2 h (by omega)
            obtain ⟨v2, hv2⟩ : ∃ z, z = rnV l nn := ⟨_, rfl⟩
            obtain ⟨e2, he2⟩ : ∃ z, z = rnE l nn := ⟨_, rfl⟩
            have CR : Hid (∀ (W : World), BR W w.heap.size p S l → Calls Try.prog 19 #[.pointer (some ⟨p, 0, none⟩), .int .i64 (nn : Int)] W fun e w' => ∃ S', e = .returned (.tuple #[.int .i64 (v2 : Int), .int .i64 (e2 : Int)]) ∧ BR w' w.heap.size p S' l2 ∧ Frm S W w' ∧ ∀ i, S' i → S i ∨ W.heap.size ≤ i) := Lib.hid fun W h => by
              have := HK.out.run W w.heap.size p S l (nn : Int) h (by omega) (by omega) (by omega)
              rw [hto, ← hl2, ← hv2, ← he2] at this
              exact this
            have CD : Hid (∀ W, Calls Try.prog 20 #[.string s, .int .i64 (nn : Int)] W (Ret W (.tuple #[.string s2, .int .i64 (v2 : Int), .int .i64 (e2 : Int)]))) := Lib.hid fun W => by rw [HS.out, hs2, hl2, hv2, he2]; exact zrun_calls l nn (by omega) (by omega) W
            clear hl2 hs2 hz2 hv2 he2 hto
            go_upto_region 15 with (first
              | (go_at_call 19; refine (CR.out _ hR).mono ?_; rintro e' x5 ⟨S2, rfl, hR, hF5, hS5⟩; have hS2 : ∀ i, S2 i → w.heap.size ≤ i := fun i hi => (hS5 i hi).elim (hSn i) (fun h => Nat.le_trans hB.size h); have hB := below_frmB hB hF5 hB.size hSn; have hk6 := hF5.blk hk6 hng; have d2 : _ = some (Value.int .i64 (nn : Int)) := hk6.cell 2)
              | (go_at_call 20; refine (CD.out _).mono ?_; rintro e' x6 ⟨rfl, hB6⟩; have hB := below_more hB hB6; have hR := HK.out.rfrm hR (X := fun _ => False) (Frm.of_below hB6) (fun _ h => h.elim)))
            clear hk6 d0 d1 d2 CR CD
            by_cases h8 : N2 < 8
            · by_cases hz : z2 = 0
              · have h80 : (N2 : Int) < 8 := by omega
                have hz0 : (z2 : Int) = 0 := by omega
                have CC : Hid (∀ (W : World) S', BR W w.heap.size p S' l2 → Calls Try.prog 25 #[.pointer (some ⟨p, 0, none⟩)] W (Ret W (.bool true))) := Lib.hid fun W S' h => by
                  have := HK.out.clean W w.heap.size p S' l2 h (by omega)
                  rw [HCL.out.2.1 h8 hz] at this
                  exact this
                go_wp2_with (first
                  | (go_at_call 23; refine (CNU.out (by omega) _).mono ?_; rintro e' x6 ⟨rfl, hB6⟩; have hB := below_more hB hB6; have hR := HK.out.rfrm hR (X := fun _ => False) (Frm.of_below hB6) (fun _ h => h.elim))
                  | (go_at_call 24; refine (CLF.out _ _ hR).mono ?_; rintro e' x7 ⟨rfl, hB7⟩; have hB := below_more hB hB7; have hR := HK.out.rfrm hR (X := fun _ => False) (Frm.of_below hB7) (fun _ h => h.elim))
                  | (go_at_call 25; refine (CC.out _ _ hR).mono ?_; rintro e' x8 ⟨rfl, hB8⟩; have hB := below_more hB hB8; have hR := HK.out.rfrm hR (X := fun _ => False) (Frm.of_below hB8) (fun _ h => h.elim)))
                go_roundw
                case rel => exact ⟨t + 1, s2, S2, l2, by go_num, rfl, by omega, by omega, HS2.out, by omega, hR, hS2, hB⟩
                case measure => simp [intOf]; omega
              · have h80 : (N2 : Int) < 8 := by omega
                have hz0 : ¬ (z2 : Int) = 0 := by omega
                have CC : Hid (∀ (W : World) S', BR W w.heap.size p S' l2 → Calls Try.prog 25 #[.pointer (some ⟨p, 0, none⟩)] W (Ret W (.bool false))) := Lib.hid fun W S' h => by
                  have := HK.out.clean W w.heap.size p S' l2 h (by omega)
                  rw [HCL.out.2.2 hz] at this
                  exact this
                go_wp2_with (first
                  | (go_at_call 23; refine (CNU.out (by omega) _).mono ?_; rintro e' x6 ⟨rfl, hB6⟩; have hB := below_more hB hB6; have hR := HK.out.rfrm hR (X := fun _ => False) (Frm.of_below hB6) (fun _ h => h.elim))
                  | (go_at_call 24; refine (CLF.out _ _ hR).mono ?_; rintro e' x7 ⟨rfl, hB7⟩; have hB := below_more hB hB7; have hR := HK.out.rfrm hR (X := fun _ => False) (Frm.of_below hB7) (fun _ h => h.elim))
                  | (go_at_call 25; refine (CC.out _ _ hR).mono ?_; rintro e' x8 ⟨rfl, hB8⟩; have hB := below_more hB hB8; have hR := HK.out.rfrm hR (X := fun _ => False) (Frm.of_below hB8) (fun _ h => h.elim)))
                go_roundw
                case rel => exact ⟨t + 1, s2, S2, l2, by go_num, rfl, by omega, by omega, HS2.out, by omega, hR, hS2, hB⟩
                case measure => simp [intOf]; omega
            · have h80 : ¬ (N2 : Int) < 8 := by omega
              have CC : Hid (∀ (W : World) S', BR W w.heap.size p S' l2 → Calls Try.prog 25 #[.pointer (some ⟨p, 0, none⟩)] W (Ret W (.bool false))) := Lib.hid fun W S' h => by
                have := HK.out.clean W w.heap.size p S' l2 h (by omega)
                rw [HCL.out.1 h8] at this
                exact this
              go_wp2_with (first
                | (go_at_call 23; refine (CNU.out (by omega) _).mono ?_; rintro e' x6 ⟨rfl, hB6⟩; have hB := below_more hB hB6; have hR := HK.out.rfrm hR (X := fun _ => False) (Frm.of_below hB6) (fun _ h => h.elim))
                | (go_at_call 24; refine (CLF.out _ _ hR).mono ?_; rintro e' x7 ⟨rfl, hB7⟩; have hB := below_more hB hB7; have hR := HK.out.rfrm hR (X := fun _ => False) (Frm.of_below hB7) (fun _ h => h.elim))
                | (go_at_call 25; refine (CC.out _ _ hR).mono ?_; rintro e' x8 ⟨rfl, hB8⟩; have hB := below_more hB hB8; have hR := HK.out.rfrm hR (X := fun _ => False) (Frm.of_below hB8) (fun _ h => h.elim)))
              go_roundw
              case rel => exact ⟨t + 1, s2, S2, l2, by go_num, rfl, by omega, by omega, HS2.out, by omega, hR, hS2, hB⟩
              case measure => simp [intOf]; omega
    · have hlt' : ¬ (t : Int) < (m : Int) := by omega
      clear hR
      go_wp2_with (first
        | (go_at_call 16; refine (CA.out _).mono ?_; rintro e' y9 ⟨rfl, hB9⟩))
      go_ret
      exact ⟨rfl, below_more hB hB9⟩
end Go.Proofs.Ytaimphdnhcipfaa
