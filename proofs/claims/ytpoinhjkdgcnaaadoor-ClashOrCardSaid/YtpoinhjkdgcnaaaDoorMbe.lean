/- Merged texts: ClaE. -/
import Derived.Test.YtpoinhjkdgcnaaaDoorMbd
/- The contract of the document's own Extract of layer 10. -/
namespace Go.Proofs.YtpoinhjkdgcnaaaDoor
open Go.RowKit
set_option linter.unusedVariables false
set_option linter.unusedSimpArgs false

set_option maxRecDepth 100000 in
theorem find_at {p : List UInt8 → Bool} : ∀ (A : List (List UInt8)) (t : Nat), t < A.length → (∀ k, k < t → p (hat A k) = false) → p (hat A t) = true → A.find? p = some (hat A t)
  | [], t, h, _, _ => by simp at h
  | a :: A, 0, _, _, h => by
    rw [hat_zero] at h ⊢
    simp [h]
  | a :: A, t + 1, hl, hn, h => by
    have h0 := hn 0 (by omega)
    rw [hat_zero] at h0
    rw [hat_next] at h ⊢
    rw [List.find?_cons_of_neg (by simp [h0])]
    exact find_at A t (by simpa using hl) (fun k hk => by have := hn (k + 1) (by omega); rw [hat_next] at this; exact this) h
set_option maxRecDepth 100000 in
theorem find_no {p : List UInt8 → Bool} (A : List (List UInt8)) (h : ∀ k, k < A.length → p (hat A k) = false) : A.find? p = none := by
  rw [List.find?_eq_none]
  intro x hx
  obtain ⟨k, hk, rfl⟩ := List.getElem_of_mem hx
  have := h k hk
  unfold hat at this
  rw [List.getD_eq_getElem?_getD, List.getElem?_eq_getElem hk] at this
  simpa using this
set_option maxRecDepth 100000 in
theorem ext_at (A : List (List UInt8)) : ∀ (C : List (List UInt8)) (t : Nat) (u : List UInt8), t < C.length → (∀ k, k < t → fnd A (hat C k) = none) → fnd A (hat C t) = some u → ext A C = some (hat C t, u)
  | [], t, _, h, _, _ => by simp at h
  | c :: C, 0, u, _, _, h => by
    rw [hat_zero] at h ⊢
    unfold ext
    simp [h]
  | c :: C, t + 1, u, hl, hn, h => by
    have h0 := hn 0 (by omega)
    rw [hat_zero] at h0
    rw [hat_next] at h ⊢
    have ih := ext_at A C t u (by simpa using hl) (fun k hk => by have := hn (k + 1) (by omega); rw [hat_next] at this; exact this) h
    unfold ext at ih ⊢
    rw [List.findSome?_cons, h0]
    exact ih
set_option maxRecDepth 100000 in
theorem ext_no (A C : List (List UInt8)) (h : ∀ k, k < C.length → fnd A (hat C k) = none) : ext A C = none := by
  unfold ext
  rw [List.findSome?_eq_none_iff]
  intro x hx
  obtain ⟨k, hk, rfl⟩ := List.getElem_of_mem hx
  have := h k hk
  unfold hat at this
  rw [List.getD_eq_getElem?_getD, List.getElem?_eq_getElem hk] at this
  simpa using this
/-- Is u a text that clashes with c? -/
def isC (c u : List UInt8) : Bool := !decide (u = c) && decide (ds u = ds c)
set_option maxRecDepth 100000 in
theorem fnd_isC (A : List (List UInt8)) (c : List UInt8) : fnd A c = A.find? (isC c) := rfl
/-- What Extract answers. -/
def extV : Option (List UInt8 × List UInt8) → Value
  | some (c, t) => .tuple #[STR c, STR t, .bool true]
  | none => .tuple #[STR [], STR [], .bool false]
set_option maxRecDepth 100000 in
theorem txs_small (T : List (List UInt8)) (h : ∀ t ∈ T, t.length ≤ 100000) : ∀ t ∈ txs T, t.length ≤ 100000 := fun t ht => by
  unfold txs at ht
  rcases List.mem_append.1 ht with ht | ht
  · exact h t ht
  · obtain ⟨l, hl, htl⟩ := List.mem_flatten.1 ht
    obtain ⟨k, hk, rfl⟩ := List.mem_map.1 hl
    obtain ⟨j, hj, rfl⟩ := List.mem_map.1 htl
    rw [tn_len _ (sums_32 T) k j (List.mem_range.1 hj)]
    omega
set_option maxRecDepth 100000 in
theorem claim_small (c i : Int) (P : List (List UInt8)) (t : List UInt8) (hP : ∀ p ∈ P, p.length = 32) (ht : t.length ≤ 100000) : ∀ k, k < (claim c i P t).length → (hat (claim c i P t) k).length ≤ 100000 := fun k hk => by
  unfold claim at hk ⊢
  by_cases h0 : rgt c i P.length ≠ 0
  · rw [if_pos h0] at hk; simp at hk
  · rw [if_neg h0] at hk ⊢
    exact clm_small P _ t hP ht k (by rw [clm_len] at hk; exact hk)
set_option maxRecDepth 100000 in
set_option maxHeartbeats 4000000 in
theorem dextract_calls (A : Option Addr) (n c0 : Nat) (T : List (List UInt8)) (c i : Int) (A9 : Option Addr) (m cap : Nat) (P : List (List UInt8)) (t : List UInt8) (w : World) (hr : RdS w A n T) (hrP : RdH w A9 m P) (hn : n ≤ 64) (hm : m ≤ 1000) (hT2 : ∀ t ∈ T, t.length ≤ 100000) (ht : t.length ≤ 100000) :
    Calls Tryd.prog 18 #[.slice A n c0, STR t, .agg #[.int .i64 c, .int .i64 i, .slice A9 m cap]] w (Ret w (extV (ext (txs T) (claim c i P t)))) := by
  have hln := hr.len
  obtain ⟨B, hBt⟩ : ∃ B, B = txs T := ⟨_, rfl⟩
  obtain ⟨C, hC⟩ : ∃ C, C = claim c i P t := ⟨_, rfl⟩
  obtain ⟨N, hN⟩ : ∃ N, N = B.length := ⟨_, rfl⟩
  obtain ⟨M, hM⟩ : ∃ M, M = C.length := ⟨_, rfl⟩
  have HBS : Hid (∀ u ∈ B, u.length ≤ 100000) := Lib.hid (by rw [hBt]; exact txs_small T hT2)
  have HCS : Hid (∀ k, k < M → (hat C k).length ≤ 100000) := Lib.hid (by rw [hM, hC]; exact claim_small c i P t hrP.all ht)
  have hN1 : N ≤ 1000 := by
    have h6 := depth_le6 n hn
    have := txsK_len T (by omega) (depth T.length)
    rw [txsK_all, ← hBt, ← hN, hln] at this
    omega
  have hM1 : M ≤ 1001 := by
    rw [hM, hC]
    unfold claim
    split
    · simp
    · rw [clm_len, hrP.len]; omega
  have CX : Hid (Calls Tryd.prog 12 #[.slice A n c0] (w.alloc (.cells #[.int .i64 c, .int .i64 i, .slice A9 m cap] 40)) fun e w' => ∃ A' c', e = .returned (.slice A' N c') ∧ OwnS w' w.heap.size A' N c' B ∧ Below (w.alloc (.cells #[.int .i64 c, .int .i64 i, .slice A9 m cap] 40)).heap.size (w.alloc (.cells #[.int .i64 c, .int .i64 i, .slice A9 m cap] 40)) w') := Lib.hid (by
    have hb := below_al (Below.refl w.heap.size w) (.cells #[.int .i64 c, .int .i64 i, .slice A9 m cap] 40)
    refine (dtexts_calls A n c0 T _ (hr.below hb) hn hT2).mono ?_
    rintro e w' ⟨A', c', rfl, h1, h2⟩
    rw [← hBt, ← hN] at h1 ⊢
    exact ⟨A', c', rfl, ⟨h1.1, h1.2.1, by
      rcases h1.2.2 with h | ⟨g, q1, q2, q3, q4, q5⟩
      · exact .inl h
      · exact .inr ⟨g, q1, q2, q3, Nat.le_trans hb.size q4, q5⟩⟩, h2⟩)
  have CC : Hid (∀ W, Below w.heap.size w W → Calls Tryd.prog 15 #[STR t, .agg #[.int .i64 c, .int .i64 i, .slice A9 m cap]] W fun e w' => ∃ A' c', e = .returned (.slice A' M c') ∧ RdS w' A' M C ∧ Below W.heap.size W w') := Lib.hid fun W hW => by
    refine (dclaim_calls c i A9 m cap P t W (hrP.below hW) ht).mono ?_
    rintro e w' ⟨A', c', rfl, h1, h2⟩
    rw [← hC, ← hM] at h1 ⊢
    exact ⟨A', c', rfl, h1.rd, h2⟩
  have HLB : Hid (B.length = N) := Lib.hid hN.symm
  have HLC : Hid (C.length = M) := Lib.hid hM.symm
  rw [← hBt, ← hC]
  clear hr hrP hT2 ht hBt hC hN hM hln
  have hk0 : Blk (w.alloc (.cells #[.int .i64 c, .int .i64 i, .slice A9 m cap] 40)) w.heap.size [.int .i64 c, .int .i64 i, .slice A9 m cap] 40 := Blk.new w _ _
  go_enter Tryd.func18, Tryd.ntmps18
  go_upto_region 3 with (go_at_call 12; refine CX.out.mono ?_; rintro e' x1 ⟨A1, c1, rfl, ho1, d1⟩)
  have HO1 := Lib.hid ho1
  have HBX : Hid (Below w.heap.size w x1) := Lib.hid (below_more (below_al (Below.refl _ _) _) d1)
  have HK1 : Hid (Blk x1 w.heap.size [.int .i64 c, .int .i64 i, .slice A9 m cap] 40) := Lib.hid (hk0.up d1)
  have hx1s : w.heap.size + 1 ≤ x1.heap.size := by have h := d1.size; simp at h; omega
  clear CX ho1 d1 hk0
  go_wp2
  go_loopw [22, 10] (fun kv sv wr => ∃ (q : Nat) (A2 : Option Addr) (c2 : Nat), kv = .int .i64 (q : Int) ∧ sv = .slice A2 q c2 ∧ q ≤ N ∧ OwnH wr x1.heap.size 46 A2 q c2 ((sums B).take q) ∧ Below x1.heap.size x1 wr) (fun kv _ _ => N - (intOf kv).toNat)
  case atStart => exact ⟨0, none, 0, by first | rfl | go_num, rfl, by omega, by rw [List.take_zero]; exact OwnH.nil _ _ _, Below.refl _ _⟩
  case round =>
    obtain ⟨q, A2, c2, rfl, rfl, hqN, hown, hbel⟩ := hrel
    obtain ⟨wo, hwo⟩ : ∃ x, x = wr := ⟨_, rfl⟩
    rw [← hwo] at hown hbel ⊢
    clear hwo
    by_cases hlt : q < N
    · have hlt' : (q : Int) < (N : Int) := by omega
      obtain ⟨b, off, rfl, hb, sc⟩ := (HO1.out.rd.below hbel).at_ hlt
      have hnx := take_hat (sums B) q (by rw [sums_len, HLB.out]; omega)
      have hxB : hat B q ∈ B := by unfold hat; rw [List.getD_eq_getElem?_getD, List.getElem?_eq_getElem (by rw [HLB.out]; omega)]; exact List.getElem_mem _
      have hle := HBS.out _ hxB
      obtain ⟨x, hx⟩ : ∃ x, x = hat B q := ⟨_, rfl⟩
      obtain ⟨y, hy⟩ : ∃ z0, z0 = ds x := ⟨_, rfl⟩
      have y32 : y.length = 32 := by rw [hy]; exact ds_len _
      obtain ⟨Y, hY⟩ : ∃ V, V = y.map B8 := ⟨_, rfl⟩
      have HY := Lib.hid hY
      have HY32 := Lib.hid y32
      have IY : Hid ((Tryd.prog.info? 46).map (·.size) = some Y.length) := Lib.hid (by rw [hY, List.length_map, y32]; kernel_rfl)
      have LY : Hid (z32.length = Y.length) := Lib.hid (by rw [hY, List.length_map, y32]; rfl)
      have OY : Hid (∀ v ∈ Y, v.oneCell' = true) := Lib.hid (by rw [hY]; exact b8_one _)
      have LYY : Hid (Y.length = 32) := Lib.hid (by rw [hY, List.length_map, y32])
      rw [sums_at B q (by rw [HLB.out]; omega), ← hx, ← hy] at hnx
      rw [← hx] at sc hle
      have HNX := Lib.hid hnx
      have CT : Hid (∀ W : World, Calls Tryd.prog 27 #[STR x] W (Ret W (.agg Y.toArray))) := Lib.hid fun W => by
        have := rtwice_calls ⟨x.toArray⟩ W (by rw [bstr_size]; exact hle)
        rw [hY, hy]
        exact this
      obtain ⟨U', hU'⟩ : ∃ T', T' = (sums B).take q := ⟨_, rfl⟩
      rw [← hU'] at hown
      have HU' := Lib.hid hU'
      clear hnx hxB hU' hx hy hY y32
      go_wp2_with (first
        | (go_at_call 27; refine (CT.out _).mono ?_; rintro e' w3 ⟨rfl, d3⟩)
        | ((with_reducible refine at_bsP 38 1 #[(0, .tmp 28)] ?_); refine wpList_bsE rfl 38 46 Tryd.underlying38 infoR (.tmp 28) rfl Y (by first | rfl | simp [Act.eval]) LYY.out ?_; intro g4 w4 hb4 hg4 hl4 hf4 hB4)
        | ((with_reducible refine at_app 38 (.tmp 26) (.tmp 29) ?_); refine wpList_appE rfl 38 46 Tryd.underlying38 infoR (.tmp 26) (.tmp 29) rfl x1.heap.size x1 (below_more (below_more hbel d3) hB4) (Nat.le_refl _) A2 q c2 U' (by first | rfl | simp [Act.eval]) ((hown.up d3).up hB4) g4 y Y HY.out HY32.out (by first | rfl | simp [Act.eval]) hb4 (by omega) ?_; intro A5 c5 w5 ho5 hf5 hB5))
      go_roundw
      case rel => exact ⟨q + 1, A5, c5, by go_num, rfl, by omega, by rw [HNX.out, ← HU'.out]; exact ho5, hB5⟩
      case measure => simp [intOf]; omega
    · have hlt' : ¬ (q : Int) < (N : Int) := by omega
      have e : N = q := by omega
      subst e
      rw [List.take_of_length_le (by rw [sums_len, HLB.out]; omega)] at hown
      have HS := Lib.hid hown.rd
      clear hown
      have hk0x : Blk wo w.heap.size [.int .i64 c, .int .i64 i, .slice A9 m cap] 40 := (hbel.block w.heap.size (by omega)).trans HK1.out
      have hBw : Below w.heap.size w wo := HBX.out.trans (hbel.mono (by omega))
      go_wp2_with (first
        | ((with_reducible refine at_load 40 (.tmp 5) ?_); refine wpList_load_mid rfl 40 (.tmp 5) rfl (w.heap.size) (0) (by first | rfl | simp [Act.eval]) [.int .i64 c, .int .i64 i, .slice A9 m cap] _ (Blk.range hk0x) Tryd.underlying40 rfl (by kernel_rfl) ?_)
        | (go_at_call 15; refine (CC.out _ hBw).mono ?_; rintro e' wz ⟨A3, c3, rfl, hr3, d3⟩))
      have hBz := below_more hBw d3
      have HA := Lib.hid ((HO1.out.rd.below hbel).below d3)
      have HSZ := Lib.hid (HS.out.below d3)
      have HC3 := Lib.hid hr3
      clear hk0x hbel d3 hr3 hBw
      go_loopw [36] (fun kv wr => ∃ (k : Nat), kv = .int .i64 (k : Int) ∧ k ≤ M ∧ (∀ j, j < k → fnd B (hat C j) = none) ∧ Below wz.heap.size wz wr) (fun kv _ => M - (intOf kv).toNat)
      case atStart => exact ⟨0, by first | rfl | go_num, by omega, fun j hj => absurd hj (by omega), Below.refl _ _⟩
      case round =>
        obtain ⟨k, rfl, hkM, hno, hbel3⟩ := hrel
        obtain ⟨wp, hwp⟩ : ∃ x, x = wr := ⟨_, rfl⟩
        rw [← hwp] at hbel3 ⊢
        clear hwp
        have HNK := Lib.hid hno
        clear hno
        by_cases hltk : k < M
        · have hltk' : (k : Int) < (M : Int) := by omega
          obtain ⟨bc, oc, rfl, hbc, sc⟩ := (HC3.out.below hbel3).at_ hltk
          have hxs := HCS.out k hltk
          obtain ⟨x, hx⟩ : ∃ z0, z0 = hat C k := ⟨_, rfl⟩
          rw [← hx] at sc hxs
          have sc' : wp.cell? ⟨bc, oc + k, none⟩ = some (.string ⟨x.toArray⟩) := sc
          have HX := Lib.hid hx
          obtain ⟨h, hh⟩ : ∃ z0, z0 = ds x := ⟨_, rfl⟩
          have h32 : h.length = 32 := by rw [hh]; exact ds_len _
          obtain ⟨H, hH⟩ : ∃ V, V = h.map B8 := ⟨_, rfl⟩
          have HH := Lib.hid hH
          have HH32 := Lib.hid h32
          have IH : Hid ((Tryd.prog.info? 46).map (·.size) = some H.length) := Lib.hid (by rw [hH, List.length_map, h32]; kernel_rfl)
          have LH : Hid (z32.length = H.length) := Lib.hid (by rw [hH, List.length_map, h32]; rfl)
          have OH : Hid (∀ v ∈ H, v.oneCell' = true) := Lib.hid (by rw [hH]; exact b8_one _)
          have CT : Hid (∀ W : World, Calls Tryd.prog 27 #[.string ⟨x.toArray⟩] W (Ret W (.agg H.toArray))) := Lib.hid fun W => by
            have := rtwice_calls ⟨x.toArray⟩ W (by rw [bstr_size]; exact hxs)
            rw [hH, hh]
            exact this
          have Hh := Lib.hid hh
          clear sc hxs hx hh hH h32
          go_wp2_with (first
            | (go_at_call 27; refine (CT.out _).mono ?_; rintro e' y5 ⟨rfl, e5⟩)
            | ((with_reducible refine at_alloc 46 ?_); refine wpList_allocT rfl 46 z32 (by kernel_rfl) rfl wz.heap.size wz (below_more hbel3 e5) (Nat.le_refl _) ?_; intro g15 z5 hb5 hg5 hl5 hf5 hB5)
            | ((with_reducible refine at_store 46 (.tmp 15) (.tmp 41) ?_); refine wpList_store_blk rfl 46 (.tmp 15) (.tmp 41) rfl g15 z32 H 46 rfl rfl hb5 LH.out IH.out OH.out ?_; intro s5 hk15 ho5))
          have hs5 := e5.size
          have hs3 := hbel3.size
          have hB15 : Below wz.heap.size wz s5 := hB5.trans (ho5.below (by omega))
          clear sc' hbel3 e5 hb5 hf5 hB5 ho5 CT
          go_loopw [44] (fun qv wr => ∃ (q : Nat), qv = .int .i64 (q : Int) ∧ q ≤ N ∧ (∀ j, j < q → isC x (hat B j) = false) ∧ Below s5.heap.size s5 wr) (fun qv _ => N - (intOf qv).toNat)
          case atStart => exact ⟨0, by first | rfl | go_num, by omega, fun j hj => absurd hj (by omega), Below.refl _ _⟩
          case round =>
          obtain ⟨q, rfl, hqN, hno, hbel4⟩ := hrel
          obtain ⟨wq, hwq⟩ : ∃ x, x = wr := ⟨_, rfl⟩
          rw [← hwq] at hbel4 ⊢
          clear hwq
          have HNQ := Lib.hid hno
          clear hno
          have hBq := below_more hB15 hbel4
          by_cases hltq : q < N
          · have hltq' : (q : Int) < (N : Int) := by omega
            obtain ⟨ba, oa, rfl, hba, su⟩ := (HA.out.below hBq).at_ hltq
            obtain ⟨bs, os, rfl, hbs, hgz⟩ := (HSZ.out.below hBq).at_ hltq
            obtain ⟨u, hu⟩ : ∃ z0, z0 = hat B q := ⟨_, rfl⟩
            obtain ⟨v, hv⟩ : ∃ z0, z0 = ds u := ⟨_, rfl⟩
            have v32 : v.length = 32 := by rw [hv]; exact ds_len _
            obtain ⟨Z, hZ⟩ : ∃ V, V = v.map B8 := ⟨_, rfl⟩
            have HZ := Lib.hid hZ
            have HZ32 := Lib.hid v32
            have IZ : Hid ((Tryd.prog.info? 46).map (·.size) = some Z.length) := Lib.hid (by rw [hZ, List.length_map, v32]; kernel_rfl)
            have LZ : Hid (z32.length = Z.length) := Lib.hid (by rw [hZ, List.length_map, v32]; rfl)
            have OZ : Hid (∀ v ∈ Z, v.oneCell' = true) := Lib.hid (by rw [hZ]; exact b8_one _)
            rw [sums_at B q (by rw [HLB.out]; omega), ← hu, ← hv, ← hZ] at hgz
            have su' : wq.cell? ⟨ba, oa + q, none⟩ = some (.string ⟨u.toArray⟩) := by rw [hu]; exact su
            have hkq := (hk15.up hbel4)
            have K15 : Hid (∀ W, Below wq.heap.size wq W → W.rangeAt bs (os + q * 32) Z ∧ W.rangeAt g15 0 H) := Lib.hid fun W h => ⟨range_below hgz h hbs, (hkq.up h).range⟩
            by_cases hux : u = x
            · have HNO : Hid (∀ j, j < q + 1 → isC x (hat B j) = false) := Lib.hid fun j hj => by
                rcases Nat.lt_or_ge j q with h | h
                · exact HNQ.out j h
                · obtain rfl : j = q := by omega
                  rw [← hu, hux]
                  unfold isC
                  simp
              subst hux
              have hsx := True.intro
              clear su hv hZ v32 hu hgz hkq
              go_upto_region 15 with fail
              refine wp_region_held_drew (S := fun W => W.rangeAt bs (os + q * 32) Z ∧ W.rangeAt g15 0 H) (by kernel_rfl) ?_ (fun hHeld => ?_)
              · exact K15.out _ (below_dr (Below.refl _ _))
              refine wpAnyH_take (i := 0) (v := ?_) rfl (by kernel_rfl) (by kernel_rfl) (by kernel_rfl) (fun _ _ _ h => h) (Or.inl ⟨by rfl, ?_⟩) (by assumption) ?_
              rotate_left 1
              · intro w hSw; (try dsimp only at hSw); simp only [List.getElem_toArray, List.getElem_cons_succ, List.getElem_cons_zero]; go_simp; try (with_reducible rfl)
              (try simp only [List.getElem_toArray, List.getElem_cons_succ, List.getElem_cons_zero, Act.put, List.setIfInBounds_toArray, List.set_cons_succ, List.set_cons_zero])
              refine wpAnyH_take (i := 1) (v := ?_) rfl (by kernel_rfl) (by kernel_rfl) (by kernel_rfl) (fun _ _ _ h => h) (Or.inl ⟨by rfl, ?_⟩) (by assumption) ?_
              rotate_left 1
              · intro w hSw; (try dsimp only at hSw); simp only [List.getElem_toArray, List.getElem_cons_succ, List.getElem_cons_zero]; go_simp; try (with_reducible rfl)
              (try simp only [List.getElem_toArray, List.getElem_cons_succ, List.getElem_cons_zero, Act.put, List.setIfInBounds_toArray, List.set_cons_succ, List.set_cons_zero])
              refine wpAnyH_take (i := 2) (v := .bool false) rfl (by kernel_rfl) (by kernel_rfl) (by kernel_rfl) (fun _ _ _ h => h) (Or.inl ⟨by rfl, ?_⟩) (by assumption) ?_
              · intro w hSw; (try dsimp only at hSw); simp only [List.getElem_toArray, List.getElem_cons_succ, List.getElem_cons_zero]; first | (go_simp; done) | (simp [execOp, Act.eval, hsx]; done) | (go_simp; simp [hsx]; done) | (go_simp; exact hsx)
              (try simp only [List.getElem_toArray, List.getElem_cons_succ, List.getElem_cons_zero, Act.put, List.setIfInBounds_toArray, List.set_cons_succ, List.set_cons_zero])
              refine wpAnyH_take (i := 3) (v := ?_) rfl (by kernel_rfl) (by kernel_rfl) (by kernel_rfl) (fun _ _ _ h => h) (Or.inl ⟨by rfl, ?_⟩) (by assumption) ?_
              rotate_left 1
              · intro w hSw; (try dsimp only at hSw); simp only [List.getElem_toArray, List.getElem_cons_succ, List.getElem_cons_zero]; go_simp; try (with_reducible rfl)
              (try simp only [List.getElem_toArray, List.getElem_cons_succ, List.getElem_cons_zero, Act.put, List.setIfInBounds_toArray, List.set_cons_succ, List.set_cons_zero])
              refine wpAnyH_take (i := 4) (v := undef) rfl (by kernel_rfl) (by kernel_rfl) (by kernel_rfl) (fun _ _ _ h => h) (Or.inr ⟨by rfl, rfl⟩) (by assumption) ?_
              (try simp only [List.getElem_toArray, List.getElem_cons_succ, List.getElem_cons_zero, Act.put, List.setIfInBounds_toArray, List.set_cons_succ, List.set_cons_zero])
              refine wpAnyH_take (i := 5) (v := undef) rfl (by kernel_rfl) (by kernel_rfl) (by kernel_rfl) (fun _ _ _ h => h) (Or.inr ⟨by rfl, rfl⟩) (by assumption) ?_
              (try simp only [List.getElem_toArray, List.getElem_cons_succ, List.getElem_cons_zero, Act.put, List.setIfInBounds_toArray, List.set_cons_succ, List.set_cons_zero])
              refine wpAnyH_take (i := 6) (v := undef) rfl (by kernel_rfl) (by kernel_rfl) (by kernel_rfl) (fun _ _ _ h => h) (Or.inr ⟨by rfl, rfl⟩) (by assumption) ?_
              (try simp only [List.getElem_toArray, List.getElem_cons_succ, List.getElem_cons_zero, Act.put, List.setIfInBounds_toArray, List.set_cons_succ, List.set_cons_zero])
              refine wpAnyH_take (i := 7) (v := undef) rfl (by kernel_rfl) (by kernel_rfl) (by kernel_rfl) (fun _ _ _ h => h) (Or.inr ⟨by rfl, rfl⟩) (by assumption) ?_
              (try simp only [List.getElem_toArray, List.getElem_cons_succ, List.getElem_cons_zero, Act.put, List.setIfInBounds_toArray, List.set_cons_succ, List.set_cons_zero])
              refine wpAnyH_take (i := 8) (v := undef) rfl (by kernel_rfl) (by kernel_rfl) (by kernel_rfl) (fun _ _ _ h => h) (Or.inr ⟨by rfl, rfl⟩) (by assumption) ?_
              (try simp only [List.getElem_toArray, List.getElem_cons_succ, List.getElem_cons_zero, Act.put, List.setIfInBounds_toArray, List.set_cons_succ, List.set_cons_zero])
              refine wpAnyH_take (i := 9) (v := undef) rfl (by kernel_rfl) (by kernel_rfl) (by kernel_rfl) (fun _ _ _ h => h) (Or.inr ⟨by rfl, rfl⟩) (by assumption) ?_
              (try simp only [List.getElem_toArray, List.getElem_cons_succ, List.getElem_cons_zero, Act.put, List.setIfInBounds_toArray, List.set_cons_succ, List.set_cons_zero])
              refine wpAnyH_take (i := 10) (v := ?_) rfl (by kernel_rfl) (by kernel_rfl) (by kernel_rfl) (fun _ _ _ h => h) (Or.inl ⟨by rfl, ?_⟩) (by assumption) ?_
              rotate_left 1
              · intro w hSw; (try dsimp only at hSw); simp only [List.getElem_toArray, List.getElem_cons_succ, List.getElem_cons_zero]; go_simp; try (with_reducible rfl)
              (try simp only [List.getElem_toArray, List.getElem_cons_succ, List.getElem_cons_zero, Act.put, List.setIfInBounds_toArray, List.set_cons_succ, List.set_cons_zero])
              refine wpAnyH_done (by kernel_rfl) ?_ _
              go_wp2
              go_roundw
              case rel => exact ⟨q + 1, by go_num, by omega, HNO.out, below_dr hbel4⟩
              case measure => simp [intOf]; omega
            · have hsx : ¬ u = x := hux
              obtain ⟨BS, hBS⟩ : ∃ b, b = decide (v = h) := ⟨_, rfl⟩
              have heq : ∀ W, (Op.equalIn 10000 46 (.agg Z.toArray) (.agg H.toArray)).run Tryd.prog W = .ok BS W := fun W => by rw [hZ, HH.out]; exact eqR32 v h v32 HH32.out BS hBS.symm W
              have hic : isC x (hat B q) = BS := by
                unfold isC
                rw [hBS, ← hu, hv, Hh.out, decide_eq_false hux, Bool.not_false, Bool.true_and]
              cases hBc : BS
              · rw [hBc] at heq hic
                have HNO : Hid (∀ j, j < q + 1 → isC x (hat B j) = false) := Lib.hid fun j hj => by
                  rcases Nat.lt_or_ge j q with h | h
                  · exact HNQ.out j h
                  · obtain rfl : j = q := by omega
                    exact hic
                clear su hv hZ v32 hu hgz hkq hBS hic hux
                go_upto_region 15 with fail
                refine wp_region_held_drew (S := fun W => W.rangeAt bs (os + q * 32) Z ∧ W.rangeAt g15 0 H) (by kernel_rfl) ?_ (fun hHeld => ?_)
                · exact K15.out _ (below_dr (Below.refl _ _))
                refine wpAnyH_take (i := 0) (v := ?_) rfl (by kernel_rfl) (by kernel_rfl) (by kernel_rfl) (fun _ _ _ h => h) (Or.inl ⟨by rfl, ?_⟩) (by assumption) ?_
                rotate_left 1
                · intro w hSw; (try dsimp only at hSw); simp only [List.getElem_toArray, List.getElem_cons_succ, List.getElem_cons_zero]; go_simp; try (with_reducible rfl)
                (try simp only [List.getElem_toArray, List.getElem_cons_succ, List.getElem_cons_zero, Act.put, List.setIfInBounds_toArray, List.set_cons_succ, List.set_cons_zero])
                refine wpAnyH_take (i := 1) (v := ?_) rfl (by kernel_rfl) (by kernel_rfl) (by kernel_rfl) (fun _ _ _ h => h) (Or.inl ⟨by rfl, ?_⟩) (by assumption) ?_
                rotate_left 1
                · intro w hSw; (try dsimp only at hSw); simp only [List.getElem_toArray, List.getElem_cons_succ, List.getElem_cons_zero]; go_simp; try (with_reducible rfl)
                (try simp only [List.getElem_toArray, List.getElem_cons_succ, List.getElem_cons_zero, Act.put, List.setIfInBounds_toArray, List.set_cons_succ, List.set_cons_zero])
                refine wpAnyH_take (i := 2) (v := .bool true) rfl (by kernel_rfl) (by kernel_rfl) (by kernel_rfl) (fun _ _ _ h => h) (Or.inl ⟨by rfl, ?_⟩) (by assumption) ?_
                · intro w hSw; (try dsimp only at hSw); simp only [List.getElem_toArray, List.getElem_cons_succ, List.getElem_cons_zero]; first | (go_simp; done) | (simp [execOp, Act.eval, hsx]; done) | (go_simp; simp [hsx]; done) | (go_simp; exact hsx)
                (try simp only [List.getElem_toArray, List.getElem_cons_succ, List.getElem_cons_zero, Act.put, List.setIfInBounds_toArray, List.set_cons_succ, List.set_cons_zero])
                refine wpAnyH_take (i := 3) (v := ?_) rfl (by kernel_rfl) (by kernel_rfl) (by kernel_rfl) (fun _ _ _ h => h) (Or.inl ⟨by rfl, ?_⟩) (by assumption) ?_
                rotate_left 1
                · intro w hSw; (try dsimp only at hSw); simp only [List.getElem_toArray, List.getElem_cons_succ, List.getElem_cons_zero]; go_simp; try (with_reducible rfl)
                (try simp only [List.getElem_toArray, List.getElem_cons_succ, List.getElem_cons_zero, Act.put, List.setIfInBounds_toArray, List.set_cons_succ, List.set_cons_zero])
                refine wpAnyH_take (i := 4) (v := ?_) rfl (by kernel_rfl) (by kernel_rfl) (by kernel_rfl) (fun _ _ _ h => h) (Or.inl ⟨by rfl, ?_⟩) (by assumption) ?_
                rotate_left 1
                · intro w hSw; (try dsimp only at hSw); simp only [List.getElem_toArray, List.getElem_cons_succ, List.getElem_cons_zero]; go_simp; try (with_reducible rfl)
                (try simp only [List.getElem_toArray, List.getElem_cons_succ, List.getElem_cons_zero, Act.put, List.setIfInBounds_toArray, List.set_cons_succ, List.set_cons_zero])
                refine wpAnyH_take (i := 5) (v := ?_) rfl (by kernel_rfl) (by kernel_rfl) (by kernel_rfl) (fun _ _ _ h => h) (Or.inl ⟨by rfl, ?_⟩) (by assumption) ?_
                rotate_left 1
                · intro w hSw; (try dsimp only at hSw); simp only [List.getElem_toArray, List.getElem_cons_succ, List.getElem_cons_zero]; go_simp; try (with_reducible rfl)
                (try simp only [List.getElem_toArray, List.getElem_cons_succ, List.getElem_cons_zero, Act.put, List.setIfInBounds_toArray, List.set_cons_succ, List.set_cons_zero])
                refine wpAnyH_take (i := 6) (v := ?_) rfl (by kernel_rfl) (by kernel_rfl) (by kernel_rfl) (fun _ _ _ h => h) (Or.inl ⟨by rfl, ?_⟩) (by assumption) ?_
                rotate_left 1
                · intro w hSw; (try dsimp only at hSw); simp only [List.getElem_toArray, List.getElem_cons_succ, List.getElem_cons_zero]; go_simp; try (with_reducible rfl)
                (try simp only [List.getElem_toArray, List.getElem_cons_succ, List.getElem_cons_zero, Act.put, List.setIfInBounds_toArray, List.set_cons_succ, List.set_cons_zero])
                refine wpAnyH_take (i := 7) rfl (by kernel_rfl) (by kernel_rfl) (by kernel_rfl) (fun _ _ _ h => h) (yieldsIf_load_mid (by rfl) _ _ rfl _ _ rfl Z _ (fun w hSw => by (try dsimp only at hSw); go_split_ands; assumption) Tryd.underlying46 rfl IZ.out) (by assumption) ?_
                (try simp only [List.getElem_toArray, List.getElem_cons_succ, List.getElem_cons_zero, Act.put, List.setIfInBounds_toArray, List.set_cons_succ, List.set_cons_zero])
                refine wpAnyH_take (i := 8) rfl (by kernel_rfl) (by kernel_rfl) (by kernel_rfl) (fun _ _ _ h => h) (yieldsIf_load_mid (by rfl) _ _ rfl _ _ rfl H _ (fun w hSw => by (try dsimp only at hSw); go_split_ands; assumption) Tryd.underlying46 rfl IH.out) (by assumption) ?_
                (try simp only [List.getElem_toArray, List.getElem_cons_succ, List.getElem_cons_zero, Act.put, List.setIfInBounds_toArray, List.set_cons_succ, List.set_cons_zero])
                refine wpAnyH_take (i := 9) (v := ?_) rfl (by kernel_rfl) (by kernel_rfl) (by kernel_rfl) (fun _ _ _ h => h) (Or.inl ⟨by rfl, ?_⟩) (by assumption) ?_
                rotate_left 1
                · intro w hSw; (try dsimp only at hSw); simp only [List.getElem_toArray, List.getElem_cons_succ, List.getElem_cons_zero]; go_simp; try (with_reducible rfl)
                (try simp only [List.getElem_toArray, List.getElem_cons_succ, List.getElem_cons_zero, Act.put, List.setIfInBounds_toArray, List.set_cons_succ, List.set_cons_zero])
                refine wpAnyH_take (i := 10) (v := ?_) rfl (by kernel_rfl) (by kernel_rfl) (by kernel_rfl) (fun _ _ _ h => h) (Or.inl ⟨by rfl, ?_⟩) (by assumption) ?_
                rotate_left 1
                · intro w hSw; (try dsimp only at hSw); simp only [List.getElem_toArray, List.getElem_cons_succ, List.getElem_cons_zero]; go_simp; try (with_reducible rfl)
                (try simp only [List.getElem_toArray, List.getElem_cons_succ, List.getElem_cons_zero, Act.put, List.setIfInBounds_toArray, List.set_cons_succ, List.set_cons_zero])
                refine wpAnyH_done (by kernel_rfl) ?_ _
                go_wp2
                go_roundw
                case rel => exact ⟨q + 1, by go_num, by omega, HNO.out, below_dr hbel4⟩
                case measure => simp [intOf]; omega
              · rw [hBc] at heq hic
                have HEX : Hid (ext B C = some (x, u)) := Lib.hid (by
                  rw [HX.out]
                  refine ext_at B C k u (by rw [HLC.out]; exact hltk) HNK.out ?_
                  rw [← HX.out, fnd_isC, hu]
                  exact find_at B q (by rw [HLB.out]; exact hltq) HNQ.out hic)
                clear su hv hZ v32 hu hgz hkq hBS hic hux
                go_upto_region 15 with fail
                refine wp_region_held_drew (S := fun W => W.rangeAt bs (os + q * 32) Z ∧ W.rangeAt g15 0 H) (by kernel_rfl) ?_ (fun hHeld => ?_)
                · exact K15.out _ (below_dr (Below.refl _ _))
                refine wpAnyH_take (i := 0) (v := ?_) rfl (by kernel_rfl) (by kernel_rfl) (by kernel_rfl) (fun _ _ _ h => h) (Or.inl ⟨by rfl, ?_⟩) (by assumption) ?_
                rotate_left 1
                · intro w hSw; (try dsimp only at hSw); simp only [List.getElem_toArray, List.getElem_cons_succ, List.getElem_cons_zero]; go_simp; try (with_reducible rfl)
                (try simp only [List.getElem_toArray, List.getElem_cons_succ, List.getElem_cons_zero, Act.put, List.setIfInBounds_toArray, List.set_cons_succ, List.set_cons_zero])
                refine wpAnyH_take (i := 1) (v := ?_) rfl (by kernel_rfl) (by kernel_rfl) (by kernel_rfl) (fun _ _ _ h => h) (Or.inl ⟨by rfl, ?_⟩) (by assumption) ?_
                rotate_left 1
                · intro w hSw; (try dsimp only at hSw); simp only [List.getElem_toArray, List.getElem_cons_succ, List.getElem_cons_zero]; go_simp; try (with_reducible rfl)
                (try simp only [List.getElem_toArray, List.getElem_cons_succ, List.getElem_cons_zero, Act.put, List.setIfInBounds_toArray, List.set_cons_succ, List.set_cons_zero])
                refine wpAnyH_take (i := 2) (v := .bool true) rfl (by kernel_rfl) (by kernel_rfl) (by kernel_rfl) (fun _ _ _ h => h) (Or.inl ⟨by rfl, ?_⟩) (by assumption) ?_
                · intro w hSw; (try dsimp only at hSw); simp only [List.getElem_toArray, List.getElem_cons_succ, List.getElem_cons_zero]; first | (go_simp; done) | (simp [execOp, Act.eval, hsx]; done) | (go_simp; simp [hsx]; done) | (go_simp; exact hsx)
                (try simp only [List.getElem_toArray, List.getElem_cons_succ, List.getElem_cons_zero, Act.put, List.setIfInBounds_toArray, List.set_cons_succ, List.set_cons_zero])
                refine wpAnyH_take (i := 3) (v := ?_) rfl (by kernel_rfl) (by kernel_rfl) (by kernel_rfl) (fun _ _ _ h => h) (Or.inl ⟨by rfl, ?_⟩) (by assumption) ?_
                rotate_left 1
                · intro w hSw; (try dsimp only at hSw); simp only [List.getElem_toArray, List.getElem_cons_succ, List.getElem_cons_zero]; go_simp; try (with_reducible rfl)
                (try simp only [List.getElem_toArray, List.getElem_cons_succ, List.getElem_cons_zero, Act.put, List.setIfInBounds_toArray, List.set_cons_succ, List.set_cons_zero])
                refine wpAnyH_take (i := 4) (v := ?_) rfl (by kernel_rfl) (by kernel_rfl) (by kernel_rfl) (fun _ _ _ h => h) (Or.inl ⟨by rfl, ?_⟩) (by assumption) ?_
                rotate_left 1
                · intro w hSw; (try dsimp only at hSw); simp only [List.getElem_toArray, List.getElem_cons_succ, List.getElem_cons_zero]; go_simp; try (with_reducible rfl)
                (try simp only [List.getElem_toArray, List.getElem_cons_succ, List.getElem_cons_zero, Act.put, List.setIfInBounds_toArray, List.set_cons_succ, List.set_cons_zero])
                refine wpAnyH_take (i := 5) (v := ?_) rfl (by kernel_rfl) (by kernel_rfl) (by kernel_rfl) (fun _ _ _ h => h) (Or.inl ⟨by rfl, ?_⟩) (by assumption) ?_
                rotate_left 1
                · intro w hSw; (try dsimp only at hSw); simp only [List.getElem_toArray, List.getElem_cons_succ, List.getElem_cons_zero]; go_simp; try (with_reducible rfl)
                (try simp only [List.getElem_toArray, List.getElem_cons_succ, List.getElem_cons_zero, Act.put, List.setIfInBounds_toArray, List.set_cons_succ, List.set_cons_zero])
                refine wpAnyH_take (i := 6) (v := ?_) rfl (by kernel_rfl) (by kernel_rfl) (by kernel_rfl) (fun _ _ _ h => h) (Or.inl ⟨by rfl, ?_⟩) (by assumption) ?_
                rotate_left 1
                · intro w hSw; (try dsimp only at hSw); simp only [List.getElem_toArray, List.getElem_cons_succ, List.getElem_cons_zero]; go_simp; try (with_reducible rfl)
                (try simp only [List.getElem_toArray, List.getElem_cons_succ, List.getElem_cons_zero, Act.put, List.setIfInBounds_toArray, List.set_cons_succ, List.set_cons_zero])
                refine wpAnyH_take (i := 7) rfl (by kernel_rfl) (by kernel_rfl) (by kernel_rfl) (fun _ _ _ h => h) (yieldsIf_load_mid (by rfl) _ _ rfl _ _ rfl Z _ (fun w hSw => by (try dsimp only at hSw); go_split_ands; assumption) Tryd.underlying46 rfl IZ.out) (by assumption) ?_
                (try simp only [List.getElem_toArray, List.getElem_cons_succ, List.getElem_cons_zero, Act.put, List.setIfInBounds_toArray, List.set_cons_succ, List.set_cons_zero])
                refine wpAnyH_take (i := 8) rfl (by kernel_rfl) (by kernel_rfl) (by kernel_rfl) (fun _ _ _ h => h) (yieldsIf_load_mid (by rfl) _ _ rfl _ _ rfl H _ (fun w hSw => by (try dsimp only at hSw); go_split_ands; assumption) Tryd.underlying46 rfl IH.out) (by assumption) ?_
                (try simp only [List.getElem_toArray, List.getElem_cons_succ, List.getElem_cons_zero, Act.put, List.setIfInBounds_toArray, List.set_cons_succ, List.set_cons_zero])
                refine wpAnyH_take (i := 9) (v := ?_) rfl (by kernel_rfl) (by kernel_rfl) (by kernel_rfl) (fun _ _ _ h => h) (Or.inl ⟨by rfl, ?_⟩) (by assumption) ?_
                rotate_left 1
                · intro w hSw; (try dsimp only at hSw); simp only [List.getElem_toArray, List.getElem_cons_succ, List.getElem_cons_zero]; go_simp; try (with_reducible rfl)
                (try simp only [List.getElem_toArray, List.getElem_cons_succ, List.getElem_cons_zero, Act.put, List.setIfInBounds_toArray, List.set_cons_succ, List.set_cons_zero])
                refine wpAnyH_take (i := 10) (v := ?_) rfl (by kernel_rfl) (by kernel_rfl) (by kernel_rfl) (fun _ _ _ h => h) (Or.inl ⟨by rfl, ?_⟩) (by assumption) ?_
                rotate_left 1
                · intro w hSw; (try dsimp only at hSw); simp only [List.getElem_toArray, List.getElem_cons_succ, List.getElem_cons_zero]; go_simp; try (with_reducible rfl)
                (try simp only [List.getElem_toArray, List.getElem_cons_succ, List.getElem_cons_zero, Act.put, List.setIfInBounds_toArray, List.set_cons_succ, List.set_cons_zero])
                refine wpAnyH_done (by kernel_rfl) ?_ _
                go_wp2
                go_ret3
                exact ⟨by rw [HEX.out]; rfl, below_dr (below_more (below_more hBz hB15) hbel4)⟩
          · have hltq' : ¬ (q : Int) < (N : Int) := by omega
            have HNO : Hid (∀ j, j < k + 1 → fnd B (hat C j) = none) := Lib.hid fun j hj => by
              rcases Nat.lt_or_ge j k with h | h
              · exact HNK.out j h
              · obtain rfl : j = k := by omega
                rw [← HX.out, fnd_isC]
                exact find_no B fun p hp => HNQ.out p (by rw [HLB.out] at hp; omega)
            go_wp2
            go_roundw
            case rel => exact ⟨k + 1, by go_num, by omega, HNO.out, hBq⟩
            case measure => simp [intOf]; omega
        · have hltk' : ¬ (k : Int) < (M : Int) := by omega
          have HEX : Hid (ext B C = none) := Lib.hid (ext_no B C fun j hj => HNK.out j (by rw [HLC.out] at hj; omega))
          go_wp2
          go_ret3
          exact ⟨by rw [HEX.out]; rfl, below_more hBz hbel3⟩
end Go.Proofs.YtpoinhjkdgcnaaaDoor
