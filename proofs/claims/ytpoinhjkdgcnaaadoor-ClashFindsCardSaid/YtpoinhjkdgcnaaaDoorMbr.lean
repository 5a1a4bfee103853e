/- Merged texts: ClbG ClbH. -/
import Derived.Test.YtpoinhjkdgcnaaaDoorMbo
import Derived.Test.YtpoinhjkdgcnaaaDoorMbp
import Derived.Test.YtpoinhjkdgcnaaaDoorMbq
import Derived.Test.YtpoinhjkdgcnaaaDoorMbj
import Derived.Test.YtpoinhjkdgcnaaaDoorMbk
/- The contract of package clash's Extract. -/
namespace Go.Proofs.YtpoinhjkdgcnaaaDoor
open Go.RowKit
set_option linter.unusedVariables false
set_option linter.unusedSimpArgs false

set_option maxRecDepth 100000 in
theorem fnd_filter (A : List (List UInt8)) (c : List UInt8) : fnd A c = (A.filter fun t => decide (ds t = ds c)).find? fun t => !decide (t = c) := by
  unfold fnd
  rw [List.find?_filter]
  congr 1
  funext t
  by_cases h1 : ds t = ds c <;> by_cases h2 : t = c <;> simp [h1, h2]
set_option maxRecDepth 100000 in
theorem ext_nil (A : List (List UInt8)) : ext A [] = none := rfl
set_option maxRecDepth 100000 in
theorem ext_cons_none {A : List (List UInt8)} {c : List UInt8} {C : List (List UInt8)} (h : fnd A c = none) : ext A (c :: C) = ext A C := by
  unfold ext
  rw [List.findSome?_cons, h]
  rfl
set_option maxRecDepth 100000 in
theorem ext_cons_some {A : List (List UInt8)} {c t : List UInt8} {C : List (List UInt8)} (h : fnd A c = some t) : ext A (c :: C) = some (c, t) := by
  unfold ext
  rw [List.findSome?_cons, h]
  rfl
set_option maxRecDepth 100000 in
theorem drop_hat (T : List (List UInt8)) (t : Nat) (h : t < T.length) : T.drop t = hat T t :: T.drop (t + 1) := by
  rw [List.drop_eq_getElem_cons h]
  congr 1
  unfold hat
  rw [List.getD_eq_getElem?_getD, List.getElem?_eq_getElem h]
  rfl
set_option maxRecDepth 100000 in
theorem fl_le (A : List (List UInt8)) (p : List UInt8 → Bool) (h : A.length ≤ 1000) : (A.filter p).length ≤ 1000 := Nat.le_trans (List.length_filter_le p A) h
set_option maxRecDepth 100000 in
set_option maxHeartbeats 4000000 in
theorem gextract_calls (AL AT AP : Option Addr) (n cL k cT m cP : Nat) (c i : Int) (T : List (List UInt8)) (x : List UInt8) (P : List (List UInt8)) (w : World) (hrL : RdM w AL n T) (hrT : Rd w AT k x) (hrP : RdH w AP m P) (hT : Tab w) (hn : n ≤ 64) (hk : k ≤ cT) (hcT : cT ≤ maxLen) (hx : x.length ≤ 100000) (hT2 : ∀ t ∈ T, t.length ≤ 100000) (hP32 : ∀ p ∈ P, p.length = 32) (hm : m ≤ 1000) :
    Calls Tryd.prog 17 #[.slice AL n cL, .slice AT k cT, .agg #[.int .i64 c, .int .i64 i, .slice AP m cP]] w fun e w' => ∃ A1 n1 c1 A2 n2 c2, e = .returned (.tuple #[.slice A1 n1 c1, .slice A2 n2 c2, .bool (ext (txs T) (claim c i P x)).isSome]) ∧ (Rd w' A1 n1 (exA (ext (txs T) (claim c i P x))) ∧ n1 ≤ c1 ∧ c1 ≤ maxLen) ∧ (Rd w' A2 n2 (exB (ext (txs T) (claim c i P x))) ∧ n2 ≤ c2 ∧ c2 ≤ maxLen) ∧ Below w.heap.size w w' := by
  have hln := hrL.len
  have hlp := hrP.len
  obtain ⟨TX, hTX⟩ : ∃ z, z = txs T := ⟨_, rfl⟩
  obtain ⟨CL, hCL⟩ : ∃ z, z = claim c i P x := ⟨_, rfl⟩
  rw [← hTX, ← hCL]
  have hTl : TX.length ≤ 1000 := by
    have h6 := depth_le6 n hn
    have := txsK_len T (by omega) (depth T.length)
    rw [txsK_all, hln, ← hTX] at this
    omega
  have hCn : CL.length ≤ 1001 := by
    rw [hCL]
    unfold claim
    split
    · simp
    · rw [clm_len]; omega
  have HTS : Hid (∀ t ∈ TX, t.length ≤ 100000) := Lib.hid (by rw [hTX]; exact txs_small T hT2)
  have HCS : Hid (∀ j, j < CL.length → (hat CL j).length ≤ 100000) := Lib.hid (by rw [hCL]; exact claim_small c i P x hP32 hx)
  have HT := Lib.hid hT
  have CX : Hid (∀ W, Below w.heap.size w W → Calls Tryd.prog 11 #[.slice AL n cL] W fun e w' => ∃ A' c', e = .returned (.slice A' TX.length c') ∧ RdM w' A' TX.length TX ∧ Below W.heap.size W w') := Lib.hid fun W h => by
    rw [hTX]
    refine (gtexts_calls AL n cL T W (hrL.below h) (hT.all h) hn hT2).mono ?_
    rintro e w' ⟨A', c', rfl, h1, h2⟩
    exact ⟨A', c', rfl, h1.rd, h2⟩
  have CB : Hid (∀ W A' c', RdM W A' TX.length TX → Below w.heap.size w W → Calls Tryd.prog 34 #[.slice A' TX.length c'] W fun e w' => ∃ b D, e = .returned (.map (some b)) ∧ KM W b D w' TX) := Lib.hid fun W A' c' h1 h2 => gbyHash_calls A' _ c' TX W h1 (hT.all h2) hTl HTS.out
  have CC : Hid (∀ W, Below w.heap.size w W → Calls Tryd.prog 14 #[.slice AT k cT, .agg #[.int .i64 c, .int .i64 i, .slice AP m cP]] W fun e w' => ∃ A' c', e = .returned (.slice A' CL.length c') ∧ RdM w' A' CL.length CL ∧ Below W.heap.size W w') := Lib.hid fun W h => by
    rw [hCL]
    refine (gclaim_calls c i AP m cP P AT k cT x W (hrP.below h) (hrT.below h) hk hcT (hT.all h) hx).mono ?_
    rintro e w' ⟨A', c', rfl, h1, h2⟩
    exact ⟨A', c', rfl, h1.rd, h2⟩
  obtain ⟨nC, hnC⟩ : ∃ z, z = CL.length := ⟨_, rfl⟩
  obtain ⟨nT, hnT⟩ : ∃ z, z = TX.length := ⟨_, rfl⟩
  rw [← hnC] at CC HCS hCn
  rw [← hnT] at CX CB hTl
  have HNC := Lib.hid hnC
  have HNT := Lib.hid hnT
  clear hrL hrT hrP hT hT2 hP32 hTX hCL hln hlp hx hnC hnT hk hcT hm
  obtain ⟨w0, hw0⟩ : ∃ z, z = w.alloc (.cells #[.int .i64 c, .int .i64 i, .slice AP m cP] 26) := ⟨_, rfl⟩
  have hB0 : Below w.heap.size w w0 := by rw [hw0]; exact below_al (Below.refl _ _) _
  have hk0 : Blk w0 w.heap.size [.int .i64 c, .int .i64 i, .slice AP m cP] 26 := by rw [hw0]; exact Blk.new w _ _
  have hw1 : w.alloc (.cells #[.int .i64 c, .int .i64 i, .slice AP m cP] 26) = w0 := hw0.symm
  clear hw0
  go_enter Tryd.func17, Tryd.ntmps17
  go_upto_region 1 with fail
  try rw [hw1]
  clear hw1
  go_upto_region 2 with (first
    | (go_at_call 11; refine (CX.out _ hB0).mono ?_; rintro e' x1 ⟨A5, c5, rfl, hX5, hB1⟩; have hb0 := hk0.up hB1; have hB1 := below_more hB0 hB1)
    | (go_at_call 34; refine (CB.out _ A5 c5 hX5 hB1).mono ?_; rintro e' x2 ⟨b, D, rfl, hK2⟩; have hb0 := hb0.up hK2.2.2.2; have hB2 := below_more hB1 hK2.2.2.2))
  go_upto_region 3 with (first
    | ((with_reducible refine at_load 26 (.tmp 5) ?_); refine wpList_load_mid rfl 26 (.tmp 5) rfl (w.heap.size) (0) (by first | rfl | (simp [Act.eval]; done)) [.int .i64 c, .int .i64 i, .slice AP m cP] _ (Blk.range hb0) Tryd.underlying26 rfl (by kernel_rfl) ?_)
    | (go_at_call 14; refine (CC.out _ hB2).mono ?_; rintro e' x3 ⟨A7, c7, rfl, hC7, hB7⟩; have hK := hK2.up hB7; have hB3 := below_more hB2 hB7))
  have HK3 := Lib.hid hK
  have HC3 := Lib.hid hC7
  clear hb0 hk0 hX5 hK2 hB7 hK hC7 hB0 hB1 hB2 CX CB CC
  go_loopw [21] (fun kv wr => ∃ j : Nat, kv = .int .i64 (j : Int) ∧ j ≤ nC ∧ ext TX CL = ext TX (CL.drop j) ∧ Below x3.heap.size x3 wr) (fun kv _ => nC - (intOf kv).toNat)
  case atStart => exact ⟨0, by first | rfl | go_num, by omega, rfl, Below.refl _ _⟩
  case round =>
    obtain ⟨j, rfl, hjn, hext, hb3⟩ := hrel
    obtain ⟨wo, hwo⟩ : ∃ z, z = wr := ⟨_, rfl⟩
    rw [← hwo] at hb3 ⊢
    clear hwo
    have hBw := below_more hB3 hb3
    by_cases hlt : j < nC
    · have hlt' : (j : Int) < (nC : Int) := by omega
      obtain ⟨bb, off, A8, m8, c8, hl, rfl, sc0, h1, h2, hrd⟩ := (HC3.out).at_ hlt
      have sc := (hb3.cell (p := ⟨bb, off + j, none⟩) (World.block_lt_of_cell? x3 ⟨bb, off + j, none⟩ sc0)).trans sc0
      have hle : (hat CL j).length ≤ 100000 := HCS.out j hlt
      have hdr := drop_hat CL j (by rw [← HNC.out]; exact hlt)
      obtain ⟨y, hy⟩ : ∃ z, z = hat CL j := ⟨_, rfl⟩
      have hxx : CL[j] = y := by rw [hy]; unfold hat; rw [List.getD_eq_getElem?_getD, List.getElem?_eq_getElem hl]; rfl
      rw [hxx] at hrd
      rw [← hy] at hle hdr
      rw [hdr] at hext
      have HEX := Lib.hid hext
      obtain ⟨Y, hY⟩ : ∃ V, V = (ds y).map B8 := ⟨_, rfl⟩
      have HKY : Hid (HK (ds y) = .agg Y.toArray) := Lib.hid (by rw [hY]; rfl)
      have CT : Hid (∀ (W : World) (g : Nat), Blk W g [.slice A8 m8 c8] 23 → Below x3.heap.size x3 W → Calls Tryd.prog 19 #[.slice (some ⟨g, 0, none⟩) 1 1] W (Ret W (.agg Y.toArray))) := Lib.hid fun W g k1 k2 => by
        rw [hY]
        exact twice_blk W g A8 m8 c8 y k1 (hrd.below k2) h1 h2 hle (HT.out.all (below_more hB3 k2))
      have HRY := Lib.hid hrd
      obtain ⟨F, hF⟩ : ∃ z, z = TX.filter fun t => decide (ds t = ds y) := ⟨_, rfl⟩
      have HFN : Hid (fnd TX y = F.find? fun t => !decide (t = y)) := Lib.hid (by rw [hF]; exact fnd_filter TX y)
      have hFl : F.length ≤ 1000 := by rw [hF]; exact fl_le _ _ (by rw [← HNT.out]; exact hTl)
      have HF := Lib.hid hF.symm
      have hbx := hb3
      clear hext hdr hxx hy hY hF sc0 hrd
      go_upto_region 6 with (first
        | ((with_reducible refine at_bsP 22 1 #[(0, .tmp 26)] ?_); refine wpList_bsV rfl (.tmp 26) rfl A8 m8 c8 (by first | rfl | (simp [Act.eval]; done)) ?_; intro g1 w1 hb1 hg1 hl1 hB1; have hbx := below_more hbx hB1)
        | (go_at_call 19; refine (CT.out _ g1 hb1 hbx).mono ?_; rintro e' w2 ⟨rfl, hB2⟩; have hbx := below_more hbx hB2)
        | ((with_reducible refine at_mapL 65 (.tmp 25) (.tmp 28) false ?_); refine wpList_kmL rfl (.tmp 25) (.tmp 28) rfl HK3.out hbx (ds y) (ds_len y) (by first | rfl | (simp [Act.eval]; done)) (by rw [HKY.out]; first | rfl | (simp [Act.eval]; done)) ?_; rw [HF.out]; intro A9 n9 c9 hF9 hc1 hc2))
      have hFn := hF9.len
      have HF9 := Lib.hid hF9
      clear hF9 hb1 hB1 hB2 sc
      go_loopw [31] (fun kv wr => ∃ q : Nat, kv = .int .i64 (q : Int) ∧ q ≤ n9 ∧ fnd TX y = (F.drop q).find? (fun t => !decide (t = y)) ∧ Below w2.heap.size w2 wr) (fun kv _ => n9 - (intOf kv).toNat)
      case atStart => exact ⟨0, by first | rfl | go_num, by omega, by rw [List.drop_zero]; exact HFN.out, Below.refl _ _⟩
      case round =>
        obtain ⟨q, rfl, hqn, hfn, hb4⟩ := hrel
        obtain ⟨wp, hwp⟩ : ∃ z, z = wr := ⟨_, rfl⟩
        rw [← hwp] at hb4 ⊢
        clear hwp
        have hbx4 := below_more hbx hb4
        by_cases hlt2 : q < n9
        · have hlt3 : (q : Int) < (n9 : Int) := by omega
          obtain ⟨b5, off5, A6, m6, c6, hl6, rfl, sc5, h3, h4, hrd6⟩ := ((HF9.out).below hb4).at_ hlt2
          have hdr := drop_hat F q (by omega)
          obtain ⟨u, hu⟩ : ∃ z, z = hat F q := ⟨_, rfl⟩
          have hxx : F[q] = u := by rw [hu]; unfold hat; rw [List.getD_eq_getElem?_getD, List.getElem?_eq_getElem hl6]; rfl
          rw [hxx] at hrd6
          rw [← hu] at hdr
          rw [hdr] at hfn
          have hrY := HRY.out.below hbx4
          by_cases hq : y = u
          · have CQ := Lib.hid (fun (W : World) (h : Below wp.heap.size wp W) => gequal_calls A8 m8 c8 y A6 m6 c6 u true W (hrY.below h) (hrd6.below h) (decide_eq_true hq))
            have HQ : Hid (fnd TX y = (F.drop (q + 1)).find? fun t => !decide (t = y)) := Lib.hid (by rw [hfn, List.find?_cons, decide_eq_true hq.symm]; rfl)
            clear hfn hdr hxx hu hrY hrd6
            go_wp2_with (first
              | (go_at_call 35; refine (CQ.out _ (Below.refl _ _)).mono ?_; rintro e' w8 ⟨rfl, hB8⟩))
            go_roundw
            case rel => exact ⟨q + 1, by go_num, by omega, HQ.out, below_more hb4 hB8⟩
            case measure => simp [intOf]; omega
          · have CQ := Lib.hid (fun (W : World) (h : Below wp.heap.size wp W) => gequal_calls A8 m8 c8 y A6 m6 c6 u false W (hrY.below h) (hrd6.below h) (decide_eq_false hq))
            have HQ : Hid (ext TX CL = some (y, u)) := Lib.hid (by
              rw [HEX.out]
              refine ext_cons_some ?_
              rw [hfn, List.find?_cons, decide_eq_false (fun e => hq e.symm)]
              rfl)
            have HR6 := Lib.hid hrd6
            have HRY2 := Lib.hid hrY
            clear hfn hdr hxx hu hrY hrd6
            go_wp2_with (first
              | (go_at_call 35; refine (CQ.out _ (Below.refl _ _)).mono ?_; rintro e' w8 ⟨rfl, hB8⟩))
            go_ret3
            rw [HQ.out]
            exact ⟨A8, m8, c8, A6, m6, c6, rfl, ⟨HRY2.out.below hB8, h1, h2⟩, ⟨HR6.out.below hB8, h3, h4⟩, below_more (below_more hB3 hbx4) hB8⟩
        · have hlt3 : ¬ (q : Int) < (n9 : Int) := by omega
          have HN : Hid (ext TX CL = ext TX (CL.drop (j + 1))) := Lib.hid (by
            rw [HEX.out]
            refine ext_cons_none ?_
            rw [hfn, List.drop_of_length_le (by omega)]
            rfl)
          clear hfn
          go_wp2
          go_roundw
          case rel => exact ⟨j + 1, by go_num, by omega, HN.out, hbx4⟩
          case measure => simp [intOf]; omega
    · have hlt' : ¬ (j : Int) < (nC : Int) := by omega
      have HE : Hid (ext TX CL = none) := Lib.hid (by rw [hext, List.drop_of_length_le (by rw [← HNC.out]; omega)]; rfl)
      clear hext
      go_wp2
      go_ret3
      rw [HE.out]
      exact ⟨none, 0, 0, none, 0, 0, rfl, ⟨Rd.nil _ _, Nat.le_refl _, by unfold maxLen; omega⟩, ⟨Rd.nil _ _, Nat.le_refl _, by unfold maxLen; omega⟩, hBw⟩
end Go.Proofs.YtpoinhjkdgcnaaaDoor

/- What package clash answers, in the words of layer 10's laws; and awake. -/
namespace Go.Proofs.YtpoinhjkdgcnaaaDoor
open Go.RowKit
set_option linter.unusedVariables false
set_option linter.unusedSimpArgs false

set_option maxRecDepth 100000 in
theorem texts10 : ∀ (W : World) (A : Option Addr) (n c : Nat) (T : List (List UInt8)), RdM W A n T → Tab W → n ≤ 9 → n ≤ c → c ≤ maxLen → (∀ t ∈ T, t.length ≤ 200) → Calls Tryd.prog 11 #[.slice A n c] W fun e w' => ∃ A' c', e = .returned (.slice A' (txs T).length c') ∧ RdM w' A' (txs T).length (txs T) ∧ Below W.heap.size W w' := fun W A n c T h1 h2 h3 _ _ h6 => by
  refine (gtexts_calls A n c T W h1 h2 (by omega) (fun t ht => Nat.le_trans (h6 t ht) (by omega))).mono ?_
  rintro e w' ⟨A', c', rfl, k1, k2⟩
  exact ⟨A', c', rfl, k1.rd, k2⟩
set_option maxRecDepth 100000 in
theorem claim10 : ∀ (W : World) (AT AP : Option Addr) (k cT m cP : Nat) (c i : Int) (x : List UInt8) (P : List (List UInt8)), Rd W AT k x → RdH W AP m P → Tab W → k ≤ cT → cT ≤ maxLen → m ≤ cP → cP ≤ maxLen → k ≤ 200 → m ≤ 20 → Calls Tryd.prog 14 #[.slice AT k cT, .agg #[.int .i64 c, .int .i64 i, .slice AP m cP]] W fun e w' => ∃ A' c', e = .returned (.slice A' (claim c i P x).length c') ∧ RdM w' A' (claim c i P x).length (claim c i P x) ∧ Below W.heap.size W w' := fun W AT AP k cT m cP c i x P h1 h2 h3 h4 h5 _ _ h8 _ => by
  have hk := h1.1
  refine (gclaim_calls c i AP m cP P AT k cT x W h2 h1 h4 h5 h3 (by omega)).mono ?_
  rintro e w' ⟨A', c', rfl, k1, k2⟩
  exact ⟨A', c', rfl, k1.rd, k2⟩
set_option maxRecDepth 100000 in
theorem extract10 : ∀ (W : World) (AL AT AP : Option Addr) (n cL k cT m cP : Nat) (c i : Int) (T : List (List UInt8)) (x : List UInt8) (P : List (List UInt8)), RdM W AL n T → Rd W AT k x → RdH W AP m P → Tab W → n ≤ 9 → n ≤ cL → cL ≤ maxLen → k ≤ cT → cT ≤ maxLen → m ≤ cP → cP ≤ maxLen → k ≤ 200 → m ≤ 20 → (∀ t ∈ T, t.length ≤ 200) → Calls Tryd.prog 17 #[.slice AL n cL, .slice AT k cT, .agg #[.int .i64 c, .int .i64 i, .slice AP m cP]] W fun e w' => ∃ A1 n1 c1 A2 n2 c2, e = .returned (.tuple #[.slice A1 n1 c1, .slice A2 n2 c2, .bool (ext (txs T) (claim c i P x)).isSome]) ∧ (Rd w' A1 n1 (exA (ext (txs T) (claim c i P x))) ∧ n1 ≤ c1 ∧ c1 ≤ maxLen) ∧ (Rd w' A2 n2 (exB (ext (txs T) (claim c i P x))) ∧ n2 ≤ c2 ∧ c2 ≤ maxLen) ∧ Below W.heap.size W w' := fun W AL AT AP n cL k cT m cP c i T x P h1 h2 h3 h4 h5 _ _ h8 h9 _ _ h12 h13 h14 => by
  have hk := h2.1
  exact gextract_calls AL AT AP n cL k cT m cP c i T x P W h1 h2 h3 h4 (by omega) h8 h9 (by omega) (fun t ht => Nat.le_trans (h14 t ht) (by omega)) h3.all (by omega)
set_option maxRecDepth 100000 in
theorem awake10 (W : World) (hT : Tab W) : Calls Tryd.prog 9 #[] W (Ret W (.bool true)) := awake10_calls W hT texts10 claim10 extract10
end Go.Proofs.YtpoinhjkdgcnaaaDoor
