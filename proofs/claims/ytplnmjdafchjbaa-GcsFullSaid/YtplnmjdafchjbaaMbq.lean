/- Merged texts: GcsU. -/
import Derived.Test.YtplnmjdafchjbaaMbo
import Derived.Test.YtplnmjdafchjbaaMbm
import Derived.Deep.RegionHeld3
import Derived.Deep.CutRange
import Derived.Deep.DeepCutAuto
/- The walk of GcsFull, over what package gcs is to answer. -/
namespace Go.Proofs.Ytplnmjdafchjbaa
open Go.RowKit
set_option linter.unusedVariables false
set_option linter.unusedSimpArgs false
set_option maxRecDepth 100000 in
theorem and7 (n : Int) : ∃ z : Nat, z ≤ 7 ∧ bits .and .i64 n 7 = (z : Int) := by
  refine ⟨((BitVec.ofInt 64 n).toNat &&& 7), Nat.and_le_right, ?_⟩
  show IntKind.i64.wrap ((BitVec.ofInt 64 n &&& BitVec.ofInt 64 7).toNat : Int) = _
  have e2 : (BitVec.ofInt 64 7).toNat = 7 := by decide
  rw [BitVec.toNat_and, e2, IntKind.wrap_i64]
  have : (BitVec.ofInt 64 n).toNat &&& 7 ≤ 7 := Nat.and_le_right
  omega
/-- The item of a number. -/
def itm (j : Nat) : List UInt8 := [UInt8.ofNat j, UInt8.ofNat (j / 256)]
def items (n : Nat) : List (List UInt8) := (List.range n).map itm
set_option maxRecDepth 100000 in
theorem items_len (n : Nat) : (items n).length = n := by simp [items]
set_option maxRecDepth 100000 in
theorem items_at (n j : Nat) (h : j < (items n).length) : (items n)[j] = itm j := by simp [items]
set_option maxRecDepth 100000 in
theorem itm_inj {i j : Nat} (hi : i < 65536) (hj : j < 65536) (h : itm i = itm j) : i = j := by
  unfold itm at h
  injection h with h1 h
  injection h with h2 _
  have e1 := congrArg UInt8.toNat h1
  have e2 := congrArg UInt8.toNat h2
  rw [UInt8.toNat_ofNat', UInt8.toNat_ofNat'] at e1 e2
  omega
set_option maxRecDepth 100000 in
theorem items_nodup (n : Nat) (h : n ≤ 65536) : (items n).Nodup := by
  unfold items
  unfold List.Nodup
  rw [List.pairwise_map]
  refine List.Pairwise.imp_of_mem (fun {a b} ha hb hab e => ?_) List.nodup_range
  rw [List.mem_range] at ha hb
  exact hab (itm_inj (by omega) (by omega) e)
set_option maxRecDepth 100000 in
theorem once_same (L : List (List UInt8)) (h : L.Nodup) : (once L).length = L.length :=
  ((List.perm_ext_iff_of_nodup (once_nodup L) h).2 fun x => once_mem L x).length_eq
set_option maxRecDepth 100000 in
theorem once_items (n : Nat) (h : n ≤ 65536) : (once (items n)).length = n := by rw [once_same _ (items_nodup n h), items_len]
set_option maxRecDepth 100000 in
theorem once_more (n : Nat) (h : n ≤ 65536) (h0 : 0 < n) : (once (items n ++ [itm 0])).length = n := by
  rw [(once_perm (items n ++ [itm 0]) (items n) fun x => ?_).length_eq, once_items n h]
  rw [List.mem_append, List.mem_singleton]
  constructor
  · rintro (k | rfl)
    · exact k
    · exact List.mem_map.2 ⟨0, List.mem_range.2 h0, rfl⟩
  · exact .inl
/-- Values that are the items' blocks. -/
def BV (w : World) (V : List Value) (i : Nat) : Prop := V.length = i ∧ ∀ j (h : j < V.length), ∃ g, V[j] = .slice (some ⟨g, 0, none⟩) 2 2 ∧ Blk w g [.int .u8 ((j % 256 : Nat) : Int), .int .u8 ((j / 256 : Nat) : Int)] 5
set_option maxRecDepth 100000 in
theorem BV.to {w W : World} {V : List Value} {i : Nat} (h : BV w V i) (hb : ∀ g cs, Blk w g cs 5 → Blk W g cs 5) : BV W V i :=
  ⟨h.1, fun j hj => by
    obtain ⟨g, e, k⟩ := h.2 j hj
    exact ⟨g, e, hb _ _ k⟩⟩
set_option maxRecDepth 100000 in
theorem BV.more {w : World} {V : List Value} {i g : Nat} (h : BV w V i) (hb : Blk w g [.int .u8 ((i % 256 : Nat) : Int), .int .u8 ((i / 256 : Nat) : Int)] 5) : BV w (V ++ [.slice (some ⟨g, 0, none⟩) 2 2]) (i + 1) := by
  have e := h.1
  refine ⟨by simp [e], fun j hj => ?_⟩
  rw [List.length_append] at hj
  rcases Nat.lt_or_ge j V.length with k | k
  · rw [List.getElem_append_left k]
    exact h.2 j k
  · have e2 : j = i := by simp at hj; omega
    subst e2
    refine ⟨g, ?_, hb⟩
    rw [List.getElem_append_right k]
    simp [e]
set_option maxRecDepth 100000 in
theorem blk_itm {w : World} {g j : Nat} (hj : j < 65536) (h : Blk w g [.int .u8 ((j % 256 : Nat) : Int), .int .u8 ((j / 256 : Nat) : Int)] 5) : Rd w (some ⟨g, 0, none⟩) 2 (itm j) :=
  h.rd 0 2 (itm j) rfl (fun i hi => by
    have h0 : (UInt8.ofNat j).toNat = j % 256 := by rw [UInt8.toNat_ofNat']
    have h1 : (UInt8.ofNat (j / 256)).toNat = j / 256 := by rw [UInt8.toNat_ofNat']; omega
    rcases i with _ | _ | i
    · show some _ = some _
      exact congrArg some (by rw [← h0]; rfl)
    · show some _ = some _
      exact congrArg some (by rw [← h1]; rfl)
    · exact absurd hi (by simp [itm]))
set_option maxRecDepth 100000 in
theorem BV.rdV {w : World} {V : List Value} {i : Nat} (h : BV w V i) (hi : i ≤ 65536) : RdV w V (items i) :=
  ⟨by rw [h.1, items_len], fun j h1 h2 => by
    obtain ⟨g, e, k⟩ := h.2 j h1
    refine ⟨_, 2, 2, e, Nat.le_refl _, by unfold maxLen; omega, ?_⟩
    rw [items_at]
    exact blk_itm (by have := h.1; omega) k⟩
set_option maxRecDepth 100000 in
theorem Blk.appR {w W : World} {b g n c : Nat} {t e : TypeId} {cs : List Value} {A : Option Addr} {V : List Value} (k : Blk w g cs t) (h : OwnR w b e A n c V) (hne : e ≠ t) (hf : Frm (fun i => blkOf A = some i) w W) : Blk W g cs t :=
  hf.blk k fun hP => by
    obtain ⟨_, _, cs', d, hr⟩ := h.blk g hP
    have h2 : w.heap[g]? = some (.cells cs.toArray t (0, 0)) := k
    rw [hr] at h2
    injection h2 with h2
    injection h2 with _ h3
    exact hne h3
set_option maxRecDepth 100000 in
theorem itm_len (j : Nat) : (itm j).length = 2 := rfl
set_option maxRecDepth 100000 in
theorem items_all (n : Nat) : ∀ t ∈ items n, t.length ≤ 1000 := fun t ht => by
  obtain ⟨j, _, rfl⟩ := List.mem_map.1 ht
  rw [itm_len]
  omega
set_option maxRecDepth 100000 in
set_option maxHeartbeats 8000000 in
theorem gcsFull_walk (K : GcsOk) (n : Int) (tw : Bool) (w : World) : Calls Try.prog 8 #[.int .i64 n, .bool tw] w (Ret w (.bool true)) := by
  obtain ⟨z, hz, hand⟩ := and7 n
  obtain ⟨M, hM⟩ : ∃ x, x = 996 + z := ⟨_, rfl⟩
  have hadd : (996 : Int) + (z : Int) = (M : Int) := by omega
  have hM1 : 996 ≤ M ∧ M ≤ 1003 := by omega
  have CA : Hid (∀ W, Calls Try.prog 10 #[] W (Ret W (.bool true))) := Lib.hid fun W => awake13_calls K W
  have CB : Hid (∀ W A' n' c' L, RdM W A' n' L → n' ≤ c' → c' ≤ maxLen → n' ≤ 2000 → (∀ t ∈ L, t.length ≤ 1000) → (once L).length = M → 1000 < M → Calls Try.prog 11 #[.agg #[.int .u64 3, .int .u64 4], .slice A' n' c'] W fun e w' => ∃ A2 c2, e = .returned (.tuple #[.slice A2 0 c2, .int .i64 4]) ∧ Below W.heap.size W w') := Lib.hid fun W A' n' c' L h1 h2 h3 h4 h5 h6 h7 =>
    K.buildB W 3 4 A' n' c' L (by omega) (by omega) h1 h2 h3 h4 h5 (by omega)
  have CG : Hid (∀ W A' n' c' L, RdM W A' n' L → n' ≤ c' → c' ≤ maxLen → n' ≤ 2000 → (∀ t ∈ L, t.length ≤ 1000) → (once L).length = M → M ≤ 1000 → Calls Try.prog 11 #[.agg #[.int .u64 3, .int .u64 4], .slice A' n' c'] W fun e w' => ∃ A2 n2 c2 b, e = .returned (.tuple #[.slice A2 n2 c2, .int .i64 0]) ∧ Rd w' A2 n2 b ∧ n2 ≤ c2 ∧ c2 ≤ maxLen ∧ b.length ≤ 10000 ∧ (vals b).1.length = M ∧ (vals b).2 = 0 ∧ Below W.heap.size W w') := Lib.hid fun W A' n' c' L h1 h2 h3 h4 h5 h6 h7 => by
    refine (K.buildR W 3 4 A' n' c' L (by omega) (by omega) h1 h2 h3 h4 h5 (by omega)).mono ?_
    rintro e w' ⟨A2, n2, c2, k1, k2, k3, k4, k5⟩
    have hv := vals_filt 3 4 L (by omega) (by omega) (by omega)
    exact ⟨A2, n2, c2, _, k1, k2, k3, k4, filt_len 3 4 L (by omega) (by omega) (by omega), by rw [hv]; show (gnums 3 4 L).length = M; rw [gnums_len, h6], by rw [hv], k5⟩
  have CV : Hid (∀ W A' n' c' b, Rd W A' n' b → n' ≤ c' → c' ≤ maxLen → b.length ≤ 10000 → (vals b).1.length = M → (vals b).2 = 0 → Calls Try.prog 14 #[.slice A' n' c'] W fun e w' => ∃ A2 c2, e = .returned (.tuple #[.slice A2 M c2, .int .i64 0]) ∧ Below W.heap.size W w') := Lib.hid fun W A' n' c' b h1 h2 h3 h4 h5 h6 => by
    have h := K.values W A' n' c' b h1 h2 h3 (by have := h1.len; omega)
    rw [h5, h6] at h
    refine h.mono ?_
    rintro e w' ⟨A2, c2, k1, _, k3⟩
    exact ⟨A2, c2, k1, k3⟩
  clear K hz hM
  go_enter Try.func8, Try.ntmps8
  go_wp2
  go_loopw [15, 5] (fun cv ov wr => ∃ (i : Nat) (A1 : Option Addr) (c1 : Nat) (V : List Value), i ≤ M ∧ cv = .int .i64 (i : Int) ∧ ov = .slice A1 i c1 ∧ OwnR wr w.heap.size 27 A1 i c1 V ∧ BV wr V i ∧ Below w.heap.size w wr) (fun cv _ _ => M - (intOf cv).toNat)
  case atStart => exact ⟨0, none, 0, [], Nat.zero_le _, rfl, rfl, OwnR.nil _ _ _, ⟨rfl, fun j h => absurd h (by simp)⟩, Below.refl _ _⟩
  case round =>
    obtain ⟨i, A1, c1, V, hin, rfl, rfl, hown, hV, hbel⟩ := hrel
    by_cases hlt : i < M
    · have hlt' : (i : Int) < (M : Int) := by omega
      obtain ⟨a, ha⟩ : ∃ x, x = i % 256 := ⟨_, rfl⟩
      obtain ⟨b, hb⟩ : ∃ x, x = i / 256 := ⟨_, rfl⟩
      have q1 : IntKind.u8.wrap (i : Int) = (a : Int) := by rw [IntKind.wrap_u8]; omega
      have q2 : (i : Int) / 256 = (b : Int) := by omega
      have q3 : (i : Int) / 2 ^ 8 = (b : Int) := by omega
      have q4 : IntKind.u8.wrap (b : Int) = (b : Int) := by rw [IntKind.wrap_u8]; omega
      have hbk : Blk (wr.alloc (.cells #[.int .u8 (a : Int), .int .u8 (b : Int)] 5)) wr.heap.size [.int .u8 ((i % 256 : Nat) : Int), .int .u8 ((i / 256 : Nat) : Int)] 5 := by rw [← ha, ← hb]; exact Blk.new wr _ _
      have hba : Below wr.heap.size wr (wr.alloc (.cells #[.int .u8 (a : Int), .int .u8 (b : Int)] 5)) := (Below.refl _ wr).alloc (Nat.le_refl _) _
      obtain ⟨W0, hW0⟩ : ∃ x, x = wr.alloc (.cells #[.int .u8 (a : Int), .int .u8 (b : Int)] 5) := ⟨_, rfl⟩
      rw [← hW0] at hbk hba
      have HO := Lib.hid (hown.up hba)
      have HVV := Lib.hid ((hV.to (fun g cs k => k.below hba k.lt)).more hbk)
      have HB := Lib.hid (below_more hbel hba)
      have HW0 := Lib.hid hW0
      clear hown hV hbel hbk hba ha hb hW0
      go_wp2_with (first
        | ((with_reducible refine at_bsX 24 1 #[(0, .tmp 24)] ?_); rw [← HW0.out]; refine wpList_bsR rfl 24 27 (.slice none 0 0) (.slice (some ⟨wr.heap.size, 0, none⟩) 2 2) Try.underlying24 infoV rfl rfl (.tmp 24) rfl (by first | rfl | simp [Act.eval]) ?_; intro g w1 hb1 hg1 hl1 hB1)
        | ((with_reducible refine at_appX 24 (.tmp 18) (.tmp 25) ?_); refine wpList_appR rfl 24 27 (.slice none 0 0) 24 Try.underlying24 infoVb rfl (by decide) (.tmp 18) (.tmp 25) rfl w.heap.size w (below_more HB.out hB1) (Nat.le_refl _) A1 i c1 V (by first | rfl | simp [Act.eval]) (HO.out.up hB1) _ 1 1 [.slice (some ⟨wr.heap.size, 0, none⟩) 2 2] (by first | rfl | simp [Act.eval]) hb1.rdR (fun u hu => by rw [List.mem_singleton.1 hu]; rfl) (by omega) ?_; intro A3 c3 w2 ho2 hf2 hB2))
      go_roundw
      case rel => exact ⟨i + 1, A3, c3, _, by omega, by go_num, rfl, ho2, HVV.out.to (fun g cs k => (k.below hB1 k.lt).appR (HO.out.up hB1) (by decide) hf2), hB2⟩
      case measure => simp [intOf]; omega
    · have hlt' : ¬ (i : Int) < (M : Int) := by omega
      have e : i = M := by omega
      rw [e] at hown hV ⊢
      have HBL := Lib.hid hbel
      have hcp := hown.cap
      have hcap1 := hcp.1
      have hRV := hV.rdV (by omega)
      have hV0 := hV
      clear e hbel hV hcp
      cases tw with
      | false =>
        have hcap2 := hown.cap.2
        have HRM := Lib.hid (rdM_V hown.rd hRV)
        have HLA := Lib.hid (items_all M)
        have HLO := Lib.hid (once_items M (by omega))
        clear hown hRV
        by_cases hbig : 1000 < M
        · have hbig' : (1000 : Int) < (M : Int) := by omega
          go_upto_region 11 with (first
            | (go_at_call 11; refine (CB.out _ _ _ _ _ HRM.out hcap1 hcap2 (by omega) HLA.out HLO.out hbig).mono ?_; rintro e' x4 ⟨A5, c5, rfl, hB4⟩))
          have HB9 := Lib.hid (below_more HBL.out hB4)
          clear hB4
          go_wp2_with (first
            | (go_at_call 10; refine (CA.out _).mono ?_; rintro e' x8 ⟨rfl, hB8⟩))
          go_ret
          exact ⟨rfl, below_more HB9.out hB8⟩
        · have hbig' : ¬ (1000 : Int) < (M : Int) := by omega
          go_upto_region 11 with (first
            | (go_at_call 11; refine (CG.out _ _ _ _ _ HRM.out hcap1 hcap2 (by omega) HLA.out HLO.out (by omega)).mono ?_; rintro e' x4 ⟨A5, n5, c5, b5, rfl, hR5, hn5, hc5, hBn, hBv, hBe, hB4⟩))
          have HB9 := Lib.hid (below_more HBL.out hB4)
          have HV5 : Hid (Calls Try.prog 14 #[.slice A5 n5 c5] x4 fun e w' => ∃ A' c', e = .returned (.tuple #[.slice A' M c', .int .i64 0]) ∧ Below x4.heap.size x4 w') := Lib.hid (CV.out x4 A5 n5 c5 b5 hR5 hn5 hc5 hBn hBv hBe)
          unfold maxLen at hc5
          clear hB4 hR5 hBn hBv hBe
          go_wp2_with (first
            | (go_at_call 14; refine (HV5.out).mono ?_; rintro e' x5 ⟨A6, c6, rfl, hB5⟩)
            | (go_at_call 10; refine (CA.out _).mono ?_; rintro e' x8 ⟨rfl, hB8⟩))
          go_ret
          exact ⟨rfl, below_more (below_more HB9.out hB5) hB8⟩
      | true =>
        obtain ⟨g, off, hl0, rfl, hgl, sc0⟩ := hown.rd.at_ (k := 0) (by omega)
        obtain ⟨g0, eg, kg⟩ := hV0.2 0 hl0
        rw [eg] at sc0
        have sd0 : wr.cell? ⟨g, off, none⟩ = some (.slice (some ⟨g0, 0, none⟩) 2 2) := sc0
        have HO := Lib.hid hown
        have HKG := Lib.hid kg
        have HV0 := Lib.hid hV0
        clear sc0 hown hRV kg hcap1 hV0 eg hl0
        go_upto_region 10 with (first
          | ((with_reducible refine at_bsX 24 1 #[(0, .tmp 32)] ?_); refine wpList_bsR rfl 24 27 (.slice none 0 0) (.slice (some ⟨g0, 0, none⟩) 2 2) Try.underlying24 infoV rfl rfl (.tmp 32) rfl (by first | rfl | simp [Act.eval]) ?_; intro g3 w1 hb1 hg1 hl1 hB1)
          | ((with_reducible refine at_appX 24 (.tmp 29) (.tmp 33) ?_); refine wpList_appR rfl 24 27 (.slice none 0 0) 24 Try.underlying24 infoVb rfl (by decide) (.tmp 29) (.tmp 33) rfl w.heap.size w (below_more HBL.out hB1) (Nat.le_refl _) (some ⟨g, off, none⟩) M c1 V (by first | rfl | simp [Act.eval]) (HO.out.up hB1) _ 1 1 [.slice (some ⟨g0, 0, none⟩) 2 2] (by first | rfl | simp [Act.eval]) hb1.rdR (fun u hu => by rw [List.mem_singleton.1 hu]; rfl) (by omega) ?_; intro A3 c3 w2 ho2 hf2 hB2))
        have hV2 : BV w2 V M := HV0.out.to (fun g cs k => (k.below hB1 k.lt).appR (HO.out.up hB1) (by decide) hf2)
        have hkg2 := (HKG.out.below hB1 HKG.out.lt).appR (HO.out.up hB1) (by decide) hf2
        have hRV2 : RdV w2 (V ++ [.slice (some ⟨g0, 0, none⟩) 2 2]) (items M ++ [itm 0]) := (hV2.rdV (by omega)).app (RdV.one (Nat.le_refl 2) (by unfold maxLen; omega) (blk_itm (j := 0) (by omega) hkg2))
        have hcap1 := ho2.cap.1
        have hcap2 := ho2.cap.2
        have HRM := Lib.hid (rdM_V ho2.rd hRV2)
        have HLA : Hid (∀ t ∈ items M ++ [itm 0], t.length ≤ 1000) := Lib.hid fun t ht => by
          rcases List.mem_append.1 ht with h | h
          · exact items_all M t h
          · rw [List.mem_singleton.1 h, itm_len]; omega
        have HLO := Lib.hid (once_more M (by omega) (by omega))
        clear ho2 hRV2 hV2 hf2 hB1 hkg2
        by_cases hbig : 1000 < M
        · have hbig' : (1000 : Int) < (M : Int) := by omega
          go_upto_region 11 with (first
            | (go_at_call 11; refine (CB.out _ _ _ _ _ HRM.out hcap1 hcap2 (by omega) HLA.out HLO.out hbig).mono ?_; rintro e' x4 ⟨A5, c5, rfl, hB4⟩))
          have HB9 := Lib.hid (below_more hB2 hB4)
          clear hB4
          go_wp2_with (first
            | (go_at_call 10; refine (CA.out _).mono ?_; rintro e' x8 ⟨rfl, hB8⟩))
          go_ret
          exact ⟨rfl, below_more HB9.out hB8⟩
        · have hbig' : ¬ (1000 : Int) < (M : Int) := by omega
          go_upto_region 11 with (first
            | (go_at_call 11; refine (CG.out _ _ _ _ _ HRM.out hcap1 hcap2 (by omega) HLA.out HLO.out (by omega)).mono ?_; rintro e' x4 ⟨A5, n5, c5, b5, rfl, hR5, hn5, hc5, hBn, hBv, hBe, hB4⟩))
          have HB9 := Lib.hid (below_more hB2 hB4)
          have HV5 : Hid (Calls Try.prog 14 #[.slice A5 n5 c5] x4 fun e w' => ∃ A' c', e = .returned (.tuple #[.slice A' M c', .int .i64 0]) ∧ Below x4.heap.size x4 w') := Lib.hid (CV.out x4 A5 n5 c5 b5 hR5 hn5 hc5 hBn hBv hBe)
          unfold maxLen at hc5
          clear hB4 hR5 hBn hBv hBe
          go_wp2_with (first
            | (go_at_call 14; refine (HV5.out).mono ?_; rintro e' x5 ⟨A6, c6, rfl, hB5⟩)
            | (go_at_call 10; refine (CA.out _).mono ?_; rintro e' x8 ⟨rfl, hB8⟩))
          go_ret
          exact ⟨rfl, below_more (below_more HB9.out hB5) hB8⟩
end Go.Proofs.Ytplnmjdafchjbaa
