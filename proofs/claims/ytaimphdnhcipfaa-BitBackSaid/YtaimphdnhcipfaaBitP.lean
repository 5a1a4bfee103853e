/- The walk of BitBack, over what package bit is to answer. -/
import Derived.Test.YtaimphdnhcipfaaBitW
namespace Go.Proofs.Ytaimphdnhcipfaa
open Go.RowKit
set_option linter.unusedVariables false
set_option linter.unusedSimpArgs false

/-- The bits of a part. -/
def opP (o : Op3) : List Bool := if o.o then List.replicate (hld o.m 100) true ++ [false] else bN o.n (hld o.m 64)
def outP (P : List Op3) : List Bool := (P.map opP).flatten
set_option maxRecDepth 100000 in
theorem opP_len (o : Op3) : (opP o).length ≤ 101 := by
  unfold opP
  split
  · rw [List.length_append, List.length_replicate]; have := hld_le o.m 100; simp; omega
  · rw [bN_len]; have := hld_le o.m 64; omega
set_option maxRecDepth 100000 in
theorem outP_take (P : List Op3) (t : Nat) (h : t < P.length) : outP (P.take (t + 1)) = outP (P.take t) ++ opP P[t] := by
  unfold outP
  rw [List.take_succ_eq_append_getElem h, List.map_append, List.flatten_append]
  simp
set_option maxRecDepth 100000 in
theorem outP_drop (P : List Op3) (t : Nat) (h : t < P.length) : outP (P.drop t) = opP P[t] ++ outP (P.drop (t + 1)) := by
  unfold outP
  rw [List.drop_eq_getElem_cons h]
  rfl
set_option maxRecDepth 100000 in
theorem outP_len : ∀ P : List Op3, (outP P).length ≤ 101 * P.length
  | [] => Nat.le_refl _
  | o :: P => by
    have h1 := outP_len P
    have h2 := opP_len o
    show (opP o ++ outP P).length ≤ _
    rw [List.length_append, List.length_cons]
    omega
set_option maxRecDepth 100000 in
theorem shl64_one (k : Nat) (h : k < 64) : IntKind.u64.wrap (2 ^ k) = ((2 ^ k : Nat) : Int) := by
  have h1 : (2 : Nat) ^ k < 2 ^ 64 := Nat.pow_lt_pow_right (by omega) h
  have e : (2 : Int) ^ k = ((2 ^ k : Nat) : Int) := by rw [Int.natCast_pow]; rfl
  rw [e, IntKind.wrap_u64]
  generalize (2 : Nat) ^ k = z at h1 ⊢
  omega
set_option maxRecDepth 100000 in
set_option maxHeartbeats 2000000 in
theorem bitBack_walk {BW : World → Nat → (Nat → Prop) → List Bool → Prop} {BR : World → Nat → Nat → (Nat → Prop) → List Bool → Prop} (K : BitOk BW BR) (A : Option Addr) (m k : Nat) (P : List Op3) (w : World) (w1 : RdP w A m P ∧ m ≤ k ∧ k ≤ maxLen) : Calls Try.prog 5 #[.slice A m k] w (Ret w (.bool true)) := by
  obtain ⟨hP0, hmk, hkm⟩ := w1
  unfold maxLen at hkm
  obtain ⟨q, hq⟩ : ∃ z, z = min m 30 := ⟨_, rfl⟩
  have hqm : q ≤ m := by omega
  obtain ⟨Q, hQ⟩ : ∃ z, z = P.take q := ⟨_, rfl⟩
  have hP := hP0.take hqm
  rw [← hQ] at hP
  have HP := Lib.hid hP
  have hQl : Q.length = q := hP.len
  have hq30 : q ≤ 30 := by omega
  have HK := Lib.hid K
  have CA : Hid (∀ W, Calls Try.prog 16 #[] W (Ret W (.bool true))) := Lib.hid fun W => awake11_calls K W
  have HM := Lib.hid hq
  clear hP hP0 K hQ
  go_enter Try.func5, Try.ntmps5
  go_upto_region 4 with (first
    | (go_at_call 7; refine (HK.out.new _).mono ?_; rintro e' w1 ⟨p, S0, rfl, hW0, hB0, hS0⟩))
  go_cut [0] from 4 to 5 (fun v wx => v = .slice A q k ∧ wx = w1)
  case first =>
    by_cases h30 : 30 < m
    · have g1 : (30 : Int) < (m : Int) := by omega
      have g2 : ¬ (m : Int) < 30 := by omega
      have g3 : ¬ (m : Int) ≤ 30 := by omega
      have g4 : ¬ m ≤ 30 := by omega
      have g5 : ¬ m < 30 := by omega
      have e : q = 30 := by omega
      subst e
      clear hq HM
      go_upto_region 5 with fail
      go_meet
      exact ⟨rfl, rfl⟩
    · have g1 : ¬ (30 : Int) < (m : Int) := by omega
      have g3 : (m : Int) ≤ 30 := by omega
      have g4 : m ≤ 30 := by omega
      have e : q = m := by omega
      subst e
      clear hq HM
      go_upto_region 5 with fail
      go_meet
      exact ⟨rfl, rfl⟩
  case rest =>
    obtain ⟨rfl, hwc⟩ := hcut
    subst hwc
    clear HM hq
    go_wp2
    go_loopw [25] (fun kv wr => ∃ (t : Nat) (S : Nat → Prop) (V : List Bool), kv = .int .i64 (t : Int) ∧ t ≤ q ∧ V = outP (Q.take t) ∧ V.length ≤ 101 * t ∧ BW wr p S V ∧ (∀ i, S i → w.heap.size ≤ i) ∧ Below w.heap.size w wr) (fun kv _ => q - (intOf kv).toNat)
    case atStart => exact ⟨0, S0, [], by first | rfl | go_num, by omega, by simp [outP], by simp, hW0, hS0, hB0⟩
    case round =>
      obtain ⟨t, S, V, rfl, htm, hV, hVl, hW, hSn, hBr⟩ := hrel
      obtain ⟨wo, hwo⟩ : ∃ x, x = wr := ⟨_, rfl⟩
      rw [← hwo] at hW hBr ⊢
      clear hwo hW0 hB0 hS0
      have hB := hBr
      by_cases hlt : t < q
      · have hlt' : (t : Int) < (q : Int) := by omega
        obtain ⟨bb, off, hl, rfl, hrg, hok⟩ := HP.out.at_ hB hlt
        obtain ⟨o, ho⟩ : ∃ z, z = Q[t] := ⟨_, rfl⟩
        have hnx : Hid (outP (Q.take (t + 1)) = V ++ opP o) := Lib.hid (by rw [outP_take Q t hl, ← ho, hV])
        rw [← ho] at hrg hok
        obtain ⟨X, hX⟩ : ∃ z, z = o.cells := ⟨_, rfl⟩
        have IX : Hid ((Try.prog.info? 27).map (·.size) = some X.length) := Lib.hid (by rw [hX]; exact op3_size o)
        have LX : Hid (zerosP.length = X.length) := Lib.hid (by rw [hX]; rfl)
        have OX : Hid (∀ v ∈ X, v.oneCell' = true) := Lib.hid (by rw [hX]; exact op3_one o)
        rw [← hX] at hrg
        have HRG := Lib.hid hrg
        have n1 := hok.n1
        have m0 := hok.m0
        have m1 := hok.m1
        have HX := Lib.hid hX
        have hSL := HK.out.wlt hW
        have szB := hB.size
        clear hrg hX hok ho
        clear hBr hV
        go_upto_region 8 with (first
          | ((with_reducible refine at_load 27 (.tmp 27) ?_); refine wpList_load_mid rfl 27 (.tmp 27) rfl bb (off + t * 3) (by first | rfl | (simp [Act.eval]; done)) X _ HRG.out Try.underlying27 rfl IX.out ?_)
          | ((with_reducible refine at_alloc 27 ?_); refine wpList_allocT rfl 27 zerosP (by kernel_rfl) rfl w.heap.size w hB (Nat.le_refl _) ?_; intro g6 z6 hb6 hg6 hl6 hf6 hB; have hng : ¬ S g6 := fun h => (by have := hSL g6 h; omega); have hW := HK.out.wfrm hW hf6 (fun _ h => h.elim))
          | ((with_reducible refine at_store 27 (.tmp 5) (.tmp 28) ?_); refine wpList_store_blk rfl 27 (.tmp 5) (.tmp 28) rfl g6 zerosP X 27 rfl rfl hb6 LX.out IX.out OX.out ?_; intro s6 hk6 ho6; have hB := hB.trans (ho6.below (by omega)); have hW := HK.out.wfrm hW (Frm.only ho6 (S := fun i => i = g6) rfl) (fun i hi h => hng (hi ▸ h))))
        obtain ⟨oo, on, om⟩ := o
        have hk7 : Blk s6 g6 [.bool oo, .int .u64 (on : Int), .int .i64 om] 27 := by have := hk6; rw [HX.out] at this; exact this
        clear HX hk6 hb6 ho6 hf6
        have hk6 := hk7
        have d0 : _ = some (Value.bool oo) := hk6.cell 0
        have d1 : _ = some (Value.int .u64 (on : Int)) := hk6.cell 1
        have d2 : _ = some (Value.int .i64 om) := hk6.cell 2
        replace n1 : on < 18446744073709551616 := n1
        replace m0 : -9223372036854775808 ≤ om := m0
        replace m1 : om ≤ 9223372036854775807 := m1
        clear hk7
        cases oo
        · obtain ⟨V2, hV2⟩ : ∃ z, z = V ++ bN on (hld om 64) := ⟨_, rfl⟩
          have HV2 : Hid (V2 = outP (Q.take (t + 1))) := Lib.hid (by rw [hnx.out, hV2]; rfl)
          have hV2l : V2.length ≤ 101 * (t + 1) := by rw [hV2, List.length_append, bN_len]; have := hld_le om 64; omega
          have CP : Hid (∀ (W : World), BW W p S V → Calls Try.prog 10 #[.pointer (some ⟨p, 0, none⟩), .int .u64 (on : Int), .int .i64 om] W fun e w' => ∃ S', e = .returned (.tuple #[]) ∧ BW w' p S' V2 ∧ Frm S W w' ∧ ∀ i, S' i → S i ∨ W.heap.size ≤ i) := Lib.hid fun W h => by rw [hV2]; exact HK.out.put W p S V on om h (by omega) n1 m0 m1
          clear hV2 hnx
          go_wp2_with (first
            | (go_at_call 10; refine (CP.out _ hW).mono ?_; rintro e' x5 ⟨S2, rfl, hW, hF5, hS5⟩; have hS2 : ∀ i, S2 i → w.heap.size ≤ i := fun i hi => (hS5 i hi).elim (hSn i) (fun h => Nat.le_trans hB.size h); have hB := below_frmB hB hF5 hB.size hSn))
          go_roundw
          case rel => exact ⟨t + 1, S2, V2, by go_num, by omega, HV2.out, hV2l, hW, hS2, hB⟩
          case measure => simp [intOf]; omega
        · obtain ⟨V1, hV1⟩ : ∃ z, z = V ++ List.replicate (hld om 100) true := ⟨_, rfl⟩
          obtain ⟨V2, hV2⟩ : ∃ z, z = V1 ++ [false] := ⟨_, rfl⟩
          have HV2 : Hid (V2 = outP (Q.take (t + 1))) := Lib.hid (by rw [hnx.out, hV2, hV1, List.append_assoc]; rfl)
          have hV1l : V1.length ≤ 101 * t + 100 := by rw [hV1, List.length_append, List.length_replicate]; have := hld_le om 100; omega
          have hV2l : V2.length ≤ 101 * (t + 1) := by rw [hV2, List.length_append]; simp; omega
          have C2 : Hid (∀ (W : World) S', BW W p S' V1 → Calls Try.prog 10 #[.pointer (some ⟨p, 0, none⟩), .int .u64 0, .int .i64 1] W fun e w' => ∃ T, e = .returned (.tuple #[]) ∧ BW w' p T V2 ∧ Frm S' W w' ∧ ∀ i, T i → S' i ∨ W.heap.size ≤ i) := Lib.hid fun W S' h => by rw [hV2]; exact HK.out.put W p S' V1 0 1 h (by omega) (by omega) (by omega) (by omega)
          clear hnx
          by_cases hbig : 100 < om
          · have h1 : ¬ om < 100 := by omega
            have h2 : ¬ om ≤ 100 := by omega
            have h4 : 100 ≤ om := by omega
            have hhl : hld 100 65536 = hld om 100 := by unfold hld; rw [if_neg (by omega), if_neg (by omega), if_neg (by omega), if_pos (by omega)]; rfl
            have C1 : Hid (∀ (W : World), BW W p S V → Calls Try.prog 8 #[.pointer (some ⟨p, 0, none⟩), .int .i64 100] W fun e w' => ∃ S', e = .returned (.tuple #[]) ∧ BW w' p S' V1 ∧ Frm S W w' ∧ ∀ i, S' i → S i ∨ W.heap.size ≤ i) := Lib.hid fun W h => by
              have := HK.out.ones W p S V (100) h (by omega) (by omega) (by omega)
              rw [hhl, ← hV1] at this
              exact this
            clear hV1 hV2 hhl hV1l
            go_wp2_with (first
              | (go_at_call 8; refine (C1.out _ hW).mono ?_; rintro e' x5 ⟨S2, rfl, hW, hF5, hS5⟩; have hS2 : ∀ i, S2 i → w.heap.size ≤ i := fun i hi => (hS5 i hi).elim (hSn i) (fun h => Nat.le_trans hB.size h); have hB := below_frmB hB hF5 hB.size hSn)
              | (go_at_call 10; refine (C2.out _ _ hW).mono ?_; rintro e' x6 ⟨S3, rfl, hW, hF6, hS6⟩; have hS3 : ∀ i, S3 i → w.heap.size ≤ i := fun i hi => (hS6 i hi).elim (hS2 i) (fun h => Nat.le_trans hB.size h); have hB := below_frmB hB hF6 hB.size hS2))
            go_roundw
            case rel => exact ⟨t + 1, S3, V2, by go_num, by omega, HV2.out, hV2l, hW, hS3, hB⟩
            case measure => simp [intOf]; omega
          · have h2 : om ≤ 100 := by omega
            have hhl : hld om 65536 = hld om 100 := by unfold hld; split; rfl; rw [if_neg (by omega), if_neg (by omega)]
            have C1 : Hid (∀ (W : World), BW W p S V → Calls Try.prog 8 #[.pointer (some ⟨p, 0, none⟩), .int .i64 om] W fun e w' => ∃ S', e = .returned (.tuple #[]) ∧ BW w' p S' V1 ∧ Frm S W w' ∧ ∀ i, S' i → S i ∨ W.heap.size ≤ i) := Lib.hid fun W h => by
              have := HK.out.ones W p S V (om) h (by omega) (by omega) (by omega)
              rw [hhl, ← hV1] at this
              exact this
            clear hV1 hV2 hhl hV1l
            go_wp2_with (first
              | (go_at_call 8; refine (C1.out _ hW).mono ?_; rintro e' x5 ⟨S2, rfl, hW, hF5, hS5⟩; have hS2 : ∀ i, S2 i → w.heap.size ≤ i := fun i hi => (hS5 i hi).elim (hSn i) (fun h => Nat.le_trans hB.size h); have hB := below_frmB hB hF5 hB.size hSn)
              | (go_at_call 10; refine (C2.out _ _ hW).mono ?_; rintro e' x6 ⟨S3, rfl, hW, hF6, hS6⟩; have hS3 : ∀ i, S3 i → w.heap.size ≤ i := fun i hi => (hS6 i hi).elim (hS2 i) (fun h => Nat.le_trans hB.size h); have hB := below_frmB hB hF6 hB.size hS2))
            go_roundw
            case rel => exact ⟨t + 1, S3, V2, by go_num, by omega, HV2.out, hV2l, hW, hS3, hB⟩
            case measure => simp [intOf]; omega
      · have hlt' : ¬ (t : Int) < (q : Int) := by omega
        have e : t = q := by omega
        have hVQ : V = outP Q := by rw [hV, List.take_of_length_le (by omega)]
        obtain ⟨pad, hpad⟩ : ∃ z, z = List.replicate ((8 - V.length % 8) % 8) false := ⟨_, rfl⟩
        have hcl : cln pad = true := by rw [hpad]; exact cln_fill V
        have hpl : pad.length ≤ 8 := by rw [hpad, List.length_replicate]; omega
        have hfl : fill V = outP (Q.drop 0) ++ pad := by rw [List.drop_zero, ← hVQ, hpad]; rfl
        have CBy : Hid (Calls Try.prog 14 #[.pointer (some ⟨p, 0, none⟩)] wo fun e w' => ∃ A n c, e = .returned (.slice A n c) ∧ Rd w' A n (pack V) ∧ n ≤ c ∧ c ≤ maxLen ∧ Below wo.heap.size wo w') := Lib.hid (HK.out.bytes wo p S V hW (by omega))
        have CO : Hid (∀ (W : World) A n c, Rd W A n (pack V) → n ≤ c → c ≤ maxLen → Calls Try.prog 17 #[.slice A n c] W fun e w' => ∃ r S, e = .returned (.pointer (some ⟨r, 0, none⟩)) ∧ BR w' W.heap.size r S (outP (Q.drop 0) ++ pad) ∧ Below W.heap.size W w' ∧ ∀ i, S i → W.heap.size ≤ i) := Lib.hid fun W A n c h1 h2 h3 => by
          have hn := h1.1
          rw [pack_len] at hn
          have := HK.out.of_ W A n c (pack V) W.heap.size (RdF.old h1 (Below.refl _ _) (fun _ h => h)) h2 h3 (by omega) (Nat.le_refl _)
          rw [unp_pack, hfl] at this
          exact this
        have HCL := Lib.hid hcl
        have CAp := CA
        clear hV hVQ hpad hfl hcl hW hVl
        go_upto_region 14 with (first
          | (go_at_call 14; refine (CBy.out).mono ?_; rintro e' x1 ⟨A8, n8, c8, rfl, hR8, hn8, hc8, hB8⟩; have hB := below_more hB hB8)
          | (go_at_call 17; refine (CO.out _ A8 n8 c8 hR8 hn8 hc8).mono ?_; rintro e' x2 ⟨r, S3, rfl, hR, hB9, hS9⟩; have hBX := hB9; have hsx := hB9.size))
        have hS3 : ∀ i, S3 i → w.heap.size ≤ i := fun i h => Nat.le_trans hB.size (hS9 i h)
        have hB3 := below_more hB hBX
        clear CBy CO hR8 hS9 hBX hSn hBr hB hB8 hB9
        go_wp2
        go_loopw [52] (fun kv wr => ∃ (t : Nat) (S : Nat → Prop) (l : List Bool), kv = .int .i64 (t : Int) ∧ t ≤ q ∧ l = outP (Q.drop t) ++ pad ∧ BR wr x1.heap.size r S l ∧ (∀ i, S i → w.heap.size ≤ i) ∧ Below w.heap.size w wr ∧ x1.heap.size ≤ wr.heap.size) (fun kv _ => q - (intOf kv).toNat)
        case atStart => exact ⟨0, S3, _, by first | rfl | go_num, by omega, rfl, hR, hS3, hB3, hsx⟩
        case round =>
          obtain ⟨t, S, l, rfl, htm, hl0, hR, hSn, hBr, hsz0⟩ := hrel
          obtain ⟨wo, hwo⟩ : ∃ x, x = wr := ⟨_, rfl⟩
          rw [← hwo] at hR hBr hsz0 ⊢
          clear hwo hS3 hB3 hsx
          have hB := hBr
          have hll : l.length ≤ 4000 := by
            have h1 := outP_len (Q.drop t)
            rw [List.length_drop] at h1
            rw [hl0, List.length_append]
            omega
          by_cases hlt : t < q
          · have hlt' : (t : Int) < (q : Int) := by omega
            obtain ⟨bb, off, hl, rfl, hrg, hok⟩ := HP.out.at_ hB hlt
            obtain ⟨o, ho⟩ : ∃ z, z = Q[t] := ⟨_, rfl⟩
            have hnx : outP (Q.drop t) = opP o ++ outP (Q.drop (t + 1)) := by rw [outP_drop Q t hl, ← ho]
            rw [← ho] at hrg hok
            obtain ⟨X, hX⟩ : ∃ z, z = o.cells := ⟨_, rfl⟩
            have IX : Hid ((Try.prog.info? 27).map (·.size) = some X.length) := Lib.hid (by rw [hX]; exact op3_size o)
            have LX : Hid (zerosP.length = X.length) := Lib.hid (by rw [hX]; rfl)
            have OX : Hid (∀ v ∈ X, v.oneCell' = true) := Lib.hid (by rw [hX]; exact op3_one o)
            rw [← hX] at hrg
            have HRG := Lib.hid hrg
            have n1 := hok.n1
            have m0 := hok.m0
            have m1 := hok.m1
            have HX := Lib.hid hX
            have hSL := HK.out.rlt hR
            have szB := hB.size
            clear hrg hX hok ho
            rw [hnx, List.append_assoc] at hl0
            obtain ⟨l2, hl2⟩ : ∃ z, z = outP (Q.drop (t + 1)) ++ pad := ⟨_, rfl⟩
            rw [← hl2] at hl0
            have HL2 := Lib.hid hl2
            have HL0 := Lib.hid hl0
            clear hnx hl2 hBr
            go_upto_region 19 with (first
              | ((with_reducible refine at_load 27 (.tmp 54) ?_); refine wpList_load_mid rfl 27 (.tmp 54) rfl bb (off + t * 3) (by first | rfl | (simp [Act.eval]; done)) X _ HRG.out Try.underlying27 rfl IX.out ?_)
              | ((with_reducible refine at_alloc 27 ?_); refine wpList_allocT rfl 27 zerosP (by kernel_rfl) rfl w.heap.size w hB (Nat.le_refl _) ?_; intro g6 z6 hb6 hg6 hl6 hf6 hB; have hng : ¬ S g6 := fun h => (by have := hSL g6 h; omega); have hR := HK.out.rfrm hR hf6 (fun _ h => h.elim))
              | ((with_reducible refine at_store 27 (.tmp 8) (.tmp 55) ?_); refine wpList_store_blk rfl 27 (.tmp 8) (.tmp 55) rfl g6 zerosP X 27 rfl rfl hb6 LX.out IX.out OX.out ?_; intro s6 hk6 ho6; have hB := hB.trans (ho6.below (by omega)); have hsz1 : x1.heap.size ≤ s6.heap.size := (by rw [ho6.size]; omega); have hR := HK.out.rfrm hR (Frm.only ho6 (S := fun i => i = g6) rfl) (fun i hi => ⟨fun h => hng (hi ▸ h), (by omega)⟩)))
            obtain ⟨oo, on, om⟩ := o
            have hk7 : Blk s6 g6 [.bool oo, .int .u64 (on : Int), .int .i64 om] 27 := by have := hk6; rw [HX.out] at this; exact this
            clear HX hk6 hb6 ho6 hf6
            have hk6 := hk7
            have d0 : _ = some (Value.bool oo) := hk6.cell 0
            have d1 : _ = some (Value.int .u64 (on : Int)) := hk6.cell 1
            have d2 : _ = some (Value.int .i64 om) := hk6.cell 2
            replace n1 : on < 18446744073709551616 := n1
            replace m0 : -9223372036854775808 ≤ om := m0
            replace m1 : om ≤ 9223372036854775807 := m1
            clear hk7
            cases oo
            · obtain ⟨wd, hwd⟩ : ∃ z, z = hld om 64 := ⟨_, rfl⟩
              have hwd64 : wd ≤ 64 := by rw [hwd]; exact hld_le _ _
              have hlw : l = bN on wd ++ l2 := by rw [HL0.out, hwd]; rfl
              obtain ⟨v2, hv2⟩ : ∃ z, z = on % 2 ^ wd := ⟨_, rfl⟩
              have CT : Hid (∀ (W : World), BR W x1.heap.size r S l → Calls Try.prog 21 #[.pointer (some ⟨r, 0, none⟩), .int .i64 om] W fun e w' => ∃ S', e = .returned (.tuple #[.int .u64 (v2 : Int), .int .i64 0]) ∧ BR w' x1.heap.size r S' l2 ∧ Frm S W w' ∧ ∀ i, S' i → S i ∨ W.heap.size ≤ i) := Lib.hid fun W h => by
                have := HK.out.take W x1.heap.size r S l om h (by omega) m0 m1
                obtain ⟨b1, b2, b3⟩ := bt_ok on wd l2
                rw [← hwd, hlw, b1, b2, b3, ← hv2] at this
                exact this
              have CH : Hid (∀ W, Calls Try.prog 12 #[.int .i64 om, .int .i64 0, .int .i64 64] W (Ret W (.int .i64 (wd : Int)))) := Lib.hid fun W => by rw [hwd]; exact bheld_calls om 64 (by omega) W
              by_cases h64 : wd < 64
              · have h641 : (wd : Int) < 64 := by omega
                obtain ⟨M, hM⟩ : ∃ z : Nat, z = 2 ^ wd := ⟨_, rfl⟩
                have a1 : IntKind.u64.wrap (2 ^ wd) = (M : Int) := by rw [hM]; exact shl64_one wd h64
                have hM0 : 0 < M := by rw [hM]; exact Nat.pow_pos (by omega)
                have hM64 : M < 18446744073709551616 := by rw [hM]; exact Nat.pow_lt_pow_right (by omega) h64
                rw [← hM] at hv2
                have hv2M : v2 < M := by rw [hv2]; exact Nat.mod_lt _ hM0
                have q1 : Int.tmod (on : Int) (M : Int) = (v2 : Int) := by rw [Int.tmod_eq_emod_of_nonneg (by omega), hv2]; exact (Int.natCast_emod on M).symm
                have q2 : (on : Int) % (M : Int) = (v2 : Int) := by rw [hv2]; exact (Int.natCast_emod on M).symm
                have q3 : IntKind.u64.wrap (v2 : Int) = (v2 : Int) := by rw [IntKind.wrap_u64]; omega
                have hM1 : ¬ (M : Int) = 0 := by omega
                have hM2 : ¬ M = 0 := by omega
                clear hwd hlw hv2 hM
                go_upto_region 26 with (first
                  | (go_at_call 12; refine (CH.out _).mono ?_; rintro e' x4 ⟨rfl, hB4⟩; have hB := below_more hB hB4; have hR := HK.out.rfrm hR (X := fun _ => False) (Frm.of_below hB4) (fun _ h => h.elim); have hk6 := blk_up hk6 hB4; have d1 : _ = some (Value.int .u64 (on : Int)) := hk6.cell 1; have d2 : _ = some (Value.int .i64 om) := hk6.cell 2; have hsz1 := Nat.le_trans hsz1 hB4.size))
                have hR := HK.out.rfrm hR (X := fun _ => False) (Frm.of_below (Below.refl _ _).drew) (fun _ h => h.elim)
                have hB := hB.drew
                have hkd := hk6.drew
                have d1 : _ = some (Value.int .u64 (on : Int)) := hkd.cell 1
                have d2 : _ = some (Value.int .i64 om) := hkd.cell 2
                refine wp_region_held_drew (S := fun W => W.cell? ⟨g6, 1, none⟩ = some (.int .u64 (on : Int))) (by kernel_rfl) ?_ (fun hHeld => ?_)
                · exact d1
                refine wpAnyH_take (i := 0) (v := ?_) rfl (by kernel_rfl) (by kernel_rfl) (by kernel_rfl) (fun _ _ _ h => h) (Or.inl ⟨by rfl, ?_⟩) (by assumption) ?_
                rotate_left 1
                · intro w hSw; (try dsimp only at hSw); simp only [List.getElem_toArray, List.getElem_cons_succ, List.getElem_cons_zero]; go_simp; try (with_reducible rfl)
                (try simp only [List.getElem_toArray, List.getElem_cons_succ, List.getElem_cons_zero, Act.put, List.setIfInBounds_toArray, List.set_cons_succ, List.set_cons_zero])
                refine wpAnyH_take (i := 1) (v := .int .u64 (on : Int)) rfl (by kernel_rfl) (by kernel_rfl) (by kernel_rfl) (fun _ _ _ h => h) (Or.inl ⟨by rfl, ?_⟩) (by assumption) ?_
                · intro w hSw; (try dsimp only at hSw); simp only [List.getElem_toArray, List.getElem_cons_succ, List.getElem_cons_zero]; first | (go_simp; done) | (simp [execOp, Act.eval, hSw]; done)
                (try simp only [List.getElem_toArray, List.getElem_cons_succ, List.getElem_cons_zero, Act.put, List.setIfInBounds_toArray, List.set_cons_succ, List.set_cons_zero])
                refine wpAnyH_take (i := 2) (v := ?_) rfl (by kernel_rfl) (by kernel_rfl) (by kernel_rfl) (fun _ _ _ h => h) (Or.inl ⟨by rfl, ?_⟩) (by assumption) ?_
                rotate_left 1
                · intro w hSw; (try dsimp only at hSw); simp only [List.getElem_toArray, List.getElem_cons_succ, List.getElem_cons_zero]; go_simp; try (with_reducible rfl)
                (try simp only [List.getElem_toArray, List.getElem_cons_succ, List.getElem_cons_zero, Act.put, List.setIfInBounds_toArray, List.set_cons_succ, List.set_cons_zero])
                refine wpAnyH_take (i := 3) (v := .int .u64 (M : Int)) rfl (by kernel_rfl) (by kernel_rfl) (by kernel_rfl) (fun _ _ _ h => h) (Or.inl ⟨by rfl, ?_⟩) (by assumption) ?_
                · intro w hSw; (try dsimp only at hSw); simp only [List.getElem_toArray, List.getElem_cons_succ, List.getElem_cons_zero]; first | (go_simp; done) | (simp [execOp, Act.eval, a1]; done)
                (try simp only [List.getElem_toArray, List.getElem_cons_succ, List.getElem_cons_zero, Act.put, List.setIfInBounds_toArray, List.set_cons_succ, List.set_cons_zero])
                refine wpAnyH_take (i := 4) (v := .int .u64 (v2 : Int)) rfl (by kernel_rfl) (by kernel_rfl) (by kernel_rfl) (fun _ _ _ h => h) (Or.inl ⟨by rfl, ?_⟩) (by assumption) ?_
                · intro w hSw; (try dsimp only at hSw); simp only [List.getElem_toArray, List.getElem_cons_succ, List.getElem_cons_zero]; first | (go_simp; done) | (simp [execOp, Act.eval, eqGuard_rem, binOp_rem, Op.intDiv, hM1, hM2, q1, q2, q3]; done) | (simp [execOp, Act.eval, go_sem, hM1, hM2, q1, q2, q3]; done)
                (try simp only [List.getElem_toArray, List.getElem_cons_succ, List.getElem_cons_zero, Act.put, List.setIfInBounds_toArray, List.set_cons_succ, List.set_cons_zero])
                refine wpAnyH_take (i := 5) (v := ?_) rfl (by kernel_rfl) (by kernel_rfl) (by kernel_rfl) (fun _ _ _ h => h) (Or.inl ⟨by rfl, ?_⟩) (by assumption) ?_
                rotate_left 1
                · intro w hSw; (try dsimp only at hSw); simp only [List.getElem_toArray, List.getElem_cons_succ, List.getElem_cons_zero]; go_simp; try (with_reducible rfl)
                (try simp only [List.getElem_toArray, List.getElem_cons_succ, List.getElem_cons_zero, Act.put, List.setIfInBounds_toArray, List.set_cons_succ, List.set_cons_zero])
                refine wpAnyH_done (by kernel_rfl) ?_ _
                clear a1 q1 q2 q3
                go_wp2_with (first
                  | (go_at_call 21; refine (CT.out _ hR).mono ?_; rintro e' x5 ⟨S2, rfl, hR, hF5, hS5⟩; have hS2 : ∀ i, S2 i → w.heap.size ≤ i := fun i hi => (hS5 i hi).elim (hSn i) (fun h => Nat.le_trans hB.size h); have hB := below_frmB hB hF5 hB.size hSn))
                go_roundw
                case rel => exact ⟨t + 1, S2, l2, by go_num, by omega, HL2.out, hR, hS2, hB, Nat.le_trans hsz1 hF5.size⟩
                case measure => simp [intOf]; omega
              · have h641 : ¬ (wd : Int) < 64 := by omega
                have hvo : v2 = on := by
                  have e : wd = 64 := by omega
                  rw [hv2, e]
                  exact Nat.mod_eq_of_lt n1
                subst hvo
                clear hwd hlw hv2
                go_wp2_with (first
                  | (go_at_call 12; refine (CH.out _).mono ?_; rintro e' x4 ⟨rfl, hB4⟩; have hB := below_more hB hB4; have hR := HK.out.rfrm hR (X := fun _ => False) (Frm.of_below hB4) (fun _ h => h.elim); have hk6 := blk_up hk6 hB4; have d1 : _ = some (Value.int .u64 (v2 : Int)) := hk6.cell 1; have d2 : _ = some (Value.int .i64 om) := hk6.cell 2; have hsz1 := Nat.le_trans hsz1 hB4.size)
                  | (go_at_call 21; refine (CT.out _ hR).mono ?_; rintro e' x5 ⟨S2, rfl, hR, hF5, hS5⟩; have hS2 : ∀ i, S2 i → w.heap.size ≤ i := fun i hi => (hS5 i hi).elim (hSn i) (fun h => Nat.le_trans hB.size h); have hB := below_frmB hB hF5 hB.size hSn))
                go_roundw
                case rel => exact ⟨t + 1, S2, l2, by go_num, by omega, HL2.out, hR, hS2, hB, Nat.le_trans hsz1 hF5.size⟩
                case measure => simp [intOf]; omega
            · obtain ⟨nn, hnn⟩ : ∃ z, z = hld om 100 := ⟨_, rfl⟩
              have hn100 : nn ≤ 100 := by rw [hnn]; exact hld_le _ _
              have hlw : l = List.replicate nn true ++ false :: l2 := by rw [HL0.out, hnn]; simp [opP]
              have CR : Hid (∀ (W : World), BR W x1.heap.size r S l → Calls Try.prog 19 #[.pointer (some ⟨r, 0, none⟩), .int .i64 100] W fun e w' => ∃ S', e = .returned (.tuple #[.int .i64 (nn : Int), .int .i64 0]) ∧ BR w' x1.heap.size r S' l2 ∧ Frm S W w' ∧ ∀ i, S' i → S i ∨ W.heap.size ≤ i) := Lib.hid fun W h => by
                have := HK.out.run W x1.heap.size r S l 100 h (by omega) (by omega) (by omega)
                obtain ⟨b1, b2, b3⟩ := rn_ok nn 100 l2 hn100
                rw [show (100 : Int).toNat = 100 from rfl, hlw, b1, b2, b3] at this
                exact this
              have CH : Hid (∀ W, Calls Try.prog 12 #[.int .i64 om, .int .i64 0, .int .i64 100] W (Ret W (.int .i64 (nn : Int)))) := Lib.hid fun W => by rw [hnn]; exact bheld_calls om 100 (by omega) W
              clear hnn hlw
              go_wp2_with (first
                | (go_at_call 19; refine (CR.out _ hR).mono ?_; rintro e' x5 ⟨S2, rfl, hR, hF5, hS5⟩; have hS2 : ∀ i, S2 i → w.heap.size ≤ i := fun i hi => (hS5 i hi).elim (hSn i) (fun h => Nat.le_trans hB.size h); have hB := below_frmB hB hF5 hB.size hSn; have hk6 := hF5.blk hk6 hng; have d2 : _ = some (Value.int .i64 om) := hk6.cell 2; have hsz1 := Nat.le_trans hsz1 hF5.size)
                | (go_at_call 12; refine (CH.out _).mono ?_; rintro e' x4 ⟨rfl, hB4⟩; have hB := below_more hB hB4; have hR := HK.out.rfrm hR (X := fun _ => False) (Frm.of_below hB4) (fun _ h => h.elim); have hsz1 := Nat.le_trans hsz1 hB4.size))
              go_roundw
              case rel => exact ⟨t + 1, S2, l2, by go_num, by omega, HL2.out, hR, hS2, hB, hsz1⟩
              case measure => simp [intOf]; omega
          · have hlt' : ¬ (t : Int) < (q : Int) := by omega
            have e : l = pad := by rw [hl0, List.drop_of_length_le (by omega)]; rfl
            have CC : Hid (∀ (W : World) S', BR W x1.heap.size r S' l → Calls Try.prog 25 #[.pointer (some ⟨r, 0, none⟩)] W (Ret W (.bool true))) := Lib.hid fun W S' h => by
              have := HK.out.clean W x1.heap.size r S' l h (by omega)
              rw [e, HCL.out] at this
              exact this
            clear e hl0 hBr
            go_wp2_with (first
              | (go_at_call 25; refine (CC.out _ _ hR).mono ?_; rintro e' x7 ⟨rfl, hB7⟩; have hB := below_more hB hB7; have hR := HK.out.rfrm hR (X := fun _ => False) (Frm.of_below hB7) (fun _ h => h.elim))
              | (go_at_call 16; refine (CA.out _).mono ?_; rintro e' y9 ⟨rfl, hB9⟩))
            go_ret
            exact ⟨rfl, below_more hB hB9⟩
end Go.Proofs.Ytaimphdnhcipfaa
