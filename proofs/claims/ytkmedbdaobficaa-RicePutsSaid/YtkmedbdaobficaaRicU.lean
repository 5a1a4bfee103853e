/- The walk of RiceBack, over what packages bit and rice are to answer. -/
import Derived.Test.YtkmedbdaobficaaRicC
import Derived.Deep.RegionHeld3
import Derived.Deep.CutRange
import Derived.Deep.DeepCutAuto
namespace Go.Proofs.Ytkmedbdaobficaa
open Go.RowKit
set_option linter.unusedVariables false
set_option linter.unusedSimpArgs false

/-- The codes of numbers, one by one. -/
def outR (p : Int) (N : List Nat) : List Bool := (N.map (rcode p)).flatten
set_option maxRecDepth 100000 in
theorem outR_take (p : Int) (N : List Nat) (t : Nat) (h : t < N.length) : outR p (N.take (t + 1)) = outR p (N.take t) ++ rcode p N[t] := by
  unfold outR
  rw [List.take_succ_eq_append_getElem h, List.map_append, List.flatten_append]
  simp
set_option maxRecDepth 100000 in
theorem outR_drop (p : Int) (N : List Nat) (t : Nat) (h : t < N.length) : outR p (N.drop t) = rcode p N[t] ++ outR p (N.drop (t + 1)) := by
  unfold outR
  rw [List.drop_eq_getElem_cons h]
  rfl
set_option maxRecDepth 100000 in
theorem outR_len (p : Int) : ∀ N : List Nat, (∀ x ∈ N, rq p x ≤ 100) → (outR p N).length ≤ 140 * N.length
  | [], _ => Nat.le_refl _
  | o :: P, h => by
    have h1 := outR_len p P (fun x hx => h x (List.mem_cons_of_mem _ hx))
    have h2 := h o List.mem_cons_self
    have h3 := rcode_len p o
    have h4 := hld_le p 32
    show (rcode p o ++ outR p P).length ≤ _
    rw [List.length_append, List.length_cons]
    omega
set_option maxRecDepth 100000 in
set_option maxHeartbeats 4000000 in
theorem riceBack_walk {BW : World → Nat → (Nat → Prop) → List Bool → Prop} {BR : World → Nat → Nat → (Nat → Prop) → List Bool → Prop} (K : BitOk BW BR) (Q : RiceOk BW BR) (p : Int) (A : Option Addr) (m k : Nat) (P : List Nat) (w : World) (hp0 : -9223372036854775808 ≤ p) (hp1 : p ≤ 9223372036854775807) (w1 : RdN w A m P ∧ m ≤ k ∧ k ≤ maxLen) : Calls Try.prog 6 #[.int .i64 p, .slice A m k] w (Ret w (.bool true)) := by
  obtain ⟨hP0, hmk, hkm⟩ := w1
  unfold maxLen at hkm
  obtain ⟨q, hq⟩ : ∃ z, z = min m 20 := ⟨_, rfl⟩
  have hqm : q ≤ m := by omega
  obtain ⟨N, hN⟩ : ∃ z, z = P.take q := ⟨_, rfl⟩
  have hP := hP0.take hqm
  rw [← hN] at hP
  have HP := Lib.hid hP
  have hNl : N.length = q := hP.len
  have hq30 : q ≤ 20 := by omega
  have HK := Lib.hid K
  have HQ := Lib.hid Q
  have CA : Hid (∀ W, Calls Try.prog 10 #[] W (Ret W (.bool true))) := Lib.hid fun W => awake12_calls K Q W
  have HM := Lib.hid hq
  clear hP hP0 K Q hN
  go_enter Try.func6, Try.ntmps6
  go_upto_region 4 with (first
    | (go_at_call 8; refine (HK.out.new _).mono ?_; rintro e' w1 ⟨r, S0, rfl, hW0, hB0, hS0⟩))
  go_cut [1] from 18 to 22 (fun v wx => v = .slice A q k ∧ wx = w1)
  case first =>
    by_cases h30 : 20 < m
    · have g1 : (20 : Int) < (m : Int) := by omega
      have g2 : ¬ (m : Int) < 20 := by omega
      have g3 : ¬ (m : Int) ≤ 20 := by omega
      have g4 : ¬ m ≤ 20 := by omega
      have g5 : ¬ m < 20 := by omega
      have e : q = 20 := by omega
      subst e
      clear hq HM
      go_upto_region 5 with fail
      go_meet
      exact ⟨rfl, rfl⟩
    · have g1 : ¬ (20 : Int) < (m : Int) := by omega
      have g3 : (m : Int) ≤ 20 := by omega
      have g4 : m ≤ 20 := by omega
      have e : q = m := by omega
      subst e
      clear hq HM
      go_upto_region 5 with fail
      go_meet
      exact ⟨rfl, rfl⟩
  case rest =>
    obtain ⟨rfl, hwc⟩ := hcut
    subst hwc
    clear HM hq
    go_wp2
    go_loopw [25] (fun kv wr => ∃ (t : Nat), kv = .int .i64 (t : Int) ∧ t ≤ q ∧ (∀ j, j < t → rq p (N.getD j 0) ≤ 100) ∧ Below wc.heap.size wc wr) (fun kv _ => q - (intOf kv).toNat)
    case atStart => exact ⟨0, by first | rfl | go_num, by omega, fun j hj => absurd hj (by omega), Below.refl _ _⟩
    case round =>
      obtain ⟨t, rfl, htm, hall, hBc⟩ := hrel
      obtain ⟨wo, hwo⟩ : ∃ x, x = wr := ⟨_, rfl⟩
      rw [← hwo] at hBc ⊢
      clear hwo
      have hB := below_more hB0 hBc
      by_cases hlt : t < q
      · have hlt' : (t : Int) < (q : Int) := by omega
        obtain ⟨bb, off, hl, rfl, sc, hm64⟩ := HP.out.at_ hB hlt
        have hgd : N.getD t 0 = N[t] := by rw [List.getD_eq_getElem?_getD, List.getElem?_eq_getElem hl]; rfl
        obtain ⟨x, hx⟩ : ∃ z, z = N[t] := ⟨_, rfl⟩
        rw [← hx] at sc hm64 hgd
        obtain ⟨z, hz⟩ : ∃ z, z = rq p x := ⟨_, rfl⟩
        have CO : Hid (∀ W, Calls Try.prog 9 #[.int .i64 p, .int .u64 (x : Int)] W (Ret W (.int .u64 (z : Int)))) := Lib.hid fun W => by rw [hz]; exact xones_calls p x hm64 W
        by_cases hbig : 100 < z
        · have g1 : (100 : Int) < (z : Int) := by omega
          clear hgd hx hz hall
          go_wp2_with (first
            | (go_at_call 9; refine (CO.out _).mono ?_; rintro e' x6 ⟨rfl, hB6⟩; have hB := below_more hB hB6)
            | (go_at_call 10; refine (CA.out _).mono ?_; rintro e' y9 ⟨rfl, hB9⟩))
          go_ret
          exact ⟨rfl, below_more hB hB9⟩
        · have g1 : ¬ (100 : Int) < (z : Int) := by omega
          have HALL : Hid (∀ j, j < t + 1 → rq p (N.getD j 0) ≤ 100) := Lib.hid fun j hj => by
            rcases Nat.lt_or_ge j t with h | h
            · exact hall j h
            · rw [show j = t by omega, hgd, ← hz]; omega
          clear hgd hx hz hall
          go_wp2_with (first
            | (go_at_call 9; refine (CO.out _).mono ?_; rintro e' x6 ⟨rfl, hB6⟩; have hBc := below_more hBc hB6))
          go_roundw
          case rel => exact ⟨t + 1, by go_num, by omega, HALL.out, hBc⟩
          case measure => simp [intOf]; omega
      · have hlt' : ¬ (t : Int) < (q : Int) := by omega
        have hmem : ∀ x ∈ N, rq p x ≤ 100 := fun x hx => by
          obtain ⟨j, hj, rfl⟩ := List.getElem_of_mem hx
          have := hall j (by omega)
          rwa [List.getD_eq_getElem?_getD, List.getElem?_eq_getElem hj] at this
        have hW1 := HK.out.wfrm hW0 (X := fun _ => False) (Frm.of_below hBc) (fun _ h => h.elim)
        have HMEM := Lib.hid hmem
        clear hall hmem hW0 hBc
        go_wp2
        go_loopw [37] (fun kv wr => ∃ (t : Nat) (S : Nat → Prop) (V : List Bool), kv = .int .i64 (t : Int) ∧ t ≤ q ∧ V = outR p (N.take t) ∧ V.length ≤ 140 * t ∧ BW wr r S V ∧ (∀ i, S i → w.heap.size ≤ i) ∧ Below w.heap.size w wr) (fun kv _ => q - (intOf kv).toNat)
        case atStart => exact ⟨0, S0, [], by first | rfl | go_num, by omega, by simp [outR], by simp, hW1, hS0, hB⟩
        case round =>
          obtain ⟨t, S, V, rfl, htm, hV, hVl, hW, hSn, hBr⟩ := hrel
          obtain ⟨wo, hwo⟩ : ∃ x, x = wr := ⟨_, rfl⟩
          rw [← hwo] at hW hBr ⊢
          clear hwo hW1 hS0
          have hB := hBr
          by_cases hlt : t < q
          · have hlt' : (t : Int) < (q : Int) := by omega
            obtain ⟨bb, off, hl, rfl, sc, hm64⟩ := HP.out.at_ hB hlt
            have hnx := outR_take p N t hl
            have hqx := HMEM.out _ (List.getElem_mem hl)
            obtain ⟨x, hx⟩ : ∃ z, z = N[t] := ⟨_, rfl⟩
            rw [← hx] at sc hm64 hqx
            rw [← hx, ← hV] at hnx
            have hrl := rcode_len p x
            have hk3 := hld_le p 32
            obtain ⟨V2, hV2⟩ : ∃ z, z = V ++ rcode p x := ⟨_, rfl⟩
            have HV2 : Hid (V2 = outR p (N.take (t + 1))) := Lib.hid (by rw [hnx, hV2])
            have hV2l : V2.length ≤ 140 * (t + 1) := by rw [hV2, List.length_append]; omega
            have CP : Hid (∀ (W : World), BW W r S V → Calls Try.prog 11 #[.pointer (some ⟨r, 0, none⟩), .int .i64 p, .int .u64 (x : Int)] W fun e w' => ∃ S', e = .returned (.int .i64 0) ∧ BW w' r S' V2 ∧ Frm S W w' ∧ ∀ i, S' i → S i ∨ W.heap.size ≤ i) := Lib.hid fun W h => by rw [hV2]; exact HQ.out.put W r S V p x h hm64 hp0 hp1 (by omega) (by omega)
            clear hV2 hnx hV hVl hx hrl hqx hBr
            go_wp2_with (first
              | (go_at_call 11; refine (CP.out _ hW).mono ?_; rintro e' x5 ⟨S2, rfl, hW, hF5, hS5⟩; have hS2 : ∀ i, S2 i → w.heap.size ≤ i := fun i hi => (hS5 i hi).elim (hSn i) (fun h => Nat.le_trans hB.size h); have hB := below_frmB hB hF5 hB.size hSn))
            go_roundw
            case rel => exact ⟨t + 1, S2, V2, by go_num, by omega, HV2.out, hV2l, hW, hS2, hB⟩
            case measure => simp [intOf]; omega
          · have hlt' : ¬ (t : Int) < (q : Int) := by omega
            have e : t = q := by omega
            have hVQ : V = outR p N := by rw [hV, List.take_of_length_le (by omega)]
            obtain ⟨pad, hpad⟩ : ∃ z, z = List.replicate ((8 - V.length % 8) % 8) false := ⟨_, rfl⟩
            have hcl : cln pad = true := by rw [hpad]; exact cln_fill V
            have hpl : pad.length ≤ 8 := by rw [hpad, List.length_replicate]; omega
            have hfl : fill V = outR p (N.drop 0) ++ pad := by rw [List.drop_zero, ← hVQ, hpad]; rfl
            have CBy : Hid (Calls Try.prog 14 #[.pointer (some ⟨r, 0, none⟩)] wo fun e w' => ∃ A n c, e = .returned (.slice A n c) ∧ Rd w' A n (pack V) ∧ n ≤ c ∧ c ≤ maxLen ∧ Below wo.heap.size wo w') := Lib.hid (HK.out.bytes wo r S V hW (by omega))
            have CO : Hid (∀ (W : World) A n c, Rd W A n (pack V) → n ≤ c → c ≤ maxLen → Calls Try.prog 18 #[.slice A n c] W fun e w' => ∃ d S, e = .returned (.pointer (some ⟨d, 0, none⟩)) ∧ BR w' W.heap.size d S (outR p (N.drop 0) ++ pad) ∧ Below W.heap.size W w' ∧ ∀ i, S i → W.heap.size ≤ i) := Lib.hid fun W A n c h1 h2 h3 => by
              have hn := h1.1
              rw [pack_len] at hn
              have := HK.out.of_ W A n c (pack V) W.heap.size (RdF.old h1 (Below.refl _ _) (fun _ h => h)) h2 h3 (by omega) (Nat.le_refl _)
              rw [unp_pack, hfl] at this
              exact this
            have HCL := Lib.hid hcl
            clear hV hVQ hpad hfl hcl hW hVl
            go_upto_region 18 with (first
              | (go_at_call 14; refine (CBy.out).mono ?_; rintro e' x1 ⟨A8, n8, c8, rfl, hR8, hn8, hc8, hB8⟩; have hB := below_more hB hB8)
              | (go_at_call 18; refine (CO.out _ A8 n8 c8 hR8 hn8 hc8).mono ?_; rintro e' x2 ⟨d, S3, rfl, hR, hB9, hS9⟩; have hBX := hB9; have hsx := hB9.size))
            have hS3 : ∀ i, S3 i → w.heap.size ≤ i := fun i h => Nat.le_trans hB.size (hS9 i h)
            have hB3 := below_more hB hBX
            clear CBy CO hR8 hS9 hBX hSn hBr hB hB8 hB9
            go_wp2
            go_loopw [54] (fun kv wr => ∃ (t : Nat) (S : Nat → Prop) (l : List Bool), kv = .int .i64 (t : Int) ∧ t ≤ q ∧ l = outR p (N.drop t) ++ pad ∧ BR wr x1.heap.size d S l ∧ (∀ i, S i → w.heap.size ≤ i) ∧ Below w.heap.size w wr) (fun kv _ => q - (intOf kv).toNat)
            case atStart => exact ⟨0, S3, _, by first | rfl | go_num, by omega, rfl, hR, hS3, hB3⟩
            case round =>
              obtain ⟨t, S, l, rfl, htm, hl0, hR, hSn, hBr⟩ := hrel
              obtain ⟨wo, hwo⟩ : ∃ x, x = wr := ⟨_, rfl⟩
              rw [← hwo] at hR hBr ⊢
              clear hwo hS3 hB3 hsx
              have hB := hBr
              have hll : l.length ≤ 4000 := by
                have h1 := outR_len p (N.drop t) (fun x hx => HMEM.out x (List.mem_of_mem_drop hx))
                rw [List.length_drop] at h1
                rw [hl0, List.length_append]
                omega
              by_cases hlt : t < q
              · have hlt' : (t : Int) < (q : Int) := by omega
                obtain ⟨bb, off, hl, rfl, sc, hm64⟩ := HP.out.at_ hB hlt
                have hnx := outR_drop p N t hl
                have hqx := HMEM.out _ (List.getElem_mem hl)
                obtain ⟨x, hx⟩ : ∃ z, z = N[t] := ⟨_, rfl⟩
                rw [← hx] at sc hm64 hqx hnx
                rw [hnx, List.append_assoc] at hl0
                obtain ⟨l2, hl2⟩ : ∃ z, z = outR p (N.drop (t + 1)) ++ pad := ⟨_, rfl⟩
                rw [← hl2] at hl0
                have HL2 := Lib.hid hl2
                have CG : Hid (∀ (W : World), BR W x1.heap.size d S l → Calls Try.prog 20 #[.pointer (some ⟨d, 0, none⟩), .int .i64 p, .int .i64 100] W fun e w' => ∃ S', e = .returned (.tuple #[.int .u64 (x : Int), .int .i64 0]) ∧ BR w' x1.heap.size d S' l2 ∧ Frm S W w' ∧ ∀ i, S' i → S i ∨ W.heap.size ≤ i) := Lib.hid fun W h => by
                  have := HQ.out.get W x1.heap.size d S l p 100 h (by omega) hp0 hp1 (by omega) (by omega)
                  obtain ⟨b1, b2, b3⟩ := gt_ok p x 100 l2 (by rw [show hld 100 65536 = 100 from by decide]; exact hqx)
                  rw [hl0, b1, b2, b3] at this
                  rw [hl0] at h
                  exact this
                clear hnx hl2 hl0 hx hqx hBr
                go_wp2_with (first
                  | (go_at_call 20; refine (CG.out _ hR).mono ?_; rintro e' x5 ⟨S2, rfl, hR, hF5, hS5⟩; have hS2 : ∀ i, S2 i → w.heap.size ≤ i := fun i hi => (hS5 i hi).elim (hSn i) (fun h => Nat.le_trans hB.size h); have hB := below_frmB hB hF5 hB.size hSn))
                go_roundw
                case rel => exact ⟨t + 1, S2, l2, by go_num, by omega, HL2.out, hR, hS2, hB⟩
                case measure => simp [intOf]; omega
              · have hlt' : ¬ (t : Int) < (q : Int) := by omega
                have e : l = pad := by rw [hl0, List.drop_of_length_le (by omega)]; rfl
                have CC : Hid (∀ (W : World) S', BR W x1.heap.size d S' l → Calls Try.prog 23 #[.pointer (some ⟨d, 0, none⟩)] W (Ret W (.bool true))) := Lib.hid fun W S' h => by
                  have := HK.out.clean W x1.heap.size d S' l h (by omega)
                  rw [e, HCL.out] at this
                  exact this
                clear e hl0 hBr
                go_wp2_with (first
                  | (go_at_call 23; refine (CC.out _ _ hR).mono ?_; rintro e' x7 ⟨rfl, hB7⟩; have hB := below_more hB hB7; have hR := HK.out.rfrm hR (X := fun _ => False) (Frm.of_below hB7) (fun _ h => h.elim))
                  | (go_at_call 10; refine (CA.out _).mono ?_; rintro e' y9 ⟨rfl, hB9⟩))
                go_ret
                exact ⟨rfl, below_more hB hB9⟩
end Go.Proofs.Ytkmedbdaobficaa
