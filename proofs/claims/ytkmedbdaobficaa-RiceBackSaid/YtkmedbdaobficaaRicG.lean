/- The walk of RiceGets, over what packages bit and rice are to answer. -/
import Derived.Test.YtkmedbdaobficaaRicC
import Derived.Deep.RegionHeld3
import Derived.Deep.CutRange
import Derived.Deep.DeepCutAuto
namespace Go.Proofs.Ytkmedbdaobficaa
open Go.RowKit
set_option linter.unusedVariables false
set_option linter.unusedSimpArgs false

set_option maxRecDepth 100000 in
theorem wf_i64 {z : Int} (h : (Lit.int .i64 z).wf = true) : -9223372036854775808 ≤ z ∧ z ≤ 9223372036854775807 := by
  have l0 : IntKind.i64.min = -9223372036854775808 := by decide
  have l1 : IntKind.i64.max = 9223372036854775807 := by decide
  simp only [Lit.wf, l0, l1, Bool.and_eq_true, decide_eq_true_eq] at h
  exact h
set_option maxRecDepth 100000 in
set_option maxHeartbeats 4000000 in
theorem riceGets_walk {BW : World → Nat → (Nat → Prop) → List Bool → Prop} {BR : World → Nat → Nat → (Nat → Prop) → List Bool → Prop} (K : BitOk BW BR) (Q : RiceOk BW BR) (A : Option Addr) (n c : Nat) (b : List UInt8) (p : Int) (A1 : Option Addr) (m k : Nat) (P : List Int) (w : World) (w0 : Rd w A n b ∧ n ≤ c ∧ c ≤ maxLen) (hp0 : -9223372036854775808 ≤ p) (hp1 : p ≤ 9223372036854775807) (w1 : RdK .i64 w A1 m P ∧ m ≤ k ∧ k ≤ maxLen) (hbig : n ≤ 140737488355328) : Calls Try.prog 5 #[.slice A n c, .int .i64 p, .slice A1 m k] w (Ret w (.bool true)) := by
  obtain ⟨hb, hnc, hcm⟩ := w0
  obtain ⟨hP, hmk, hkm⟩ := w1
  have hbl := hb.len
  have CO : Hid (∀ W, Below w.heap.size w W → Calls Try.prog 18 #[.slice A n c] W fun e w' => ∃ r S, e = .returned (.pointer (some ⟨r, 0, none⟩)) ∧ BR w' w.heap.size r S (unp b) ∧ Below W.heap.size W w' ∧ ∀ i, S i → W.heap.size ≤ i) := Lib.hid fun W h => K.of_ W A n c b w.heap.size (RdF.old hb h (fun _ h => h)) hnc hcm hbig h.size
  unfold maxLen at hkm hcm
  have HP := Lib.hid hP
  have HK := Lib.hid K
  have HQ := Lib.hid Q
  have CA : Hid (∀ W, Calls Try.prog 10 #[] W (Ret W (.bool true))) := Lib.hid fun W => awake12_calls K Q W
  obtain ⟨s0, hs0⟩ : ∃ z, z = tx (unp b) := ⟨_, rfl⟩
  have CAL : Hid (n ≤ 40 → ∀ W, Below w.heap.size w W → Calls Try.prog 19 #[.slice A n c] W (Ret W (.string s0))) := Lib.hid fun h60 W h => by rw [hs0]; exact zall_calls A n c b W (hb.below h) (by omega)
  have HS0 := Lib.hid hs0
  have HUL : Hid ((unp b).length = 8 * n) := Lib.hid (by rw [unp_len, hbl])
  clear hP K Q hb hs0 hbl
  go_enter Try.func5, Try.ntmps5
  go_upto_region 4 with (first
    | (go_at_call 18; refine (CO.out _ (Below.refl _ _)).mono ?_; rintro e' w1 ⟨r, S0, rfl, hR0, hB0, hS0⟩))
  by_cases h60 : 40 < n
  · have h61 : (40 : Int) < (n : Int) := by omega
    go_wp2_with (first
      | (go_at_call 10; refine (CA.out _).mono ?_; rintro e' y9 ⟨rfl, hB9⟩))
    go_ret
    exact ⟨rfl, below_more hB0 hB9⟩
  have h61 : ¬ (40 : Int) < (n : Int) := by omega
  go_upto_region 7 with (first
    | (go_at_call 19; refine (CAL.out (by omega) _ hB0).mono ?_; rintro e' w2 ⟨rfl, hB2⟩; have hR0 := HK.out.rfrm hR0 (X := fun _ => False) (Frm.of_below hB2) (fun _ h => h.elim); have hB0 := below_more hB0 hB2))
  go_wp2
  go_loopw [8, 28] (fun sv kv wr => ∃ (t : Nat) (s : ByteArray) (S : Nat → Prop) (l : List Bool), kv = .int .i64 (t : Int) ∧ sv = .string s ∧ t ≤ m ∧ t ≤ 20 ∧ s = tx l ∧ l.length ≤ 320 ∧ BR wr w.heap.size r S l ∧ (∀ i, S i → w.heap.size ≤ i) ∧ Below w.heap.size w wr) (fun _ kv _ => m - (intOf kv).toNat)
  case atStart => exact ⟨0, _, S0, _, by first | rfl | go_num, rfl, by omega, by omega, HS0.out, by rw [HUL.out]; omega, hR0, hS0, hB0⟩
  case round =>
    obtain ⟨t, s, S, l, rfl, rfl, htm, ht30, hs, hll, hR, hSn, hBr⟩ := hrel
    obtain ⟨wo, hwo⟩ : ∃ x, x = wr := ⟨_, rfl⟩
    rw [← hwo] at hR hBr ⊢
    clear hwo hR0 hB0 hS0
    have HS := Lib.hid hs
    clear hs
    have hB := hBr
    by_cases hlt : t < m
    · have hlt' : (t : Int) < (m : Int) := by omega
      obtain ⟨bb, off, hl, rfl, sc, hwf⟩ := HP.out.at_ hB hlt
      have hzz := wf_i64 hwf
      obtain ⟨om, hom⟩ : ∃ z, z = P[t] := ⟨_, rfl⟩
      rw [← hom] at sc hzz
      clear hwf hom hBr
      by_cases h29 : 19 < t
      · have hd29 : (19 : Int) < (t : Int) := by omega
        clear hR
        go_wp2_with (first
          | (go_at_call 10; refine (CA.out _).mono ?_; rintro e' y9 ⟨rfl, hB9⟩))
        go_ret
        exact ⟨rfl, below_more hB hB9⟩
      · have hd29 : ¬ (19 : Int) < (t : Int) := by omega
        obtain ⟨l2, hl2⟩ : ∃ z, z = gtL l p om := ⟨_, rfl⟩
        have hl2l : l2.length ≤ l.length := by rw [hl2]; exact gtL_len _ _ _
        obtain ⟨s2, hs2⟩ : ∃ z, z = tx l2 := ⟨_, rfl⟩
        obtain ⟨N2, hN2⟩ : ∃ z, z = l2.length := ⟨_, rfl⟩
        have hsz2 : s2.size = N2 := by rw [hs2, tx_size, hN2]
        have HS2 := Lib.hid hs2
        obtain ⟨v2, hv2⟩ : ∃ z, z = gtV l p om := ⟨_, rfl⟩
        obtain ⟨e2, he2⟩ : ∃ z, z = gtE l p om := ⟨_, rfl⟩
        have CG : Hid (∀ (W : World), BR W w.heap.size r S l → Calls Try.prog 20 #[.pointer (some ⟨r, 0, none⟩), .int .i64 p, .int .i64 om] W fun e w' => ∃ S', e = .returned (.tuple #[.int .u64 (v2 : Int), .int .i64 (e2 : Int)]) ∧ BR w' w.heap.size r S' l2 ∧ Frm S W w' ∧ ∀ i, S' i → S i ∨ W.heap.size ≤ i) := Lib.hid fun W h => by
          rw [hl2, hv2, he2]
          exact HQ.out.get W w.heap.size r S l p om h (by omega) hp0 hp1 hzz.1 hzz.2
        have CD : Hid (∀ W, Calls Try.prog 21 #[.string s, .int .i64 p, .int .i64 om] W (Ret W (.tuple #[.string s2, .int .u64 (v2 : Int), .int .i64 (e2 : Int)]))) := Lib.hid fun W => by rw [HS.out, hs2, hl2, hv2, he2]; exact xget_calls l p om (by omega) W
        have CL : Hid (∀ (W : World) S', BR W w.heap.size r S' l2 → Calls Try.prog 22 #[.pointer (some ⟨r, 0, none⟩)] W (Ret W (.int .i64 (N2 : Int)))) := Lib.hid fun W S' h => by rw [hN2]; exact HK.out.left W w.heap.size r S' l2 h (by omega)
        clear hl2 hs2 hv2 he2 hN2
        go_wp2_with (first
          | (go_at_call 20; refine (CG.out _ hR).mono ?_; rintro e' x5 ⟨S2, rfl, hR, hF5, hS5⟩; have hS2 : ∀ i, S2 i → w.heap.size ≤ i := fun i hi => (hS5 i hi).elim (hSn i) (fun h => Nat.le_trans hB.size h); have hB := below_frmB hB hF5 hB.size hSn)
          | (go_at_call 21; refine (CD.out _).mono ?_; rintro e' x6 ⟨rfl, hB6⟩; have hB := below_more hB hB6; have hR := HK.out.rfrm hR (X := fun _ => False) (Frm.of_below hB6) (fun _ h => h.elim))
          | (go_at_call 22; refine (CL.out _ _ hR).mono ?_; rintro e' x7 ⟨rfl, hB7⟩; have hB := below_more hB hB7; have hR := HK.out.rfrm hR (X := fun _ => False) (Frm.of_below hB7) (fun _ h => h.elim)))
        go_roundw
        case rel => exact ⟨t + 1, s2, S2, l2, by go_num, rfl, by omega, by omega, HS2.out, by omega, hR, hS2, hB⟩
        case measure => simp [intOf]; omega
    · have hlt' : ¬ (t : Int) < (m : Int) := by omega
      clear hR
      go_wp2_with (first
        | (go_at_call 10; refine (CA.out _).mono ?_; rintro e' y9 ⟨rfl, hB9⟩))
      go_ret
      exact ⟨rfl, below_more hB hB9⟩
end Go.Proofs.Ytkmedbdaobficaa
