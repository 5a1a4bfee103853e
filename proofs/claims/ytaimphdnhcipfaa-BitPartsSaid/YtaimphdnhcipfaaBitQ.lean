/- The walk of BitParts, over what package bit is to answer. -/
import Derived.Test.YtaimphdnhcipfaaBitC
import Derived.Deep.RegionHeld3
namespace Go.Proofs.Ytaimphdnhcipfaa
open Go.RowKit
set_option linter.unusedVariables false
set_option linter.unusedSimpArgs false

set_option maxRecDepth 100000 in
theorem or64_nat (a b : Nat) (ha : a < 2 ^ 64) (hb : b < 2 ^ 64) : bits .or .u64 (a : Int) (b : Int) = ((a ||| b : Nat) : Int) := by
  show IntKind.u64.wrap ((BitVec.ofInt 64 (a : Int) ||| BitVec.ofInt 64 (b : Int)).toNat : Int) = _
  have hab : a ||| b < 2 ^ 64 := Nat.or_lt_two_pow ha hb
  have e1 : (BitVec.ofInt 64 (a : Int)).toNat = a := by rw [BitVec.toNat_ofInt]; omega
  have e2 : (BitVec.ofInt 64 (b : Int)).toNat = b := by rw [BitVec.toNat_ofInt]; omega
  rw [BitVec.toNat_or, e1, e2, IntKind.wrap_u64]
  omega
set_option maxRecDepth 100000 in
theorem or64_top (y z J : Nat) (hy : y * 2 ^ J + z < 2 ^ 64) (hz : z < 2 ^ J) : bits .or .u64 ((y * 2 ^ J : Nat) : Int) (z : Int) = ((y * 2 ^ J + z : Nat) : Int) := by
  rw [or64_nat _ _ (by omega) (by omega), Nat.mul_comm y, ← Nat.two_pow_add_eq_or_of_lt hz]
set_option maxRecDepth 100000 in
theorem shl64_nat (x s : Nat) : (x : Int) * 2 ^ s = ((x * 2 ^ s : Nat) : Int) := by rw [Int.natCast_mul, Int.natCast_pow]; rfl
set_option maxRecDepth 100000 in
set_option maxHeartbeats 2000000 in
theorem bitParts_walk {BW : World → Nat → (Nat → Prop) → List Bool → Prop} {BR : World → Nat → Nat → (Nat → Prop) → List Bool → Prop} (K : BitOk BW BR) (A : Option Addr) (n c : Nat) (b : List UInt8) (i j : Int) (w : World) (w0 : Rd w A n b ∧ n ≤ c ∧ c ≤ maxLen) (hbig : n ≤ 140737488355328) : Calls Try.prog 6 #[.slice A n c, .int .i64 i, .int .i64 j] w (Ret w (.bool true)) := by
  obtain ⟨hb, hnc, hcm⟩ := w0
  have hbl := hb.len
  have CO : Hid (∀ W, Below w.heap.size w W → Calls Try.prog 17 #[.slice A n c] W fun e w' => ∃ p S, e = .returned (.pointer (some ⟨p, 0, none⟩)) ∧ BR w' w.heap.size p S (unp b) ∧ Below W.heap.size W w' ∧ ∀ i, S i → W.heap.size ≤ i) := Lib.hid fun W h => K.of_ W A n c b w.heap.size (RdF.old hb h (fun _ h => h)) hnc hcm hbig h.size
  unfold maxLen at hcm
  have HK := Lib.hid K
  have CA : Hid (∀ W, Calls Try.prog 16 #[] W (Ret W (.bool true))) := Lib.hid fun W => awake11_calls K W
  obtain ⟨l, hl⟩ : ∃ z, z = unp b := ⟨_, rfl⟩
  obtain ⟨N, hN⟩ : ∃ z, z = 8 * n := ⟨_, rfl⟩
  have hlN : l.length = N := by rw [hl, unp_len, hbl, hN]
  obtain ⟨I, hI⟩ : ∃ z, z = hld i 32 := ⟨_, rfl⟩
  obtain ⟨J, hJ⟩ : ∃ z, z = hld j 32 := ⟨_, rfl⟩
  have hI3 : I ≤ 32 := by rw [hI]; exact hld_le _ _
  have hJ3 : J ≤ 32 := by rw [hJ]; exact hld_le _ _
  have CHi : Hid (∀ W, Calls Try.prog 12 #[.int .i64 i, .int .i64 0, .int .i64 32] W (Ret W (.int .i64 (I : Int)))) := Lib.hid fun W => by rw [hI]; exact bheld_calls i 32 (by omega) W
  have CHj : Hid (∀ W, Calls Try.prog 12 #[.int .i64 j, .int .i64 0, .int .i64 32] W (Ret W (.int .i64 (J : Int)))) := Lib.hid fun W => by rw [hJ]; exact bheld_calls j 32 (by omega) W
  rw [← hl] at CO
  clear K hb hl hI hJ hbl
  go_enter Try.func6, Try.ntmps6
  go_upto_region 2 with (first
    | ((go_at_call 17; refine (CO.out _ (Below.refl _ _)).mono ?_; rintro e' w1 ⟨p, Sp, rfl, hp, hB1, hSp⟩))
    | ((go_at_call 17; refine (CO.out _ hB1).mono ?_; rintro e' w2 ⟨q, Sq, rfl, hq, hB2, hSq2⟩)))
  have hpl := HK.out.rlt hp
  have hdis : ∀ i, Sp i → ¬ Sq i := fun i h1 h2 => by have := hpl i h1; have := hSq2 i h2; omega
  have hp := HK.out.rfrm hp (X := fun _ => False) (Frm.of_below hB2) (fun _ h => h.elim)
  have hSq : ∀ i, Sq i → w.heap.size ≤ i := fun i h => Nat.le_trans hB1.size (hSq2 i h)
  have hB := below_more hB1 hB2
  clear hSq2 hpl hB1 hB2 CO
  by_cases h40 : 40 < n
  · have h41 : (40 : Int) < (n : Int) := by omega
    clear hp hq
    go_wp2_with (first
      | (go_at_call 16; refine (CA.out _).mono ?_; rintro e' y9 ⟨rfl, hB9⟩))
    go_ret
    exact ⟨rfl, below_more hB hB9⟩
  have h41 : ¬ (40 : Int) < (n : Int) := by omega
  go_upto_region 7 with (first
    | ((go_at_call 12; (with_reducible refine (CHi.out _).mono ?_); rintro e' w3 ⟨rfl, hB3⟩; have hB := below_more hB hB3; have hp := HK.out.rfrm hp (X := fun _ => False) (Frm.of_below hB3) (fun _ h => h.elim); have hq := HK.out.rfrm hq (X := fun _ => False) (Frm.of_below hB3) (fun _ h => h.elim)))
    | ((go_at_call 12; (with_reducible refine (CHj.out _).mono ?_); rintro e' w4 ⟨rfl, hB4⟩; have hB := below_more hB hB4; have hp := HK.out.rfrm hp (X := fun _ => False) (Frm.of_below hB4) (fun _ h => h.elim); have hq := HK.out.rfrm hq (X := fun _ => False) (Frm.of_below hB4) (fun _ h => h.elim))))
  have hql := HK.out.rlt hq
  have hql0 := hql
  clear CHi CHj
  have hN3 : N ≤ 320 := by omega
  obtain ⟨IJ, hIJ⟩ : ∃ z, z = I + J := ⟨_, rfl⟩
  have u1 : IntKind.i64.wrap ((I : Int) + (J : Int)) = (IJ : Int) := by rw [IntKind.wrap_i64]; omega
  have u2 : IntKind.i64.wrap (8 * (n : Int)) = (N : Int) := by rw [IntKind.wrap_i64]; omega
  obtain ⟨l1, hl1⟩ : ∃ z, z = btL l I := ⟨_, rfl⟩
  have hl1l : l1.length ≤ l.length := by rw [hl1]; exact btL_len _ _
  by_cases hfit : I + J ≤ N
  · have b1 : btL l I = l.drop I ∧ btV l I = num (l.take I) ∧ btE l I = 0 := by unfold btL btV btE; rw [if_neg (by omega), if_neg (by omega), if_neg (by omega)]; exact ⟨rfl, rfl, rfl⟩
    have h1n : l1.length = N - I := by rw [hl1, b1.1, List.length_drop, hlN]
    have b2 : btL l1 J = l.drop IJ ∧ btV l1 J = num ((l.drop I).take J) ∧ btE l1 J = 0 := by
      unfold btL btV btE
      rw [if_neg (by omega), if_neg (by omega), if_neg (by omega), hl1, b1.1, List.drop_drop, hIJ]
      exact ⟨rfl, rfl, rfl⟩
    have b3 : btL l IJ = l.drop IJ ∧ btV l IJ = num (l.take IJ) ∧ btE l IJ = 0 := by unfold btL btV btE; rw [if_neg (by omega), if_neg (by omega), if_neg (by omega)]; exact ⟨rfl, rfl, rfl⟩
    have hsum := num_two l I J (by omega)
    rw [← hIJ] at hsum
    obtain ⟨x, hx⟩ : ∃ z, z = num (l.take IJ) := ⟨_, rfl⟩
    obtain ⟨y, hy⟩ : ∃ z, z = num (l.take I) := ⟨_, rfl⟩
    obtain ⟨z, hz⟩ : ∃ z, z = num ((l.drop I).take J) := ⟨_, rfl⟩
    obtain ⟨l2, hl2⟩ : ∃ z, z = l.drop IJ := ⟨_, rfl⟩
    have hz2 : z < 2 ^ J := by
      have := num_lt ((l.drop I).take J)
      rw [List.length_take, List.length_drop, Nat.min_eq_left (by omega), ← hz] at this
      exact this
    have hx2 : x < 2 ^ 64 := by
      have h1 := num_lt (l.take IJ)
      have h2 : (2 : Nat) ^ (l.take IJ).length ≤ 2 ^ 64 := Nat.pow_le_pow_right (by omega) (by rw [List.length_take]; omega)
      omega
    rw [← hx, ← hy, ← hz] at hsum
    obtain ⟨Y, hYY⟩ : ∃ t, t = y * 2 ^ J := ⟨_, rfl⟩
    have a1 : IntKind.u64.wrap ((y : Int) * 2 ^ J) = (Y : Int) := by rw [shl64_nat, ← hYY, IntKind.wrap_u64]; omega
    have a2 : bits .or .u64 (Y : Int) (z : Int) = (x : Int) := by rw [hYY, hsum]; exact or64_top y z J (by omega) hz2
    obtain ⟨N2, hN2⟩ : ∃ t, t = l2.length := ⟨_, rfl⟩
    have hl2l : l2.length ≤ 320 := by rw [hl2, List.length_drop]; omega
    have C7 : Hid (∀ (W : World) S', BR W w.heap.size p S' l → Calls Try.prog 21 #[.pointer (some ⟨p, 0, none⟩), .int .i64 (IJ : Int)] W fun e w' => ∃ T, e = .returned (.tuple #[.int .u64 (x : Int), .int .i64 0]) ∧ BR w' w.heap.size p T l2 ∧ Frm S' W w' ∧ ∀ i, T i → S' i ∨ W.heap.size ≤ i) := Lib.hid fun W S' h => by
      have := HK.out.take W w.heap.size p S' l (IJ : Int) h (by omega) (by omega) (by omega)
      rw [show hld (IJ : Int) 64 = IJ from by unfold hld; rw [if_neg (by omega), if_neg (by omega)]; omega] at this
      rw [b3.1, b3.2.1, b3.2.2, ← hl2, ← hx] at this
      exact this
    have C8 : Hid (∀ (W : World) S', BR W w.heap.size q S' l → Calls Try.prog 21 #[.pointer (some ⟨q, 0, none⟩), .int .i64 (I : Int)] W fun e w' => ∃ T, e = .returned (.tuple #[.int .u64 (y : Int), .int .i64 0]) ∧ BR w' w.heap.size q T l1 ∧ Frm S' W w' ∧ ∀ i, T i → S' i ∨ W.heap.size ≤ i) := Lib.hid fun W S' h => by
      have := HK.out.take W w.heap.size q S' l (I : Int) h (by omega) (by omega) (by omega)
      rw [show hld (I : Int) 64 = I from by unfold hld; rw [if_neg (by omega), if_neg (by omega)]; omega] at this
      rw [b1.2.1, b1.2.2, ← hl1, ← hy] at this
      exact this
    have C9 : Hid (∀ (W : World) S', BR W w.heap.size q S' l1 → Calls Try.prog 21 #[.pointer (some ⟨q, 0, none⟩), .int .i64 (J : Int)] W fun e w' => ∃ T, e = .returned (.tuple #[.int .u64 (z : Int), .int .i64 0]) ∧ BR w' w.heap.size q T l2 ∧ Frm S' W w' ∧ ∀ i, T i → S' i ∨ W.heap.size ≤ i) := Lib.hid fun W S' h => by
      have := HK.out.take W w.heap.size q S' l1 (J : Int) h (by omega) (by omega) (by omega)
      rw [show hld (J : Int) 64 = J from by unfold hld; rw [if_neg (by omega), if_neg (by omega)]; omega] at this
      rw [b2.1, b2.2.1, b2.2.2, ← hl2, ← hz] at this
      exact this
    have CL : Hid (∀ (W : World) r S', BR W w.heap.size r S' l2 → Calls Try.prog 24 #[.pointer (some ⟨r, 0, none⟩)] W (Ret W (.int .i64 (N2 : Int)))) := Lib.hid fun W r S' h => by rw [hN2]; exact HK.out.left W w.heap.size r S' l2 h (by omega)
    clear b1 b2 b3 hsum hx hy hz hl2 hz2 hYY hN2 hl2l hl1 hl1l h1n hIJ hlN hN u2
    go_upto_region 8 with (first
      | (go_at_call 21; refine (C7.out _ _ hp).mono ?_; rintro e' w7 ⟨T1, rfl, hp, hF, hS⟩; have hB' := below_frmB hB hF hB.size hSp; have hq := HK.out.rfrm hq hF (fun i hi => ⟨hdis i hi, hSp i hi⟩); have hSp' : ∀ i, T1 i → w.heap.size ≤ i := fun i hi => (hS i hi).elim (hSp i) (fun h => Nat.le_trans hB.size h); have hdis' : ∀ i, T1 i → ¬ Sq i := fun i hi hq' => (hS i hi).elim (fun h => hdis i h hq') (fun h => (by have := hql i hq'; omega)); have hpl := HK.out.rlt hp; have hB := hB'))
    go_upto_region 9 with (first
      | (go_at_call 21; refine (C8.out _ _ hq).mono ?_; rintro e' w8 ⟨T2, rfl, hq, hF, hS⟩; have hp := HK.out.rfrm hp hF (fun i hi => ⟨fun h => hdis' i h hi, hSq i hi⟩); have hB' := below_frmB hB hF hB.size hSq; have hT2 : ∀ i, T2 i → w.heap.size ≤ i := fun i hi => (hS i hi).elim (hSq i) (fun h => Nat.le_trans hB.size h); have hdis' : ∀ i, T1 i → ¬ T2 i := fun i hi hq' => (hS i hq').elim (fun h => hdis' i hi h) (fun h => (by have := hpl i hi; omega)); have hpl := HK.out.rlt hp; have hB := hB'))
    go_upto_region 10 with (first
      | (go_at_call 21; refine (C9.out _ _ hq).mono ?_; rintro e' w9 ⟨T3, rfl, hq, hF, hS⟩; have hp := HK.out.rfrm hp hF (fun i hi => ⟨fun h => hdis' i h hi, hT2 i hi⟩); have hB' := below_frmB hB hF hB.size hT2; have hT3 : ∀ i, T3 i → w.heap.size ≤ i := fun i hi => (hS i hi).elim (hT2 i) (fun h => Nat.le_trans hB.size h); have hdis' : ∀ i, T1 i → ¬ T3 i := fun i hi hq' => (hS i hq').elim (fun h => hdis' i hi h) (fun h => (by have := hpl i hi; omega)); have hpl := HK.out.rlt hp; have hB := hB'))
    clear hF hS hdis' hpl
    go_wp2_with (first
      | ((go_at_call 24; (with_reducible refine (CL.out _ _ _ hp).mono ?_); rintro e' wa ⟨rfl, hBa⟩; have hB := below_more hB hBa; have hp := HK.out.rfrm hp (X := fun _ => False) (Frm.of_below hBa) (fun _ h => h.elim); have hq := HK.out.rfrm hq (X := fun _ => False) (Frm.of_below hBa) (fun _ h => h.elim)))
      | ((go_at_call 24; (with_reducible refine (CL.out _ _ _ hq).mono ?_); rintro e' wb ⟨rfl, hBb⟩; have hB := below_more hB hBb; have hp := HK.out.rfrm hp (X := fun _ => False) (Frm.of_below hBb) (fun _ h => h.elim); have hq := HK.out.rfrm hq (X := fun _ => False) (Frm.of_below hBb) (fun _ h => h.elim)))
      | (go_at_call 16; refine (CA.out _).mono ?_; rintro e' y9 ⟨rfl, hB9⟩))
    go_ret
    exact ⟨rfl, below_more hB hB9⟩
  · have b3 : btL l IJ = l ∧ btV l IJ = 0 ∧ btE l IJ = 2 := by unfold btL btV btE; rw [if_pos (by omega), if_pos (by omega), if_pos (by omega)]; exact ⟨rfl, rfl, rfl⟩
    obtain ⟨y, hy⟩ : ∃ z, z = btV l I := ⟨_, rfl⟩
    obtain ⟨z, hz⟩ : ∃ z, z = btV l1 J := ⟨_, rfl⟩
    obtain ⟨l2, hl2⟩ : ∃ z, z = btL l1 J := ⟨_, rfl⟩
    have C7 : Hid (∀ (W : World) S', BR W w.heap.size p S' l → Calls Try.prog 21 #[.pointer (some ⟨p, 0, none⟩), .int .i64 (IJ : Int)] W fun e w' => ∃ T, e = .returned (.tuple #[.int .u64 (0 : Int), .int .i64 2]) ∧ BR w' w.heap.size p T l ∧ Frm S' W w' ∧ ∀ i, T i → S' i ∨ W.heap.size ≤ i) := Lib.hid fun W S' h => by
      have := HK.out.take W w.heap.size p S' l (IJ : Int) h (by omega) (by omega) (by omega)
      rw [show hld (IJ : Int) 64 = IJ from by unfold hld; rw [if_neg (by omega), if_neg (by omega)]; omega] at this
      rw [b3.1, b3.2.1, b3.2.2] at this
      exact this
    have CL : Hid (∀ (W : World) r S', BR W w.heap.size r S' l → Calls Try.prog 24 #[.pointer (some ⟨r, 0, none⟩)] W (Ret W (.int .i64 (N : Int)))) := Lib.hid fun W r S' h => by rw [← hlN]; exact HK.out.left W w.heap.size r S' l h (by omega)
    by_cases h2 : N < I
    · have e1 : btE l I = 2 := by unfold btE; rw [if_pos (by omega)]
      obtain ⟨E2, hE2⟩ : ∃ z, z = btE l1 J := ⟨_, rfl⟩
      have C8 : Hid (∀ (W : World) S', BR W w.heap.size q S' l → Calls Try.prog 21 #[.pointer (some ⟨q, 0, none⟩), .int .i64 (I : Int)] W fun e w' => ∃ T, e = .returned (.tuple #[.int .u64 (y : Int), .int .i64 2]) ∧ BR w' w.heap.size q T l1 ∧ Frm S' W w' ∧ ∀ i, T i → S' i ∨ W.heap.size ≤ i) := Lib.hid fun W S' h => by
        have := HK.out.take W w.heap.size q S' l (I : Int) h (by omega) (by omega) (by omega)
        rw [show hld (I : Int) 64 = I from by unfold hld; rw [if_neg (by omega), if_neg (by omega)]; omega] at this
        rw [e1, ← hl1, ← hy] at this
        exact this
      have C9 : Hid (∀ (W : World) S', BR W w.heap.size q S' l1 → Calls Try.prog 21 #[.pointer (some ⟨q, 0, none⟩), .int .i64 (J : Int)] W fun e w' => ∃ T, e = .returned (.tuple #[.int .u64 (z : Int), .int .i64 (E2 : Int)]) ∧ BR w' w.heap.size q T l2 ∧ Frm S' W w' ∧ ∀ i, T i → S' i ∨ W.heap.size ≤ i) := Lib.hid fun W S' h => by
        have := HK.out.take W w.heap.size q S' l1 (J : Int) h (by omega) (by omega) (by omega)
        rw [show hld (J : Int) 64 = J from by unfold hld; rw [if_neg (by omega), if_neg (by omega)]; omega] at this
        rw [← hE2, ← hl2, ← hz] at this
        exact this
      clear b3 hy hz hl2 hl1 hl1l hE2 e1 hIJ hlN hN
      go_upto_region 8 with (first
        | (go_at_call 21; refine (C7.out _ _ hp).mono ?_; rintro e' w7 ⟨T1, rfl, hp, hF, hS⟩; have hB' := below_frmB hB hF hB.size hSp; have hq := HK.out.rfrm hq hF (fun i hi => ⟨hdis i hi, hSp i hi⟩); have hSp' : ∀ i, T1 i → w.heap.size ≤ i := fun i hi => (hS i hi).elim (hSp i) (fun h => Nat.le_trans hB.size h); have hdis' : ∀ i, T1 i → ¬ Sq i := fun i hi hq' => (hS i hi).elim (fun h => hdis i h hq') (fun h => (by have := hql i hq'; omega)); have hpl := HK.out.rlt hp; have hB := hB'))
      go_upto_region 9 with (first
        | (go_at_call 21; refine (C8.out _ _ hq).mono ?_; rintro e' w8 ⟨T2, rfl, hq, hF, hS⟩; have hp := HK.out.rfrm hp hF (fun i hi => ⟨fun h => hdis' i h hi, hSq i hi⟩); have hB' := below_frmB hB hF hB.size hSq; have hT2 : ∀ i, T2 i → w.heap.size ≤ i := fun i hi => (hS i hi).elim (hSq i) (fun h => Nat.le_trans hB.size h); have hdis' : ∀ i, T1 i → ¬ T2 i := fun i hi hq' => (hS i hq').elim (fun h => hdis' i hi h) (fun h => (by have := hpl i hi; omega)); have hpl := HK.out.rlt hp; have hB := hB'))
      go_upto_region 10 with (first
        | (go_at_call 21; refine (C9.out _ _ hq).mono ?_; rintro e' w9 ⟨T3, rfl, hq, hF, hS⟩; have hp := HK.out.rfrm hp hF (fun i hi => ⟨fun h => hdis' i h hi, hT2 i hi⟩); have hB' := below_frmB hB hF hB.size hT2; have hT3 : ∀ i, T3 i → w.heap.size ≤ i := fun i hi => (hS i hi).elim (hT2 i) (fun h => Nat.le_trans hB.size h); have hdis' : ∀ i, T1 i → ¬ T3 i := fun i hi hq' => (hS i hq').elim (fun h => hdis' i hi h) (fun h => (by have := hpl i hi; omega)); have hpl := HK.out.rlt hp; have hB := hB'))
      clear hF hS hdis' hpl
      go_wp2_with (first
        | (go_at_call 24; refine (CL.out _ _ _ hp).mono ?_; rintro e' wa ⟨rfl, hBa⟩; have hB := below_more hB hBa; have hp := HK.out.rfrm hp (X := fun _ => False) (Frm.of_below hBa) (fun _ h => h.elim); have hq := HK.out.rfrm hq (X := fun _ => False) (Frm.of_below hBa) (fun _ h => h.elim))
        | (go_at_call 16; refine (CA.out _).mono ?_; rintro e' y9 ⟨rfl, hB9⟩))
      go_ret
      exact ⟨rfl, below_more hB hB9⟩
    · have b1 : btL l I = l.drop I ∧ btE l I = 0 := by unfold btL btE; rw [if_neg (by omega), if_neg (by omega)]; exact ⟨rfl, rfl⟩
      have h1n : l1.length = N - I := by rw [hl1, b1.1, List.length_drop, hlN]
      have e2 : btE l1 J = 2 := by unfold btE; rw [if_pos (by omega)]
      have C8 : Hid (∀ (W : World) S', BR W w.heap.size q S' l → Calls Try.prog 21 #[.pointer (some ⟨q, 0, none⟩), .int .i64 (I : Int)] W fun e w' => ∃ T, e = .returned (.tuple #[.int .u64 (y : Int), .int .i64 0]) ∧ BR w' w.heap.size q T l1 ∧ Frm S' W w' ∧ ∀ i, T i → S' i ∨ W.heap.size ≤ i) := Lib.hid fun W S' h => by
        have := HK.out.take W w.heap.size q S' l (I : Int) h (by omega) (by omega) (by omega)
        rw [show hld (I : Int) 64 = I from by unfold hld; rw [if_neg (by omega), if_neg (by omega)]; omega] at this
        rw [b1.2, ← hl1, ← hy] at this
        exact this
      have C9 : Hid (∀ (W : World) S', BR W w.heap.size q S' l1 → Calls Try.prog 21 #[.pointer (some ⟨q, 0, none⟩), .int .i64 (J : Int)] W fun e w' => ∃ T, e = .returned (.tuple #[.int .u64 (z : Int), .int .i64 2]) ∧ BR w' w.heap.size q T l2 ∧ Frm S' W w' ∧ ∀ i, T i → S' i ∨ W.heap.size ≤ i) := Lib.hid fun W S' h => by
        have := HK.out.take W w.heap.size q S' l1 (J : Int) h (by omega) (by omega) (by omega)
        rw [show hld (J : Int) 64 = J from by unfold hld; rw [if_neg (by omega), if_neg (by omega)]; omega] at this
        rw [e2, ← hl2, ← hz] at this
        exact this
      clear b3 b1 hy hz hl2 hl1 hl1l e2 h1n hIJ hlN hN
      go_upto_region 8 with (first
        | (go_at_call 21; refine (C7.out _ _ hp).mono ?_; rintro e' w7 ⟨T1, rfl, hp, hF, hS⟩; have hB' := below_frmB hB hF hB.size hSp; have hq := HK.out.rfrm hq hF (fun i hi => ⟨hdis i hi, hSp i hi⟩); have hSp' : ∀ i, T1 i → w.heap.size ≤ i := fun i hi => (hS i hi).elim (hSp i) (fun h => Nat.le_trans hB.size h); have hdis' : ∀ i, T1 i → ¬ Sq i := fun i hi hq' => (hS i hi).elim (fun h => hdis i h hq') (fun h => (by have := hql i hq'; omega)); have hpl := HK.out.rlt hp; have hB := hB'))
      go_upto_region 9 with (first
        | (go_at_call 21; refine (C8.out _ _ hq).mono ?_; rintro e' w8 ⟨T2, rfl, hq, hF, hS⟩; have hp := HK.out.rfrm hp hF (fun i hi => ⟨fun h => hdis' i h hi, hSq i hi⟩); have hB' := below_frmB hB hF hB.size hSq; have hT2 : ∀ i, T2 i → w.heap.size ≤ i := fun i hi => (hS i hi).elim (hSq i) (fun h => Nat.le_trans hB.size h); have hdis' : ∀ i, T1 i → ¬ T2 i := fun i hi hq' => (hS i hq').elim (fun h => hdis' i hi h) (fun h => (by have := hpl i hi; omega)); have hpl := HK.out.rlt hp; have hB := hB'))
      go_upto_region 10 with (first
        | (go_at_call 21; refine (C9.out _ _ hq).mono ?_; rintro e' w9 ⟨T3, rfl, hq, hF, hS⟩; have hp := HK.out.rfrm hp hF (fun i hi => ⟨fun h => hdis' i h hi, hT2 i hi⟩); have hB' := below_frmB hB hF hB.size hT2; have hT3 : ∀ i, T3 i → w.heap.size ≤ i := fun i hi => (hS i hi).elim (hT2 i) (fun h => Nat.le_trans hB.size h); have hdis' : ∀ i, T1 i → ¬ T3 i := fun i hi hq' => (hS i hq').elim (fun h => hdis' i hi h) (fun h => (by have := hpl i hi; omega)); have hpl := HK.out.rlt hp; have hB := hB'))
      clear hF hS hdis' hpl
      go_wp2_with (first
        | (go_at_call 24; refine (CL.out _ _ _ hp).mono ?_; rintro e' wa ⟨rfl, hBa⟩; have hB := below_more hB hBa; have hp := HK.out.rfrm hp (X := fun _ => False) (Frm.of_below hBa) (fun _ h => h.elim); have hq := HK.out.rfrm hq (X := fun _ => False) (Frm.of_below hBa) (fun _ h => h.elim))
        | (go_at_call 16; refine (CA.out _).mono ?_; rintro e' y9 ⟨rfl, hB9⟩))
      go_ret
      exact ⟨rfl, below_more hB hB9⟩
end Go.Proofs.Ytaimphdnhcipfaa
