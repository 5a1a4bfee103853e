/- Merged texts: RicE RicF. -/
import Derived.Test.YtplnmjdafchjbaaMau
import Derived.Test.YtplnmjdafchjbaaMar
/- Package rice: Get. -/
namespace Go.Proofs.Ytplnmjdafchjbaa
open Go.RowKit
set_option linter.unusedVariables false
set_option linter.unusedSimpArgs false

set_option maxRecDepth 100000 in
theorem orK_nat (x K z : Nat) (hx : x * 2 ^ K < 18446744073709551616) (hz : z < 2 ^ K) (hs : x * 2 ^ K + z < 18446744073709551616) : bits .or .u64 ((x * 2 ^ K : Nat) : Int) (z : Int) = ((x * 2 ^ K + z : Nat) : Int) := by
  show IntKind.u64.wrap ((BitVec.ofInt 64 ((x * 2 ^ K : Nat) : Int) ||| BitVec.ofInt 64 (z : Int)).toNat : Int) = _
  have hz64 : z < 18446744073709551616 := by omega
  have e1 : (BitVec.ofInt 64 ((x * 2 ^ K : Nat) : Int)).toNat = x * 2 ^ K := by rw [BitVec.toNat_ofInt]; omega
  have e2 : (BitVec.ofInt 64 (z : Int)).toNat = z := by rw [BitVec.toNat_ofInt]; omega
  have e3 := Nat.two_pow_add_eq_or_of_lt (i := K) (b := z) hz x
  rw [Nat.mul_comm] at e3
  rw [BitVec.toNat_or, e1, e2, IntKind.wrap_u64, ← e3]
  omega
set_option maxRecDepth 100000 in
set_option maxHeartbeats 4000000 in
theorem rget_a (w W1 : World) (q g N K mm rv l1n : Nat) (A : Option Addr) (c : Nat) (b : List UInt8) (k : Nat) (p m M : Int) (E tv Y X2 : Nat) (l1 l2 l3 : List Bool)
    (hmin : (m ≤ 65536 ∧ M = m) ∨ (65536 < m ∧ M = 65536)) (hk3 : K ≤ 32) (HR : Hid (Rb w q A c b k)) (HN : Hid (N = b.length)) (HW1 : Hid (W1 = w.alloc (.cells #[.slice A N c, .int .i64 (k : Int)] 109))) (HG : Hid (g = w.heap.size))
    (CC : Hid (∀ W, Calls Try.prog 60 #[.int .i64 p] W (fun e w' => e = .returned (.int .i64 (K : Int)) ∧ W = w'))) (HR1 : Hid (Rb W1 g A c b k)) (hB1 : Below w.heap.size w W1) (hs1 : w.heap.size ≤ W1.heap.size)
    (CR : Hid (∀ W, Rb W g A c b k → Calls Try.prog 61 #[.pointer (some ⟨g, 0, none⟩), .int .i64 M] W fun e w' => ∃ k', e = .returned (.tuple #[.int .i64 (rv : Int), .int .i64 (E : Int)]) ∧ Rb w' g A c b k' ∧ (unp b).drop k' = l1 ∧ Frm (fun i => i = g) W w'))
    (hE : ¬ (E : Int) = 0) (HL : Hid ((unp b).drop k = l3)) :
    Calls Try.prog 37 #[.pointer (some ⟨q, 0, none⟩), .int .i64 p, .int .i64 m] w fun e w' => ∃ k', e = .returned (.tuple #[.int .u64 0, .int .i64 (E : Int)]) ∧ Rb w' q A c b k' ∧ (unp b).drop k' = l3 ∧ Frm (fun i => i = q) w w' := by
  have hc0 : w.cell? ⟨q, 0, none⟩ = some (.slice A N c) := by rw [HN.out]; exact HR.out.blk.cell 0
  have hc1 : w.cell? ⟨q, 1, none⟩ = some (.int .i64 (k : Int)) := HR.out.blk.cell 1
  have hz0 : w.frozen? ⟨q, 0, none⟩ = false := HR.out.blk.free 0
  have hz1 : w.frozen? ⟨q, 1, none⟩ = false := HR.out.blk.free 1
  rcases hmin with ⟨h, hM⟩ | ⟨h, hM⟩
  · subst hM
    have g1 : ¬ (65536 : Int) < M := by omega
    have g2 : min M (65536 : Int) = M := by omega
    have g4 : 65536 ≤ M → M = 65536 := by omega
    go_enter Try.func37, Try.ntmps37
    go_upto_region 5 with (first
      | (go_at_call 60; refine (CC.out _).mono ?_; rintro e' w' ⟨rfl, rfl⟩))
    rw [← HW1.out, ← HG.out]
    clear hc0 hc1 hz0 hz1
    go_wp2_with (first
      | (go_at_call 61; refine (CR.out W1 HR1.out).mono ?_; rintro e' w2 ⟨k1, rfl, hR2, hd2, hF2⟩; have hB2 := below_frmB hB1 hF2 hs1 (fun i hi => Nat.le_of_eq (Eq.trans (Eq.symm HG.out) (Eq.symm hi))); have HK2 := Lib.hid (And.intro hR2 (And.intro hd2 hB2)); clear hR2 hd2 hF2 hB2))
    go_ret2
    exact ⟨k, rfl, HR.out.below HK2.out.2.2, HL.out, Frm.of_below HK2.out.2.2⟩
  · subst hM
    have g1 : ¬ m < (65536 : Int) := by omega
    have g2 : min m (65536 : Int) = 65536 := by omega
    have g3 : ¬ m ≤ (65536 : Int) := by omega
    go_enter Try.func37, Try.ntmps37
    go_upto_region 5 with (first
      | (go_at_call 60; refine (CC.out _).mono ?_; rintro e' w' ⟨rfl, rfl⟩))
    rw [← HW1.out, ← HG.out]
    clear hc0 hc1 hz0 hz1
    go_wp2_with (first
      | (go_at_call 61; refine (CR.out W1 HR1.out).mono ?_; rintro e' w2 ⟨k1, rfl, hR2, hd2, hF2⟩; have hB2 := below_frmB hB1 hF2 hs1 (fun i hi => Nat.le_of_eq (Eq.trans (Eq.symm HG.out) (Eq.symm hi))); have HK2 := Lib.hid (And.intro hR2 (And.intro hd2 hB2)); clear hR2 hd2 hF2 hB2))
    go_ret2
    exact ⟨k, rfl, HR.out.below HK2.out.2.2, HL.out, Frm.of_below HK2.out.2.2⟩
set_option maxRecDepth 100000 in
set_option maxHeartbeats 4000000 in
theorem rget_b (w W1 : World) (q g N K mm rv l1n : Nat) (A : Option Addr) (c : Nat) (b : List UInt8) (k : Nat) (p m M : Int) (E tv Y X2 : Nat) (l1 l2 l3 : List Bool)
    (hmin : (m ≤ 65536 ∧ M = m) ∨ (65536 < m ∧ M = 65536)) (hk3 : K ≤ 32) (HR : Hid (Rb w q A c b k)) (HN : Hid (N = b.length)) (HW1 : Hid (W1 = w.alloc (.cells #[.slice A N c, .int .i64 (k : Int)] 109))) (HG : Hid (g = w.heap.size))
    (CC : Hid (∀ W, Calls Try.prog 60 #[.int .i64 p] W (fun e w' => e = .returned (.int .i64 (K : Int)) ∧ W = w'))) (HR1 : Hid (Rb W1 g A c b k)) (hB1 : Below w.heap.size w W1) (hs1 : w.heap.size ≤ W1.heap.size)
    (CR : Hid (∀ W, Rb W g A c b k → Calls Try.prog 61 #[.pointer (some ⟨g, 0, none⟩), .int .i64 M] W fun e w' => ∃ k', e = .returned (.tuple #[.int .i64 (rv : Int), .int .i64 0]) ∧ Rb w' g A c b k' ∧ (unp b).drop k' = l1 ∧ Frm (fun i => i = g) W w'))
    (CT : Hid (∀ W k1, Rb W g A c b k1 → (unp b).drop k1 = l1 → Calls Try.prog 62 #[.pointer (some ⟨g, 0, none⟩), .int .i64 (K : Int)] W fun e w' => ∃ k', e = .returned (.tuple #[.int .u64 (tv : Int), .int .i64 (E : Int)]) ∧ Rb w' g A c b k' ∧ (unp b).drop k' = l2 ∧ Frm (fun i => i = g) W w'))
    (hE : ¬ (E : Int) = 0) (HL : Hid ((unp b).drop k = l3)) :
    Calls Try.prog 37 #[.pointer (some ⟨q, 0, none⟩), .int .i64 p, .int .i64 m] w fun e w' => ∃ k', e = .returned (.tuple #[.int .u64 0, .int .i64 (E : Int)]) ∧ Rb w' q A c b k' ∧ (unp b).drop k' = l3 ∧ Frm (fun i => i = q) w w' := by
  have hc0 : w.cell? ⟨q, 0, none⟩ = some (.slice A N c) := by rw [HN.out]; exact HR.out.blk.cell 0
  have hc1 : w.cell? ⟨q, 1, none⟩ = some (.int .i64 (k : Int)) := HR.out.blk.cell 1
  have hz0 : w.frozen? ⟨q, 0, none⟩ = false := HR.out.blk.free 0
  have hz1 : w.frozen? ⟨q, 1, none⟩ = false := HR.out.blk.free 1
  rcases hmin with ⟨h, hM⟩ | ⟨h, hM⟩
  · subst hM
    have g1 : ¬ (65536 : Int) < M := by omega
    have g2 : min M (65536 : Int) = M := by omega
    have g4 : 65536 ≤ M → M = 65536 := by omega
    go_enter Try.func37, Try.ntmps37
    go_upto_region 5 with (first
      | (go_at_call 60; refine (CC.out _).mono ?_; rintro e' w' ⟨rfl, rfl⟩))
    rw [← HW1.out, ← HG.out]
    clear hc0 hc1 hz0 hz1
    go_wp2_with (first
      | (go_at_call 61; refine (CR.out W1 HR1.out).mono ?_; rintro e' w2 ⟨k1, rfl, hR2, hd2, hF2⟩; have hB2 := below_frmB hB1 hF2 hs1 (fun i hi => Nat.le_of_eq (Eq.trans (Eq.symm HG.out) (Eq.symm hi))); have HK2 := Lib.hid (And.intro hR2 (And.intro hd2 hB2)); clear hR2 hd2 hF2 hB2)
      | (go_at_call 62; refine (CT.out w2 k1 HK2.out.1 HK2.out.2.1).mono ?_; rintro e' w3 ⟨k2, rfl, hR3, hd3, hF3⟩; have hB3 := below_frmB HK2.out.2.2 hF3 HK2.out.2.2.size (fun i hi => Nat.le_of_eq (Eq.trans (Eq.symm HG.out) (Eq.symm hi))); have HK3 := Lib.hid (And.intro hR3 (And.intro hd3 hB3)); clear hR3 hd3 hF3 hB3))
    go_ret2
    exact ⟨k, rfl, HR.out.below HK3.out.2.2, HL.out, Frm.of_below HK3.out.2.2⟩
  · subst hM
    have g1 : ¬ m < (65536 : Int) := by omega
    have g2 : min m (65536 : Int) = 65536 := by omega
    have g3 : ¬ m ≤ (65536 : Int) := by omega
    go_enter Try.func37, Try.ntmps37
    go_upto_region 5 with (first
      | (go_at_call 60; refine (CC.out _).mono ?_; rintro e' w' ⟨rfl, rfl⟩))
    rw [← HW1.out, ← HG.out]
    clear hc0 hc1 hz0 hz1
    go_wp2_with (first
      | (go_at_call 61; refine (CR.out W1 HR1.out).mono ?_; rintro e' w2 ⟨k1, rfl, hR2, hd2, hF2⟩; have hB2 := below_frmB hB1 hF2 hs1 (fun i hi => Nat.le_of_eq (Eq.trans (Eq.symm HG.out) (Eq.symm hi))); have HK2 := Lib.hid (And.intro hR2 (And.intro hd2 hB2)); clear hR2 hd2 hF2 hB2)
      | (go_at_call 62; refine (CT.out w2 k1 HK2.out.1 HK2.out.2.1).mono ?_; rintro e' w3 ⟨k2, rfl, hR3, hd3, hF3⟩; have hB3 := below_frmB HK2.out.2.2 hF3 HK2.out.2.2.size (fun i hi => Nat.le_of_eq (Eq.trans (Eq.symm HG.out) (Eq.symm hi))); have HK3 := Lib.hid (And.intro hR3 (And.intro hd3 hB3)); clear hR3 hd3 hF3 hB3))
    go_ret2
    exact ⟨k, rfl, HR.out.below HK3.out.2.2, HL.out, Frm.of_below HK3.out.2.2⟩
set_option maxRecDepth 100000 in
set_option maxHeartbeats 4000000 in
theorem rget_c (w W1 : World) (q g N K mm rv l1n : Nat) (A : Option Addr) (c : Nat) (b : List UInt8) (k : Nat) (p m M : Int) (E tv Y X2 : Nat) (l1 l2 l3 : List Bool)
    (hmin : (m ≤ 65536 ∧ M = m) ∨ (65536 < m ∧ M = 65536)) (hk3 : K ≤ 32) (HR : Hid (Rb w q A c b k)) (HN : Hid (N = b.length)) (HW1 : Hid (W1 = w.alloc (.cells #[.slice A N c, .int .i64 (k : Int)] 109))) (HG : Hid (g = w.heap.size))
    (CC : Hid (∀ W, Calls Try.prog 60 #[.int .i64 p] W (fun e w' => e = .returned (.int .i64 (K : Int)) ∧ W = w'))) (HR1 : Hid (Rb W1 g A c b k)) (hB1 : Below w.heap.size w W1) (hs1 : w.heap.size ≤ W1.heap.size)
    (CR : Hid (∀ W, Rb W g A c b k → Calls Try.prog 61 #[.pointer (some ⟨g, 0, none⟩), .int .i64 M] W fun e w' => ∃ k', e = .returned (.tuple #[.int .i64 (rv : Int), .int .i64 0]) ∧ Rb w' g A c b k' ∧ (unp b).drop k' = l1 ∧ Frm (fun i => i = g) W w'))
    (CT : Hid (∀ W k1, Rb W g A c b k1 → (unp b).drop k1 = l1 → Calls Try.prog 62 #[.pointer (some ⟨g, 0, none⟩), .int .i64 (K : Int)] W fun e w' => ∃ k', e = .returned (.tuple #[.int .u64 (tv : Int), .int .i64 0]) ∧ Rb w' g A c b k' ∧ (unp b).drop k' = l2 ∧ Frm (fun i => i = g) W w'))
    (HL : Hid (l2 = l3)) (q0 : IntKind.u64.wrap (rv : Int) = (rv : Int)) (q7 : (rv : Int) * 2 ^ K = (X2 : Int)) (q8 : IntKind.u64.wrap (X2 : Int) = (X2 : Int)) (q9 : bits .or .u64 (X2 : Int) (tv : Int) = (Y : Int)) :
    Calls Try.prog 37 #[.pointer (some ⟨q, 0, none⟩), .int .i64 p, .int .i64 m] w fun e w' => ∃ k', e = .returned (.tuple #[.int .u64 (Y : Int), .int .i64 0]) ∧ Rb w' q A c b k' ∧ (unp b).drop k' = l3 ∧ Frm (fun i => i = q) w w' := by
  have hc0 : w.cell? ⟨q, 0, none⟩ = some (.slice A N c) := by rw [HN.out]; exact HR.out.blk.cell 0
  have hc1 : w.cell? ⟨q, 1, none⟩ = some (.int .i64 (k : Int)) := HR.out.blk.cell 1
  have hz0 : w.frozen? ⟨q, 0, none⟩ = false := HR.out.blk.free 0
  have hz1 : w.frozen? ⟨q, 1, none⟩ = false := HR.out.blk.free 1
  rcases hmin with ⟨h, hM⟩ | ⟨h, hM⟩
  · subst hM
    have g1 : ¬ (65536 : Int) < M := by omega
    have g2 : min M (65536 : Int) = M := by omega
    have g4 : 65536 ≤ M → M = 65536 := by omega
    go_enter Try.func37, Try.ntmps37
    go_upto_region 5 with (first
      | (go_at_call 60; refine (CC.out _).mono ?_; rintro e' w' ⟨rfl, rfl⟩))
    rw [← HW1.out, ← HG.out]
    clear hc0 hc1 hz0 hz1
    go_upto_region 11 with (first
      | (go_at_call 61; refine (CR.out W1 HR1.out).mono ?_; rintro e' w2 ⟨k1, rfl, hR2, hd2, hF2⟩; have hB2 := below_frmB hB1 hF2 hs1 (fun i hi => Nat.le_of_eq (Eq.trans (Eq.symm HG.out) (Eq.symm hi))); have HK2 := Lib.hid (And.intro hR2 (And.intro hd2 hB2)); clear hR2 hd2 hF2 hB2)
      | (go_at_call 62; refine (CT.out w2 k1 HK2.out.1 HK2.out.2.1).mono ?_; rintro e' w3 ⟨k2, rfl, hR3, hd3, hF3⟩; have hB3 := below_frmB HK2.out.2.2 hF3 HK2.out.2.2.size (fun i hi => Nat.le_of_eq (Eq.trans (Eq.symm HG.out) (Eq.symm hi))); have HK3 := Lib.hid (And.intro hR3 (And.intro hd3 hB3)); clear hR3 hd3 hF3 hB3))
    have c30 : w3.cell? ⟨g, 0, none⟩ = some (.slice A N c) := by rw [HN.out]; exact HK3.out.1.blk.cell 0
    have c31 : w3.cell? ⟨g, 1, none⟩ = some (.int .i64 (k2 : Int)) := HK3.out.1.blk.cell 1
    have HQ3 := Lib.hid (HR.out.below HK3.out.2.2)
    have d30 : w3.cell? ⟨q, 0, none⟩ = some (.slice A N c) := by rw [HN.out]; exact HQ3.out.blk.cell 0
    have d31 : w3.cell? ⟨q, 1, none⟩ = some (.int .i64 (k : Int)) := HQ3.out.blk.cell 1
    have z30 : w3.frozen? ⟨q, 0, none⟩ = false := HQ3.out.blk.free 0
    have z31 : w3.frozen? ⟨q, 1, none⟩ = false := HQ3.out.blk.free 1
    go_wp2
    go_ret2
    refine ⟨k2, rfl, ⟨?_, HQ3.out.rd.frm (Frm.setCell (S := fun i => i = q) (Frm.setCell (S := fun i => i = q) (Frm.refl _ w3) q 0 _ rfl) q 1 _ rfl), HR.out.cap, HR.out.max, HR.out.big, HK3.out.1.read⟩, by rw [HK3.out.2.1, HL.out], (Frm.setCell (S := fun i => i = q) (Frm.setCell (S := fun i => i = q) (Frm.of_below HK3.out.2.2) q 0 _ rfl) q 1 _ rfl)⟩
    have hb := (HQ3.out.blk.set 0 (.slice A N c)).set 1 (.int .i64 (k2 : Int))
    rw [HN.out] at hb ⊢
    exact hb
  · subst hM
    have g1 : ¬ m < (65536 : Int) := by omega
    have g2 : min m (65536 : Int) = 65536 := by omega
    have g3 : ¬ m ≤ (65536 : Int) := by omega
    go_enter Try.func37, Try.ntmps37
    go_upto_region 5 with (first
      | (go_at_call 60; refine (CC.out _).mono ?_; rintro e' w' ⟨rfl, rfl⟩))
    rw [← HW1.out, ← HG.out]
    clear hc0 hc1 hz0 hz1
    go_upto_region 11 with (first
      | (go_at_call 61; refine (CR.out W1 HR1.out).mono ?_; rintro e' w2 ⟨k1, rfl, hR2, hd2, hF2⟩; have hB2 := below_frmB hB1 hF2 hs1 (fun i hi => Nat.le_of_eq (Eq.trans (Eq.symm HG.out) (Eq.symm hi))); have HK2 := Lib.hid (And.intro hR2 (And.intro hd2 hB2)); clear hR2 hd2 hF2 hB2)
      | (go_at_call 62; refine (CT.out w2 k1 HK2.out.1 HK2.out.2.1).mono ?_; rintro e' w3 ⟨k2, rfl, hR3, hd3, hF3⟩; have hB3 := below_frmB HK2.out.2.2 hF3 HK2.out.2.2.size (fun i hi => Nat.le_of_eq (Eq.trans (Eq.symm HG.out) (Eq.symm hi))); have HK3 := Lib.hid (And.intro hR3 (And.intro hd3 hB3)); clear hR3 hd3 hF3 hB3))
    have c30 : w3.cell? ⟨g, 0, none⟩ = some (.slice A N c) := by rw [HN.out]; exact HK3.out.1.blk.cell 0
    have c31 : w3.cell? ⟨g, 1, none⟩ = some (.int .i64 (k2 : Int)) := HK3.out.1.blk.cell 1
    have HQ3 := Lib.hid (HR.out.below HK3.out.2.2)
    have d30 : w3.cell? ⟨q, 0, none⟩ = some (.slice A N c) := by rw [HN.out]; exact HQ3.out.blk.cell 0
    have d31 : w3.cell? ⟨q, 1, none⟩ = some (.int .i64 (k : Int)) := HQ3.out.blk.cell 1
    have z30 : w3.frozen? ⟨q, 0, none⟩ = false := HQ3.out.blk.free 0
    have z31 : w3.frozen? ⟨q, 1, none⟩ = false := HQ3.out.blk.free 1
    go_wp2
    go_ret2
    refine ⟨k2, rfl, ⟨?_, HQ3.out.rd.frm (Frm.setCell (S := fun i => i = q) (Frm.setCell (S := fun i => i = q) (Frm.refl _ w3) q 0 _ rfl) q 1 _ rfl), HR.out.cap, HR.out.max, HR.out.big, HK3.out.1.read⟩, by rw [HK3.out.2.1, HL.out], (Frm.setCell (S := fun i => i = q) (Frm.setCell (S := fun i => i = q) (Frm.of_below HK3.out.2.2) q 0 _ rfl) q 1 _ rfl)⟩
    have hb := (HQ3.out.blk.set 0 (.slice A N c)).set 1 (.int .i64 (k2 : Int))
    rw [HN.out] at hb ⊢
    exact hb
set_option maxRecDepth 100000 in
set_option maxHeartbeats 4000000 in
theorem rget_calls (w : World) (q : Nat) (A : Option Addr) (c : Nat) (b : List UInt8) (k : Nat) (hR : Rb w q A c b k) (p m : Int) (hm2 : m ≤ 9223372036854775807) :
    Calls Try.prog 37 #[.pointer (some ⟨q, 0, none⟩), .int .i64 p, .int .i64 m] w fun e w' => ∃ k', e = .returned (.tuple #[.int .u64 (gtV ((unp b).drop k) p m : Int), .int .i64 (gtE ((unp b).drop k) p m : Int)]) ∧ Rb w' q A c b k' ∧ (unp b).drop k' = gtL ((unp b).drop k) p m ∧ Frm (fun i => i = q) w w' := by
  have hmm6 : hld m 65536 ≤ 65536 := hld_le _ _
  have hk3 : hld p 32 ≤ 32 := hld_le _ _
  have CC : Hid (∀ W, Calls Try.prog 60 #[.int .i64 p] W (fun e w' => e = .returned (.int .i64 (hld p 32 : Int)) ∧ W = w')) := Lib.hid fun W => rclamp_calls p W
  obtain ⟨M, hmin, hM⟩ : ∃ M : Int, ((m ≤ 65536 ∧ M = m) ∨ (65536 < m ∧ M = 65536)) ∧ M.toNat = hld m 65536 := by
    by_cases h : m ≤ 65536
    · refine ⟨m, .inl ⟨h, rfl⟩, ?_⟩
      unfold hld
      split
      · omega
      · rw [if_neg (by omega)]
    · refine ⟨65536, .inr ⟨by omega, rfl⟩, ?_⟩
      unfold hld
      rw [if_neg (by omega), if_pos (by omega)]
      rfl
  have hM2 : M ≤ 9223372036854775807 := by omega
  obtain ⟨g, hg⟩ : ∃ g, g = w.heap.size := ⟨_, rfl⟩
  obtain ⟨W1, hW1⟩ : ∃ z, z = w.alloc (.cells #[.slice A b.length c, .int .i64 (k : Int)] 109) := ⟨_, rfl⟩
  have hB1 : Below w.heap.size w W1 := by rw [hW1]; exact below_al (Below.refl _ w) _
  have hR1 : Rb W1 g A c b k := by
    rw [hW1, hg]
    exact ⟨Blk.new _ _ _, RdF.turn (S := fun i => i = q) (T := fun i => i = w.heap.size) hR.rd (Frm.of_below (below_al (Below.refl _ w) _)) (fun i hi => .inr (Nat.le_of_eq hi.symm)), hR.cap, hR.max, hR.big, hR.read⟩
  have CR0 : ∀ W, Rb W g A c b k → _ := fun W h => brun_calls W g A c b k h M hM2
  rw [hM] at CR0
  have hkk : hld ((hld p 32 : Nat) : Int) 64 = hld p 32 := by
    generalize hld p 32 = K at hk3
    unfold hld
    rw [if_neg (by omega), if_neg (by omega)]
    omega
  have CT0 : ∀ W k1, Rb W g A c b k1 → (unp b).drop k1 = rnL ((unp b).drop k) (hld m 65536) → Calls Try.prog 62 #[.pointer (some ⟨g, 0, none⟩), .int .i64 ((hld p 32 : Nat) : Int)] W fun e w' => ∃ k', e = .returned (.tuple #[.int .u64 (btV (rnL ((unp b).drop k) (hld m 65536)) (hld p 32) : Int), .int .i64 (btE (rnL ((unp b).drop k) (hld m 65536)) (hld p 32) : Int)]) ∧ Rb w' g A c b k' ∧ (unp b).drop k' = btL (rnL ((unp b).drop k) (hld m 65536)) (hld p 32) ∧ Frm (fun i => i = g) W w' := fun W k1 h hd => by
    have := btake_calls W g A c b k1 h ((hld p 32 : Nat) : Int)
    rw [hd, hkk] at this
    exact this
  have HR := Lib.hid hR
  generalize hl : (unp b).drop k = l at CR0 CT0 ⊢
  by_cases he : rnE l (hld m 65536) = 0
  · rw [he] at CR0
    by_cases hf : btE (rnL l (hld m 65536)) (hld p 32) = 0
    · have hE : gtE l p m = 0 := by unfold gtE; rw [he, if_neg (by simp), hf]
      have hL : gtL l p m = btL (rnL l (hld m 65536)) (hld p 32) := by unfold gtL; rw [hE, if_neg (by simp)]
      have hV : gtV l p m = rnV l (hld m 65536) * 2 ^ hld p 32 + btV (rnL l (hld m 65536)) (hld p 32) := by unfold gtV; rw [hE, if_neg (by simp)]
      rw [hf] at CT0
      have hq6 : rnV l (hld m 65536) ≤ 65536 := Nat.le_trans (rnV_le _ _) hmm6
      have hv3 : btV (rnL l (hld m 65536)) (hld p 32) < 2 ^ hld p 32 := btV_pow _ _
      have hp3 : (2 : Nat) ^ hld p 32 ≤ 4294967296 := Nat.le_trans (Nat.pow_le_pow_right (by omega) hk3) (by decide)
      have hx : rnV l (hld m 65536) * 2 ^ hld p 32 ≤ 65536 * 4294967296 := Nat.mul_le_mul hq6 hp3
      have hO := orK_nat (rnV l (hld m 65536)) (hld p 32) (btV (rnL l (hld m 65536)) (hld p 32)) (by omega) hv3 (by omega)
      rw [hE, hL, hV]
      refine rget_c w W1 q g _ _ 0 _ 0 A c b k p m M 0 _ _ _ _ _ _ hmin hk3 HR (Lib.hid rfl) (Lib.hid hW1) (Lib.hid hg) CC (Lib.hid hR1) hB1 hB1.size (Lib.hid CR0) (Lib.hid CT0) (Lib.hid rfl) ?_ ?_ ?_ hO
      · rw [IntKind.wrap_u64]; omega
      · rw [Int.natCast_mul, Int.natCast_pow]; rfl
      · rw [IntKind.wrap_u64]; omega
    · have hE : gtE l p m = btE (rnL l (hld m 65536)) (hld p 32) := by unfold gtE; rw [he, if_neg (by simp)]
      have hL : gtL l p m = l := by unfold gtL; rw [hE, if_pos hf]
      have hV : gtV l p m = 0 := by unfold gtV; rw [hE, if_pos hf]
      rw [hE, hL, hV]
      exact rget_b w W1 q g _ _ 0 _ 0 A c b k p m M _ _ 0 0 _ _ _ hmin hk3 HR (Lib.hid rfl) (Lib.hid hW1) (Lib.hid hg) CC (Lib.hid hR1) hB1 hB1.size (Lib.hid CR0) (Lib.hid CT0) (by omega) (Lib.hid hl)
  · have hE : gtE l p m = rnE l (hld m 65536) := by unfold gtE; rw [if_pos he]
    have hL : gtL l p m = l := by unfold gtL; rw [hE, if_pos he]
    have hV : gtV l p m = 0 := by unfold gtV; rw [hE, if_pos he]
    rw [hE, hL, hV]
    exact rget_a w W1 q g _ _ 0 _ 0 A c b k p m M _ 0 0 0 _ [] _ hmin hk3 HR (Lib.hid rfl) (Lib.hid hW1) (Lib.hid hg) CC (Lib.hid hR1) hB1 hB1.size (Lib.hid CR0) (by omega) (Lib.hid hl)
end Go.Proofs.Ytplnmjdafchjbaa

/- Package rice: Steps. -/
namespace Go.Proofs.Ytplnmjdafchjbaa
open Go.RowKit
set_option linter.unusedVariables false
set_option linter.unusedSimpArgs false

end Go.Proofs.Ytplnmjdafchjbaa
