/- Merged texts: CmpR CmpB CmpF. -/
import Derived.Test.YthpigninbeommaaDoorMbq
import Derived.Test.YthpigninbeommaaDoorMbo
import Derived.Deep.CutRange
import Derived.Deep.DeepCutAuto
import Derived.Test.YthpigninbeommaaDoorMbh
import Derived.Deep.CutBlock
import Derived.Deep.RegionHeld3
/- The contracts of the reference's Parts, Number, Target of layer 5. -/
namespace Go.Proofs.YthpigninbeommaaDoor
open Go.RowKit
set_option linter.unusedVariables false

set_option maxRecDepth 100000 in
theorem u32_in (n : Nat) (h : n < 2 ^ 32) : IntKind.u32.wrap (n : Int) = (n : Int) := by rw [IntKind.wrap_u32]; omega
set_option maxRecDepth 100000 in
set_option maxHeartbeats 1000000 in
theorem parts_calls (c : Nat) (w : World) (hc : c < 2 ^ 32) : Calls Tryd.prog 45 #[.int .u32 (c : Int)] w (Ret w (.tuple #[.int .i64 (expC c : Int), .bool (sgnC c), .int .i64 (manC c : Int)])) := by
  obtain ⟨e, he⟩ : ∃ e, e = expC c := ⟨_, rfl⟩
  obtain ⟨m, hm⟩ : ∃ m, m = manC c := ⟨_, rfl⟩
  obtain ⟨s, hs⟩ : ∃ s, s = c / 8388608 := ⟨_, rfl⟩
  obtain ⟨r, hr⟩ : ∃ r, r = s % 2 := ⟨_, rfl⟩
  obtain ⟨B, hB⟩ : ∃ B, B = sgnC c := ⟨_, rfl⟩
  rw [← he, ← hm, ← hB]
  unfold expC at he
  unfold manC at hm
  unfold sgnC at hB
  rw [← hs, ← hr] at hB
  have g1 : (c : Int).tdiv 16777216 = (e : Int) := by rw [Int.tdiv_eq_ediv_of_nonneg (by omega)]; omega
  have g1b : (c : Int) / 16777216 = (e : Int) := by omega
  have g2 : (c : Int).tdiv 8388608 = (s : Int) := by rw [Int.tdiv_eq_ediv_of_nonneg (by omega)]; omega
  have g2b : (c : Int) / 8388608 = (s : Int) := by omega
  have g3 : (s : Int).tmod 2 = (r : Int) := by rw [Int.tmod_eq_emod_of_nonneg (by omega)]; omega
  have g3b : (s : Int) % 2 = (r : Int) := by omega
  have g4 : (c : Int).tmod 8388608 = (m : Int) := by rw [Int.tmod_eq_emod_of_nonneg (by omega)]; omega
  have g4b : (c : Int) % 8388608 = (m : Int) := by omega
  have w1 : IntKind.u32.wrap (e : Int) = (e : Int) := u32_in e (by omega)
  have w2 : IntKind.u32.wrap (s : Int) = (s : Int) := u32_in s (by omega)
  have w3 : IntKind.u32.wrap (r : Int) = (r : Int) := u32_in r (by omega)
  have w4 : IntKind.u32.wrap (m : Int) = (m : Int) := u32_in m (by omega)
  have w5 : IntKind.i64.wrap (e : Int) = (e : Int) := by rw [IntKind.wrap_i64]; omega
  have w6 : IntKind.i64.wrap (m : Int) = (m : Int) := by rw [IntKind.wrap_i64]; omega
  have q1 : ((r : Int) == 1) = B := by rw [hB]; show decide _ = decide _; apply decide_eq_decide.2; omega
  have q2 : decide ((r : Int) = 1) = B := by rw [hB]; apply decide_eq_decide.2; omega
  have q3 : (r == 1) = B := by rw [hB]; rfl
  have q4 : decide (r = 1) = B := by rw [hB]
  clear he hm hs hr hB
  go_enter Tryd.func45, Tryd.ntmps45
  go_wp2
  all_goals (refine bodyPost_ret (v := .tuple #[.int .i64 (e : Int), .bool B, .int .i64 (m : Int)]) (by simp [results, Tryd.results45, go_sem, *]) rfl ⟨rfl, Below.refl _ _⟩)
set_option maxRecDepth 100000 in
theorem one_rdu5 {W : World} (r : Nat) (g : Nat) (h : Blk W g [.int .u64 (r : Int)] 50) : RdU W (some ⟨g, 0, none⟩) 1 [r] :=
  ⟨rfl, fun _ => ⟨g, 0, rfl, h.lt, fun j hj => by
    have : j = 0 := by simpa using hj
    subst this
    rw [h.cell]; rfl⟩⟩
set_option maxRecDepth 100000 in
theorem of1V (r : Nat) (hr : r < 2 ^ 64) (W : World) (g : Nat) (h : Blk W g [.int .u64 (r : Int)] 50) : Calls Tryd.prog 47 #[.slice (some ⟨g, 0, none⟩) 1 1] W (MkB W r) := by
  have hc := of_calls (some ⟨g, 0, none⟩) 1 1 [r] W (by omega) (fun x hx => by simp at hx; omega) (one_rdu5 r g h)
  have e : valW [r] = r := by simp [valW]
  rw [e] at hc
  exact hc
set_option maxRecDepth 100000 in
theorem valE_step (e m : Nat) (h : e < 3) : valE (e + 1) (m / 256) = valE e m := by
  unfold valE
  rw [if_pos (by omega), if_pos (by omega), Nat.div_div_eq_div_mul, show 3 - e = (3 - (e + 1)) + 1 from by omega, pS, Nat.mul_comm 256]
set_option maxRecDepth 100000 in
theorem valE_end (e m : Nat) (h : 3 ≤ e) : m * 2 ^ (8 * (e - 3)) = valE e m := by
  unfold valE
  rw [← p256e]
  by_cases h3 : e = 3
  · subst h3; simp
  · rw [if_neg (by omega)]
set_option maxRecDepth 100000 in
set_option maxHeartbeats 2000000 in
theorem number_calls (c : Nat) (w : World) (hc : c < 2 ^ 32) : Calls Tryd.prog 46 #[.int .u32 (c : Int)] w (MkB w (valC c)) := by
  obtain ⟨V, hV⟩ : ∃ V, V = valC c := ⟨_, rfl⟩
  obtain ⟨e0, he0⟩ : ∃ e, e = expC c := ⟨_, rfl⟩
  obtain ⟨m0, hm0⟩ : ∃ m, m = manC c := ⟨_, rfl⟩
  obtain ⟨B, hB⟩ : ∃ B, B = sgnC c := ⟨_, rfl⟩
  have le0 : e0 ≤ 255 := by rw [he0]; unfold expC; omega
  have lm0 : m0 < 8388608 := by rw [hm0]; unfold manC; omega
  have HV0 : Hid (valE e0 m0 = V) := Lib.hid (by rw [hV, he0, hm0]; rfl)
  have CP : Hid (∀ W, Calls Tryd.prog 45 #[.int .u32 (c : Int)] W (Ret W (.tuple #[.int .i64 (e0 : Int), .bool B, .int .i64 (m0 : Int)]))) := Lib.hid fun W => by rw [he0, hm0, hB]; exact parts_calls c W hc
  rw [← hV]
  clear hV he0 hm0 hB hc
  go_enter Tryd.func46, Tryd.ntmps46
  go_wp2_with (go_at_call 45; refine (CP.out _).mono ?_; rintro e' v1 ⟨rfl, d1⟩)
  go_loopw [3, 5] (fun a b wr => ∃ e m : Nat, a = .int .i64 (e : Int) ∧ b = .int .i64 (m : Int) ∧ e ≤ 255 ∧ m < 8388608 ∧ Hid (valE e m = V) ∧ Still v1 wr) (fun a _ _ => 3 - (intOf a).toNat)
  case atStart => exact ⟨e0, m0, rfl, rfl, le0, lm0, HV0, Still.refl _⟩
  case round =>
    obtain ⟨e, m, rfl, rfl, le, lm, HE, hst⟩ := hrel
    by_cases hlt : e < 3
    · have be : (e : Int) < 3 := by omega
      obtain ⟨m2, hm2⟩ : ∃ m2, m2 = m / 256 := ⟨_, rfl⟩
      have g1 : (m : Int).tdiv 256 = (m2 : Int) := by rw [Int.tdiv_eq_ediv_of_nonneg (by omega)]; omega
      have g1b : (m : Int) / 256 = (m2 : Int) := by omega
      have HE2 : Hid (valE (e + 1) m2 = V) := Lib.hid (by rw [hm2, valE_step e m hlt]; exact HE.out)
      have lm2 : m2 < 8388608 := by omega
      clear hm2
      go_wp2
      exact ⟨⟨e + 1, m2, by go_num, rfl, by omega, lm2, HE2, hst⟩, by simp [intOf]; omega⟩
    · have be : ¬ (e : Int) < 3 := by omega
      obtain ⟨k, hk⟩ : ∃ k, k = e - 3 := ⟨_, rfl⟩
      obtain ⟨K, hK⟩ : ∃ K, K = 8 * k := ⟨_, rfl⟩
      have g1 : IntKind.i64.wrap ((e : Int) - 3) = (k : Int) := by rw [IntKind.wrap_i64]; omega
      have g1b : (e : Int) - 3 = (k : Int) := by omega
      have g2 : IntKind.i64.wrap (8 * (k : Int)) = (K : Int) := by rw [IntKind.wrap_i64]; omega
      have g2b : 8 * (k : Int) = (K : Int) := by omega
      have g3 : IntKind.u64.wrap (m : Int) = (m : Int) := by rw [IntKind.wrap_u64]; omega
      have lK : K ≤ 2016 := by omega
      have CO : Hid (∀ W g, Blk W g [.int .u64 (m : Int)] 50 → Calls Tryd.prog 47 #[.slice (some ⟨g, 0, none⟩) 1 1] W (MkB W m)) := Lib.hid fun W g h => of1V m (by omega) W g h
      obtain ⟨P, hP⟩ : ∃ P, P = 2 ^ K := ⟨_, rfl⟩
      have CW : Hid (∀ W, Calls Tryd.prog 60 #[.int .i64 (K : Int)] W (MkB W P)) := Lib.hid fun W => by rw [hP]; exact bpow_calls K W (by omega)
      have CM : Hid (∀ W A1 n1 c1 A2 n2 c2, RdI W A1 n1 (digs m) → RdI W A2 n2 (digs P) → Calls Tryd.prog 59 #[.slice A1 n1 c1, .slice A2 n2 c2] W (MkB W V)) := Lib.hid fun W A1 n1 c1 A2 n2 c2 h1 h2 => by
        have h := mulV (a := m) (b := P) (Few.wide (by omega)) (by rw [hP]; exact Few.pow (by omega)) W A1 n1 c1 A2 n2 c2 h1 h2
        rw [hP, hK, hk, valE_end e m (by omega), HE.out] at h
        exact h
      clear hk hK hP HE HV0
      go_wp2_with (first
        | (go_at_call 47; refine (CO.out _ _ (Blk.new _ _ _)).mono ?_; rintro e' v2 ⟨A2, n2, c2, rfl, h2, h2c, h2m, d2⟩)
        | (go_at_call 60; refine (CW.out _).mono ?_; rintro e' v3 ⟨A3, n3, c3, rfl, h3, h3c, h3m, d3⟩)
        | (go_at_call 59; refine (CM.out _ _ _ _ _ _ _ (h2.below d3) h3).mono ?_; rintro e' v4 ⟨A4, n4, c4, rfl, h4, h4c, h4m, d4⟩))
      go_ret
      exact ⟨_, _, _, rfl, h4, h4c, h4m, Still.step (Still.step (Still.step (Still.alloc (Still.step d1 hst) _) d2) d3) d4⟩
/-- What the reference's Target tells of a compact with a target. -/
def RetT (w : World) (N : Nat) (e : Ending) (w' : World) : Prop := ∃ A n c, e = .returned (.tuple #[.slice A n c, .bool true]) ∧ RdI w' A n (digs N) ∧ n ≤ c ∧ Below w.heap.size w w'
set_option maxRecDepth 100000 in
theorem digs_none (N n : Nat) (h : (digs N).length = n) : n = 0 ↔ N = 0 := by
  constructor
  · intro h0
    by_cases hN : N = 0
    · exact hN
    · rw [digs_pos hN] at h; simp at h; omega
  · intro h0; subst h0; rw [digs_zero] at h; simpa using h.symm
set_option maxRecDepth 100000 in
set_option maxHeartbeats 2000000 in
theorem rtarget_yes (c : Nat) (w : World) (hc : c < 2 ^ 32) (ht : tgt c = true) : Calls Tryd.prog 31 #[.int .u32 (c : Int)] w (RetT w (valC c)) := by
  obtain ⟨V, hV⟩ : ∃ V, V = valC c := ⟨_, rfl⟩
  obtain ⟨e0, he0⟩ : ∃ e, e = expC c := ⟨_, rfl⟩
  obtain ⟨m0, hm0⟩ : ∃ m, m = manC c := ⟨_, rfl⟩
  unfold tgt at ht
  rw [← hV] at ht ⊢
  simp only [Bool.and_eq_true, Bool.not_eq_true', decide_eq_true_eq] at ht
  obtain ⟨⟨hs, h0⟩, h256⟩ := ht
  have CP : Hid (∀ W, Calls Tryd.prog 45 #[.int .u32 (c : Int)] W (Ret W (.tuple #[.int .i64 (e0 : Int), .bool false, .int .i64 (m0 : Int)]))) := Lib.hid fun W => by rw [he0, hm0, ← hs]; exact parts_calls c W hc
  have CN : Hid (∀ W, Calls Tryd.prog 46 #[.int .u32 (c : Int)] W (MkB W V)) := Lib.hid fun W => by rw [hV]; exact number_calls c W hc
  have HL : Hid (∀ W A n, RdI W A n (digs V) → 0 < n ∧ n ≤ 16) := Lib.hid fun W A n h => by
    have h1 := digs_none V n h.len
    exact ⟨by omega, digs_le h (by rw [p16]; exact h256)⟩
  clear hV he0 hm0 hs h0 h256 hc
  go_enter Tryd.func31, Tryd.ntmps31
  go_upto_region 3 with (first
    | (go_at_call 45; refine (CP.out _).mono ?_; rintro e' v1 ⟨rfl, d1⟩)
    | (go_at_call 46; refine (CN.out _).mono ?_; rintro e' v2 ⟨A2, n2, c2, rfl, h2, h2c, h2m, d2⟩))
  obtain ⟨hn0, hn16⟩ := HL.out _ _ _ h2
  have hz : ¬ (n2 : Int) = 0 := by omega
  have hzb : ((n2 : Int) == 0) = false := by simp; omega
  have hg : ¬ (16 : Int) < (n2 : Int) := by omega
  go_wp2
  all_goals (refine bodyPost_ret (v := .tuple #[.slice A2 n2 c2, .bool true]) (by simp [results, Tryd.results31, go_sem]) rfl ⟨A2, n2, c2, rfl, h2, h2c, Still.step d1 d2⟩)
set_option maxRecDepth 100000 in
set_option maxHeartbeats 2000000 in
theorem rtarget_no (c : Nat) (w : World) (hc : c < 2 ^ 32) (ht : tgt c = false) : Calls Tryd.prog 31 #[.int .u32 (c : Int)] w (Ret w (.tuple #[.slice none 0 0, .bool false])) := by
  obtain ⟨V, hV⟩ : ∃ V, V = valC c := ⟨_, rfl⟩
  obtain ⟨e0, he0⟩ : ∃ e, e = expC c := ⟨_, rfl⟩
  obtain ⟨m0, hm0⟩ : ∃ m, m = manC c := ⟨_, rfl⟩
  obtain ⟨B, hB⟩ : ∃ B, B = sgnC c := ⟨_, rfl⟩
  have CP : Hid (∀ W, Calls Tryd.prog 45 #[.int .u32 (c : Int)] W (Ret W (.tuple #[.int .i64 (e0 : Int), .bool B, .int .i64 (m0 : Int)]))) := Lib.hid fun W => by rw [he0, hm0, hB]; exact parts_calls c W hc
  have CN : Hid (∀ W, Calls Tryd.prog 46 #[.int .u32 (c : Int)] W (MkB W V)) := Lib.hid fun W => by rw [hV]; exact number_calls c W hc
  unfold tgt at ht
  rw [← hB, ← hV] at ht
  have HL : Hid (∀ W A n, RdI W A n (digs V) → B = true ∨ (B = false ∧ n = 0) ∨ (B = false ∧ 16 < n)) := Lib.hid fun W A n h => by
    have h1 := digs_none V n h.len
    have h2 := digs_len V 16
    rw [h.len, p16] at h2
    cases B
    · right
      by_cases hv : V = 0
      · left; exact ⟨rfl, h1.2 hv⟩
      · right
        refine ⟨rfl, ?_⟩
        have h3 : ¬ V < 2 ^ 256 := fun hh => by simp [hv, hh] at ht
        omega
    · left; rfl
  clear hV he0 hm0 hB hc ht
  go_enter Tryd.func31, Tryd.ntmps31
  go_upto_region 3 with (first
    | (go_at_call 45; refine (CP.out _).mono ?_; rintro e' v1 ⟨rfl, d1⟩)
    | (go_at_call 46; refine (CN.out _).mono ?_; rintro e' v2 ⟨A2, n2, c2, rfl, h2, h2c, h2m, d2⟩))
  rcases HL.out _ _ _ h2 with hb | ⟨hb, hn⟩ | ⟨hb, hn⟩
  · subst hb
    go_wp2
    refine bodyPost_ret (v := .tuple #[.slice none 0 0, .bool false]) (by simp [results, Tryd.results31, go_sem]) rfl ⟨rfl, Still.step d1 d2⟩
  · subst hb
    subst hn
    go_wp2
    refine bodyPost_ret (v := .tuple #[.slice none 0 0, .bool false]) (by simp [results, Tryd.results31, go_sem]) rfl ⟨rfl, Still.step d1 d2⟩
  · subst hb
    have hz : ¬ (n2 : Int) = 0 := by omega
    have hzb : ((n2 : Int) == 0) = false := by simp; omega
    have hg : (16 : Int) < (n2 : Int) := by omega
    clear hn
    go_wp2
    refine bodyPost_ret (v := .tuple #[.slice none 0 0, .bool false]) (by simp [results, Tryd.results31, go_sem]) rfl ⟨rfl, Still.step d1 d2⟩
end Go.Proofs.YthpigninbeommaaDoor

/- The contracts of the reference's Works and Bits of layer 5. -/
namespace Go.Proofs.YthpigninbeommaaDoor
open Go.RowKit
set_option linter.unusedVariables false

set_option maxRecDepth 100000 in
theorem digs_small (n : Nat) (h0 : n ≠ 0) (h : n < 65536) : digs n = [n] := by
  rw [digs_pos h0, Nat.mod_eq_of_lt h, Nat.div_eq_of_lt h, digs_zero]
set_option maxRecDepth 100000 in
theorem rdi_one (W : World) (n : Nat) (h0 : n ≠ 0) (h : n < 65536) : RdI (W.alloc (.cells #[.int .i64 (n : Int)] 3)) (some ⟨W.heap.size, 0, none⟩) 1 (digs n) := by
  rw [digs_small n h0 h]
  exact rd_blk (o := [n]) (Blk.new W #[.int .i64 (n : Int)] 3)
set_option maxRecDepth 100000 in
theorem rdi_big (W : World) : RdI (W.alloc (.cells #[.int .i64 0, .int .i64 128] 3)) (some ⟨W.heap.size, 0, none⟩) 2 (digs 8388608) := by
  have e : digs 8388608 = [0, 128] := by
    rw [digs_pos (by decide), show 8388608 % 65536 = 0 from rfl, show 8388608 / 65536 = 128 from rfl, digs_small 128 (by decide) (by decide)]
  rw [e]
  exact rd_blk (o := [0, 128]) (Blk.new W #[.int .i64 0, .int .i64 128] 3)
set_option maxRecDepth 100000 in
theorem half_pow (N i : Nat) : N / 2 ^ i / 2 = N / 2 ^ (i + 1) := by rw [Nat.div_div_eq_div_mul, ← Nat.pow_succ]
set_option maxRecDepth 100000 in
theorem half_ne {N i K : Nat} (h : 2 ^ K ≤ N) (hi : i < K) : N / 2 ^ i ≠ 0 := by
  have h1 : 2 ^ i ≤ N := Nat.le_trans (Nat.pow_le_pow_right (by decide) (by omega)) h
  have := Nat.div_pos h1 (Nat.pow_pos (by decide))
  omega
end Go.Proofs.YthpigninbeommaaDoor

/- Plain mathematics of package compact; the contract of its firstBytes. -/
namespace Go.Proofs.YthpigninbeommaaDoor
open Go.RowKit
set_option linter.unusedVariables false
set_option linter.unusedSimpArgs false

set_option maxRecDepth 100000 in
theorem nat_and_low (c : Nat) : c &&& 8388607 = c % 8388608 := by
  rw [show (8388607 : Nat) = 2 ^ 23 - 1 from rfl, Nat.and_two_pow_sub_one_eq_mod]
set_option maxRecDepth 100000 in
theorem nat_and_bit (c : Nat) : c &&& 8388608 = c / 8388608 % 2 * 8388608 := by
  apply Nat.eq_of_testBit_eq
  intro i
  have e : c / 8388608 % 2 * 8388608 = 2 ^ 23 * (c / 2 ^ 23 % 2) := Nat.mul_comm _ _
  rw [Nat.testBit_and, show (8388608 : Nat) = 2 ^ 23 from rfl, Nat.testBit_two_pow, show c / 2 ^ 23 % 2 * 2 ^ 23 = 2 ^ 23 * (c / 2 ^ 23 % 2) from Nat.mul_comm _ _, Nat.testBit_two_pow_mul]
  by_cases hi : 23 = i
  · subst hi
    have h1 : c.testBit 23 = decide (c / 2 ^ 23 % 2 = 1) := Nat.testBit_eq_decide_div_mod_eq
    simp only [Nat.sub_self, Nat.testBit_zero, Nat.mod_mod, Nat.le_refl, decide_true, Bool.and_true, Bool.true_and, ge_iff_le]
    rw [h1]
  · by_cases hi2 : 23 ≤ i
    · have h2 : (c / 2 ^ 23 % 2).testBit (i - 23) = false := Nat.testBit_lt_two_pow (Nat.lt_of_lt_of_le (Nat.mod_lt _ (by decide)) (show 2 ^ 1 ≤ 2 ^ (i - 23) from Nat.pow_le_pow_right (by decide) (by omega)))
      simp [hi, h2]
    · simp [hi, hi2]
set_option maxRecDepth 100000 in
theorem u32_and_low (c : Nat) (h : c < 2 ^ 32) : bits .and .u32 (c : Int) 8388607 = ((c % 8388608 : Nat) : Int) := by
  show IntKind.u32.wrap ((BitVec.ofInt 32 (c : Int) &&& BitVec.ofInt 32 8388607).toNat : Int) = _
  rw [BitVec.toNat_and, BitVec.toNat_ofInt, show (BitVec.ofInt 32 8388607).toNat = 8388607 from by decide, nat_and_low, IntKind.wrap_u32]
  omega
set_option maxRecDepth 100000 in
theorem u32_and_bit (c : Nat) (h : c < 2 ^ 32) : bits .and .u32 (c : Int) 8388608 = ((c / 8388608 % 2 * 8388608 : Nat) : Int) := by
  show IntKind.u32.wrap ((BitVec.ofInt 32 (c : Int) &&& BitVec.ofInt 32 8388608).toNat : Int) = _
  rw [BitVec.toNat_and, BitVec.toNat_ofInt, show (BitVec.ofInt 32 8388608).toNat = 8388608 from by decide, nat_and_bit, IntKind.wrap_u32]
  omega
set_option maxRecDepth 100000 in
theorem u32_or_top (e m : Nat) (he : e < 256) (hm : m < 16777216) : bits .or .u32 ((e * 16777216 : Nat) : Int) (m : Int) = ((e * 16777216 + m : Nat) : Int) := by
  rw [u32_or_nat _ _ (by omega) (by omega), show e * 16777216 = 2 ^ 24 * e from by omega, ← Nat.two_pow_add_eq_or_of_lt (by omega : m < 2 ^ 24)]
/-- Do the bits of a compact's value fit? -/
def fitC (c : Nat) : Bool := decide (expC c ≤ 3) || decide (bl (manC c) + 8 * (expC c - 3) ≤ 256)
set_option maxRecDepth 100000 in
theorem man_lt (c : Nat) : manC c < 8388608 := Nat.mod_lt _ (by decide)
set_option maxRecDepth 100000 in
theorem fit_lt {c : Nat} (h : fitC c = true) : valC c < 2 ^ 256 := by
  unfold fitC at h
  have hm := man_lt c
  unfold valC valE
  by_cases he : expC c ≤ 3
  · rw [if_pos he]
    have := Nat.div_le_self (manC c) (256 ^ (3 - expC c))
    omega
  · rw [if_neg he]
    simp only [he, decide_false, Bool.false_or, decide_eq_true_eq] at h
    have h1 := (bl_le (manC c) (bl (manC c))).1 (Nat.le_refl _)
    rw [p256e]
    have h2 : manC c * 2 ^ (8 * (expC c - 3)) < 2 ^ bl (manC c) * 2 ^ (8 * (expC c - 3)) := Nat.mul_lt_mul_of_pos_right h1 (Nat.pow_pos (by decide))
    rw [← Nat.pow_add] at h2
    exact Nat.lt_of_lt_of_le h2 (Nat.pow_le_pow_right (by decide) h)
set_option maxRecDepth 100000 in
theorem fit_no {c : Nat} (h : fitC c = false) (h0 : valC c ≠ 0) : 2 ^ 256 ≤ valC c := by
  unfold fitC at h
  simp only [Bool.or_eq_false_iff, decide_eq_false_iff_not] at h
  obtain ⟨he, hf⟩ := h
  unfold valC valE at h0 ⊢
  rw [if_neg he] at h0 ⊢
  have hm : manC c ≠ 0 := fun hh => h0 (by rw [hh, Nat.zero_mul])
  have h1 := bl_ge hm
  have h2 := bl_pos hm
  rw [p256e]
  refine Nat.le_trans ?_ (Nat.mul_le_mul_right _ h1)
  rw [← Nat.pow_add]
  exact Nat.pow_le_pow_right (by decide) (by omega)
set_option maxRecDepth 100000 in
theorem tgt_is (c : Nat) : tgt c = (!sgnC c && fitC c && decide (valC c ≠ 0)) := by
  unfold tgt
  cases hs : sgnC c <;> simp
  by_cases h0 : valC c = 0
  · simp [h0]
  · cases hf : fitC c
    · have := fit_no hf h0
      simp [h0]; omega
    · have := fit_lt hf
      simp [h0]; omega
set_option maxRecDepth 100000 in
theorem val_shift {c : Nat} : valC c = if expC c ≤ 3 then manC c / 2 ^ (8 * (3 - expC c)) else manC c * 2 ^ (8 * (expC c - 3)) := by
  unfold valC valE
  rw [p256e, p256e]
set_option maxRecDepth 100000 in
theorem mant_shift (N e : Nat) : mant N e = if e ≤ 3 then N * 2 ^ (8 * (3 - e)) else N / 2 ^ (8 * (e - 3)) := by
  unfold mant
  rw [p256e, p256e]
set_option maxRecDepth 100000 in
theorem idx0 (a b c d : Nat) (W : World) : (Instr.index 61 (.agg #[.int .u64 (a : Int), .int .u64 (b : Int), .int .u64 (c : Int), .int .u64 (d : Int)]) (.int .i64 0)).run Tryd.prog W = .ok (.int .u64 (a : Int)) W := by
  simp [Instr.index, run_underlying Tryd.underlying61, asIntOf, go_sem]
set_option maxRecDepth 100000 in
theorem exp_lt {c : Nat} (h : c < 2 ^ 32) : expC c < 256 := by unfold expC; omega
set_option maxRecDepth 100000 in
theorem wd_zero (n : Nat) (h : n < 2 ^ 64) : wd n 0 = n := by unfold wd; rw [Nat.mul_zero, Nat.pow_zero, Nat.div_one, Nat.mod_eq_of_lt h]

end Go.Proofs.YthpigninbeommaaDoor
