/- The contracts of the reference's Parts, Number, Target of layer 5. -/
import Derived.Test.YtdgfgehjnfadnaaCmpM
import Derived.Test.YtdgfgehjnfadnaaWidH
import Derived.Deep.CutRange
import Derived.Deep.DeepCutAuto
namespace Go.Proofs.Ytdgfgehjnfadnaa
open Go.RowKit
set_option linter.unusedVariables false

theorem u32_in (n : Nat) (h : n < 2 ^ 32) : IntKind.u32.wrap (n : Int) = (n : Int) := by rw [IntKind.wrap_u32]; omega
set_option maxHeartbeats 1000000 in
theorem parts_calls (c : Nat) (w : World) (hc : c < 2 ^ 32) : Calls Try.prog 26 #[.int .u32 (c : Int)] w (Ret w (.tuple #[.int .i64 (expC c : Int), .bool (sgnC c), .int .i64 (manC c : Int)])) := by
  obtain ⟨e, he⟩ : ∃ e, e = expC c := ⟨_, rfl⟩
  obtain ⟨m, hm⟩ : ∃ m, m = manC c := ⟨_, rfl⟩
  obtain ⟨s, hs⟩ : ∃ s, s = c / 8388608 := ⟨_, rfl⟩
  obtain ⟨r, hr⟩ : ∃ r, r = s % 2 := ⟨_, rfl⟩
  obtain ⟨B, hB⟩ : ∃ B, B = sgnC c := ⟨_, rfl⟩
  rw [← he, ← hm, ← hB]
  unfold expC at he
  unfold manC at hm
  unfold sgnC at hB
  rw [← hs, ← hr] at hB
  have g1 : (c : Int).tdiv 16777216 = (e : Int) := by rw [Int.tdiv_eq_ediv_of_nonneg (by omega)]; omega
  have g1b : (c : Int) / 16777216 = (e : Int) := by omega
  have g2 : (c : Int).tdiv 8388608 = (s : Int) := by rw [Int.tdiv_eq_ediv_of_nonneg (by omega)]; omega
  have g2b : (c : Int) / 8388608 = (s : Int) := by omega
  have g3 : (s : Int).tmod 2 = (r : Int) := by rw [Int.tmod_eq_emod_of_nonneg (by omega)]; omega
  have g3b : (s : Int) % 2 = (r : Int) := by omega
  have g4 : (c : Int).tmod 8388608 = (m : Int) := by rw [Int.tmod_eq_emod_of_nonneg (by omega)]; omega
  have g4b : (c : Int) % 8388608 = (m : Int) := by omega
  have w1 : IntKind.u32.wrap (e : Int) = (e : Int) := u32_in e (by omega)
  have w2 : IntKind.u32.wrap (s : Int) = (s : Int) := u32_in s (by omega)
  have w3 : IntKind.u32.wrap (r : Int) = (r : Int) := u32_in r (by omega)
  have w4 : IntKind.u32.wrap (m : Int) = (m : Int) := u32_in m (by omega)
  have w5 : IntKind.i64.wrap (e : Int) = (e : Int) := by rw [IntKind.wrap_i64]; omega
  have w6 : IntKind.i64.wrap (m : Int) = (m : Int) := by rw [IntKind.wrap_i64]; omega
  have q1 : ((r : Int) == 1) = B := by rw [hB]; show decide _ = decide _; apply decide_eq_decide.2; omega
  have q2 : decide ((r : Int) = 1) = B := by rw [hB]; apply decide_eq_decide.2; omega
  have q3 : (r == 1) = B := by rw [hB]; rfl
  have q4 : decide (r = 1) = B := by rw [hB]
  clear he hm hs hr hB
  go_enter Try.func26, Try.ntmps26
  go_wp2
  all_goals (refine bodyPost_ret (v := .tuple #[.int .i64 (e : Int), .bool B, .int .i64 (m : Int)]) (by simp [results, Try.results26, go_sem, *]) rfl ⟨rfl, Below.refl _ _⟩)
theorem one_rdu5 {W : World} (r : Nat) (g : Nat) (h : Blk W g [.int .u64 (r : Int)] 23) : RdU W (some ⟨g, 0, none⟩) 1 [r] :=
  ⟨rfl, fun _ => ⟨g, 0, rfl, h.lt, fun j hj => by
    have : j = 0 := by simpa using hj
    subst this
    rw [h.cell]; rfl⟩⟩
theorem of1V (r : Nat) (hr : r < 2 ^ 64) (W : World) (g : Nat) (h : Blk W g [.int .u64 (r : Int)] 23) : Calls Try.prog 35 #[.slice (some ⟨g, 0, none⟩) 1 1] W (MkB W r) := by
  have hc := of_calls (some ⟨g, 0, none⟩) 1 1 [r] W (by omega) (fun x hx => by simp at hx; omega) (one_rdu5 r g h)
  have e : valW [r] = r := by simp [valW]
  rw [e] at hc
  exact hc
theorem valE_step (e m : Nat) (h : e < 3) : valE (e + 1) (m / 256) = valE e m := by
  unfold valE
  rw [if_pos (by omega), if_pos (by omega), Nat.div_div_eq_div_mul, show 3 - e = (3 - (e + 1)) + 1 from by omega, pS, Nat.mul_comm 256]
theorem valE_end (e m : Nat) (h : 3 ≤ e) : m * 2 ^ (8 * (e - 3)) = valE e m := by
  unfold valE
  rw [← p256e]
  by_cases h3 : e = 3
  · subst h3; simp
  · rw [if_neg (by omega)]
set_option maxHeartbeats 2000000 in
theorem number_calls (c : Nat) (w : World) (hc : c < 2 ^ 32) : Calls Try.prog 27 #[.int .u32 (c : Int)] w (MkB w (valC c)) := by
  obtain ⟨V, hV⟩ : ∃ V, V = valC c := ⟨_, rfl⟩
  obtain ⟨e0, he0⟩ : ∃ e, e = expC c := ⟨_, rfl⟩
  obtain ⟨m0, hm0⟩ : ∃ m, m = manC c := ⟨_, rfl⟩
  obtain ⟨B, hB⟩ : ∃ B, B = sgnC c := ⟨_, rfl⟩
  have le0 : e0 ≤ 255 := by rw [he0]; unfold expC; omega
  have lm0 : m0 < 8388608 := by rw [hm0]; unfold manC; omega
  have HV0 : Hid (valE e0 m0 = V) := Lib.hid (by rw [hV, he0, hm0]; rfl)
  have CP : Hid (∀ W, Calls Try.prog 26 #[.int .u32 (c : Int)] W (Ret W (.tuple #[.int .i64 (e0 : Int), .bool B, .int .i64 (m0 : Int)]))) := Lib.hid fun W => by rw [he0, hm0, hB]; exact parts_calls c W hc
  rw [← hV]
  clear hV he0 hm0 hB hc
  go_enter Try.func27, Try.ntmps27
  go_wp2_with (go_at_call 26; refine (CP.out _).mono ?_; rintro e' v1 ⟨rfl, d1⟩)
  go_loopw [3, 5] (fun a b wr => ∃ e m : Nat, a = .int .i64 (e : Int) ∧ b = .int .i64 (m : Int) ∧ e ≤ 255 ∧ m < 8388608 ∧ Hid (valE e m = V) ∧ Still v1 wr) (fun a _ _ => 3 - (intOf a).toNat)
  case atStart => exact ⟨e0, m0, rfl, rfl, le0, lm0, HV0, Still.refl _⟩
  case round =>
    obtain ⟨e, m, rfl, rfl, le, lm, HE, hst⟩ := hrel
    by_cases hlt : e < 3
    · have be : (e : Int) < 3 := by omega
      obtain ⟨m2, hm2⟩ : ∃ m2, m2 = m / 256 := ⟨_, rfl⟩
      have g1 : (m : Int).tdiv 256 = (m2 : Int) := by rw [Int.tdiv_eq_ediv_of_nonneg (by omega)]; omega
      have g1b : (m : Int) / 256 = (m2 : Int) := by omega
      have HE2 : Hid (valE (e + 1) m2 = V) := Lib.hid (by rw [hm2, valE_step e m hlt]; exact HE.out)
      have lm2 : m2 < 8388608 := by omega
      clear hm2
      go_wp2
      exact ⟨⟨e + 1, m2, by go_num, rfl, by omega, lm2, HE2, hst⟩, by simp [intOf]; omega⟩
    · have be : ¬ (e : Int) < 3 := by omega
      obtain ⟨k, hk⟩ : ∃ k, k = e - 3 := ⟨_, rfl⟩
      obtain ⟨K, hK⟩ : ∃ K, K = 8 * k := ⟨_, rfl⟩
      have g1 : IntKind.i64.wrap ((e : Int) - 3) = (k : Int) := by rw [IntKind.wrap_i64]; omega
      have g1b : (e : Int) - 3 = (k : Int) := by omega
      have g2 : IntKind.i64.wrap (8 * (k : Int)) = (K : Int) := by rw [IntKind.wrap_i64]; omega
      have g2b : 8 * (k : Int) = (K : Int) := by omega
      have g3 : IntKind.u64.wrap (m : Int) = (m : Int) := by rw [IntKind.wrap_u64]; omega
      have lK : K ≤ 2016 := by omega
      have CO : Hid (∀ W g, Blk W g [.int .u64 (m : Int)] 23 → Calls Try.prog 35 #[.slice (some ⟨g, 0, none⟩) 1 1] W (MkB W m)) := Lib.hid fun W g h => of1V m (by omega) W g h
      obtain ⟨P, hP⟩ : ∃ P, P = 2 ^ K := ⟨_, rfl⟩
      have CW : Hid (∀ W, Calls Try.prog 30 #[.int .i64 (K : Int)] W (MkB W P)) := Lib.hid fun W => by rw [hP]; exact bpow_calls K W (by omega)
      have CM : Hid (∀ W A1 n1 c1 A2 n2 c2, RdI W A1 n1 (digs m) → RdI W A2 n2 (digs P) → Calls Try.prog 32 #[.slice A1 n1 c1, .slice A2 n2 c2] W (MkB W V)) := Lib.hid fun W A1 n1 c1 A2 n2 c2 h1 h2 => by
        have h := mulV (a := m) (b := P) (Few.wide (by omega)) (by rw [hP]; exact Few.pow (by omega)) W A1 n1 c1 A2 n2 c2 h1 h2
        rw [hP, hK, hk, valE_end e m (by omega), HE.out] at h
        exact h
      clear hk hK hP HE HV0
      go_wp2_with (first
        | (go_at_call 35; refine (CO.out _ _ (Blk.new _ _ _)).mono ?_; rintro e' v2 ⟨A2, n2, c2, rfl, h2, h2c, h2m, d2⟩)
        | (go_at_call 30; refine (CW.out _).mono ?_; rintro e' v3 ⟨A3, n3, c3, rfl, h3, h3c, h3m, d3⟩)
        | (go_at_call 32; refine (CM.out _ _ _ _ _ _ _ (h2.below d3) h3).mono ?_; rintro e' v4 ⟨A4, n4, c4, rfl, h4, h4c, h4m, d4⟩))
      go_ret
      exact ⟨_, _, _, rfl, h4, h4c, h4m, Still.step (Still.step (Still.step (Still.alloc (Still.step d1 hst) _) d2) d3) d4⟩
/-- What the reference's Target tells of a compact with a target. -/
def RetT (w : World) (N : Nat) (e : Ending) (w' : World) : Prop := ∃ A n c, e = .returned (.tuple #[.slice A n c, .bool true]) ∧ RdI w' A n (digs N) ∧ n ≤ c ∧ Below w.heap.size w w'
theorem digs_none (N n : Nat) (h : (digs N).length = n) : n = 0 ↔ N = 0 := by
  constructor
  · intro h0
    by_cases hN : N = 0
    · exact hN
    · rw [digs_pos hN] at h; simp at h; omega
  · intro h0; subst h0; rw [digs_zero] at h; simpa using h.symm
set_option maxHeartbeats 2000000 in
theorem rtarget_yes (c : Nat) (w : World) (hc : c < 2 ^ 32) (ht : tgt c = true) : Calls Try.prog 11 #[.int .u32 (c : Int)] w (RetT w (valC c)) := by
  obtain ⟨V, hV⟩ : ∃ V, V = valC c := ⟨_, rfl⟩
  obtain ⟨e0, he0⟩ : ∃ e, e = expC c := ⟨_, rfl⟩
  obtain ⟨m0, hm0⟩ : ∃ m, m = manC c := ⟨_, rfl⟩
  unfold tgt at ht
  rw [← hV] at ht ⊢
  simp only [Bool.and_eq_true, Bool.not_eq_true', decide_eq_true_eq] at ht
  obtain ⟨⟨hs, h0⟩, h256⟩ := ht
  have CP : Hid (∀ W, Calls Try.prog 26 #[.int .u32 (c : Int)] W (Ret W (.tuple #[.int .i64 (e0 : Int), .bool false, .int .i64 (m0 : Int)]))) := Lib.hid fun W => by rw [he0, hm0, ← hs]; exact parts_calls c W hc
  have CN : Hid (∀ W, Calls Try.prog 27 #[.int .u32 (c : Int)] W (MkB W V)) := Lib.hid fun W => by rw [hV]; exact number_calls c W hc
  have HL : Hid (∀ W A n, RdI W A n (digs V) → 0 < n ∧ n ≤ 16) := Lib.hid fun W A n h => by
    have h1 := digs_none V n h.len
    exact ⟨by omega, digs_le h (by rw [p16]; exact h256)⟩
  clear hV he0 hm0 hs h0 h256 hc
  go_enter Try.func11, Try.ntmps11
  go_upto_region 3 with (first
    | (go_at_call 26; refine (CP.out _).mono ?_; rintro e' v1 ⟨rfl, d1⟩)
    | (go_at_call 27; refine (CN.out _).mono ?_; rintro e' v2 ⟨A2, n2, c2, rfl, h2, h2c, h2m, d2⟩))
  obtain ⟨hn0, hn16⟩ := HL.out _ _ _ h2
  have hz : ¬ (n2 : Int) = 0 := by omega
  have hzb : ((n2 : Int) == 0) = false := by simp; omega
  have hg : ¬ (16 : Int) < (n2 : Int) := by omega
  go_wp2
  all_goals (refine bodyPost_ret (v := .tuple #[.slice A2 n2 c2, .bool true]) (by simp [results, Try.results11, go_sem]) rfl ⟨A2, n2, c2, rfl, h2, h2c, Still.step d1 d2⟩)
set_option maxHeartbeats 2000000 in
theorem rtarget_no (c : Nat) (w : World) (hc : c < 2 ^ 32) (ht : tgt c = false) : Calls Try.prog 11 #[.int .u32 (c : Int)] w (Ret w (.tuple #[.slice none 0 0, .bool false])) := by
  obtain ⟨V, hV⟩ : ∃ V, V = valC c := ⟨_, rfl⟩
  obtain ⟨e0, he0⟩ : ∃ e, e = expC c := ⟨_, rfl⟩
  obtain ⟨m0, hm0⟩ : ∃ m, m = manC c := ⟨_, rfl⟩
  obtain ⟨B, hB⟩ : ∃ B, B = sgnC c := ⟨_, rfl⟩
  have CP : Hid (∀ W, Calls Try.prog 26 #[.int .u32 (c : Int)] W (Ret W (.tuple #[.int .i64 (e0 : Int), .bool B, .int .i64 (m0 : Int)]))) := Lib.hid fun W => by rw [he0, hm0, hB]; exact parts_calls c W hc
  have CN : Hid (∀ W, Calls Try.prog 27 #[.int .u32 (c : Int)] W (MkB W V)) := Lib.hid fun W => by rw [hV]; exact number_calls c W hc
  unfold tgt at ht
  rw [← hB, ← hV] at ht
  have HL : Hid (∀ W A n, RdI W A n (digs V) → B = true ∨ (B = false ∧ n = 0) ∨ (B = false ∧ 16 < n)) := Lib.hid fun W A n h => by
    have h1 := digs_none V n h.len
    have h2 := digs_len V 16
    rw [h.len, p16] at h2
    cases B
    · right
      by_cases hv : V = 0
      · left; exact ⟨rfl, h1.2 hv⟩
      · right
        refine ⟨rfl, ?_⟩
        have h3 : ¬ V < 2 ^ 256 := fun hh => by simp [hv, hh] at ht
        omega
    · left; rfl
  clear hV he0 hm0 hB hc ht
  go_enter Try.func11, Try.ntmps11
  go_upto_region 3 with (first
    | (go_at_call 26; refine (CP.out _).mono ?_; rintro e' v1 ⟨rfl, d1⟩)
    | (go_at_call 27; refine (CN.out _).mono ?_; rintro e' v2 ⟨A2, n2, c2, rfl, h2, h2c, h2m, d2⟩))
  rcases HL.out _ _ _ h2 with hb | ⟨hb, hn⟩ | ⟨hb, hn⟩
  · subst hb
    go_wp2
    refine bodyPost_ret (v := .tuple #[.slice none 0 0, .bool false]) (by simp [results, Try.results11, go_sem]) rfl ⟨rfl, Still.step d1 d2⟩
  · subst hb
    subst hn
    go_wp2
    refine bodyPost_ret (v := .tuple #[.slice none 0 0, .bool false]) (by simp [results, Try.results11, go_sem]) rfl ⟨rfl, Still.step d1 d2⟩
  · subst hb
    have hz : ¬ (n2 : Int) = 0 := by omega
    have hzb : ((n2 : Int) == 0) = false := by simp; omega
    have hg : (16 : Int) < (n2 : Int) := by omega
    clear hn
    go_wp2
    refine bodyPost_ret (v := .tuple #[.slice none 0 0, .bool false]) (by simp [results, Try.results11, go_sem]) rfl ⟨rfl, Still.step d1 d2⟩
end Go.Proofs.Ytdgfgehjnfadnaa
