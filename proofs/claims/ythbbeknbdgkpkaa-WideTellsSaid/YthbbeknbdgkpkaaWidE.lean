/- The contract of the library's Div64: quotient and rest of two words by one. -/
import Derived.Test.YthbbeknbdgkpkaaWidB
import Derived.Test.YthbbeknbdgkpkaaWidD
import Derived.Deep.CutBlock
import Derived.Deep.DeepCutAuto
namespace Go.Proofs.Ythbbeknbdgkpkaa
open Go.RowKit
set_option linter.unusedVariables false

theorem shl_nat (x s : Nat) : (x : Int) * 2 ^ s = ((x * 2 ^ s : Nat) : Int) := by rw [Int.natCast_mul, Int.natCast_pow]; rfl
theorem shr_nat (x s : Nat) : (x : Int) / 2 ^ s = ((x / 2 ^ s : Nat) : Int) := by rw [Int.natCast_ediv, Int.natCast_pow]; rfl
theorem or_join (s hi lo : Nat) (h1 : hi % 2 ^ s = 0) (h2 : lo < 2 ^ s) (h3 : hi < 2 ^ 64) (h4 : lo < 2 ^ 64) : bits .or .u64 (hi : Int) (lo : Int) = ((hi + lo : Nat) : Int) := by
  rw [u64_or_nat _ _ h3 h4, nat_join s hi lo h1 h2]

/-- The letters of a round of the guess. -/
theorem kn_round {y1 y0 u1 U q rh : Nat} (hq : q ≤ 4294967297) (hrh : rh < 4294967296) (hy1 : y1 < 4294967296) (hy0 : y0 < 4294967296) (hu1 : u1 < 4294967296) (hq0 : 0 < q) :
    ∃ p v v2 q' r' : Nat, IntKind.u64.wrap ((q : Int) * (y0 : Int)) = (p : Int) ∧ IntKind.u64.wrap (4294967296 * (rh : Int)) = (v : Int) ∧ IntKind.u64.wrap ((v : Int) + (u1 : Int)) = (v2 : Int) ∧ IntKind.u64.wrap ((q : Int) - 1) = (q' : Int) ∧ IntKind.u64.wrap ((rh : Int) + (y1 : Int)) = (r' : Int) ∧
      p = q * y0 ∧ v2 = 4294967296 * rh + u1 ∧ q' + 1 = q ∧ r' = rh + y1 := by
  have h1 : q * y0 ≤ 4294967297 * 4294967295 := Nat.mul_le_mul hq (by omega)
  refine ⟨q * y0, 4294967296 * rh, 4294967296 * rh + u1, q - 1, rh + y1, ?_, ?_, ?_, ?_, ?_, rfl, rfl, by omega, rfl⟩
  · rw [← Int.natCast_mul, IntKind.wrap_u64]; omega
  · rw [IntKind.wrap_u64]; omega
  · rw [IntKind.wrap_u64]; omega
  · rw [IntKind.wrap_u64]; omega
  · rw [IntKind.wrap_u64]; omega
theorem kn_down {q q' y1 r r' U : Nat} (h1 : q' + 1 = q) (h2 : r' = r + y1) (h : q * y1 + r = U) : q' * y1 + r' = U := by
  rw [← h, ← h1, h2, Nat.add_mul, Nat.one_mul]; omega
theorem kn_start (U y1 : Nat) (hy : 0 < y1) (hU : U < 2 ^ 64) : ∃ g gy h : Nat, (U : Int) / (y1 : Int) = (g : Int) ∧ (U : Int).tdiv (y1 : Int) = (g : Int) ∧ IntKind.u64.wrap (g : Int) = (g : Int) ∧ IntKind.u64.wrap ((g : Int) * (y1 : Int)) = (gy : Int) ∧ IntKind.u64.wrap ((U : Int) - (gy : Int)) = (h : Int) ∧ g = U / y1 ∧ h = U % y1 := by
  have h1 := Nat.div_add_mod U y1
  have h2 := Nat.div_le_self U y1
  have h3 : y1 * (U / y1) ≤ U := by omega
  refine ⟨U / y1, y1 * (U / y1), U % y1, by rw [Int.natCast_ediv], by rw [Int.tdiv_eq_ediv_of_nonneg (by omega), Int.natCast_ediv], ?_, ?_, ?_, rfl, rfl⟩
  · generalize U / y1 = g at *
    rw [IntKind.wrap_u64]; omega
  · rw [Int.mul_comm, ← Int.natCast_mul, IntKind.wrap_u64]; omega
  · rw [IntKind.wrap_u64]; omega
/-- What is left, by the wrapping numbers. -/
theorem kn_rest {U Y Q R u : Nat} (h : Q * Y + R = U * 4294967296 + u) (hR : R < 2 ^ 64) : ∃ a b c : Nat, IntKind.u64.wrap ((U : Int) * 4294967296) = (a : Int) ∧ IntKind.u64.wrap ((a : Int) + (u : Int)) = (b : Int) ∧ IntKind.u64.wrap ((Q : Int) * (Y : Int)) = (c : Int) ∧ IntKind.u64.wrap ((b : Int) - (c : Int)) = (R : Int) := by
  refine ⟨U * 4294967296 % 2 ^ 64, (U * 4294967296 + u) % 2 ^ 64, Q * Y % 2 ^ 64, ?_, ?_, ?_, ?_⟩
  · rw [IntKind.wrap_u64]; omega
  · rw [IntKind.wrap_u64]; omega
  · rw [← Int.natCast_mul, IntKind.wrap_u64]; omega
  · rw [IntKind.wrap_u64]
    generalize Q * Y = z at *
    omega

set_option maxRecDepth 100000 in
set_option maxHeartbeats 8000000 in
theorem div64_calls (hi lo y : Nat) (w : World) (hlo : lo < 2 ^ 64) (hhi : hi < y) (hy : y < 2 ^ 64) :
    Calls Try.prog 44 #[.int .u64 (hi : Int), .int .u64 (lo : Int), .int .u64 (y : Int)] w fun e w' => ∃ n, e = .returned (.tuple #[.int .u64 (((hi * 2 ^ 64 + lo) / y : Nat) : Int), .int .u64 (((hi * 2 ^ 64 + lo) % y : Nat) : Int)]) ∧ w' = w.drewN n := by
  have hy0 : y ≠ 0 := by omega
  have hyb : ((y : Int) == 0) = false := by simp; omega
  have hle : ¬ (y : Int) ≤ (hi : Int) := by omega
  have hyn : ¬ (y : Int) = 0 := by omega
  by_cases h0 : hi = 0
  · subst h0
    rw [Nat.zero_mul, Nat.zero_add]
    obtain ⟨q, hq⟩ : ∃ q, q = lo / y := ⟨_, rfl⟩
    obtain ⟨r, hr⟩ : ∃ r, r = lo % y := ⟨_, rfl⟩
    have e1 : (lo : Int).tdiv (y : Int) = (q : Int) := by rw [Int.tdiv_eq_ediv_of_nonneg (by omega), hq, Int.natCast_ediv]
    have e2 : (lo : Int).tmod (y : Int) = (r : Int) := by rw [Int.tmod_eq_emod_of_nonneg (by omega), hr, Int.natCast_emod]
    have e3 : (lo : Int) / (y : Int) = (q : Int) := by rw [hq, Int.natCast_ediv]
    have e4 : (lo : Int) % (y : Int) = (r : Int) := by rw [hr, Int.natCast_emod]
    have lq : q < 2 ^ 64 := by rw [hq]; exact Nat.lt_of_le_of_lt (Nat.div_le_self _ _) hlo
    have w1 : IntKind.u64.wrap (q : Int) = (q : Int) := by rw [IntKind.wrap_u64]; omega
    have w2 : IntKind.u64.wrap (r : Int) = (r : Int) := by rw [IntKind.wrap_u64]; have := Nat.mod_lt lo (show 0 < y by omega); omega
    rw [← hq, ← hr]
    clear hq hr
    go_enter Try.func44, Try.ntmps44
    go_wp2
    go_quiet (fail)
    go_wp2
    go_ret2
    exact ⟨nq, rfl, rfl⟩
  · obtain ⟨s, hs⟩ : ∃ s, s = 64 - bl y := ⟨_, rfl⟩
    obtain ⟨Y, U, L, y1, y0, u1, u0, Q, R, Q2, R2, k1, k2, k3, k4, k5, k6, k7, k8, k9, k10, k11, k12, k13, k14, k15, k16, k17, k18, k19, k20, k21, k22, k23, k24, k25, k26, k27, k28, k29, k30⟩ := kn_letters hi lo y s hlo hhi hy hs
    rw [k29, k30]
    have CL : Hid (Calls Try.prog 49 #[.int .u64 (y : Int)] w fun e w' => e = .returned (.int .i64 (s : Int)) ∧ w = w') := Lib.hid (by rw [hs]; exact lz64_calls y w hy)
    have hs63 : s ≤ 63 := by have := norm hy0 hy; omega
    have hsp : 0 < 2 ^ s := Nat.pow_pos (by decide)
    obtain ⟨A, hA⟩ : ∃ A, A = hi * 2 ^ s := ⟨_, rfl⟩
    obtain ⟨C, hC⟩ : ∃ C, C = lo / 2 ^ (64 - s) := ⟨_, rfl⟩
    obtain ⟨t, ht⟩ : ∃ t, t = 64 - s := ⟨_, rfl⟩
    have a0 : IntKind.u64.wrap (s : Int) = (s : Int) := by rw [IntKind.wrap_u64]; omega
    have a1 : IntKind.u64.wrap ((y : Int) * 2 ^ s) = (Y : Int) := by rw [shl_nat, ← k1, IntKind.wrap_u64]; omega
    have a2 : (Y : Int) / 4294967296 = (y1 : Int) := by omega
    have a3 : bits .and .u64 (Y : Int) 4294967295 = (y0 : Int) := by rw [and_half Y k2, k4]
    have a4 : IntKind.u64.wrap ((hi : Int) * 2 ^ s) = (A : Int) := by rw [shl_nat, ← hA, IntKind.wrap_u64]; omega
    have a5 : IntKind.u64.wrap (64 - (s : Int)) = (t : Int) := by rw [IntKind.wrap_u64]; omega
    have a5b : (64 - (s : Int)) = (t : Int) := by omega
    have a6 : (lo : Int) / 2 ^ t = (C : Int) := by rw [shr_nat, hC, ht]
    have hCl : C < 2 ^ 64 := by rw [hC]; exact Nat.lt_of_le_of_lt (Nat.div_le_self _ _) hlo
    have a7 : bits .or .u64 (A : Int) (C : Int) = (U : Int) := by rw [or_join s A C (by rw [hA]; exact k11) (by rw [hC]; exact k12) (by omega) hCl, k9, hA, hC]
    have a8 : IntKind.u64.wrap ((lo : Int) * 2 ^ s) = (L : Int) := by rw [shl_nat, k14, IntKind.wrap_u64]; omega
    have a9 : (L : Int) / 4294967296 = (u1 : Int) := by omega
    have a10 : bits .and .u64 (L : Int) 4294967295 = (u0 : Int) := by rw [and_half L (by omega), k16]
    have hy1p : 0 < y1 := by omega
    have kf1 := kn_first (b := 4294967296) (y1 := y1) (y0 := y0) (U := U) (u1 := u1) (by omega) (by decide) (by omega) (by omega) (by omega)
    have kf2 := kn_first (b := 4294967296) (y1 := y1) (y0 := y0) (U := R) (u1 := u0) (by omega) (by decide) (by omega) (by omega) (by omega)
    have hU64 : U < 2 ^ 64 := by omega
    have hR64 : R < 2 ^ 64 := by omega
    obtain ⟨g1, gy1, h1, b1, b1', b2, b3, b4, b5, b6⟩ := kn_start U y1 hy1p hU64
    obtain ⟨g2, gy2, h2, c1, c1', c2, c3, c4, c5, c6⟩ := kn_start R y1 hy1p hR64
    obtain ⟨m1, m2, m3, e1, e2, e3, e4⟩ := kn_rest k23 hR64
    obtain ⟨m4, m5, m6, f1, f2, f3, f4⟩ := kn_rest k24 (by omega : R2 < 2 ^ 64)
    have S1 : Hid (g1 ≤ 4294967297 ∧ h1 < 4294967296 ∧ Hid (g1 * y1 + h1 = U ∧ Q ≤ g1)) := Lib.hid (by
      rw [← k8, ← k19] at kf1
      rw [b5, b6]
      exact ⟨by omega, by omega, ⟨by omega, by omega⟩⟩)
    have S2 : Hid (g2 ≤ 4294967297 ∧ h2 < 4294967296 ∧ Hid (g2 * y1 + h2 = R ∧ Q2 ≤ g2)) := Lib.hid (by
      rw [← k8, ← k21] at kf2
      rw [c5, c6]
      exact ⟨by omega, by omega, ⟨by omega, by omega⟩⟩)
    have kY : 0 < y1 * 4294967296 + y0 := by omega
    have K1T : Hid (∀ q r, q * y1 + r = U → (4294967296 ≤ q ∨ 4294967296 * r + u1 < q * y0) → Q < q) := Lib.hid fun q r he hc => kn_true (by rw [← k8]; exact k19) kY he k17 k27 hc
    have K1F : Hid (∀ q r, q * y1 + r = U → Q ≤ q → q * y0 ≤ 4294967296 * r + u1 → q = Q) := Lib.hid fun q r he hl hc => kn_false (by rw [← k8]; exact k19) kY he hl hc
    have K1B : Hid (∀ q r, q * y1 + r = U → Q ≤ q → 4294967296 ≤ r → q = Q) := Lib.hid fun q r he hl hr => kn_break (by rw [← k8]; exact k19) kY k7 (by rw [← k8]; exact k13) he hl hr
    have K2T : Hid (∀ q r, q * y1 + r = R → (4294967296 ≤ q ∨ 4294967296 * r + u0 < q * y0) → Q2 < q) := Lib.hid fun q r he hc => kn_true (by rw [← k8]; exact k21) kY he k18 k28 hc
    have K2F : Hid (∀ q r, q * y1 + r = R → Q2 ≤ q → q * y0 ≤ 4294967296 * r + u0 → q = Q2) := Lib.hid fun q r he hl hc => kn_false (by rw [← k8]; exact k21) kY he hl hc
    have K2B : Hid (∀ q r, q * y1 + r = R → Q2 ≤ q → 4294967296 ≤ r → q = Q2) := Lib.hid fun q r he hl hr => kn_break (by rw [← k8]; exact k21) kY k7 (by rw [← k8]; exact k25) he hl hr
    have KB : Hid (y1 < 4294967296 ∧ y0 < 4294967296 ∧ u1 < 4294967296 ∧ u0 < 4294967296) := Lib.hid ⟨k6, k7, k17, k18⟩
    obtain ⟨P1, hP1⟩ : ∃ P1, P1 = Q * 4294967296 := ⟨_, rfl⟩
    obtain ⟨X, hX⟩ : ∃ X, X = R2 / 2 ^ s := ⟨_, rfl⟩
    have x1 : IntKind.u64.wrap ((Q : Int) * 4294967296) = (P1 : Int) := by rw [IntKind.wrap_u64]; omega
    have x2 : IntKind.u64.wrap ((P1 : Int) + (Q2 : Int)) = ((P1 + Q2 : Nat) : Int) := by rw [IntKind.wrap_u64]; omega
    have x3 : (R2 : Int) / 2 ^ s = (X : Int) := by rw [shr_nat, hX]
    rw [← hP1, ← hX]
    obtain ⟨T, hT⟩ : ∃ T, T = P1 + Q2 := ⟨_, rfl⟩
    rw [← hT] at x2 ⊢
    have hib : ((hi : Int) == 0) = false := by simp; omega
    have hin : ¬ (hi : Int) = 0 := by omega
    have y1n : ¬ (y1 : Int) = 0 := by omega
    have y1b : ((y1 : Int) == 0) = false := by simp; omega
    clear hs k1 k2 k3 k4 k5 k6 k7 k8 k9 k10 k11 k12 k13 k14 k15 k16 k17 k18 k19 k20 k21 k22 k23 k24 k25 k26 k27 k28 k29 k30 hsp hA hC ht hCl kf1 kf2 hU64 hR64 b5 b6 c5 c6 kY hP1 hX hT hlo hhi hy hy1p
    go_enter Try.func44, Try.ntmps44
    go_upto_block 0 with (go_at_call 49; refine CL.out.mono ?_; rintro e' w' ⟨rfl, rfl⟩)
    go_cut [15] (fun v wx => v = .int .u64 (Q : Int) ∧ w = wx)
    case first =>
      go_wp2_with fail
      go_loop [15, 16] (fun v r => ∃ q rh : Nat, v = .int .u64 (q : Int) ∧ r = .int .u64 (rh : Int) ∧ q ≤ 4294967297 ∧ rh < 4294967296 ∧ Hid (q * y1 + rh = U ∧ Q ≤ q)) (fun v _ => (intOf v).toNat)
      case atStart => exact ⟨g1, h1, rfl, rfl, S1.out.1, S1.out.2.1, S1.out.2.2⟩
      case round =>
        obtain ⟨q, rh, rfl, rfl, hq, hrh, HE⟩ := hrel
        obtain ⟨he, hle⟩ := HE.out
        by_cases hc1 : 4294967296 ≤ q
        · obtain ⟨p, v, v2, q', r', d1, d2, d3, d4, d5, z1, z2, z3, z4⟩ := kn_round (u1 := u1) (y0 := y0) (U := U) hq hrh KB.out.1 KB.out.2.1 KB.out.2.2.1 (by omega)
          have bq : (4294967296 : Int) ≤ (q : Int) := by omega
          have hlt := K1T.out q rh he (Or.inl hc1)
          have hd := kn_down z3 z4 he
          have HN : Hid (q' * y1 + r' = U ∧ Q ≤ q') := Lib.hid ⟨hd, by omega⟩
          have HM : Hid (q' < q ∧ q' ≤ 4294967297) := Lib.hid ⟨by omega, by omega⟩
          by_cases hb : 4294967296 ≤ r'
          · have bb : (4294967296 : Int) ≤ (r' : Int) := by omega
            have HF : Hid (q' = Q) := Lib.hid (K1B.out q' r' hd (by omega) hb)
            clear he hle HE hc1 hlt hd z1 z2 z3 z4 hb d1 d2 d3 HN HM
            go_wp2_with fail
            go_meet
            exact ⟨by rw [HF.out], rfl⟩
          · have bb : ¬ (4294967296 : Int) ≤ (r' : Int) := by omega
            have hrl : r' < 4294967296 := by omega
            clear he hle HE hc1 hlt hd z1 z2 z3 z4 hb d1 d2 d3
            go_wp2_with fail
            go_round
            case rel => exact ⟨q', r', rfl, rfl, HM.out.2, hrl, HN⟩
            case measure => simp [intOf]; exact HM.out.1
        · by_cases hq0 : q = 0
          · subst hq0
            have hf : 0 = Q := K1F.out 0 rh he hle (by omega)
            obtain ⟨v, hv⟩ : ∃ v, v = 4294967296 * rh := ⟨_, rfl⟩
            obtain ⟨v2, hv2⟩ : ∃ v2, v2 = v + u1 := ⟨_, rfl⟩
            have hub := KB.out
            have d2 : IntKind.u64.wrap (4294967296 * (rh : Int)) = (v : Int) := by rw [IntKind.wrap_u64]; omega
            have d3 : IntKind.u64.wrap ((v : Int) + (u1 : Int)) = (v2 : Int) := by rw [IntKind.wrap_u64]; omega
            have HF := Lib.hid hf
            clear he hle HE hc1 hv hv2 hf hub
            go_wp2_with fail
            go_meet
            exact ⟨by rw [← HF.out]; rfl, rfl⟩
          · obtain ⟨p, v, v2, q', r', d1, d2, d3, d4, d5, z1, z2, z3, z4⟩ := kn_round (u1 := u1) (y0 := y0) (U := U) hq hrh KB.out.1 KB.out.2.1 KB.out.2.2.1 (by omega)
            have bq : ¬ (4294967296 : Int) ≤ (q : Int) := by omega
            by_cases hc2 : v2 < p
            · have bv : (v2 : Int) < (p : Int) := by omega
              have hlt := K1T.out q rh he (Or.inr (by rw [← z1, ← z2]; exact hc2))
              have hd := kn_down z3 z4 he
              have HN : Hid (q' * y1 + r' = U ∧ Q ≤ q') := Lib.hid ⟨hd, by omega⟩
              have HM : Hid (q' < q ∧ q' ≤ 4294967297) := Lib.hid ⟨by omega, by omega⟩
              by_cases hb : 4294967296 ≤ r'
              · have bb : (4294967296 : Int) ≤ (r' : Int) := by omega
                have HF : Hid (q' = Q) := Lib.hid (K1B.out q' r' hd (by omega) hb)
                clear he hle HE hc1 hc2 hq0 hlt hd z1 z2 z3 z4 hb HN HM
                go_wp2_with fail
                go_meet
                exact ⟨by rw [HF.out], rfl⟩
              · have bb : ¬ (4294967296 : Int) ≤ (r' : Int) := by omega
                have hrl : r' < 4294967296 := by omega
                clear he hle HE hc1 hc2 hq0 hlt hd z1 z2 z3 z4 hb
                go_wp2_with fail
                go_round
                case rel => exact ⟨q', r', rfl, rfl, HM.out.2, hrl, HN⟩
                case measure => simp [intOf]; exact HM.out.1
            · have bv : ¬ (v2 : Int) < (p : Int) := by omega
              have HF : Hid (q = Q) := Lib.hid (K1F.out q rh he hle (by rw [← z1, ← z2]; omega))
              clear he hle HE hc1 hc2 hq0 z1 z2 z3 z4 d4 d5
              go_wp2_with fail
              go_meet
              exact ⟨by rw [HF.out], rfl⟩
    case rest =>
      obtain ⟨rfl, rfl⟩ := hcut
      go_upto_block 2 with fail
      go_cut [18] (fun v wx => v = .int .u64 (Q2 : Int) ∧ w = wx)
      case first =>
        go_wp2_with fail
        go_loop [18, 16] (fun v r => ∃ q rh : Nat, v = .int .u64 (q : Int) ∧ r = .int .u64 (rh : Int) ∧ q ≤ 4294967297 ∧ rh < 4294967296 ∧ Hid (q * y1 + rh = R ∧ Q2 ≤ q)) (fun v _ => (intOf v).toNat)
        case atStart => exact ⟨g2, h2, rfl, rfl, S2.out.1, S2.out.2.1, S2.out.2.2⟩
        case round =>
          obtain ⟨q, rh, rfl, rfl, hq, hrh, HE⟩ := hrel
          obtain ⟨he, hle⟩ := HE.out
          by_cases hc1 : 4294967296 ≤ q
          · obtain ⟨p, v, v2, q', r', d1, d2, d3, d4, d5, z1, z2, z3, z4⟩ := kn_round (u1 := u0) (y0 := y0) (U := R) hq hrh KB.out.1 KB.out.2.1 KB.out.2.2.2 (by omega)
            have bq : (4294967296 : Int) ≤ (q : Int) := by omega
            have hlt := K2T.out q rh he (Or.inl hc1)
            have hd := kn_down z3 z4 he
            have HN : Hid (q' * y1 + r' = R ∧ Q2 ≤ q') := Lib.hid ⟨hd, by omega⟩
            have HM : Hid (q' < q ∧ q' ≤ 4294967297) := Lib.hid ⟨by omega, by omega⟩
            by_cases hb : 4294967296 ≤ r'
            · have bb : (4294967296 : Int) ≤ (r' : Int) := by omega
              have HF : Hid (q' = Q2) := Lib.hid (K2B.out q' r' hd (by omega) hb)
              clear he hle HE hc1 hlt hd z1 z2 z3 z4 hb d1 d2 d3 HN HM
              go_wp2_with fail
              go_meet
              exact ⟨by rw [HF.out], rfl⟩
            · have bb : ¬ (4294967296 : Int) ≤ (r' : Int) := by omega
              have hrl : r' < 4294967296 := by omega
              clear he hle HE hc1 hlt hd z1 z2 z3 z4 hb d1 d2 d3
              go_wp2_with fail
              go_round
              case rel => exact ⟨q', r', rfl, rfl, HM.out.2, hrl, HN⟩
              case measure => simp [intOf]; exact HM.out.1
          · by_cases hq0 : q = 0
            · subst hq0
              have hf : 0 = Q2 := K2F.out 0 rh he hle (by omega)
              obtain ⟨v, hv⟩ : ∃ v, v = 4294967296 * rh := ⟨_, rfl⟩
              obtain ⟨v2, hv2⟩ : ∃ v2, v2 = v + u0 := ⟨_, rfl⟩
              have hub := KB.out
              have d2 : IntKind.u64.wrap (4294967296 * (rh : Int)) = (v : Int) := by rw [IntKind.wrap_u64]; omega
              have d3 : IntKind.u64.wrap ((v : Int) + (u0 : Int)) = (v2 : Int) := by rw [IntKind.wrap_u64]; omega
              have HF := Lib.hid hf
              clear he hle HE hc1 hv hv2 hf hub
              go_wp2_with fail
              go_meet
              exact ⟨by rw [← HF.out]; rfl, rfl⟩
            · obtain ⟨p, v, v2, q', r', d1, d2, d3, d4, d5, z1, z2, z3, z4⟩ := kn_round (u1 := u0) (y0 := y0) (U := R) hq hrh KB.out.1 KB.out.2.1 KB.out.2.2.2 (by omega)
              have bq : ¬ (4294967296 : Int) ≤ (q : Int) := by omega
              by_cases hc2 : v2 < p
              · have bv : (v2 : Int) < (p : Int) := by omega
                have hlt := K2T.out q rh he (Or.inr (by rw [← z1, ← z2]; exact hc2))
                have hd := kn_down z3 z4 he
                have HN : Hid (q' * y1 + r' = R ∧ Q2 ≤ q') := Lib.hid ⟨hd, by omega⟩
                have HM : Hid (q' < q ∧ q' ≤ 4294967297) := Lib.hid ⟨by omega, by omega⟩
                by_cases hb : 4294967296 ≤ r'
                · have bb : (4294967296 : Int) ≤ (r' : Int) := by omega
                  have HF : Hid (q' = Q2) := Lib.hid (K2B.out q' r' hd (by omega) hb)
                  clear he hle HE hc1 hc2 hq0 hlt hd z1 z2 z3 z4 hb HN HM
                  go_wp2_with fail
                  go_meet
                  exact ⟨by rw [HF.out], rfl⟩
                · have bb : ¬ (4294967296 : Int) ≤ (r' : Int) := by omega
                  have hrl : r' < 4294967296 := by omega
                  clear he hle HE hc1 hc2 hq0 hlt hd z1 z2 z3 z4 hb
                  go_wp2_with fail
                  go_round
                  case rel => exact ⟨q', r', rfl, rfl, HM.out.2, hrl, HN⟩
                  case measure => simp [intOf]; exact HM.out.1
              · have bv : ¬ (v2 : Int) < (p : Int) := by omega
                have HF : Hid (q = Q2) := Lib.hid (K2F.out q rh he hle (by rw [← z1, ← z2]; omega))
                clear he hle HE hc1 hc2 hq0 z1 z2 z3 z4 d4 d5
                go_wp2_with fail
                go_meet
                exact ⟨by rw [HF.out], rfl⟩
      case rest =>
        obtain ⟨rfl, rfl⟩ := hcut
        go_wp2
        go_ret2
        exact ⟨0, rfl, rfl⟩
end Go.Proofs.Ythbbeknbdgkpkaa
