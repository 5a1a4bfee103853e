/- The contracts of the reference's Works and Bits of layer 5. -/
import Derived.Test.YtdgfgehjnfadnaaCmpR
import Derived.Test.YtdgfgehjnfadnaaBigH
import Derived.Deep.CutBlock
import Derived.Deep.DeepCutAuto
namespace Go.Proofs.Ytdgfgehjnfadnaa
open Go.RowKit
set_option linter.unusedVariables false

theorem digs_small (n : Nat) (h0 : n ≠ 0) (h : n < 65536) : digs n = [n] := by
  rw [digs_pos h0, Nat.mod_eq_of_lt h, Nat.div_eq_of_lt h, digs_zero]
theorem rdi_one (W : World) (n : Nat) (h0 : n ≠ 0) (h : n < 65536) : RdI (W.alloc (.cells #[.int .i64 (n : Int)] 3)) (some ⟨W.heap.size, 0, none⟩) 1 (digs n) := by
  rw [digs_small n h0 h]
  exact rd_blk (o := [n]) (Blk.new W #[.int .i64 (n : Int)] 3)
theorem rdi_big (W : World) : RdI (W.alloc (.cells #[.int .i64 0, .int .i64 128] 3)) (some ⟨W.heap.size, 0, none⟩) 2 (digs 8388608) := by
  have e : digs 8388608 = [0, 128] := by
    rw [digs_pos (by decide), show 8388608 % 65536 = 0 from rfl, show 8388608 / 65536 = 128 from rfl, digs_small 128 (by decide) (by decide)]
  rw [e]
  exact rd_blk (o := [0, 128]) (Blk.new W #[.int .i64 0, .int .i64 128] 3)
set_option maxHeartbeats 4000000 in
theorem works_calls (A1 : Option Addr) (n1 c1 : Nat) (A2 : Option Addr) (n2 c2 : Nat) (a b : Nat) (w : World) (ha : a < 2 ^ 256) (hb : b < 2 ^ 256) (h1 : RdI w A1 n1 (digs a)) (h2 : RdI w A2 n2 (digs b))
    (hw1 : a * (b + 1) ≤ 2 ^ 256) (hw2 : 2 ^ 256 < a * (b + 1) + (b + 1)) : Calls Try.prog 23 #[.slice A1 n1 c1, .slice A2 n2 c2] w (Ret w (.bool true)) := by
  obtain ⟨N, hN⟩ : ∃ N, N = b + 1 := ⟨_, rfl⟩
  obtain ⟨L, hL⟩ : ∃ L, L = a * N := ⟨_, rfl⟩
  obtain ⟨M, hM⟩ : ∃ M, M = L + N := ⟨_, rfl⟩
  obtain ⟨P, hP⟩ : ∃ P, P = 2 ^ 256 := ⟨_, rfl⟩
  rw [← hN, ← hL, ← hP] at hw1 hw2
  rw [← hM] at hw2
  have fP : Few P := by rw [hP]; exact Few.pow (by decide)
  have bN : N ≤ P := by rw [hN, hP]; omega
  have fN : Few N := Nat.lt_of_le_of_lt bN fP
  have fL : Few L := Nat.lt_of_le_of_lt hw1 fP
  have fM : Few M := by
    have : M ≤ 2 ^ 256 + 2 ^ 256 := by omega
    exact Nat.lt_of_le_of_lt this (by decide)
  have CA1 : Hid (∀ W A1 n1 c1 A2 n2 c2, RdI W A1 n1 (digs b) → RdI W A2 n2 (digs 1) → Calls Try.prog 40 #[.slice A1 n1 c1, .slice A2 n2 c2] W (MkB W N)) := Lib.hid fun W A1 n1 c1 A2 n2 c2 h1 h2 => by rw [hN]; exact addV (Few.wide hb) (Few.wide (by decide)) W A1 n1 c1 A2 n2 c2 h1 h2
  have CPW : Hid (∀ W, Calls Try.prog 30 #[.int .i64 256] W (MkB W P)) := Lib.hid fun W => by rw [hP]; exact bpow_calls 256 W (by decide)
  have CM : Hid (∀ W A1 n1 c1 A2 n2 c2, RdI W A1 n1 (digs a) → RdI W A2 n2 (digs N) → Calls Try.prog 32 #[.slice A1 n1 c1, .slice A2 n2 c2] W (MkB W L)) := Lib.hid fun W A1 n1 c1 A2 n2 c2 h1 h2 => by rw [hL]; exact mulV (Few.wide ha) fN W A1 n1 c1 A2 n2 c2 h1 h2
  have CL1 : Hid (∀ W A1 n1 c1 A2 n2 c2, RdI W A1 n1 (digs P) → RdI W A2 n2 (digs L) → Calls Try.prog 29 #[.slice A1 n1 c1, .slice A2 n2 c2] W (Ret W (.bool false))) := Lib.hid fun W A1 n1 c1 A2 n2 c2 h1 h2 => lessV fP fL W A1 n1 c1 A2 n2 c2 h1 h2 false (decide_eq_false (by omega))
  have CA2 : Hid (∀ W A1 n1 c1 A2 n2 c2, RdI W A1 n1 (digs L) → RdI W A2 n2 (digs N) → Calls Try.prog 40 #[.slice A1 n1 c1, .slice A2 n2 c2] W (MkB W M)) := Lib.hid fun W A1 n1 c1 A2 n2 c2 h1 h2 => by rw [hM]; exact addV fL fN W A1 n1 c1 A2 n2 c2 h1 h2
  have CL2 : Hid (∀ W A1 n1 c1 A2 n2 c2, RdI W A1 n1 (digs P) → RdI W A2 n2 (digs M) → Calls Try.prog 29 #[.slice A1 n1 c1, .slice A2 n2 c2] W (Ret W (.bool true))) := Lib.hid fun W A1 n1 c1 A2 n2 c2 h1 h2 => lessV fP fM W A1 n1 c1 A2 n2 c2 h1 h2 true (decide_eq_true hw2)
  have R1 : Hid (∀ W : World, RdI (W.alloc (.cells #[.int .i64 1] 3)) (some ⟨W.heap.size, 0, none⟩) 1 (digs 1)) := Lib.hid fun W => rdi_one W 1 (by decide) (by decide)
  clear hN hL hM hP hw1 hw2 fP bN fN fL fM ha hb
  go_enter Try.func23, Try.ntmps23
  go_wp2_with (first
    | (go_at_call 40; refine (CA2.out _ A5 n5 c5 A3 n3 c3 (h5.still (by ((repeat (first | with_reducible exact Still.refl _ | with_reducible assumption | with_reducible apply Still.alloc | with_reducible apply Still.drew | with_reducible refine Still.step ?_ (by assumption) | with_reducible refine Still.trans ?_ (by assumption)))))) (h3.still (by ((repeat (first | with_reducible exact Still.refl _ | with_reducible assumption | with_reducible apply Still.alloc | with_reducible apply Still.drew | with_reducible refine Still.step ?_ (by assumption) | with_reducible refine Still.trans ?_ (by assumption))))))).mono ?_; rintro e' v7 ⟨A7, n7, c7, rfl, h7, h7c, h7m, d7⟩)
    | (go_at_call 40; refine (CA1.out _ A2 n2 c2 _ _ _ (h2.still (by ((repeat (first | with_reducible exact Still.refl _ | with_reducible assumption | with_reducible apply Still.alloc | with_reducible apply Still.drew | with_reducible refine Still.step ?_ (by assumption) | with_reducible refine Still.trans ?_ (by assumption)))))) (R1.out _)).mono ?_; rintro e' v3 ⟨A3, n3, c3, rfl, h3, h3c, h3m, d3⟩)
    | (go_at_call 30; refine (CPW.out _).mono ?_; rintro e' v4 ⟨A4, n4, c4, rfl, h4, h4c, h4m, d4⟩)
    | (go_at_call 32; refine (CM.out _ _ _ _ _ _ _ (h1.still (by ((repeat (first | with_reducible exact Still.refl _ | with_reducible assumption | with_reducible apply Still.alloc | with_reducible apply Still.drew | with_reducible refine Still.step ?_ (by assumption) | with_reducible refine Still.trans ?_ (by assumption)))))) (h3.still (by ((repeat (first | with_reducible exact Still.refl _ | with_reducible assumption | with_reducible apply Still.alloc | with_reducible apply Still.drew | with_reducible refine Still.step ?_ (by assumption) | with_reducible refine Still.trans ?_ (by assumption))))))).mono ?_; rintro e' v5 ⟨A5, n5, c5, rfl, h5, h5c, h5m, d5⟩)
    | (go_at_call 29; refine (CL2.out _ A4 n4 c4 A7 n7 c7 (h4.still (by ((repeat (first | with_reducible exact Still.refl _ | with_reducible assumption | with_reducible apply Still.alloc | with_reducible apply Still.drew | with_reducible refine Still.step ?_ (by assumption) | with_reducible refine Still.trans ?_ (by assumption)))))) h7).mono ?_; rintro e' v8 ⟨rfl, d8⟩)
    | (go_at_call 29; refine (CL1.out _ A4 n4 c4 A5 n5 c5 (h4.still (by ((repeat (first | with_reducible exact Still.refl _ | with_reducible assumption | with_reducible apply Still.alloc | with_reducible apply Still.drew | with_reducible refine Still.step ?_ (by assumption) | with_reducible refine Still.trans ?_ (by assumption)))))) h5).mono ?_; rintro e' v6 ⟨rfl, d6⟩))
  go_ret
  exact ⟨rfl, show Still w v8 by ((repeat (first | with_reducible exact Still.refl _ | with_reducible assumption | with_reducible apply Still.alloc | with_reducible apply Still.drew | with_reducible refine Still.step ?_ (by assumption) | with_reducible refine Still.trans ?_ (by assumption))))⟩
theorem half_pow (N i : Nat) : N / 2 ^ i / 2 = N / 2 ^ (i + 1) := by rw [Nat.div_div_eq_div_mul, ← Nat.pow_succ]
theorem half_ne {N i K : Nat} (h : 2 ^ K ≤ N) (hi : i < K) : N / 2 ^ i ≠ 0 := by
  have h1 : 2 ^ i ≤ N := Nat.le_trans (Nat.pow_le_pow_right (by decide) (by omega)) h
  have := Nat.div_pos h1 (Nat.pow_pos (by decide))
  omega
set_option maxRecDepth 100000 in
set_option maxHeartbeats 8000000 in
theorem rbits_calls (A0 : Option Addr) (n0 c0 N : Nat) (w : World) (hN : N < 2 ^ 256) (h0 : RdI w A0 n0 (digs N)) : Calls Try.prog 15 #[.slice A0 n0 c0] w (Ret w (.int .u32 (bitsN N : Int))) := by
  obtain ⟨E, hE⟩ : ∃ E, E = nB N := ⟨_, rfl⟩
  obtain ⟨M, hM⟩ : ∃ M, M = mant N E := ⟨_, rfl⟩
  obtain ⟨M2, hM2⟩ : ∃ M2, M2 = N / 2 ^ (8 * (E - 3)) := ⟨_, rfl⟩
  have bE : E ≤ 32 := by rw [hE]; exact (nB_le N 32).2 (by rw [show 256 ^ 32 = 2 ^ 256 from by decide]; exact hN)
  have bM : M < 16777216 := by
    rw [hM, hE]
    by_cases h : N = 0
    · subst h; rw [nB_zero]; decide
    · exact (mant_in h).2
  have HM3 : Hid (∀ j, E ≤ j → (j ≤ 3 ∨ j = E) → ¬ j < 3 → M2 * 256 ^ (j - E) = M) := Lib.hid fun j h1 h2 h3 => by
    rw [hM2, hM]
    unfold mant
    by_cases he : E ≤ 3
    · have hj : j = 3 := by omega
      rw [if_pos he, hj, show 8 * (E - 3) = 0 from by omega, Nat.pow_zero, Nat.div_one]
    · have hj : j = E := by omega
      rw [if_neg he, hj, Nat.sub_self, Nat.pow_zero, Nat.mul_one, p256e]
  have HNE : Hid (∀ i, i < 8 * (E - 3) → N / 2 ^ i ≠ 0) := Lib.hid fun i hi => by
    have hN0 : N ≠ 0 := fun h => by rw [hE, h, nB_zero] at hi; omega
    have h1 := (nB_ge hN0).1
    rw [← hE, p256e] at h1
    exact half_ne h1 (by omega)
  have FM2 : Hid (∀ k, k ≤ 3 → Few (M2 * 256 ^ k)) := Lib.hid fun k hk => by
    have h1 : M2 ≤ N := by rw [hM2]; exact Nat.div_le_self _ _
    have h2 : 256 ^ k ≤ 256 ^ 3 := Nat.pow_le_pow_right (by decide) hk
    have h3 : M2 * 256 ^ k ≤ 2 ^ 256 * 256 ^ 3 := Nat.mul_le_mul (by omega) h2
    exact Nat.lt_of_le_of_lt h3 (by decide)
  obtain ⟨E9, hE9⟩ : ∃ E9, E9 = if 8388608 ≤ M then E + 1 else E := ⟨_, rfl⟩
  obtain ⟨M9, hM9⟩ : ∃ M9, M9 = if 8388608 ≤ M then M / 256 else M := ⟨_, rfl⟩
  have bE9 : E9 ≤ 33 := by rw [hE9]; split <;> omega
  have bM9 : M9 < 8388608 := by rw [hM9]; split <;> omega
  obtain ⟨R, hR⟩ : ∃ R, R = bitsN N := ⟨_, rfl⟩
  have hRe : R = E9 * 16777216 + M9 := by
    rw [hR, hE9, hM9]
    unfold bitsN
    rw [← hE, ← hM]
    split <;> rfl
  rw [← hR]
  have CPW : Hid (∀ (k : Nat) (W : World), k ≤ 32 → Calls Try.prog 30 #[.int .i64 ((8 * k : Nat) : Int)] W (MkB W (256 ^ k))) := Lib.hid fun k W hk => by rw [p256e]; exact bpow_calls (8 * k) W (by omega)
  have CL3 : Hid (∀ (k : Nat) (W : World) A1 n1 c1 A2 n2 c2 (B : Bool), k ≤ 32 → decide (N < 256 ^ k) = B → RdI W A1 n1 (digs N) → RdI W A2 n2 (digs (256 ^ k)) → Calls Try.prog 29 #[.slice A1 n1 c1, .slice A2 n2 c2] W (Ret W (.bool B))) := Lib.hid fun k W A1 n1 c1 A2 n2 c2 B hk hB h1 h2 => lessV (Few.wide hN) (by rw [p256e]; exact Few.pow (by omega)) W A1 n1 c1 A2 n2 c2 h1 h2 B hB
  have CH : Hid (∀ (x : Nat) (W : World) A1 n1 c1, Few x → x ≠ 0 → RdI W A1 n1 (digs x) → Calls Try.prog 31 #[.slice A1 n1 c1] W (MkB W (x / 2))) := Lib.hid fun x W A1 n1 c1 fx hx h => half_calls A1 n1 c1 x W (fx.le h) hx h
  have CM : Hid (∀ (x : Nat) (W : World) A1 n1 c1 A2 n2 c2, Few x → RdI W A1 n1 (digs x) → RdI W A2 n2 (digs 256) → Calls Try.prog 32 #[.slice A1 n1 c1, .slice A2 n2 c2] W (MkB W (x * 256))) := Lib.hid fun x W A1 n1 c1 A2 n2 c2 fx h1 h2 => mulV fx (Few.wide (by decide)) W A1 n1 c1 A2 n2 c2 h1 h2
  have CL4 : Hid (∀ (W : World) A1 n1 c1 A2 n2 c2 (B : Bool), decide (M < 8388608) = B → RdI W A1 n1 (digs M) → RdI W A2 n2 (digs 8388608) → Calls Try.prog 29 #[.slice A1 n1 c1, .slice A2 n2 c2] W (Ret W (.bool B))) := Lib.hid fun W A1 n1 c1 A2 n2 c2 B hB h1 h2 => lessV (Few.wide (by omega)) (Few.wide (by decide)) W A1 n1 c1 A2 n2 c2 h1 h2 B hB
  have R256 : Hid (∀ W : World, RdI (W.alloc (.cells #[.int .i64 256] 3)) (some ⟨W.heap.size, 0, none⟩) 1 (digs 256)) := Lib.hid fun W => rdi_one W 256 (by decide) (by decide)
  have R128 : Hid (∀ W : World, RdI (W.alloc (.cells #[.int .i64 0, .int .i64 128] 3)) (some ⟨W.heap.size, 0, none⟩) 2 (digs 8388608)) := Lib.hid fun W => rdi_big W
  have HEB : Hid (∀ e, N < 256 ^ e → (0 < e → 256 ^ (e - 1) ≤ N) → E = e) := Lib.hid fun e h1 h2 => by rw [hE]; exact nB_eq N e h1 h2
  have HN32 : Hid (N < 256 ^ 32) := Lib.hid (by rw [show 256 ^ 32 = 2 ^ 256 from by decide]; exact hN)
  have FN : Hid (∀ i, Few (N / 2 ^ i)) := Lib.hid fun i => Few.wide (Nat.lt_of_le_of_lt (Nat.div_le_self _ _) hN)
  have HM2 := Lib.hid hM2
  have H9 := Lib.hid (And.intro hE9 hM9)
  have HR := Lib.hid hRe
  have FM : Hid (∀ i, Few (M / 2 ^ i)) := Lib.hid fun i => Few.wide (Nat.lt_of_le_of_lt (Nat.div_le_self _ _) (by omega))
  clear hE hM hM2 hE9 hM9 hR hRe hN
  go_enter Try.func15, Try.ntmps15
  go_upto_block 0 with fail
  go_cut [3] (fun v wx => v = .int .i64 (E : Int) ∧ Still w wx)
  case first =>
    go_wp2_with fail
    go_loopw [3] (fun v wr => ∃ t : Nat, t ≤ 32 ∧ v = .int .i64 (t : Int) ∧ Still w wr ∧ Hid (∀ j, j < t → 256 ^ j ≤ N)) (fun v _ => 32 - (intOf v).toNat)
    case atStart => exact ⟨0, by omega, rfl, Still.refl _, fun j hj => absurd hj (by omega)⟩
    case round =>
      obtain ⟨t, ht, rfl, hst, HT⟩ := hrel
      by_cases hlt : t < 32
      · have bt : (t : Int) < 32 := by omega
        obtain ⟨K, hK⟩ : ∃ K, K = 8 * t := ⟨_, rfl⟩
        obtain ⟨P, hP⟩ : ∃ P, P = 256 ^ t := ⟨_, rfl⟩
        obtain ⟨B, hB⟩ : ∃ B, B = decide (N < 256 ^ t) := ⟨_, rfl⟩
        have g1 : IntKind.i64.wrap (8 * (t : Int)) = (K : Int) := by rw [IntKind.wrap_i64]; omega
        have g1b : 8 * (t : Int) = (K : Int) := by omega
        have CP : Hid (∀ W, Calls Try.prog 30 #[.int .i64 (K : Int)] W (MkB W P)) := Lib.hid fun W => by rw [hK, hP]; exact CPW.out t W ht
        have C3 : Hid (∀ W A2 n2 c2, RdI W A0 n0 (digs N) → RdI W A2 n2 (digs P) → Calls Try.prog 29 #[.slice A0 n0 c0, .slice A2 n2 c2] W (Ret W (.bool B))) := Lib.hid fun W A2 n2 c2 h1 h2 => by rw [hP] at h2; exact CL3.out t W A0 n0 c0 A2 n2 c2 B ht hB.symm h1 h2
        by_cases hx2 : N < 256 ^ t
        · have FIN : Hid (E = t) := Lib.hid (HEB.out t hx2 (fun h0 => HT.out (t - 1) (by omega)))
          rw [decide_eq_true hx2] at hB
          subst hB
          clear hP hK hx2
          go_wp2_with (first
            | (go_at_call 30; refine (CP.out _).mono ?_; rintro e' v5 ⟨A5, n5, c5, rfl, h5, h5c, h5m, d5⟩)
            | (go_at_call 29; refine (C3.out _ _ _ _ (h0.still (by ((repeat (first | with_reducible exact Still.refl _ | with_reducible assumption | with_reducible apply Still.alloc | with_reducible apply Still.drew | with_reducible refine Still.step ?_ (by assumption) | with_reducible refine Still.trans ?_ (by assumption)))))) h5).mono ?_; rintro e' v6 ⟨rfl, d6⟩))
          go_meet
          exact ⟨congrArg _ (by rw [FIN.out]), by ((repeat (first | with_reducible exact Still.refl _ | with_reducible assumption | with_reducible apply Still.alloc | with_reducible apply Still.drew | with_reducible refine Still.step ?_ (by assumption) | with_reducible refine Still.trans ?_ (by assumption))))⟩
        · have FIN : Hid (∀ j, j < t + 1 → 256 ^ j ≤ N) := Lib.hid fun j hj => by
            rcases Nat.lt_or_ge j t with h | h
            · exact HT.out j h
            · have : j = t := by omega
              rw [this]; omega
          rw [decide_eq_false hx2] at hB
          subst hB
          clear hP hK hx2
          go_wp2_with (first
            | (go_at_call 30; refine (CP.out _).mono ?_; rintro e' v5 ⟨A5, n5, c5, rfl, h5, h5c, h5m, d5⟩)
            | (go_at_call 29; refine (C3.out _ _ _ _ (h0.still (by ((repeat (first | with_reducible exact Still.refl _ | with_reducible assumption | with_reducible apply Still.alloc | with_reducible apply Still.drew | with_reducible refine Still.step ?_ (by assumption) | with_reducible refine Still.trans ?_ (by assumption)))))) h5).mono ?_; rintro e' v6 ⟨rfl, d6⟩))
          exact ⟨⟨t + 1, by omega, by go_num, by ((repeat (first | with_reducible exact Still.refl _ | with_reducible assumption | with_reducible apply Still.alloc | with_reducible apply Still.drew | with_reducible refine Still.step ?_ (by assumption) | with_reducible refine Still.trans ?_ (by assumption)))), FIN⟩, by simp [intOf]; omega⟩
      · have bt : ¬ (t : Int) < 32 := by omega
        have e : t = 32 := by omega
        subst e
        have FIN : Hid (E = 32) := Lib.hid (HEB.out 32 HN32.out (fun h0 => HT.out 31 (by omega)))
        go_wp2_with fail
        go_meet
        exact ⟨congrArg _ (by rw [FIN.out]; rfl), hst⟩
  case rest =>
  obtain ⟨rfl, st1⟩ := hcut
  have r1 := h0.still st1
  obtain ⟨w1, hw1⟩ : ∃ w1, w1 = wc := ⟨_, rfl⟩
  rw [← hw1] at st1 r1 ⊢
  clear hw1 h0
  obtain ⟨y, hy⟩ : ∃ y : Int, y = (E : Int) - 3 := ⟨_, rfl⟩
  obtain ⟨z, hz⟩ : ∃ z : Int, z = 8 * y := ⟨_, rfl⟩
  have g1 : IntKind.i64.wrap ((E : Int) - 3) = y := by rw [IntKind.wrap_i64]; omega
  have g2 : IntKind.i64.wrap (8 * y) = z := by rw [IntKind.wrap_i64]; omega
  have HZ : Hid (∀ i : Nat, (i : Int) < z ↔ i < 8 * (E - 3)) := Lib.hid fun i => by omega
  have by1 : -3 ≤ y ∧ y ≤ 29 := by omega
  clear hy hz
  go_upto_block 2 with fail
  go_cut [4] (fun v wx => ∃ A n c, v = .slice A n c ∧ RdI wx A n (digs M2) ∧ Still w wx)
  case first =>
    go_wp2_with fail
    go_loopw [4, 5] (fun v b wx => ∃ i : Nat, b = .int .i64 (i : Int) ∧ i ≤ 8 * (E - 3) ∧ ∃ A n c, v = .slice A n c ∧ RdI wx A n (digs (N / 2 ^ i)) ∧ Still w wx) (fun _ b _ => 8 * (E - 3) - (intOf b).toNat)
    case atStart => exact ⟨0, rfl, by omega, A0, n0, c0, rfl, by rw [Nat.pow_zero, Nat.div_one]; exact r1, st1⟩
    case round =>
      obtain ⟨i, rfl, hi, A1, n1, c1, rfl, h1, hst⟩ := hrel
      have hzi := HZ.out i
      by_cases hlt : i < 8 * (E - 3)
      · have bi : (i : Int) < z := hzi.2 hlt
        have hne := HNE.out i hlt
        obtain ⟨x, hx⟩ : ∃ x, x = N / 2 ^ i := ⟨_, rfl⟩
        have HX : Hid (x / 2 = N / 2 ^ (i + 1)) := Lib.hid (by rw [hx]; exact half_pow N i)
        have fx : Few x := by rw [hx]; exact FN.out i
        rw [← hx] at h1 hne
        have C := Lib.hid (fun W A1 n1 c1 h => CH.out x W A1 n1 c1 fx hne h)
        clear hx hzi hne fx
        go_wp2_with (first
          | (go_at_call 31; refine (C.out _ _ _ _ h1).mono ?_; rintro e' v5 ⟨A5, n5, c5, rfl, h5, h5c, h5m, d5⟩))
        exact ⟨⟨i + 1, by go_num, by omega, A5, n5, c5, rfl, by rw [← HX.out]; exact h5, by ((repeat (first | with_reducible exact Still.refl _ | with_reducible assumption | with_reducible apply Still.alloc | with_reducible apply Still.drew | with_reducible refine Still.step ?_ (by assumption) | with_reducible refine Still.trans ?_ (by assumption))))⟩, by simp [intOf]; omega⟩
      · have bi : ¬ (i : Int) < z := fun h => hlt (hzi.1 h)
        have e : i = 8 * (E - 3) := by omega
        clear hzi
        go_wp2_with fail
        go_meet
        exact ⟨A1, n1, c1, rfl, by rw [HM2.out, ← e]; exact h1, hst⟩
  case rest =>
  obtain ⟨A1, n1, c1, rfl, h1, st2⟩ := hcut
  clear g1 g2 HZ by1 r1 st1 HNE
  obtain ⟨w2, hw2⟩ : ∃ w2, w2 = wc := ⟨_, rfl⟩
  rw [← hw2] at st2 h1 ⊢
  clear hw2
  go_upto_block 4 with fail
  go_cut [4] (fun v wx => ∃ A n c, v = .slice A n c ∧ RdI wx A n (digs M) ∧ Still w wx)
  case first =>
    go_wp2_with fail
    go_loopw [4, 6] (fun v b wx => ∃ j : Nat, b = .int .i64 (j : Int) ∧ E ≤ j ∧ (j ≤ 3 ∨ j = E) ∧ ∃ A n c, v = .slice A n c ∧ RdI wx A n (digs (M2 * 256 ^ (j - E))) ∧ Still w wx) (fun _ b _ => 3 - (intOf b).toNat)
    case atStart => exact ⟨E, rfl, Nat.le_refl _, Or.inr rfl, A1, n1, c1, rfl, by rw [Nat.sub_self, Nat.pow_zero, Nat.mul_one]; exact h1, st2⟩
    case round =>
      obtain ⟨j, rfl, hj1, hj2, A3, n3, c3, rfl, h3, hst⟩ := hrel
      by_cases hlt : j < 3
      · have bj : (j : Int) < 3 := by omega
        obtain ⟨x, hx⟩ : ∃ x, x = M2 * 256 ^ (j - E) := ⟨_, rfl⟩
        have HX : Hid (x * 256 = M2 * 256 ^ (j + 1 - E)) := Lib.hid (by rw [hx, Nat.mul_assoc, ← pS]; congr 2; omega)
        have fx : Few x := by rw [hx]; exact FM2.out (j - E) (by omega)
        rw [← hx] at h3
        have C := Lib.hid (fun W A1 n1 c1 A2 n2 c2 h h' => CM.out x W A1 n1 c1 A2 n2 c2 fx h h')
        clear hx fx hj2
        go_wp2_with (first
          | (go_at_call 32; refine (C.out _ A3 n3 c3 _ _ _ (h3.still (by ((repeat (first | with_reducible exact Still.refl _ | with_reducible assumption | with_reducible apply Still.alloc | with_reducible apply Still.drew | with_reducible refine Still.step ?_ (by assumption) | with_reducible refine Still.trans ?_ (by assumption)))))) (R256.out _)).mono ?_; rintro e' v5 ⟨A5, n5, c5, rfl, h5, h5c, h5m, d5⟩))
        exact ⟨⟨j + 1, by go_num, by omega, by omega, A5, n5, c5, rfl, by rw [← HX.out]; exact h5, by ((repeat (first | with_reducible exact Still.refl _ | with_reducible assumption | with_reducible apply Still.alloc | with_reducible apply Still.drew | with_reducible refine Still.step ?_ (by assumption) | with_reducible refine Still.trans ?_ (by assumption))))⟩, by simp [intOf]; omega⟩
      · have bj : ¬ (j : Int) < 3 := by omega
        have e := HM3.out j hj1 hj2 hlt
        rw [e] at h3
        clear hj2 e
        go_wp2_with fail
        go_meet
        exact ⟨A3, n3, c3, rfl, h3, hst⟩
  case rest =>
  obtain ⟨A3, n3, c3, rfl, h3, st3⟩ := hcut
  obtain ⟨w3, hw3⟩ : ∃ w3, w3 = wc := ⟨_, rfl⟩
  rw [← hw3] at st3 h3 ⊢
  clear hw3 h1 st2 HM3
  obtain ⟨B, hB⟩ : ∃ B, B = decide (M < 8388608) := ⟨_, rfl⟩
  have C4 := Lib.hid (fun W A1 n1 c1 A2 n2 c2 h h' => CL4.out W A1 n1 c1 A2 n2 c2 B hB.symm h h')
  have HBB := Lib.hid hB
  clear hB
  go_upto_if 41 with (first
    | (go_at_call 29; refine (C4.out _ A3 n3 c3 _ _ _ (h3.still (by ((repeat (first | with_reducible exact Still.refl _ | with_reducible assumption | with_reducible apply Still.alloc | with_reducible apply Still.drew | with_reducible refine Still.step ?_ (by assumption) | with_reducible refine Still.trans ?_ (by assumption)))))) (R128.out _)).mono ?_; rintro e' v4 ⟨rfl, d4⟩))
  have r3 : RdI v4 A3 n3 (digs M) := h3.still (by ((repeat (first | with_reducible exact Still.refl _ | with_reducible assumption | with_reducible apply Still.alloc | with_reducible apply Still.drew | with_reducible refine Still.step ?_ (by assumption) | with_reducible refine Still.trans ?_ (by assumption)))))
  have st4 : Still w v4 := by ((repeat (first | with_reducible exact Still.refl _ | with_reducible assumption | with_reducible apply Still.alloc | with_reducible apply Still.drew | with_reducible refine Still.step ?_ (by assumption) | with_reducible refine Still.trans ?_ (by assumption))))
  clear h3 st3 d4
  go_cut [3, 4] (fun u v wx => u = .int .i64 (E9 : Int) ∧ ∃ A n c, v = .slice A n c ∧ RdI wx A n (digs M9) ∧ Still w wx)
  case first =>
    obtain ⟨x9, y9⟩ := H9.out
    by_cases hov : 8388608 ≤ M
    · have hBf : B = false := by rw [HBB.out]; exact decide_eq_false (by omega)
      subst hBf
      simp only [Bool.not_false]
      have HX9 : Hid (E9 = E + 1 ∧ M9 = M / 2 ^ 8) := Lib.hid ⟨by rw [x9, if_pos hov], by rw [y9, if_pos hov]⟩
      clear x9 y9
      go_wp2_with fail
      go_loopw [4, 7] (fun v b wx => ∃ i : Nat, b = .int .i64 (i : Int) ∧ i ≤ 8 ∧ ∃ A n c, v = .slice A n c ∧ RdI wx A n (digs (M / 2 ^ i)) ∧ Still w wx) (fun _ b _ => 8 - (intOf b).toNat)
      case atStart => exact ⟨0, rfl, by omega, A3, n3, c3, rfl, by rw [Nat.pow_zero, Nat.div_one]; exact r3, st4⟩
      case round =>
        obtain ⟨i, rfl, hi, A5, n5, c5, rfl, h5, hst⟩ := hrel
        by_cases hlt : i < 8
        · have bi : (i : Int) < 8 := by omega
          have hne : M / 2 ^ i ≠ 0 := half_ne (K := 23) (by omega) (by omega)
          obtain ⟨x, hx⟩ : ∃ x, x = M / 2 ^ i := ⟨_, rfl⟩
          have HX : Hid (x / 2 = M / 2 ^ (i + 1)) := Lib.hid (by rw [hx]; exact half_pow M i)
          have fx : Few x := by rw [hx]; exact FM.out i
          rw [← hx] at h5 hne
          have C := Lib.hid (fun W A1 n1 c1 h => CH.out x W A1 n1 c1 fx hne h)
          clear hx hne fx
          go_wp2_with (first
            | (go_at_call 31; refine (C.out _ _ _ _ h5).mono ?_; rintro e' v6 ⟨A6, n6, c6, rfl, h6, h6c, h6m, d6⟩))
          go_roundw
          case rel => exact ⟨i + 1, by go_num, by omega, A6, n6, c6, rfl, by rw [← HX.out]; exact h6, by ((repeat (first | with_reducible exact Still.refl _ | with_reducible assumption | with_reducible apply Still.alloc | with_reducible apply Still.drew | with_reducible refine Still.step ?_ (by assumption) | with_reducible refine Still.trans ?_ (by assumption))))⟩
          case measure => simp [intOf]; omega
        · have bi : ¬ (i : Int) < 8 := by omega
          have e : i = 8 := by omega
          subst e
          go_wp2_with fail
          go_meet
          exact ⟨congrArg _ (by rw [HX9.out.1]; rfl), A5, n5, c5, rfl, by rw [HX9.out.2]; exact h5, hst⟩
    · have hBt : B = true := by rw [HBB.out]; exact decide_eq_true (by omega)
      subst hBt
      have HX9 : Hid (E9 = E ∧ M9 = M) := Lib.hid ⟨by rw [x9, if_neg hov], by rw [y9, if_neg hov]⟩
      clear x9 y9
      go_wp2_with fail
      go_meet
      exact ⟨congrArg _ (by rw [HX9.out.1]), A3, n3, c3, rfl, by rw [HX9.out.2]; exact r3, st4⟩
  case rest =>
  obtain ⟨rfl, A5, n5, c5, rfl, h5, st5⟩ := hcut
  obtain ⟨w5, hw5⟩ : ∃ w5, w5 = wc := ⟨_, rfl⟩
  rw [← hw5] at st5 h5 ⊢
  obtain ⟨G, hG⟩ : ∃ G, G = E9 * 16777216 := ⟨_, rfl⟩
  have k1 : IntKind.u32.wrap (E9 : Int) = (E9 : Int) := u32_in E9 (by omega)
  have k2 : IntKind.u32.wrap ((E9 : Int) * 16777216) = (G : Int) := by rw [IntKind.wrap_u32]; omega
  have k3 : IntKind.u32.wrap (M9 : Int) = (M9 : Int) := u32_in M9 (by omega)
  have k4 : IntKind.u32.wrap ((G : Int) + (M9 : Int)) = (R : Int) := by have := HR.out; rw [IntKind.wrap_u32]; omega
  obtain ⟨a1, a2, a3, hws⟩ : ∃ a1 a2 a3 : Int, ws4 (digs M9) 0 = [.int .u64 (M9 : Int), .int .u64 a1, .int .u64 a2, .int .u64 a3] := by
    refine ⟨(wk (digs M9) 0 1 : Int), (wk (digs M9) 0 2 : Int), (wk (digs M9) 0 3 : Int), ?_⟩
    unfold ws4
    rw [wk_val _ 0 (digs_lt M9), val_digs, Nat.mul_zero, Nat.pow_zero, Nat.div_one, Nat.mod_eq_of_lt (by omega)]
  have CW : Hid (∀ W A n1 c, RdI W A n1 (digs M9) → Calls Try.prog 14 #[.slice A n1 c] W (Ret W (.agg #[.int .u64 (M9 : Int), .int .u64 a1, .int .u64 a2, .int .u64 a3]))) := Lib.hid fun W A n1 c h => by
    have h2 := bwords_calls A n1 c (digs M9) W (digs_le h (by rw [p16]; omega)) (digs_lt _) h
    rw [hws] at h2
    exact h2
  have hix : ∀ W, (Instr.index 24 (.agg #[.int .u64 (M9 : Int), .int .u64 a1, .int .u64 a2, .int .u64 a3]) (.int .i64 0)).run Try.prog W = .ok (.int .u64 (M9 : Int)) W := fun W => run_idx (P := Try.prog) 24 23 4 Try.underlying24 .u64 Try.underlying23 (by kernel_rfl) [.int .u64 (M9 : Int), .int .u64 a1, .int .u64 a2, .int .u64 a3] 0 _ (by decide) rfl W
  clear hG hws hw5 r3 st4
  go_wp2_with (first
    | (go_at_call 14; refine (CW.out _ _ _ _ h5).mono ?_; rintro e' v7 ⟨rfl, d7⟩))
  go_ret
  exact ⟨rfl, show Still w v7 by ((repeat (first | with_reducible exact Still.refl _ | with_reducible assumption | with_reducible apply Still.alloc | with_reducible apply Still.drew | with_reducible refine Still.step ?_ (by assumption) | with_reducible refine Still.trans ?_ (by assumption))))⟩
end Go.Proofs.Ytdgfgehjnfadnaa
