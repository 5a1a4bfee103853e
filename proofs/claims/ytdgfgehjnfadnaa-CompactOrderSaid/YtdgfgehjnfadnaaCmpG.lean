/- The contract of compact.Bits. -/
import Derived.Test.YtdgfgehjnfadnaaCmpF
import Derived.Deep.RegionHeld3
import Derived.Deep.CutRange
import Derived.Deep.DeepCutAuto
namespace Go.Proofs.Ytdgfgehjnfadnaa
open Go.RowKit
set_option linter.unusedVariables false
set_option linter.unusedSimpArgs false

set_option maxRecDepth 100000 in
set_option maxHeartbeats 4000000 in
theorem cbits_calls (N : Nat) (w : World) (hN : N < 2 ^ 256) : Calls Try.prog 16 #[.agg (cellsW (wd N)).toArray] w (Ret w (.int .u32 (bitsN N : Int))) := by
  obtain ⟨L, hL⟩ : ∃ L, L = bl N := ⟨_, rfl⟩
  obtain ⟨E, hE⟩ : ∃ E, E = nB N := ⟨_, rfl⟩
  obtain ⟨M, hM⟩ : ∃ M, M = mant N E := ⟨_, rfl⟩
  obtain ⟨R, hR⟩ : ∃ R, R = bitsN N := ⟨_, rfl⟩
  have bL : L ≤ 256 := by rw [hL]; exact (bl_le N 256).2 hN
  have hEL : E = (L + 7) / 8 := by rw [hE, hL]; rfl
  have bM : M < 16777216 := by
    rw [hM, hE]
    by_cases h : N = 0
    · subst h; rw [nB_zero]; decide
    · exact (mant_in h).2
  obtain ⟨X, hX⟩ : ∃ X, X = cellsW (wd N) := ⟨_, rfl⟩
  have IX : Hid ((Try.prog.info? 25).map (·.size) = some X.length) := Lib.hid (by rw [hX]; exact sizeW _)
  have LX : Hid (zerosW.length = X.length) := Lib.hid (by rw [hX]; rfl)
  have OX : Hid (∀ v ∈ X, v.oneCell' = true) := Lib.hid (by rw [hX]; exact cellsW_one _)
  have CL : Hid (∀ W, Calls Try.prog 33 #[.agg X.toArray] W (Ret W (.int .i64 (L : Int)))) := Lib.hid (fun W => by rw [hX, hL]; exact wlen_calls N W hN)
  have CF : Hid (∀ W, Calls Try.prog 34 #[.agg X.toArray, .int .i64 (E : Int)] W (Ret W (.int .u32 (M : Int)))) := Lib.hid (fun W => by rw [hX]; exact first_calls N E M W hN (by omega) hM bM)
  rw [← hX, ← hR]
  obtain ⟨w0, hw0⟩ : ∃ w0, w0 = (w.alloc (.cells X.toArray 25)) := ⟨_, rfl⟩
  have hbX : Blk w0 (w.heap.size) X 25 := by rw [hw0]; exact Blk.new' w X.toArray 25 (w.heap.size) (by simp)
  have HB : Hid (Still w w0) := Lib.hid (by rw [hw0]; exact Still.alloc (Still.refl w) _)
  obtain ⟨A1, hA1⟩ : ∃ A, A = L + 8 := ⟨_, rfl⟩
  obtain ⟨A2, hA2⟩ : ∃ A, A = L + 7 := ⟨_, rfl⟩
  have g1 : IntKind.i64.wrap ((L : Int) + 8) = (A1 : Int) := by rw [IntKind.wrap_i64]; omega
  have g1b : (L : Int) + 8 = (A1 : Int) := by omega
  have g2 : IntKind.i64.wrap ((A1 : Int) - 1) = (A2 : Int) := by rw [IntKind.wrap_i64]; omega
  have g2b : (A1 : Int) - 1 = (A2 : Int) := by omega
  have g3 : (A2 : Int).tdiv 8 = (E : Int) := by rw [Int.tdiv_eq_ediv_of_nonneg (by omega)]; omega
  have g3b : (A2 : Int) / 8 = (E : Int) := by omega
  have g4 : IntKind.i64.wrap (E : Int) = (E : Int) := by rw [IntKind.wrap_i64]; omega
  have bE : E ≤ 32 := by omega
  clear hA1 hA2 hEL
  by_cases hb : 8388608 ≤ M
  · have g5 : bits .and .u32 (M : Int) 8388608 = 8388608 := by rw [u32_and_bit M (by omega)]; omega
    obtain ⟨M9, hM9⟩ : ∃ M9, M9 = M / 256 := ⟨_, rfl⟩
    obtain ⟨E9, hE9⟩ : ∃ E9, E9 = E + 1 := ⟨_, rfl⟩
    obtain ⟨P9, hP9⟩ : ∃ P9, P9 = E9 * 16777216 := ⟨_, rfl⟩
    have hR9 : R = E9 * 16777216 + M9 := by rw [hR]; unfold bitsN; rw [← hE, ← hM, if_pos hb, hE9, hM9]
    have g6 : (M : Int) / 2 ^ 8 = (M9 : Int) := by rw [show (2 : Int) ^ 8 = 256 from rfl]; omega
    have g6b : (M : Int) / 256 = (M9 : Int) := by omega
    have g6c : IntKind.u32.wrap (M9 : Int) = (M9 : Int) := u32_in M9 (by omega)
    have g7 : IntKind.i64.wrap ((E : Int) + 1) = (E9 : Int) := by rw [IntKind.wrap_i64]; omega
    have g7b : (E : Int) + 1 = (E9 : Int) := by omega
    have g8 : IntKind.u32.wrap (E9 : Int) = (E9 : Int) := u32_in _ (by omega)
    have g9 : IntKind.u32.wrap ((E9 : Int) * 2 ^ 24) = (P9 : Int) := by rw [IntKind.wrap_u32, show (2 : Int) ^ 24 = 16777216 from rfl]; omega
    have g9b : (E9 : Int) * 16777216 % 4294967296 = (P9 : Int) := by omega
    have g9c : IntKind.u32.wrap ((E9 : Int) * 16777216) = (P9 : Int) := by rw [IntKind.wrap_u32]; omega
    have g9d : (E9 : Int) * 2 ^ 24 % 4294967296 = (P9 : Int) := by rw [show (2 : Int) ^ 24 = 16777216 from rfl]; omega
    have g10 : bits .or .u32 (P9 : Int) (M9 : Int) = (R : Int) := by rw [hP9, hR9]; exact u32_or_top _ _ (by omega) (by omega)
    clear hR9 hP9 hM9 hE9 hX hR hE hM hL hb hN
    go_enter Try.func16, Try.ntmps16
    go_upto_region 1 with fail
    rw [← hw0]
    clear hw0
    go_wp2_with (first
      | ((with_reducible refine at_load 25 (.tmp 1) ?_); refine wpList_load_mid rfl 25 (.tmp 1) rfl (w.heap.size) 0 rfl X _ (Blk.range (t := 25) (by ((repeat (first | with_reducible assumption | with_reducible apply Blk.alloc | with_reducible apply Blk.drew | with_reducible refine Blk.step ?_ (by assumption) | with_reducible refine Blk.stepS ?_ (by assumption)))))) Try.underlying25 rfl IX.out ?_)
      | (go_at_call 33; refine (CL.out _).mono ?_; rintro e' v1 ⟨rfl, d1⟩)
      | (go_at_call 34; refine (CF.out _).mono ?_; rintro e' v2 ⟨rfl, d2⟩))
    go_ret
    exact ⟨rfl, HB.out.trans (show Still w0 v2 by ((repeat (first | with_reducible exact Still.refl _ | with_reducible assumption | with_reducible apply Still.alloc | with_reducible apply Still.drew | with_reducible refine Still.step ?_ (by assumption) | with_reducible refine Still.trans ?_ (by assumption)))))⟩
  · have g5 : bits .and .u32 (M : Int) 8388608 = 0 := by rw [u32_and_bit M (by omega)]; omega


    obtain ⟨P9, hP9⟩ : ∃ P9, P9 = E * 16777216 := ⟨_, rfl⟩
    have hR9 : R = E * 16777216 + M := by rw [hR]; unfold bitsN; rw [← hE, ← hM, if_neg hb]
    have g8 : IntKind.u32.wrap (E : Int) = (E : Int) := u32_in _ (by omega)
    have g9 : IntKind.u32.wrap ((E : Int) * 2 ^ 24) = (P9 : Int) := by rw [IntKind.wrap_u32, show (2 : Int) ^ 24 = 16777216 from rfl]; omega
    have g9b : (E : Int) * 16777216 % 4294967296 = (P9 : Int) := by omega
    have g9c : IntKind.u32.wrap ((E : Int) * 16777216) = (P9 : Int) := by rw [IntKind.wrap_u32]; omega
    have g9d : (E : Int) * 2 ^ 24 % 4294967296 = (P9 : Int) := by rw [show (2 : Int) ^ 24 = 16777216 from rfl]; omega
    have g10 : bits .or .u32 (P9 : Int) (M : Int) = (R : Int) := by rw [hP9, hR9]; exact u32_or_top _ _ (by omega) (by omega)
    clear hR9 hP9 hX hR hE hM hL hb hN
    go_enter Try.func16, Try.ntmps16
    go_upto_region 1 with fail
    rw [← hw0]
    clear hw0
    go_wp2_with (first
      | ((with_reducible refine at_load 25 (.tmp 1) ?_); refine wpList_load_mid rfl 25 (.tmp 1) rfl (w.heap.size) 0 rfl X _ (Blk.range (t := 25) (by ((repeat (first | with_reducible assumption | with_reducible apply Blk.alloc | with_reducible apply Blk.drew | with_reducible refine Blk.step ?_ (by assumption) | with_reducible refine Blk.stepS ?_ (by assumption)))))) Try.underlying25 rfl IX.out ?_)
      | (go_at_call 33; refine (CL.out _).mono ?_; rintro e' v1 ⟨rfl, d1⟩)
      | (go_at_call 34; refine (CF.out _).mono ?_; rintro e' v2 ⟨rfl, d2⟩))
    go_ret
    exact ⟨rfl, HB.out.trans (show Still w0 v2 by ((repeat (first | with_reducible exact Still.refl _ | with_reducible assumption | with_reducible apply Still.alloc | with_reducible apply Still.drew | with_reducible refine Still.step ?_ (by assumption) | with_reducible refine Still.trans ?_ (by assumption)))))⟩
end Go.Proofs.Ytdgfgehjnfadnaa
