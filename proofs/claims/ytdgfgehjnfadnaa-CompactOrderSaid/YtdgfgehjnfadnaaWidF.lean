/- The contracts of wide.Of, Max, word and Len. -/
import Derived.Test.YtdgfgehjnfadnaaWidU
import Derived.Test.YtdgfgehjnfadnaaWidB
namespace Go.Proofs.Ytdgfgehjnfadnaa
open Go.RowKit
set_option linter.unusedVariables false

theorem uA_small (n : Nat) (h : n < 2 ^ 64) : uA n = #[.int .u64 (n : Int), .int .u64 0, .int .u64 0, .int .u64 0] := by
  unfold uA
  have h0 : wd n 0 = n := by unfold wd; rw [Nat.mul_zero, Nat.pow_zero, Nat.div_one, Nat.mod_eq_of_lt h]
  rw [h0, wd_high n 1 h, wd_high n 2 (Nat.lt_trans h (by decide)), wd_high n 3 (Nat.lt_trans h (by decide))]
  rfl
set_option maxHeartbeats 1000000 in
theorem wof_calls (n : Nat) (w : World) (hn : n < 2 ^ 64) : Calls Try.prog 24 #[.int .u64 (n : Int)] w (Ret w (.agg (uA n))) := by
  obtain ⟨f, hf⟩ : ∃ f : Nat → Nat, f = fun j => if j = 0 then n else 0 := ⟨_, rfl⟩
  have hc : [.int .u64 (n : Int), .int .u64 0, .int .u64 0, .int .u64 0] = cellsW f := by rw [hf]; rfl
  rw [uA_small n hn]
  have H1 : Hid (Blk (w.alloc (.cells #[.int .u64 0, .int .u64 0, .int .u64 0, .int .u64 0] 25)) w.heap.size zerosW 25 ∧ Below w.heap.size w (w.alloc (.cells #[.int .u64 0, .int .u64 0, .int .u64 0, .int .u64 0] 25))) := Lib.hid ⟨Blk.new w _ _, (Below.refl _ w).alloc (Nat.le_refl _) _⟩
  have HC := Lib.hid hc
  have HS : Hid ((Try.prog.info? 25).map (·.size) = some (cellsW f).length) := Lib.hid (sizeW f)
  have HO := Lib.hid (cellsW_one f)
  clear hf hn hc
  go_enter Try.func24, Try.ntmps24
  go_wp2_with (refine at_store 25 (.tmp 2) (.tmp 4) ?_; refine wpList_store_blk rfl 25 (.tmp 2) (.tmp 4) rfl w.heap.size zerosW (cellsW f) _ rfl (by rw [← HC.out]; rfl) H1.out.1 rfl HS.out HO.out ?_; intro w3 hb9 ho9)
  refine bodyPost_ret (v := .agg #[.int .u64 (n : Int), .int .u64 0, .int .u64 0, .int .u64 0]) ?_ rfl ⟨rfl, H1.out.2.trans (ho9.below (by omega))⟩
  rw [← HC.out] at hb9
  exact results_cell_row Try.results24 _ _ w.heap.size 25 _ (0, 0) _ (by rfl) hb9 Try.underlying25 rfl sizeU

set_option maxHeartbeats 2000000 in
theorem word_calls (x : Nat) (j : Int) (w : World) : Calls Try.prog 37 #[.agg (uA x), .int .i64 j] w (Ret w (.int .u64 (wz x j : Int))) := by
  have hb := Blk.new w (uA x) 25
  have hbl : Hid (Below w.heap.size w (w.alloc (.cells (uA x) 25))) := Lib.hid ((Below.refl _ w).alloc (Nat.le_refl _) _)
  unfold wz
  by_cases h0 : j < 0
  · rw [if_pos h0]
    have b0 : decide (j < 0) = true := by simpa using h0
    unfold uA at *
    clear hb
    go_enter Try.func37, Try.ntmps37
    go_wp2
    go_ret
    exact ⟨rfl, hbl.out⟩
  · rw [if_neg h0]
    by_cases h4 : 4 ≤ j
    · rw [if_pos h4]
      unfold uA at *
      clear hb
      go_enter Try.func37, Try.ntmps37
      go_wp2
      go_ret
      exact ⟨rfl, hbl.out⟩
    · rw [if_neg h4]
      obtain ⟨t, rfl⟩ : ∃ t : Nat, j = (t : Int) := ⟨j.toNat, by omega⟩
      have ht : t < 4 := by omega
      have cx := hb.cell t
      rw [uA_list, cellsW_at _ t ht] at cx
      rw [Int.toNat_natCast]
      obtain ⟨X, hX⟩ : ∃ X, X = wd x t := ⟨_, rfl⟩
      rw [← hX] at cx ⊢
      unfold uA at *
      clear hb hX
      go_enter Try.func37, Try.ntmps37
      go_wp2
      go_ret
      exact ⟨rfl, hbl.out⟩

theorem max_words (f : Nat → Nat) (h : ∀ j, j < 4 → f j = 18446744073709551615) : cellsW f = (uA (2 ^ 256 - 1)).toList := by
  rw [uA_list]
  refine cellsW_ext _ _ fun j hj => ?_
  rw [h j hj]
  rcases (show j = 0 ∨ j = 1 ∨ j = 2 ∨ j = 3 by omega) with rfl | rfl | rfl | rfl <;> decide +kernel
set_option maxHeartbeats 2000000 in
theorem max_calls (w : World) : Calls Try.prog 22 #[] w (Ret w (.agg (uA (2 ^ 256 - 1)))) := by
  obtain ⟨N, hN⟩ : ∃ N, N = 2 ^ 256 - 1 := ⟨_, rfl⟩
  have HM : Hid (∀ f : Nat → Nat, (∀ j, j < 4 → f j = 18446744073709551615) → cellsW f = (uA N).toList) := Lib.hid (by rw [hN]; exact max_words)
  rw [← hN]
  obtain ⟨V, hV⟩ : ∃ V, V = uA N := ⟨_, rfl⟩
  rw [← hV]
  have HV := Lib.hid hV
  clear hN hV
  go_enter Try.func22, Try.ntmps22
  go_wp2
  go_loopw [3] (fun i wr => ∃ (t : Nat) (f : Nat → Nat), t ≤ 4 ∧ i = .int .i64 (t : Int) ∧ Blk wr w.heap.size zerosW 25 ∧ Blk wr (w.heap.size + 1) (cellsW f) 25 ∧ Hid (∀ j, j < t → f j = 18446744073709551615) ∧ Below w.heap.size w wr) (fun i _ => 4 - (intOf i).toNat)
  case atStart =>
    exact ⟨0, fun _ => 0, by omega, rfl, (Blk.new w _ _).alloc _, Blk.new' (w.alloc _) _ _ _ (by simp), fun j hj => absurd hj (by omega), ((Below.refl _ w).alloc (Nat.le_refl _) _).alloc (by simp) _⟩
  case round =>
    obtain ⟨t, f, ht, rfl, hbz, hbs, HF, hbel⟩ := hrel
    by_cases hlt : t < 4
    · have cs := hbs.cell t
      rw [cellsW_at _ t hlt] at cs
      have fs := hbs.free t
      have bt : (t : Int) < 4 := by omega
      have R : Hid (Blk (wr.setCell ⟨w.heap.size + 1, t, none⟩ (.int .u64 18446744073709551615)) w.heap.size zerosW 25 ∧ Blk (wr.setCell ⟨w.heap.size + 1, t, none⟩ (.int .u64 18446744073709551615)) (w.heap.size + 1) (cellsW (upd f t 18446744073709551615)) 25 ∧ Below w.heap.size w (wr.setCell ⟨w.heap.size + 1, t, none⟩ (.int .u64 18446744073709551615))) := Lib.hid
        ⟨hbz.set_other _ _ (by simp), by rw [← cellsW_set f t _ hlt]; exact hbs.set t _, hbel.setCell (by simp) _⟩
      have HN : Hid (∀ j, j < t + 1 → upd f t 18446744073709551615 j = 18446744073709551615) := Lib.hid fun j hj => by
        by_cases h : j = t
        · rw [h, upd_same]
        · rw [upd_other _ _ _ _ h]; exact HF.out j (by omega)
      clear hbz hbs hbel
      go_wp2
      exact ⟨⟨t + 1, upd f t 18446744073709551615, by omega, by go_num, R.out.1, R.out.2.1, HN, R.out.2.2⟩, by simp [intOf]; omega⟩
    · have e : t = 4 := by omega
      subst e
      have hcells : cellsW f = V.toList := by rw [HV.out]; exact HM.out f HF.out
      have HC := Lib.hid hcells
      have HB := Lib.hid (And.intro hbs (And.intro hbz hbel))
      clear hbz hbs hbel hcells
      go_wp2_with (first
        | (refine at_load 25 (.tmp 1) ?_; refine wpList_load_mid rfl 25 (.tmp 1) rfl (w.heap.size + 1) 0 rfl (cellsW f) _ HB.out.1.range Try.underlying25 rfl (sizeW f) ?_)
        | (refine at_store 25 (.tmp 0) (.tmp 9) ?_; refine wpList_store_blk rfl 25 (.tmp 0) (.tmp 9) rfl w.heap.size zerosW (cellsW f) _ rfl rfl HB.out.2.1 rfl (sizeW f) (cellsW_one f) ?_; intro w3 hb9 ho9))
      refine bodyPost_ret (v := .agg V) ?_ rfl ⟨rfl, HB.out.2.2.trans (ho9.below (by omega))⟩
      rw [HC.out] at hb9
      exact results_cell_row Try.results22 _ _ w.heap.size 25 _ (0, 0) _ (by rfl) hb9 Try.underlying25 rfl (by rw [HV.out, uA_size]; exact sizeU)

theorem len_top (x a : Nat) (h : x < 2 ^ (64 * (a + 1))) : wd x a = x / 2 ^ (64 * a) := by
  unfold wd
  rw [Nat.mod_eq_of_lt]
  apply Nat.div_lt_of_lt_mul
  rw [← pB]; exact h
set_option maxHeartbeats 2000000 in
theorem wlen_calls (x : Nat) (w : World) (hx : x < 2 ^ 256) : Calls Try.prog 33 #[.agg (uA x)] w (Ret w (.int .i64 (bl x : Int))) := by
  have HX := Lib.hid hx
  obtain ⟨L, hL⟩ : ∃ L, L = bl x := ⟨_, rfl⟩
  rw [← hL]
  have HL := Lib.hid hL
  have CL : Hid (∀ t W, Calls Try.prog 42 #[.int .u64 (wd x t : Int)] W fun e w' => e = .returned (.int .i64 (bl (wd x t) : Int)) ∧ W = w') := Lib.hid fun t W => len64_calls _ W (wd_lt _ _)
  unfold uA
  clear hx hL
  go_enter Try.func33, Try.ntmps33
  go_wp2
  go_loopw [5] (fun i wr => ∃ t : Nat, t ≤ 4 ∧ i = .int .i64 (t : Int) ∧ Blk wr w.heap.size (cellsW (wd x)) 25 ∧ Hid (x < 2 ^ (64 * (4 - t))) ∧ Below w.heap.size w wr) (fun i _ => 4 - (intOf i).toNat)
  case atStart =>
    exact ⟨0, by omega, rfl, Blk.new w _ _, HX.out, (Below.refl _ w).alloc (Nat.le_refl _) _⟩
  case round =>
    obtain ⟨t, ht, rfl, hbx, HF, hbel⟩ := hrel
    by_cases hlt : t < 4
    · obtain ⟨a, ha⟩ : ∃ a, a = 3 - t := ⟨_, rfl⟩
      have ha4 : a < 4 := by omega
      have e1 : 4 - t = a + 1 := by omega
      have hF := HF.out
      rw [e1] at hF
      have htop := len_top x a hF
      have e2 : 3 - (t : Int) = (a : Int) := by omega
      have e3 : IntKind.i64.wrap (3 - (t : Int)) = (a : Int) := by rw [IntKind.wrap_i64]; omega
      have cx := hbx.cell a
      rw [cellsW_at _ a ha4] at cx
      have CT := CL.out a wr
      obtain ⟨X, hX⟩ : ∃ X, X = wd x a := ⟨_, rfl⟩
      rw [← hX] at cx CT htop
      have bt : (t : Int) < 4 := by omega
      have ba : (a : Int) < 4 := by omega
      have HB := Lib.hid (And.intro hbx hbel)
      by_cases h0 : X = 0
      · subst h0
        have cx' : wr.cell? ⟨w.heap.size, a, none⟩ = some (.int .u64 0) := cx
        have HN : Hid (x < 2 ^ (64 * (4 - (t + 1)))) := Lib.hid (by
          rw [show 4 - (t + 1) = a from by omega]
          exact (Nat.div_eq_zero_iff_lt (pP a)).1 htop.symm)
        clear hbx hbel hF htop hX cx CT e1 ha
        go_wp2
        exact ⟨⟨t + 1, by omega, by go_num, HB.out.1, HN, HB.out.2⟩, by simp [intOf]; omega⟩
      · have hb : bl x = 64 * a + bl X := by rw [htop]; exact bl_div x (64 * a) (by rw [← htop]; exact h0)
        obtain ⟨M, hM⟩ : ∃ M, M = bl X := ⟨_, rfl⟩
        rw [← hM] at hb CT
        have hM64 : M ≤ 64 := by rw [hM]; exact (bl_le X 64).2 (by rw [hX]; exact wd_lt _ _)
        obtain ⟨a64, ha64⟩ : ∃ a64, a64 = 64 * a := ⟨_, rfl⟩
        have m1 : IntKind.i64.wrap (64 * (a : Int)) = (a64 : Int) := by rw [IntKind.wrap_i64]; omega
        have m1b : 64 * (a : Int) = (a64 : Int) := by omega
        have m2 : IntKind.i64.wrap ((a64 : Int) + (M : Int)) = ((a64 + M : Nat) : Int) := by rw [IntKind.wrap_i64]; omega
        have HE : Hid (L = a64 + M) := Lib.hid (by rw [HL.out, hb, ha64])
        have xb : ((X : Int) != 0) = true := by simp; omega
        have xn : ¬ (X : Int) = 0 := by omega
        have CU := Lib.hid CT
        have ba64 : a64 ≤ 192 := by omega
        clear hbx hbel hF htop hX CT e1 ha hb hM ha64 h0
        go_wp2_with (go_at_call 42; refine CU.out.mono ?_; rintro e' w' ⟨rfl, rfl⟩)
        go_ret
        refine ⟨?_, HB.out.2⟩
        rw [HE.out]
        rfl
    · have e : t = 4 := by omega
      subst e
      have h0 : L = 0 := by
        have h := HF.out
        rw [Nat.sub_self, Nat.mul_zero, Nat.pow_zero] at h
        rw [HL.out, show x = 0 from by omega]; rfl
      have HB := Lib.hid hbel
      have H0 := Lib.hid h0
      clear hbx hbel h0
      go_wp2
      go_ret
      exact ⟨by rw [H0.out]; rfl, HB.out⟩
end Go.Proofs.Ytdgfgehjnfadnaa
