/- The contracts of wide.Add and Sub. -/
import Derived.Test.YtdgfgehjnfadnaaWidU
import Derived.Test.YtdgfgehjnfadnaaWidB
namespace Go.Proofs.Ytdgfgehjnfadnaa
open Go.RowKit
set_option linter.unusedVariables false

/-- The words of a sum, of a difference, with what is carried. -/
theorem add_words (x y : Nat) : Hid (∀ t, t < 4 → (wd x t + wd y t + cy x y t) % 2 ^ 64 = wd (x + y) t ∧ (wd x t + wd y t + cy x y t) / 2 ^ 64 = cy x y (t + 1) ∧ cy x y t ≤ 1) :=
  Lib.hid fun t _ => ⟨(wd_add x y t).symm, (cy_succ x y t).symm, cy_le x y t⟩
theorem sub_words (x y : Nat) (hx : x < 2 ^ 256) (hy : y < 2 ^ 256) : Hid (∀ t, t < 4 → (wd x t + 18446744073709551616 - wd y t - cy y (dif x y) t) % 18446744073709551616 = wd (dif x y) t ∧ (if wd x t < wd y t + cy y (dif x y) t then 1 else 0) = cy y (dif x y) (t + 1) ∧ cy y (dif x y) t ≤ 1) :=
  Lib.hid fun t ht => ⟨(dif_word x y t hx hy ht).1, (dif_word x y t hx hy ht).2, cy_le _ _ _⟩

set_option maxHeartbeats 4000000 in
theorem add_calls (x y : Nat) (w : World) (hx : x < 2 ^ 256) (hy : y < 2 ^ 256) :
    Calls Try.prog 38 #[.agg (uA x), .agg (uA y)] w (Ret w (.tuple #[.agg (uA (x + y)), .bool (decide (2 ^ 256 ≤ x + y))])) := by
  have HW := add_words x y
  have h4 := cy_four x y hx hy
  have h0 : cy x y 0 = 0 := cy_zero _ _
  obtain ⟨C, hC⟩ : ∃ C, C = cy x y := ⟨_, rfl⟩
  obtain ⟨N, hN⟩ : ∃ N, N = x + y := ⟨_, rfl⟩
  obtain ⟨B, hB⟩ : ∃ B, B = decide (2 ^ 256 ≤ x + y) := ⟨_, rfl⟩
  rw [← hC, ← hN] at HW
  rw [← hC] at h4 h0
  rw [← hB, ← hN]
  have hcb0 : ((C 4 : Int) != 0) = B := by
    rw [h4, hB]
    split <;> simp_all
  have H4 := Lib.hid hcb0
  have H0 := Lib.hid h0
  obtain ⟨V, hV⟩ : ∃ V, V = uA N := ⟨_, rfl⟩
  rw [← hV]
  have HV := Lib.hid hV
  unfold uA
  clear hx hy hB hV hC hN h0 h4 hcb0
  go_enter Try.func38, Try.ntmps38
  go_wp2
  go_loopw [7, 9] (fun c i wr => ∃ (t : Nat) (f : Nat → Nat), t ≤ 4 ∧ i = .int .i64 (t : Int) ∧ c = .int .u64 (C t : Int) ∧ Blk wr w.heap.size (cellsW (wd x)) 25 ∧ Blk wr (w.heap.size + 1) (cellsW (wd y)) 25 ∧ Blk wr (w.heap.size + 1 + 1) zerosW 25 ∧ Blk wr (w.heap.size + 1 + 1 + 1) (cellsW f) 25 ∧ Hid (∀ j, j < t → f j = wd N j) ∧ Below w.heap.size w wr) (fun _ i _ => 4 - (intOf i).toNat)
  case atStart =>
    exact ⟨0, fun _ => 0, by omega, rfl, by rw [H0.out]; rfl, (((Blk.new w _ _).alloc _).alloc _).alloc _, ((Blk.new' (w.alloc _) _ _ _ (by simp)).alloc _).alloc _, (Blk.new' ((w.alloc _).alloc _) _ _ _ (by simp)).alloc _, Blk.new' (((w.alloc _).alloc _).alloc _) _ _ _ (by simp), fun j hj => absurd hj (by omega), ((((Below.refl _ w).alloc (Nat.le_refl _) _).alloc (by simp) _).alloc (by simp <;> omega) _).alloc (by simp <;> omega) _⟩
  case round =>
    obtain ⟨t, f, ht, rfl, rfl, hbx, hby, hbz, hbs, HF, hbel⟩ := hrel
    by_cases hlt : t < 4
    · obtain ⟨c, hc⟩ : ∃ c, c = C t := ⟨_, rfl⟩
      obtain ⟨X, hX⟩ : ∃ X, X = wd x t := ⟨_, rfl⟩
      obtain ⟨Y, hY⟩ : ∃ Y, Y = wd y t := ⟨_, rfl⟩
      obtain ⟨S, hS⟩ : ∃ S, S = wd N t := ⟨_, rfl⟩
      obtain ⟨d, hd⟩ : ∃ d, d = C (t + 1) := ⟨_, rfl⟩
      obtain ⟨w1, w2, w3⟩ := HW.out t hlt
      rw [← hc, ← hX, ← hY, ← hS] at w1
      rw [← hc, ← hX, ← hY, ← hd] at w2
      rw [← hc] at w3
      have hrun := fun W => add64_run X Y c S d w3 w1 w2 W
      have cx := hbx.cell t
      rw [cellsW_at _ t hlt, ← hX] at cx
      have cy' := hby.cell t
      rw [cellsW_at _ t hlt, ← hY] at cy'
      have cs := hbs.cell t
      rw [cellsW_at _ t hlt] at cs
      have fs := hbs.free t
      have bt : (t : Int) < 4 := by omega
      have R : Hid (Blk (wr.setCell ⟨w.heap.size + 1 + 1 + 1, t, none⟩ (.int .u64 (S : Int))).drew w.heap.size (cellsW (wd x)) 25 ∧ Blk (wr.setCell ⟨w.heap.size + 1 + 1 + 1, t, none⟩ (.int .u64 (S : Int))).drew (w.heap.size + 1) (cellsW (wd y)) 25 ∧ Blk (wr.setCell ⟨w.heap.size + 1 + 1 + 1, t, none⟩ (.int .u64 (S : Int))).drew (w.heap.size + 1 + 1) zerosW 25 ∧ Blk (wr.setCell ⟨w.heap.size + 1 + 1 + 1, t, none⟩ (.int .u64 (S : Int))).drew (w.heap.size + 1 + 1 + 1) (cellsW (upd f t S)) 25 ∧ Below w.heap.size w (wr.setCell ⟨w.heap.size + 1 + 1 + 1, t, none⟩ (.int .u64 (S : Int))).drew) := Lib.hid
        ⟨(hbx.set_other _ _ (by simp <;> omega)).drewN 1, (hby.set_other _ _ (by simp)).drewN 1, (hbz.set_other _ _ (by simp)).drewN 1, by rw [← cellsW_set f t S hlt]; exact (hbs.set t _).drewN 1, below_drewN (hbel.setCell (by simp <;> omega) _) 1⟩
      have HN : Hid (∀ j, j < t + 1 → upd f t S j = wd N j) := Lib.hid fun j hj => by
        by_cases h : j = t
        · rw [h, upd_same, hS]
        · rw [upd_other _ _ _ _ h]; exact HF.out j (by omega)
      have HD := Lib.hid hd
      rw [← hc]
      clear hbx hby hbz hbs hbel hc hX hY hS hd w1 w2 w3
      go_wp2
      go_region
      go_wp2
      exact ⟨⟨t + 1, upd f t S, by omega, by go_num, by rw [HD.out], R.out.1, R.out.2.1, R.out.2.2.1, R.out.2.2.2.1, HN, R.out.2.2.2.2⟩, by simp [intOf]; omega⟩
    · have e : t = 4 := by omega
      subst e
      have hcb := H4.out
      obtain ⟨c, hc⟩ : ∃ c, c = C 4 := ⟨_, rfl⟩
      rw [← hc] at hcb ⊢
      have hcells : cellsW f = V.toList := by rw [HV.out, uA_list]; exact cellsW_ext _ _ HF.out
      have HC := Lib.hid hcells
      have HB := Lib.hid (And.intro hbs (And.intro hbz hbel))
      clear hbx hby hbz hbs hbel hc hcells
      go_wp2_with (first
        | (refine at_load 25 (.tmp 6) ?_; refine wpList_load_mid rfl 25 (.tmp 6) rfl (w.heap.size + 1 + 1 + 1) 0 rfl (cellsW f) _ HB.out.1.range Try.underlying25 rfl (sizeW f) ?_)
        | (refine at_store 25 (.tmp 4) (.tmp 26) ?_; refine wpList_store_blk rfl 25 (.tmp 4) (.tmp 26) rfl (w.heap.size + 1 + 1) zerosW (cellsW f) _ rfl rfl HB.out.2.1 rfl (sizeW f) (cellsW_one f) ?_; intro w3 hb9 ho9))
      refine bodyPost_ret (v := .tuple #[.agg V, .bool B]) ?_ rfl ⟨rfl, HB.out.2.2.trans (ho9.below (by omega))⟩
      rw [HC.out] at hb9
      exact results_row_tmp Try.results38 _ _ (w.heap.size + 1 + 1) 25 _ (0, 0) _ _ (by rfl) (by rfl) hb9 Try.underlying25 rfl (by rw [HV.out, uA_size]; exact sizeU)
set_option maxHeartbeats 4000000 in
theorem sub_calls (x y : Nat) (w : World) (hx : x < 2 ^ 256) (hy : y < 2 ^ 256) :
    Calls Try.prog 18 #[.agg (uA x), .agg (uA y)] w (Ret w (.tuple #[.agg (uA (dif x y)), .bool (decide (x < y))])) := by
  have HW := sub_words x y hx hy
  have h4 := dif_four x y hx hy
  have h0 : cy y (dif x y) 0 = 0 := cy_zero _ _
  obtain ⟨C, hC⟩ : ∃ C, C = cy y (dif x y) := ⟨_, rfl⟩
  obtain ⟨N, hN⟩ : ∃ N, N = dif x y := ⟨_, rfl⟩
  obtain ⟨B, hB⟩ : ∃ B, B = decide (x < y) := ⟨_, rfl⟩
  rw [← hC, ← hN] at HW
  rw [← hC] at h4 h0
  rw [← hB, ← hN]
  have hcb0 : ((C 4 : Int) != 0) = B := by
    rw [h4, hB]
    split <;> simp_all
  have H4 := Lib.hid hcb0
  have H0 := Lib.hid h0
  obtain ⟨V, hV⟩ : ∃ V, V = uA N := ⟨_, rfl⟩
  rw [← hV]
  have HV := Lib.hid hV
  unfold uA
  clear hx hy hB hV hC hN h0 h4 hcb0
  go_enter Try.func18, Try.ntmps18
  go_wp2
  go_loopw [7, 9] (fun c i wr => ∃ (t : Nat) (f : Nat → Nat), t ≤ 4 ∧ i = .int .i64 (t : Int) ∧ c = .int .u64 (C t : Int) ∧ Blk wr w.heap.size (cellsW (wd x)) 25 ∧ Blk wr (w.heap.size + 1) (cellsW (wd y)) 25 ∧ Blk wr (w.heap.size + 1 + 1) zerosW 25 ∧ Blk wr (w.heap.size + 1 + 1 + 1) (cellsW f) 25 ∧ Hid (∀ j, j < t → f j = wd N j) ∧ Below w.heap.size w wr) (fun _ i _ => 4 - (intOf i).toNat)
  case atStart =>
    exact ⟨0, fun _ => 0, by omega, rfl, by rw [H0.out]; rfl, (((Blk.new w _ _).alloc _).alloc _).alloc _, ((Blk.new' (w.alloc _) _ _ _ (by simp)).alloc _).alloc _, (Blk.new' ((w.alloc _).alloc _) _ _ _ (by simp)).alloc _, Blk.new' (((w.alloc _).alloc _).alloc _) _ _ _ (by simp), fun j hj => absurd hj (by omega), ((((Below.refl _ w).alloc (Nat.le_refl _) _).alloc (by simp) _).alloc (by simp <;> omega) _).alloc (by simp <;> omega) _⟩
  case round =>
    obtain ⟨t, f, ht, rfl, rfl, hbx, hby, hbz, hbs, HF, hbel⟩ := hrel
    by_cases hlt : t < 4
    · obtain ⟨c, hc⟩ : ∃ c, c = C t := ⟨_, rfl⟩
      obtain ⟨X, hX⟩ : ∃ X, X = wd x t := ⟨_, rfl⟩
      obtain ⟨Y, hY⟩ : ∃ Y, Y = wd y t := ⟨_, rfl⟩
      obtain ⟨S, hS⟩ : ∃ S, S = wd N t := ⟨_, rfl⟩
      obtain ⟨d, hd⟩ : ∃ d, d = C (t + 1) := ⟨_, rfl⟩
      obtain ⟨w1, w2, w3⟩ := HW.out t hlt
      rw [← hc, ← hX, ← hY, ← hS] at w1
      rw [← hc, ← hX, ← hY, ← hd] at w2
      rw [← hc] at w3
      have hrun := fun W => sub64_run X Y c S d w3 w1 w2 W
      have cx := hbx.cell t
      rw [cellsW_at _ t hlt, ← hX] at cx
      have cy' := hby.cell t
      rw [cellsW_at _ t hlt, ← hY] at cy'
      have cs := hbs.cell t
      rw [cellsW_at _ t hlt] at cs
      have fs := hbs.free t
      have bt : (t : Int) < 4 := by omega
      have R : Hid (Blk (wr.setCell ⟨w.heap.size + 1 + 1 + 1, t, none⟩ (.int .u64 (S : Int))).drew w.heap.size (cellsW (wd x)) 25 ∧ Blk (wr.setCell ⟨w.heap.size + 1 + 1 + 1, t, none⟩ (.int .u64 (S : Int))).drew (w.heap.size + 1) (cellsW (wd y)) 25 ∧ Blk (wr.setCell ⟨w.heap.size + 1 + 1 + 1, t, none⟩ (.int .u64 (S : Int))).drew (w.heap.size + 1 + 1) zerosW 25 ∧ Blk (wr.setCell ⟨w.heap.size + 1 + 1 + 1, t, none⟩ (.int .u64 (S : Int))).drew (w.heap.size + 1 + 1 + 1) (cellsW (upd f t S)) 25 ∧ Below w.heap.size w (wr.setCell ⟨w.heap.size + 1 + 1 + 1, t, none⟩ (.int .u64 (S : Int))).drew) := Lib.hid
        ⟨(hbx.set_other _ _ (by simp <;> omega)).drewN 1, (hby.set_other _ _ (by simp)).drewN 1, (hbz.set_other _ _ (by simp)).drewN 1, by rw [← cellsW_set f t S hlt]; exact (hbs.set t _).drewN 1, below_drewN (hbel.setCell (by simp <;> omega) _) 1⟩
      have HN : Hid (∀ j, j < t + 1 → upd f t S j = wd N j) := Lib.hid fun j hj => by
        by_cases h : j = t
        · rw [h, upd_same, hS]
        · rw [upd_other _ _ _ _ h]; exact HF.out j (by omega)
      have HD := Lib.hid hd
      rw [← hc]
      clear hbx hby hbz hbs hbel hc hX hY hS hd w1 w2 w3
      go_wp2
      go_region
      go_wp2
      exact ⟨⟨t + 1, upd f t S, by omega, by go_num, by rw [HD.out], R.out.1, R.out.2.1, R.out.2.2.1, R.out.2.2.2.1, HN, R.out.2.2.2.2⟩, by simp [intOf]; omega⟩
    · have e : t = 4 := by omega
      subst e
      have hcb := H4.out
      obtain ⟨c, hc⟩ : ∃ c, c = C 4 := ⟨_, rfl⟩
      rw [← hc] at hcb ⊢
      have hcells : cellsW f = V.toList := by rw [HV.out, uA_list]; exact cellsW_ext _ _ HF.out
      have HC := Lib.hid hcells
      have HB := Lib.hid (And.intro hbs (And.intro hbz hbel))
      clear hbx hby hbz hbs hbel hc hcells
      go_wp2_with (first
        | (refine at_load 25 (.tmp 6) ?_; refine wpList_load_mid rfl 25 (.tmp 6) rfl (w.heap.size + 1 + 1 + 1) 0 rfl (cellsW f) _ HB.out.1.range Try.underlying25 rfl (sizeW f) ?_)
        | (refine at_store 25 (.tmp 4) (.tmp 26) ?_; refine wpList_store_blk rfl 25 (.tmp 4) (.tmp 26) rfl (w.heap.size + 1 + 1) zerosW (cellsW f) _ rfl rfl HB.out.2.1 rfl (sizeW f) (cellsW_one f) ?_; intro w3 hb9 ho9))
      refine bodyPost_ret (v := .tuple #[.agg V, .bool B]) ?_ rfl ⟨rfl, HB.out.2.2.trans (ho9.below (by omega))⟩
      rw [HC.out] at hb9
      exact results_row_tmp Try.results18 _ _ (w.heap.size + 1 + 1) 25 _ (0, 0) _ _ (by rfl) (by rfl) hb9 Try.underlying25 rfl (by rw [HV.out, uA_size]; exact sizeU)
end Go.Proofs.Ytdgfgehjnfadnaa
