/- The contracts of the reference's Pow and Is of layer 4. -/
import Derived.Test.YtdgfgehjnfadnaaBigW
namespace Go.Proofs.Ytdgfgehjnfadnaa
open Go.RowKit
set_option linter.unusedVariables false

theorem pow_digs (k : Nat) : List.replicate (k / 16) 0 ++ [2 ^ (k % 16)] = digs (2 ^ k) := by
  have hv : valB (List.replicate (k / 16) 0 ++ [2 ^ (k % 16)]) = 2 ^ k := by
    rw [valB_append, valB_zeros, List.length_replicate]
    simp only [valB, Nat.mul_zero, Nat.add_zero, Nat.zero_add]
    rw [show 65536 = 2 ^ 16 from rfl, ← Nat.pow_mul, ← Nat.pow_add]
    congr 1
    omega
  have hlt : 2 ^ (k % 16) < 65536 := by
    have := Nat.pow_lt_pow_right (a := 2) (by omega) (Nat.mod_lt k (show 0 < 16 by omega))
    exact this
  rw [← hv]
  refine canon _ (fun d hd => ?_) (fun h => ?_)
  · rcases List.mem_append.1 hd with h | h
    · simp at h; omega
    · simp at h; omega
  · rw [List.getLast_append_of_ne_nil _ (by simp)]
    simp only [List.getLast_singleton]
    exact Nat.ne_of_gt (Nat.pow_pos (by omega))
theorem set_last (n v u : Nat) : (List.replicate n 0 ++ [v]).set n u = List.replicate n 0 ++ [u] := by
  rw [List.set_append_right _ _ (by simp)]
  simp

set_option maxHeartbeats 2000000 in
theorem bpow_calls (k : Nat) (w : World) (hk : k ≤ 10000) :
    Calls Try.prog 30 #[.int .i64 (k : Int)] w (MkB w (2 ^ k)) := by
  obtain ⟨m, hm⟩ : ∃ m, m = k / 16 := ⟨_, rfl⟩
  obtain ⟨r, hr⟩ : ∃ r, r = k % 16 := ⟨_, rfl⟩
  have d1 : (k : Int).tdiv 16 = (m : Int) := by rw [Int.tdiv_eq_ediv_of_nonneg (by omega)]; omega
  have d1b : (k : Int) / 16 = (m : Int) := by omega
  have d2 : (k : Int).tmod 16 = (r : Int) := by rw [Int.tmod_eq_emod_of_nonneg (by omega)]; omega
  have d2b : (k : Int) % 16 = (r : Int) := by omega
  obtain ⟨T, hT⟩ : ∃ T, T = m + 1 := ⟨_, rfl⟩
  have d3 : (m : Int) + 1 = (T : Int) := by omega
  have hmk := fun W => run_mkI T (by omega) W (by omega)
  have hTb : T ≤ 700 := by omega
  have bm : (m : Int) < (T : Int) := by omega
  have hr16 : r < 16 := by omega
  have HP : Hid (List.replicate m 0 ++ [2 ^ r] = digs (2 ^ k)) := Lib.hid (by rw [hm, hr]; exact pow_digs k)
  have HT := Lib.hid hT
  have hb0 := blk_made w T
  have c0 := hb0.cell m
  rw [mapI_at _ m (by simp; omega), replicate_getD] at c0
  have f0 := hb0.free m
  have hs0 : Blk (w.alloc (.cells ((madeCells #[.int .i64 0] T).setIfInBounds m (.int .i64 1)) 3)) w.heap.size ((List.replicate m 0 ++ [1]).map WI) 3 := by
    have h := Blk.new w ((madeCells #[.int .i64 0] T).setIfInBounds m (.int .i64 1)) 3
    have e : (List.replicate T 0).set m 1 = List.replicate m 0 ++ [1] := by rw [hT, List.replicate_succ', set_last]
    rw [Array.toList_setIfInBounds, toList_madeCells_one] at h
    rw [← e, List.map_set, List.map_replicate]
    exact h
  have c0' : (w.alloc (.cells (madeCells #[.int .i64 0] T) 3)).cell? ⟨w.heap.size, m, none⟩ = some (.int .i64 0) := c0
  have HS := Lib.hid hs0
  clear hm hr hT hb0 hs0 c0
  go_enter Try.func30, Try.ntmps30
  go_wp2
  go_loopw [4] (fun v wr => ∃ (i x : Nat), i ≤ r ∧ v = .int .i64 (i : Int) ∧ Hid (x = 2 ^ i) ∧ Blk wr w.heap.size ((List.replicate m 0 ++ [x]).map WI) 3 ∧ Below w.heap.size w wr) (fun v _ => r - (intOf v).toNat)
  case atStart => exact ⟨0, 1, by omega, rfl, rfl, HS.out, (Below.refl _ w).alloc (Nat.le_refl _) _⟩
  case round =>
    clear c0' f0
    obtain ⟨i, x, hi, rfl, HX, hb, hbel⟩ := hrel
    have hlen : (List.replicate m 0 ++ [x]).length = T := by rw [HT.out]; simp
    have lx : x ≤ 65535 := by
      rw [HX.out]
      have := Nat.pow_lt_pow_right (a := 2) (n := 16) (by omega) (show i < 16 by omega)
      omega
    by_cases hlt : i < r
    · have cx := hb.cell m
      have hg : (List.replicate m 0 ++ [x]).getD m 0 = x := by rw [List.getD_eq_getElem?_getD, List.getElem?_append_right (by simp)]; simp
      rw [mapI_at _ m (by rw [hlen]; omega), hg] at cx
      have fx := hb.free m
      obtain ⟨x2, hx2⟩ : ∃ x2, x2 = x * 2 := ⟨_, rfl⟩
      have e1 : IntKind.i64.wrap ((x : Int) * 2) = (x2 : Int) := by rw [IntKind.wrap_i64]; omega
      have e2 : (x : Int) * 2 = (x2 : Int) := by omega
      have HX2 : Hid (x2 = 2 ^ (i + 1)) := Lib.hid (by rw [hx2, HX.out, Nat.pow_succ])
      have hst := hb.set m (WI x2)
      rw [← List.map_set, set_last] at hst
      have R := Lib.hid (And.intro hst (hbel.setCell (p := ⟨w.heap.size, m, none⟩) (Nat.le_refl _) (WI x2)))
      have bi : (i : Int) < (r : Int) := by omega
      clear hb hbel hst hx2 hg hlen
      go_wp2
      go_roundw
      case rel => exact ⟨i + 1, x2, by omega, by go_num, HX2, R.out.1, R.out.2⟩
      case measure => simp [intOf]; omega
    · have e : i = r := by omega
      have bi : ¬ (i : Int) < (r : Int) := by omega
      have hrd := rd_blk hb
      rw [hlen] at hrd
      have he : List.replicate m 0 ++ [x] = digs (2 ^ k) := by rw [HX.out, e]; exact HP.out
      rw [he] at hrd
      have R := Lib.hid (And.intro hrd hbel)
      clear hb hbel hrd he hlen e
      go_wp2
      go_ret
      exact ⟨_, _, _, rfl, R.out.1, Nat.le_refl _, by unfold maxLen; omega, R.out.2⟩

theorem digs_le {w : World} {A : Option Addr} {n N k : Nat} (h : RdI w A n (digs N)) (hk : N < 65536 ^ k) : n ≤ k := by
  rw [← h.len]
  exact (digs_len N k).2 hk
theorem two_digs {x y j k : Nat} (hx : x < 65536 ^ j) (hy : y < 65536 ^ k) : x * y < 65536 ^ (j + k) := by
  rw [Nat.pow_add]
  exact Nat.mul_lt_mul'' hx hy

end Go.Proofs.Ytdgfgehjnfadnaa
