/- The contracts of wide.Bytes and Little. -/
import Derived.Test.YthbbeknbdgkpkaaWidL
import Derived.Test.YthbbeknbdgkpkaaWidU
import Derived.Test.YthbbeknbdgkpkaaNum
import Derived.Deep.RegionLaw
namespace Go.Proofs.Ythbbeknbdgkpkaa
open Go.RowKit
set_option linter.unusedVariables false

def hash0 : List Value := (List.replicate 32 (0 : UInt8)).map B8
set_option maxHeartbeats 4000000 in
theorem bytes_calls (x : Nat) (w : World) : Calls Try.prog 32 #[.agg (uA x)] w (Ret w (.agg ((little x 32).map B8).toArray)) := by
  obtain ⟨V9, hV9⟩ : ∃ V, V = (little x 32).map B8 := ⟨_, rfl⟩
  have hV9l : V9.length = 32 := by rw [hV9, List.length_map, little_len]
  have hV91 : ∀ v ∈ V9, v.oneCell' = true := by rw [hV9]; exact b8_one _
  have hi9 : (Try.prog.info? 49).map (·.size) = some V9.length := by rw [hV9l]; exact i32
  rw [← hV9]
  have M3 := Lib.hid hV9
  have M4 := Lib.hid hV9l
  have M5 := Lib.hid hi9
  have M6 := Lib.hid hV91
  unfold uA
  clear hV9 hV9l hV91 hi9
  go_enter Try.func32, Try.ntmps32
  go_wp2
  go_loopw [5] (fun i wr => ∃ t : Nat, t ≤ 4 ∧ i = .int .i64 (t : Int) ∧ Blk wr w.heap.size (cellsW (wd x)) 24 ∧ Blk wr (w.heap.size + 1) hash0 49 ∧ Blk wr (w.heap.size + 1 + 1) ((hpW x t).map B8) 49 ∧ Below w.heap.size w wr) (fun i _ => 4 - (intOf i).toNat)
  case atStart =>
    exact ⟨0, by omega, rfl, ((Blk.new w _ _).alloc _).alloc _, (Blk.new' (w.alloc _) _ _ _ (by simp)).alloc _, by rw [hpW_zero]; exact Blk.new' ((w.alloc _).alloc _) _ _ _ (by simp), (((Below.refl _ w).alloc (Nat.le_refl _) _).alloc (by simp) _).alloc (by simp <;> omega) _⟩
  case round =>
    obtain ⟨t, ht, rfl, hbx, hbz, hb4, hbl⟩ := hrel
    by_cases hlt : t < 4
    · obtain ⟨X, hX⟩ : ∃ X, X = wd x t := ⟨_, rfl⟩
      have cx := hbx.cell t
      rw [cellsW_at _ t hlt, ← hX] at cx
      obtain ⟨q, hq⟩ : ∃ q, q = 8 * t := ⟨_, rfl⟩
      have hv : IntKind.i64.wrap (8 * (t : Int)) = (q : Int) := by rw [IntKind.wrap_i64]; omega
      have hsl := fun W => run_sl_l (P := Try.prog) 49 5 32 Try.underlying49 size8 (w.heap.size + 1 + 1) 0 q (q : Int) rfl (by omega) W
      rw [Nat.zero_add] at hsl
      have hlen8 : ((little X 8).map B8).length = Nat.min 8 (32 - q) := by rw [List.length_map, little_len]; exact (Nat.min_eq_left (by omega)).symm
      have hfit : q + ((little X 8).map B8).length ≤ ((hpW x t).map B8).length := by rw [List.length_map, little_len, List.length_map, hpW_len _ _ ht]; omega
      have hB4 : Hid (∀ w', Below wr.drew.heap.size wr.drew w' → Blk w' (w.heap.size + 1 + 1) ((hpW x t).map B8) 49) := Lib.hid fun w' hb => Blk.below (w := wr.drew) hb4 hb hb4.lt
      have FIN : Hid (∀ w' w5, Below wr.drew.heap.size wr.drew w' → Blk w5 (w.heap.size + 1 + 1) (over ((hpW x t).map B8) q ((little X 8).map B8)) 49 → Only (w.heap.size + 1 + 1) w' w5 → ∃ t_1 : Nat, t_1 ≤ 4 ∧ Value.int .i64 ((t : Int) + 1) = .int .i64 (t_1 : Int) ∧ Blk w5 w.heap.size (cellsW (wd x)) 24 ∧ Blk w5 (w.heap.size + 1) hash0 49 ∧ Blk w5 (w.heap.size + 1 + 1) ((hpW x t_1).map B8) 49 ∧ Below w.heap.size w w5) := Lib.hid (by
        intro w' w5 hb hb5 ho5
        rw [hX, hq, hpW_step x t hlt] at hb5
        have hbw : Below wr.heap.size wr w' := ⟨hb.os, hb.tape, hb.output, hb.size, hb.block⟩
        exact ⟨t + 1, by omega, by go_num, ho5.blk (hbx.below hbw hbx.lt) (by omega), ho5.blk (hbz.below hbw hbz.lt) (by omega), hb5, (hbl.trans (hbw.mono hbl.size)).trans (ho5.below (by omega))⟩)
      have L1 := Lib.hid hlen8
      have L2 := Lib.hid hfit
      have bt : (t : Int) < 4 := by omega
      clear hb4 hbz hbx hbl hX hq hlen8 hfit
      go_wp2
      go_region_law (first
        | (refine step_copy_blk rfl _ _ 67 67 rfl 5 Try.underlying67 size8 (w.heap.size + 1 + 1) q ⟨ga, 0, none⟩ (32 - q) (32 - q) 8 c4 rfl rfl _ 49 (hB4.out w' hbel') ((little X 8).map B8) L1.out (src_of_rd hrd4 (by omega)) L2.out (b8_one _) ?_; intro w5 hb5 ho5)
        | (go_simp; go_at_call 46; refine (little8_calls X _).mono ?_; rintro e' w' ⟨ga, c4, rfl, hrd4, hbel'⟩))
      all_goals go_wp2
      all_goals go_roundw
      all_goals first | exact FIN.out w' w5 hbel' hb5 ho5 | (simp [intOf]; omega)
    · have e : t = 4 := by omega
      subst e
      rw [hpW_all, ← M3.out] at hb4
      have M1 := Lib.hid hb4
      have M2 := Lib.hid hbz
      clear hb4 hbz hbx
      go_wp2_with (first
        | (refine at_load 49 (.tmp 3) ?_; refine wpList_load_mid rfl 49 (.tmp 3) rfl (w.heap.size + 1 + 1) 0 rfl V9 _ M1.out.range Try.underlying49 rfl M5.out ?_)
        | (refine at_store 49 (.tmp 2) (.tmp 17) ?_; refine wpList_store_blk rfl 49 (.tmp 2) (.tmp 17) rfl (w.heap.size + 1) _ V9 _ rfl rfl M2.out (by rw [M4.out]; simp [hash0]) M5.out M6.out ?_; intro w9 hb9 ho9))
      refine bodyPost_ret (v := .agg V9.toArray) ?_ rfl ⟨rfl, hbl.trans (ho9.below (by omega))⟩
      exact results_cell_row Try.results32 _ _ (w.heap.size + 1) 49 _ (0, 0) _ (by rfl) hb9 Try.underlying49 rfl (by rw [List.size_toArray]; exact M5.out)

set_option maxHeartbeats 4000000 in
theorem wlittle_calls (l : List UInt8) (w : World) (hl : l.length = 32) : Calls Try.prog 35 #[.agg (l.map B8).toArray] w (Ret w (.agg (uA (numL l)))) := by
  have HW : Hid (∀ t, wd (numL l) t = numL ((l.drop (8 * t)).take 8)) := Lib.hid fun t => wd_num l t
  obtain ⟨N, hN⟩ : ∃ N, N = numL l := ⟨_, rfl⟩
  rw [← hN] at HW
  rw [← hN]
  obtain ⟨V, hV⟩ : ∃ V, V = uA N := ⟨_, rfl⟩
  rw [← hV]
  have HV := Lib.hid hV
  have HL := Lib.hid hl
  obtain ⟨B, hB⟩ : ∃ B, B = l.map B8 := ⟨_, rfl⟩
  have HB := Lib.hid hB
  rw [← hB]
  clear hN hV hl hB
  go_enter Try.func35, Try.ntmps35
  go_wp2
  go_loopw [5] (fun i wr => ∃ (t : Nat) (f : Nat → Nat), t ≤ 4 ∧ i = .int .i64 (t : Int) ∧ Blk wr w.heap.size B 49 ∧ Blk wr (w.heap.size + 1) zerosW 24 ∧ Blk wr (w.heap.size + 1 + 1) (cellsW f) 24 ∧ Hid (∀ j, j < t → f j = wd N j) ∧ Below w.heap.size w wr) (fun i _ => 4 - (intOf i).toNat)
  case atStart =>
    exact ⟨0, fun _ => 0, by omega, rfl, by simpa using ((Blk.new w B.toArray _).alloc _).alloc _, (Blk.new' (w.alloc _) _ _ _ (by simp)).alloc _, Blk.new' ((w.alloc _).alloc _) _ _ _ (by simp), fun j hj => absurd hj (by omega), (((Below.refl _ w).alloc (Nat.le_refl _) _).alloc (by simp) _).alloc (by simp <;> omega) _⟩
  case round =>
    obtain ⟨t, f, ht, rfl, hbx, hbz, hbs, HF, hbel⟩ := hrel
    by_cases hlt : t < 4
    · obtain ⟨q, hq⟩ : ∃ q, q = 8 * t := ⟨_, rfl⟩
      obtain ⟨S, hS⟩ : ∃ S, S = wd N t := ⟨_, rfl⟩
      have hSn : numL ((l.drop q).take 8) = S := by rw [hS, HW.out t, hq]
      have hv : IntKind.i64.wrap (8 * (t : Int)) = (q : Int) := by rw [IntKind.wrap_i64]; omega
      have hvb : 8 * (t : Int) = (q : Int) := by omega
      have hsl := fun W => run_sl_l (P := Try.prog) 49 5 32 Try.underlying49 size8 w.heap.size 0 q (q : Int) rfl (by omega) W
      rw [Nat.zero_add] at hsl
      have hrd : Rd wr (some ⟨w.heap.size, q, none⟩) (32 - q) (l.drop q) := hbx.rd q (32 - q) (l.drop q) (by rw [List.length_drop, HL.out]) (fun j hj => by
        rw [List.length_drop] at hj
        rw [HB.out, List.getElem?_map, List.getElem?_eq_getElem (by omega), List.getElem_drop]
        rfl)
      have CN := num_calls (some ⟨w.heap.size, q, none⟩) (32 - q) (32 - q) (l.drop q) wr hrd
      rw [hSn] at CN
      have CT := Lib.hid CN
      have cs := hbs.cell t
      rw [cellsW_at _ t hlt] at cs
      have fs := hbs.free t
      have bt : (t : Int) < 4 := by omega
      have R : Hid (Blk (wr.setCell ⟨w.heap.size + 1 + 1, t, none⟩ (.int .u64 (S : Int))) w.heap.size B 49 ∧ Blk (wr.setCell ⟨w.heap.size + 1 + 1, t, none⟩ (.int .u64 (S : Int))) (w.heap.size + 1) zerosW 24 ∧ Blk (wr.setCell ⟨w.heap.size + 1 + 1, t, none⟩ (.int .u64 (S : Int))) (w.heap.size + 1 + 1) (cellsW (upd f t S)) 24 ∧ Below w.heap.size w (wr.setCell ⟨w.heap.size + 1 + 1, t, none⟩ (.int .u64 (S : Int)))) := Lib.hid
        ⟨hbx.set_other _ _ (by simp <;> omega), hbz.set_other _ _ (by simp), by rw [← cellsW_set f t S hlt]; exact hbs.set t _, hbel.setCell (by simp <;> omega) _⟩
      have HN : Hid (∀ j, j < t + 1 → upd f t S j = wd N j) := Lib.hid fun j hj => by
        by_cases h : j = t
        · rw [h, upd_same, hS]
        · rw [upd_other _ _ _ _ h]; exact HF.out j (by omega)
      clear hbx hbz hbs hbel hS hSn hq hrd CN hvb
      go_wp2_with (go_at_call 48; refine CT.out.mono ?_; rintro e' w' ⟨rfl, rfl⟩)
      exact ⟨⟨t + 1, upd f t S, by omega, by go_num, R.out.1, R.out.2.1, R.out.2.2.1, HN, R.out.2.2.2⟩, by simp [intOf]; omega⟩
    · have e : t = 4 := by omega
      subst e
      have hcells : cellsW f = V.toList := by rw [HV.out, uA_list]; exact cellsW_ext _ _ HF.out
      have HC := Lib.hid hcells
      have HD := Lib.hid (And.intro hbs (And.intro hbz hbel))
      clear hbx hbz hbs hbel hcells
      go_wp2_with (first
        | (refine at_load 24 (.tmp 3) ?_; refine wpList_load_mid rfl 24 (.tmp 3) rfl (w.heap.size + 1 + 1) 0 rfl (cellsW f) _ HD.out.1.range Try.underlying24 rfl (sizeW f) ?_)
        | (refine at_store 24 (.tmp 2) (.tmp 15) ?_; refine wpList_store_blk rfl 24 (.tmp 2) (.tmp 15) rfl (w.heap.size + 1) zerosW (cellsW f) _ rfl rfl HD.out.2.1 rfl (sizeW f) (cellsW_one f) ?_; intro w3 hb9 ho9))
      refine bodyPost_ret (v := .agg V) ?_ rfl ⟨rfl, HD.out.2.2.trans (ho9.below (by omega))⟩
      rw [HC.out] at hb9
      exact results_cell_row Try.results35 _ _ (w.heap.size + 1) 24 _ (0, 0) _ (by rfl) hb9 Try.underlying24 rfl (by rw [HV.out, uA_size]; exact sizeU)
end Go.Proofs.Ythbbeknbdgkpkaa
