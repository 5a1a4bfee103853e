/- Merged texts: WidL WidO. -/
import Derived.Test.YthpigninbeommaaDoorMaa
import Derived.Test.YthpigninbeommaaDoorMaf
import Derived.Test.YthpigninbeommaaDoorMbi
import Derived.Test.YthpigninbeommaaDoorMan
import Derived.Laws.IdiomCopy
import Derived.Test.YthpigninbeommaaDoorMbl
import Derived.Deep.RegionLaw
/- The contract of octet.Little of a word; a copy into a block that is known whole. -/
namespace Go.Proofs.YthpigninbeommaaDoor
open Go.RowKit
set_option linter.unusedVariables false

set_option maxRecDepth 100000 in
theorem little8_calls (n : Nat) (w : World) :
    Calls Tryd.prog 34 #[.int .u64 (n : Int), .int .i64 8] w fun e w' => ∃ ga c, e = .returned (.slice (some ⟨ga, 0, none⟩) 8 c) ∧ Rd w' (some ⟨ga, 0, none⟩) 8 (little n 8) ∧ Below w.heap.size w w' :=
  (little_calls n 8 8 (by decide) w).mono fun e w' ⟨A, k, c, he, hown, hb⟩ => by
    have hk : 8 = k := by have := hown.len; rwa [little_len] at this
    subst hk
    obtain ⟨g, cap, hv, _, _⟩ := World.ownsRow.form hown.2 (by decide)
    have hA : A = some ⟨g, 0, none⟩ := by injection hv
    subst hA
    exact ⟨g, c, he, hown.rd, hb⟩
set_option maxRecDepth 100000 in
/-- The bytes of a number, as far as word t. -/
theorem little_append (n a b : Nat) : little n (a + b) = little n a ++ little (n / 256 ^ a) b := by
  unfold little
  rw [List.range_add, List.map_append, List.map_map]
  congr 1
  apply List.map_congr_left
  intro i _
  simp only [Function.comp]
  rw [Nat.pow_add, Nat.div_div_eq_div_mul]
set_option maxRecDepth 100000 in
theorem little_word (n : Nat) : little (n % 2 ^ 64) 8 = little n 8 := by
  unfold little
  apply List.map_congr_left
  intro i hi
  have hi8 : i < 8 := by simpa using hi
  apply UInt8.toNat_inj.1
  rw [ofNat_toNat, ofNat_toNat]
  have e : 2 ^ 64 = 256 ^ i * 256 ^ (8 - i) := by rw [← Nat.pow_add, show i + (8 - i) = 8 from by omega]
  have e2 : 256 ^ (8 - i) = 256 * 256 ^ (7 - i) := by rw [show 8 - i = (7 - i) + 1 from by omega, Nat.pow_succ, Nat.mul_comm]
  rw [e, Nat.mod_mul_right_div_self, e2, Nat.mod_mul_right_mod]
set_option maxRecDepth 100000 in
theorem p256 (t : Nat) : 256 ^ (8 * t) = 2 ^ (64 * t) := by rw [show (256 : Nat) = 2 ^ 8 from rfl, ← Nat.pow_mul]; congr 1; omega
set_option maxRecDepth 100000 in
theorem little_wd (x t : Nat) : little (wd x t) 8 = little (x / 256 ^ (8 * t)) 8 := by
  unfold wd
  rw [p256, little_word]
def hpW (x t : Nat) : List UInt8 := little x (8 * t) ++ List.replicate (32 - 8 * t) 0
set_option maxRecDepth 100000 in
theorem hpW_len (x t : Nat) (h : t ≤ 4) : (hpW x t).length = 32 := by simp [hpW]; omega
set_option maxRecDepth 100000 in
theorem hpW_step (x t : Nat) (h : t < 4) : over ((hpW x t).map B8) (8 * t) ((little (wd x t) 8).map B8) = (hpW x (t + 1)).map B8 := by
  have e : hpW x (t + 1) = (hpW x t).take (8 * t) ++ little (wd x t) 8 ++ (hpW x t).drop (8 * t + 8) := by
    unfold hpW
    rw [little_wd, show 8 * (t + 1) = 8 * t + 8 from by omega, little_append, List.take_left' (by simp), List.drop_append, List.drop_of_length_le (by simp)]
    simp only [little_len, List.nil_append, List.drop_replicate]
    congr 2
    omega
  unfold over
  rw [e, List.map_append, List.map_append, List.map_take, List.map_drop, List.length_map, little_len]
set_option maxRecDepth 100000 in
theorem hpW_all (x : Nat) : hpW x 4 = little x 32 := by simp [hpW]
set_option maxRecDepth 100000 in
theorem hpW_zero (x : Nat) : hpW x 0 = List.replicate 32 0 := by simp [hpW, little]
set_option maxRecDepth 100000 in
theorem wd_num (l : List UInt8) (t : Nat) : wd (numL l) t = numL ((l.drop (8 * t)).take 8) := by
  have h1 := numL_append (l.take (8 * t)) (l.drop (8 * t))
  rw [List.take_append_drop] at h1
  unfold wd
  rw [← p256]
  have h2 := numL_lt (l.take (8 * t))
  have hq : numL l / 256 ^ (8 * t) = numL (l.drop (8 * t)) := by
    by_cases h : 8 * t ≤ l.length
    · rw [List.length_take, Nat.min_eq_left h] at h1 h2
      rw [h1, Nat.add_mul_div_left _ _ (Nat.pow_pos (by decide)), Nat.div_eq_of_lt h2, Nat.zero_add]
    · rw [List.drop_of_length_le (by omega), Nat.div_eq_of_lt]
      · rfl
      · exact Nat.lt_of_lt_of_le (numL_lt l) (Nat.pow_le_pow_right (by decide) (by omega))
  rw [hq]
  have h3 := numL_append ((l.drop (8 * t)).take 8) ((l.drop (8 * t)).drop 8)
  rw [List.take_append_drop] at h3
  have h4 := numL_lt ((l.drop (8 * t)).take 8)
  generalize l.drop (8 * t) = r at *
  have e8 : 2 ^ 64 = 256 ^ 8 := by decide
  by_cases h : 8 ≤ r.length
  · rw [List.length_take, Nat.min_eq_left h] at h3 h4
    rw [h3, e8, Nat.add_mul_mod_self_left, Nat.mod_eq_of_lt h4]
  · have e : r.drop 8 = [] := List.drop_of_length_le (by omega)
    rw [e] at h3
    simp only [numL, Nat.mul_zero, Nat.add_zero] at h3
    rw [h3, Nat.mod_eq_of_lt]
    rw [e8]
    exact Nat.lt_of_lt_of_le h4 (Nat.pow_le_pow_right (by decide) (by rw [List.length_take]; omega))
end Go.Proofs.YthpigninbeommaaDoor

/- The contracts of wide.Bytes and Little. -/
namespace Go.Proofs.YthpigninbeommaaDoor
open Go.RowKit
set_option linter.unusedVariables false

def hash0 : List Value := (List.replicate 32 (0 : UInt8)).map B8
set_option maxRecDepth 100000 in
set_option maxHeartbeats 4000000 in
theorem wlittle_calls (l : List UInt8) (w : World) (hl : l.length = 32) : Calls Tryd.prog 43 #[.agg (l.map B8).toArray] w (Ret w (.agg (uA (numL l)))) := by
  have HW : Hid (∀ t, wd (numL l) t = numL ((l.drop (8 * t)).take 8)) := Lib.hid fun t => wd_num l t
  obtain ⟨N, hN⟩ : ∃ N, N = numL l := ⟨_, rfl⟩
  rw [← hN] at HW
  rw [← hN]
  obtain ⟨V, hV⟩ : ∃ V, V = uA N := ⟨_, rfl⟩
  rw [← hV]
  have HV := Lib.hid hV
  have HL := Lib.hid hl
  obtain ⟨B, hB⟩ : ∃ B, B = l.map B8 := ⟨_, rfl⟩
  have HB := Lib.hid hB
  rw [← hB]
  clear hN hV hl hB
  go_enter Tryd.func43, Tryd.ntmps43
  go_wp2
  go_loopw [5] (fun i wr => ∃ (t : Nat) (f : Nat → Nat), t ≤ 4 ∧ i = .int .i64 (t : Int) ∧ Blk wr w.heap.size B 24 ∧ Blk wr (w.heap.size + 1) zerosW 61 ∧ Blk wr (w.heap.size + 1 + 1) (cellsW f) 61 ∧ Hid (∀ j, j < t → f j = wd N j) ∧ Below w.heap.size w wr) (fun i _ => 4 - (intOf i).toNat)
  case atStart =>
    exact ⟨0, fun _ => 0, by omega, rfl, by simpa using ((Blk.new w B.toArray _).alloc _).alloc _, (Blk.new' (w.alloc _) _ _ _ (by simp)).alloc _, Blk.new' ((w.alloc _).alloc _) _ _ _ (by simp), fun j hj => absurd hj (by omega), (((Below.refl _ w).alloc (Nat.le_refl _) _).alloc (by simp) _).alloc (by simp <;> omega) _⟩
  case round =>
    obtain ⟨t, f, ht, rfl, hbx, hbz, hbs, HF, hbel⟩ := hrel
    by_cases hlt : t < 4
    · obtain ⟨q, hq⟩ : ∃ q, q = 8 * t := ⟨_, rfl⟩
      obtain ⟨S, hS⟩ : ∃ S, S = wd N t := ⟨_, rfl⟩
      have hSn : numL ((l.drop q).take 8) = S := by rw [hS, HW.out t, hq]
      have hv : IntKind.i64.wrap (8 * (t : Int)) = (q : Int) := by rw [IntKind.wrap_i64]; omega
      have hvb : 8 * (t : Int) = (q : Int) := by omega
      have hsl := fun W => run_sl_l (P := Tryd.prog) 24 5 32 Tryd.underlying24 size8 w.heap.size 0 q (q : Int) rfl (by omega) W
      rw [Nat.zero_add] at hsl
      have hrd : Rd wr (some ⟨w.heap.size, q, none⟩) (32 - q) (l.drop q) := hbx.rd q (32 - q) (l.drop q) (by rw [List.length_drop, HL.out]) (fun j hj => by
        rw [List.length_drop] at hj
        rw [HB.out, List.getElem?_map, List.getElem?_eq_getElem (by omega), List.getElem_drop]
        rfl)
      have CN := num_calls (some ⟨w.heap.size, q, none⟩) (32 - q) (32 - q) (l.drop q) wr hrd
      rw [hSn] at CN
      have CT := Lib.hid CN
      have cs := hbs.cell t
      rw [cellsW_at _ t hlt] at cs
      have fs := hbs.free t
      have bt : (t : Int) < 4 := by omega
      have R : Hid (Blk (wr.setCell ⟨w.heap.size + 1 + 1, t, none⟩ (.int .u64 (S : Int))) w.heap.size B 24 ∧ Blk (wr.setCell ⟨w.heap.size + 1 + 1, t, none⟩ (.int .u64 (S : Int))) (w.heap.size + 1) zerosW 61 ∧ Blk (wr.setCell ⟨w.heap.size + 1 + 1, t, none⟩ (.int .u64 (S : Int))) (w.heap.size + 1 + 1) (cellsW (upd f t S)) 61 ∧ Below w.heap.size w (wr.setCell ⟨w.heap.size + 1 + 1, t, none⟩ (.int .u64 (S : Int)))) := Lib.hid
        ⟨hbx.set_other _ _ (by simp <;> omega), hbz.set_other _ _ (by simp), by rw [← cellsW_set f t S hlt]; exact hbs.set t _, hbel.setCell (by simp <;> omega) _⟩
      have HN : Hid (∀ j, j < t + 1 → upd f t S j = wd N j) := Lib.hid fun j hj => by
        by_cases h : j = t
        · rw [h, upd_same, hS]
        · rw [upd_other _ _ _ _ h]; exact HF.out j (by omega)
      clear hbx hbz hbs hbel hS hSn hq hrd CN hvb
      go_wp2_with (go_at_call 36; refine CT.out.mono ?_; rintro e' w' ⟨rfl, rfl⟩)
      exact ⟨⟨t + 1, upd f t S, by omega, by go_num, R.out.1, R.out.2.1, R.out.2.2.1, HN, R.out.2.2.2⟩, by simp [intOf]; omega⟩
    · have e : t = 4 := by omega
      subst e
      have hcells : cellsW f = V.toList := by rw [HV.out, uA_list]; exact cellsW_ext _ _ HF.out
      have HC := Lib.hid hcells
      have HD := Lib.hid (And.intro hbs (And.intro hbz hbel))
      clear hbx hbz hbs hbel hcells
      go_wp2_with (first
        | (refine at_load 61 (.tmp 3) ?_; refine wpList_load_mid rfl 61 (.tmp 3) rfl (w.heap.size + 1 + 1) 0 rfl (cellsW f) _ HD.out.1.range Tryd.underlying61 rfl (sizeW f) ?_)
        | (refine at_store 61 (.tmp 2) (.tmp 15) ?_; refine wpList_store_blk rfl 61 (.tmp 2) (.tmp 15) rfl (w.heap.size + 1) zerosW (cellsW f) _ rfl rfl HD.out.2.1 rfl (sizeW f) (cellsW_one f) ?_; intro w3 hb9 ho9))
      refine bodyPost_ret (v := .agg V) ?_ rfl ⟨rfl, HD.out.2.2.trans (ho9.below (by omega))⟩
      rw [HC.out] at hb9
      exact results_cell_row Tryd.results43 _ _ (w.heap.size + 1) 61 _ (0, 0) _ (by rfl) hb9 Tryd.underlying61 rfl (by rw [HV.out, uA_size]; exact sizeU)
end Go.Proofs.YthpigninbeommaaDoor
