/- Merged texts: WidU WidA. -/
import Derived.Test.YthpigninbeommaaDoorMbi
import Derived.Test.YthpigninbeommaaDoorMbh
import Derived.Test.YthpigninbeommaaDoorMbk
/- Words for wide numbers in memory: an array of four words, by what its words are. -/
namespace Go.Proofs.YthpigninbeommaaDoor
open Go.RowKit
set_option linter.unusedVariables false

/-- Four words as cells. -/
def cellsW (f : Nat → Nat) : List Value := [.int .u64 (f 0 : Int), .int .u64 (f 1 : Int), .int .u64 (f 2 : Int), .int .u64 (f 3 : Int)]
def zerosW : List Value := [.int .u64 0, .int .u64 0, .int .u64 0, .int .u64 0]
def upd (f : Nat → Nat) (t x : Nat) : Nat → Nat := fun j => if j = t then x else f j
set_option maxRecDepth 100000 in
theorem upd_same (f : Nat → Nat) (t x : Nat) : upd f t x t = x := by simp [upd]
set_option maxRecDepth 100000 in
theorem upd_other (f : Nat → Nat) (t x j : Nat) (h : j ≠ t) : upd f t x j = f j := by simp [upd, h]
set_option maxRecDepth 100000 in
theorem cellsW_at (f : Nat → Nat) (t : Nat) (h : t < 4) : (cellsW f)[t]? = some (.int .u64 (f t : Int)) := by
  rcases (show t = 0 ∨ t = 1 ∨ t = 2 ∨ t = 3 by omega) with rfl | rfl | rfl | rfl <;> rfl
set_option maxRecDepth 100000 in
theorem cellsW_set (f : Nat → Nat) (t x : Nat) (h : t < 4) : (cellsW f).set t (.int .u64 (x : Int)) = cellsW (upd f t x) := by
  rcases (show t = 0 ∨ t = 1 ∨ t = 2 ∨ t = 3 by omega) with rfl | rfl | rfl | rfl <;> rfl
set_option maxRecDepth 100000 in
theorem cellsW_ext (f g : Nat → Nat) (h : ∀ j, j < 4 → f j = g j) : cellsW f = cellsW g := by
  unfold cellsW
  rw [h 0 (by omega), h 1 (by omega), h 2 (by omega), h 3 (by omega)]
set_option maxRecDepth 100000 in
theorem cellsW_len (f : Nat → Nat) : (cellsW f).length = 4 := rfl
set_option maxRecDepth 100000 in
theorem cellsW_one (f : Nat → Nat) : ∀ v ∈ cellsW f, v.oneCell' = true := fun v hv => by
  simp only [cellsW, List.mem_cons, List.not_mem_nil, or_false] at hv
  rcases hv with rfl | rfl | rfl | rfl <;> rfl
set_option maxRecDepth 100000 in
theorem sizeW (f : Nat → Nat) : (Tryd.prog.info? 61).map (·.size) = some (cellsW f).length := by
  show (Tryd.prog.info? 61).map (·.size) = some 4
  kernel_rfl
/-- The array of a number. -/
def uA (N : Nat) : Array Value := #[.int .u64 (wd N 0 : Int), .int .u64 (wd N 1 : Int), .int .u64 (wd N 2 : Int), .int .u64 (wd N 3 : Int)]
set_option maxRecDepth 100000 in
theorem uA_cells (N : Nat) : (cellsW (wd N)).toArray = uA N := rfl
set_option maxRecDepth 100000 in
theorem uA_list (N : Nat) : (uA N).toList = cellsW (wd N) := rfl
set_option maxRecDepth 100000 in
theorem uA_size (N : Nat) : (uA N).size = 4 := rfl
set_option maxRecDepth 100000 in
theorem sizeU : (Tryd.prog.info? 61).map (·.size) = some 4 := by kernel_rfl
set_option maxRecDepth 100000 in
theorem zerosW_eq : zerosW = cellsW (fun _ => 0) := rfl
set_option maxRecDepth 100000 in
theorem uA_mod (N : Nat) : uA (N % 2 ^ 256) = uA N := by
  rw [← uA_cells, ← uA_cells, cellsW_ext _ _ (fun j hj => wd_mod N j hj)]
set_option maxRecDepth 100000 in
theorem U4.wd (u : U4) (h : u.ok) : wd u.val 0 = u.a ∧ Go.Proofs.YthpigninbeommaaDoor.wd u.val 1 = u.b ∧ Go.Proofs.YthpigninbeommaaDoor.wd u.val 2 = u.c ∧ Go.Proofs.YthpigninbeommaaDoor.wd u.val 3 = u.d := by
  have hw := u.words h
  have hd := digs_lt u.val
  unfold ws4 U4.vals at hw
  rw [wk_val _ 0 hd, wk_val _ 1 hd, wk_val _ 2 hd, wk_val _ 3 hd, val_digs] at hw
  injection hw with h0 hw
  injection hw with h1 hw
  injection hw with h2 hw
  injection hw with h3 hw
  injection h0 with _ h0
  injection h1 with _ h1
  injection h2 with _ h2
  injection h3 with _ h3
  exact ⟨by exact_mod_cast h0, by exact_mod_cast h1, by exact_mod_cast h2, by exact_mod_cast h3⟩
set_option maxRecDepth 100000 in
theorem U4.uA (u : U4) (h : u.ok) : u.arr = uA u.val := by
  obtain ⟨h0, h1, h2, h3⟩ := u.wd h
  unfold U4.arr Go.Proofs.YthpigninbeommaaDoor.uA
  rw [h0, h1, h2, h3]
/-- The wide number of a number. -/
def ofN (N : Nat) : U4 := ⟨wd N 0, wd N 1, wd N 2, wd N 3⟩
set_option maxRecDepth 100000 in
theorem ofN_ok (N : Nat) : (ofN N).ok := ⟨wd_lt _ _, wd_lt _ _, wd_lt _ _, wd_lt _ _⟩
set_option maxRecDepth 100000 in
theorem ofN_arr (N : Nat) : (ofN N).arr = uA N := rfl
set_option maxRecDepth 100000 in
theorem ofN_val (N : Nat) (h : N < 2 ^ 256) : (ofN N).val = N := by
  rw [U4.val_eq]
  show wd N 0 + 18446744073709551616 * (wd N 1 + 18446744073709551616 * (wd N 2 + 18446744073709551616 * wd N 3)) = N
  have h0 := div_succ N 0
  have h1 := div_succ N 1
  have h2 := div_succ N 2
  have h3 := div_succ N 3
  have h4 : N / 2 ^ (64 * 4) = 0 := Nat.div_eq_of_lt h
  simp only [Nat.mul_zero, Nat.pow_zero, Nat.div_one] at h0
  rw [h4] at h3
  rw [show (0 : Nat) + 1 = 1 from rfl] at h0
  rw [show (1 : Nat) + 1 = 2 from rfl] at h1
  rw [show (2 : Nat) + 1 = 3 from rfl] at h2
  generalize N / 2 ^ (64 * 1) = N1 at *
  generalize N / 2 ^ (64 * 2) = N2 at *
  generalize N / 2 ^ (64 * 3) = N3 at *
  generalize wd N 0 = a at *
  generalize wd N 1 = b at *
  generalize wd N 2 = c at *
  generalize wd N 3 = d at *
  omega
set_option maxRecDepth 100000 in
/-- Results: an array and a slot; two arrays. -/
theorem results_row_tmp {P : Program} {fn : Func} {p u : Tmp} {ty : TypeId} (h : fn.results = #[.cell p ty, .tmp u]) (tmps : Array Value) (w : World) (g : Nat) (t : TypeId) (cs : Array Value) (fr : Nat × Nat) (d : TypeDesc) (x : Value)
    (hp : tmps.getD p undef = .pointer (some ⟨g, 0, none⟩)) (hx : tmps.getD u undef = x) (hg : w.heap[g]? = some (.cells cs t fr))
    (hu : P.underlying ty = some d) (hd : (match d with | .struct _ | .array _ _ => true | _ => false) = true) (hi : (P.info? ty).map (·.size) = some cs.size) :
    (results fn tmps).run P w = .ok (.tuple #[.agg cs, x]) w := by
  have hp' : tmps[p]?.getD undef = .pointer (some ⟨g, 0, none⟩) := by simpa using hp
  have hx' : tmps[u]?.getD undef = x := by simpa using hx
  simp [results, h, hp', hx', asAddr, run_loadVar_row w g t ty cs fr d hg hu hd hi]
set_option maxRecDepth 100000 in
theorem results_row_row {P : Program} {fn : Func} {p u : Tmp} {ty : TypeId} (h : fn.results = #[.cell p ty, .cell u ty]) (tmps : Array Value) (w : World) (g g2 : Nat) (t : TypeId) (cs cs2 : Array Value) (fr : Nat × Nat) (d : TypeDesc)
    (hp : tmps.getD p undef = .pointer (some ⟨g, 0, none⟩)) (hp2 : tmps.getD u undef = .pointer (some ⟨g2, 0, none⟩)) (hg : w.heap[g]? = some (.cells cs t fr)) (hg2 : w.heap[g2]? = some (.cells cs2 t fr))
    (hu : P.underlying ty = some d) (hd : (match d with | .struct _ | .array _ _ => true | _ => false) = true) (hi : (P.info? ty).map (·.size) = some cs.size) (hi2 : (P.info? ty).map (·.size) = some cs2.size) :
    (results fn tmps).run P w = .ok (.tuple #[.agg cs, .agg cs2]) w := by
  have hp' : tmps[p]?.getD undef = .pointer (some ⟨g, 0, none⟩) := by simpa using hp
  have hp2' : tmps[u]?.getD undef = .pointer (some ⟨g2, 0, none⟩) := by simpa using hp2
  simp [results, h, hp', hp2', asAddr, run_loadVar_row w g t ty cs fr d hg hu hd hi, run_loadVar_row w g2 t ty cs2 fr d hg2 hu hd hi2]
end Go.Proofs.YthpigninbeommaaDoor

/- The contracts of wide.Add and Sub. -/
namespace Go.Proofs.YthpigninbeommaaDoor
open Go.RowKit
set_option linter.unusedVariables false

set_option maxRecDepth 100000 in
/-- The words of a sum, of a difference, with what is carried. -/
theorem add_words (x y : Nat) : Hid (∀ t, t < 4 → (wd x t + wd y t + cy x y t) % 2 ^ 64 = wd (x + y) t ∧ (wd x t + wd y t + cy x y t) / 2 ^ 64 = cy x y (t + 1) ∧ cy x y t ≤ 1) :=
  Lib.hid fun t _ => ⟨(wd_add x y t).symm, (cy_succ x y t).symm, cy_le x y t⟩
set_option maxRecDepth 100000 in
theorem sub_words (x y : Nat) (hx : x < 2 ^ 256) (hy : y < 2 ^ 256) : Hid (∀ t, t < 4 → (wd x t + 18446744073709551616 - wd y t - cy y (dif x y) t) % 18446744073709551616 = wd (dif x y) t ∧ (if wd x t < wd y t + cy y (dif x y) t then 1 else 0) = cy y (dif x y) (t + 1) ∧ cy y (dif x y) t ≤ 1) :=
  Lib.hid fun t ht => ⟨(dif_word x y t hx hy ht).1, (dif_word x y t hx hy ht).2, cy_le _ _ _⟩

set_option maxRecDepth 100000 in
set_option maxHeartbeats 4000000 in
theorem sub_calls (x y : Nat) (w : World) (hx : x < 2 ^ 256) (hy : y < 2 ^ 256) :
    Calls Tryd.prog 58 #[.agg (uA x), .agg (uA y)] w (Ret w (.tuple #[.agg (uA (dif x y)), .bool (decide (x < y))])) := by
  have HW := sub_words x y hx hy
  have h4 := dif_four x y hx hy
  have h0 : cy y (dif x y) 0 = 0 := cy_zero _ _
  obtain ⟨C, hC⟩ : ∃ C, C = cy y (dif x y) := ⟨_, rfl⟩
  obtain ⟨N, hN⟩ : ∃ N, N = dif x y := ⟨_, rfl⟩
  obtain ⟨B, hB⟩ : ∃ B, B = decide (x < y) := ⟨_, rfl⟩
  rw [← hC, ← hN] at HW
  rw [← hC] at h4 h0
  rw [← hB, ← hN]
  have hcb0 : ((C 4 : Int) != 0) = B := by
    rw [h4, hB]
    split <;> simp_all
  have H4 := Lib.hid hcb0
  have H0 := Lib.hid h0
  obtain ⟨V, hV⟩ : ∃ V, V = uA N := ⟨_, rfl⟩
  rw [← hV]
  have HV := Lib.hid hV
  unfold uA
  clear hx hy hB hV hC hN h0 h4 hcb0
  go_enter Tryd.func58, Tryd.ntmps58
  go_wp2
  go_loopw [7, 9] (fun c i wr => ∃ (t : Nat) (f : Nat → Nat), t ≤ 4 ∧ i = .int .i64 (t : Int) ∧ c = .int .u64 (C t : Int) ∧ Blk wr w.heap.size (cellsW (wd x)) 61 ∧ Blk wr (w.heap.size + 1) (cellsW (wd y)) 61 ∧ Blk wr (w.heap.size + 1 + 1) zerosW 61 ∧ Blk wr (w.heap.size + 1 + 1 + 1) (cellsW f) 61 ∧ Hid (∀ j, j < t → f j = wd N j) ∧ Below w.heap.size w wr) (fun _ i _ => 4 - (intOf i).toNat)
  case atStart =>
    exact ⟨0, fun _ => 0, by omega, rfl, by rw [H0.out]; rfl, (((Blk.new w _ _).alloc _).alloc _).alloc _, ((Blk.new' (w.alloc _) _ _ _ (by simp)).alloc _).alloc _, (Blk.new' ((w.alloc _).alloc _) _ _ _ (by simp)).alloc _, Blk.new' (((w.alloc _).alloc _).alloc _) _ _ _ (by simp), fun j hj => absurd hj (by omega), ((((Below.refl _ w).alloc (Nat.le_refl _) _).alloc (by simp) _).alloc (by simp <;> omega) _).alloc (by simp <;> omega) _⟩
  case round =>
    obtain ⟨t, f, ht, rfl, rfl, hbx, hby, hbz, hbs, HF, hbel⟩ := hrel
    by_cases hlt : t < 4
    · obtain ⟨c, hc⟩ : ∃ c, c = C t := ⟨_, rfl⟩
      obtain ⟨X, hX⟩ : ∃ X, X = wd x t := ⟨_, rfl⟩
      obtain ⟨Y, hY⟩ : ∃ Y, Y = wd y t := ⟨_, rfl⟩
      obtain ⟨S, hS⟩ : ∃ S, S = wd N t := ⟨_, rfl⟩
      obtain ⟨d, hd⟩ : ∃ d, d = C (t + 1) := ⟨_, rfl⟩
      obtain ⟨w1, w2, w3⟩ := HW.out t hlt
      rw [← hc, ← hX, ← hY, ← hS] at w1
      rw [← hc, ← hX, ← hY, ← hd] at w2
      rw [← hc] at w3
      have hrun := fun W => sub64_run X Y c S d w3 w1 w2 W
      have cx := hbx.cell t
      rw [cellsW_at _ t hlt, ← hX] at cx
      have cy' := hby.cell t
      rw [cellsW_at _ t hlt, ← hY] at cy'
      have cs := hbs.cell t
      rw [cellsW_at _ t hlt] at cs
      have fs := hbs.free t
      have bt : (t : Int) < 4 := by omega
      have R : Hid (Blk (wr.setCell ⟨w.heap.size + 1 + 1 + 1, t, none⟩ (.int .u64 (S : Int))).drew w.heap.size (cellsW (wd x)) 61 ∧ Blk (wr.setCell ⟨w.heap.size + 1 + 1 + 1, t, none⟩ (.int .u64 (S : Int))).drew (w.heap.size + 1) (cellsW (wd y)) 61 ∧ Blk (wr.setCell ⟨w.heap.size + 1 + 1 + 1, t, none⟩ (.int .u64 (S : Int))).drew (w.heap.size + 1 + 1) zerosW 61 ∧ Blk (wr.setCell ⟨w.heap.size + 1 + 1 + 1, t, none⟩ (.int .u64 (S : Int))).drew (w.heap.size + 1 + 1 + 1) (cellsW (upd f t S)) 61 ∧ Below w.heap.size w (wr.setCell ⟨w.heap.size + 1 + 1 + 1, t, none⟩ (.int .u64 (S : Int))).drew) := Lib.hid
        ⟨(hbx.set_other _ _ (by simp <;> omega)).drewN 1, (hby.set_other _ _ (by simp)).drewN 1, (hbz.set_other _ _ (by simp)).drewN 1, by rw [← cellsW_set f t S hlt]; exact (hbs.set t _).drewN 1, below_drewN (hbel.setCell (by simp <;> omega) _) 1⟩
      have HN : Hid (∀ j, j < t + 1 → upd f t S j = wd N j) := Lib.hid fun j hj => by
        by_cases h : j = t
        · rw [h, upd_same, hS]
        · rw [upd_other _ _ _ _ h]; exact HF.out j (by omega)
      have HD := Lib.hid hd
      rw [← hc]
      clear hbx hby hbz hbs hbel hc hX hY hS hd w1 w2 w3
      go_wp2
      go_region
      go_wp2
      exact ⟨⟨t + 1, upd f t S, by omega, by go_num, by rw [HD.out], R.out.1, R.out.2.1, R.out.2.2.1, R.out.2.2.2.1, HN, R.out.2.2.2.2⟩, by simp [intOf]; omega⟩
    · have e : t = 4 := by omega
      subst e
      have hcb := H4.out
      obtain ⟨c, hc⟩ : ∃ c, c = C 4 := ⟨_, rfl⟩
      rw [← hc] at hcb ⊢
      have hcells : cellsW f = V.toList := by rw [HV.out, uA_list]; exact cellsW_ext _ _ HF.out
      have HC := Lib.hid hcells
      have HB := Lib.hid (And.intro hbs (And.intro hbz hbel))
      clear hbx hby hbz hbs hbel hc hcells
      go_wp2_with (first
        | (refine at_load 61 (.tmp 6) ?_; refine wpList_load_mid rfl 61 (.tmp 6) rfl (w.heap.size + 1 + 1 + 1) 0 rfl (cellsW f) _ HB.out.1.range Tryd.underlying61 rfl (sizeW f) ?_)
        | (refine at_store 61 (.tmp 4) (.tmp 26) ?_; refine wpList_store_blk rfl 61 (.tmp 4) (.tmp 26) rfl (w.heap.size + 1 + 1) zerosW (cellsW f) _ rfl rfl HB.out.2.1 rfl (sizeW f) (cellsW_one f) ?_; intro w3 hb9 ho9))
      refine bodyPost_ret (v := .tuple #[.agg V, .bool B]) ?_ rfl ⟨rfl, HB.out.2.2.trans (ho9.below (by omega))⟩
      rw [HC.out] at hb9
      exact results_row_tmp Tryd.results58 _ _ (w.heap.size + 1 + 1) 61 _ (0, 0) _ _ (by rfl) (by rfl) hb9 Tryd.underlying61 rfl (by rw [HV.out, uA_size]; exact sizeU)
end Go.Proofs.YthpigninbeommaaDoor
