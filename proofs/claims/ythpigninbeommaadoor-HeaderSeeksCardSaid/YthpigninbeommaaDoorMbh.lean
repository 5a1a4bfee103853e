/- Merged texts: BigP BigH BigT Hold BigQ. -/
import Derived.Test.YthpigninbeommaaDoorMbg
import Derived.Test.YthpigninbeommaaDoorMaf
import Derived.Test.YthpigninbeommaaDoorMab
import Derived.Test.YthpigninbeommaaDoorMam
import Derived.Test.YthpigninbeommaaDoorMbe
import Derived.Deep.RegionHeld3
/- The contracts of the reference's Pow and Is of layer 4. -/
namespace Go.Proofs.YthpigninbeommaaDoor
open Go.RowKit
set_option linter.unusedVariables false

set_option maxRecDepth 100000 in
theorem pow_digs (k : Nat) : List.replicate (k / 16) 0 ++ [2 ^ (k % 16)] = digs (2 ^ k) := by
  have hv : valB (List.replicate (k / 16) 0 ++ [2 ^ (k % 16)]) = 2 ^ k := by
    rw [valB_append, valB_zeros, List.length_replicate]
    simp only [valB, Nat.mul_zero, Nat.add_zero, Nat.zero_add]
    rw [show 65536 = 2 ^ 16 from rfl, ← Nat.pow_mul, ← Nat.pow_add]
    congr 1
    omega
  have hlt : 2 ^ (k % 16) < 65536 := by
    have := Nat.pow_lt_pow_right (a := 2) (by omega) (Nat.mod_lt k (show 0 < 16 by omega))
    exact this
  rw [← hv]
  refine canon _ (fun d hd => ?_) (fun h => ?_)
  · rcases List.mem_append.1 hd with h | h
    · simp at h; omega
    · simp at h; omega
  · rw [List.getLast_append_of_ne_nil _ (by simp)]
    simp only [List.getLast_singleton]
    exact Nat.ne_of_gt (Nat.pow_pos (by omega))
set_option maxRecDepth 100000 in
theorem set_last (n v u : Nat) : (List.replicate n 0 ++ [v]).set n u = List.replicate n 0 ++ [u] := by
  rw [List.set_append_right _ _ (by simp)]
  simp

set_option maxRecDepth 100000 in
set_option maxHeartbeats 2000000 in
theorem bpow_calls (k : Nat) (w : World) (hk : k ≤ 10000) :
    Calls Tryd.prog 60 #[.int .i64 (k : Int)] w (MkB w (2 ^ k)) := by
  obtain ⟨m, hm⟩ : ∃ m, m = k / 16 := ⟨_, rfl⟩
  obtain ⟨r, hr⟩ : ∃ r, r = k % 16 := ⟨_, rfl⟩
  have d1 : (k : Int).tdiv 16 = (m : Int) := by rw [Int.tdiv_eq_ediv_of_nonneg (by omega)]; omega
  have d1b : (k : Int) / 16 = (m : Int) := by omega
  have d2 : (k : Int).tmod 16 = (r : Int) := by rw [Int.tmod_eq_emod_of_nonneg (by omega)]; omega
  have d2b : (k : Int) % 16 = (r : Int) := by omega
  obtain ⟨T, hT⟩ : ∃ T, T = m + 1 := ⟨_, rfl⟩
  have d3 : (m : Int) + 1 = (T : Int) := by omega
  have hmk := fun W => run_mkI T (by omega) W (by omega)
  have hTb : T ≤ 700 := by omega
  have bm : (m : Int) < (T : Int) := by omega
  have hr16 : r < 16 := by omega
  have HP : Hid (List.replicate m 0 ++ [2 ^ r] = digs (2 ^ k)) := Lib.hid (by rw [hm, hr]; exact pow_digs k)
  have HT := Lib.hid hT
  have hb0 := blk_made w T
  have c0 := hb0.cell m
  rw [mapI_at _ m (by simp; omega), replicate_getD] at c0
  have f0 := hb0.free m
  have hs0 : Blk (w.alloc (.cells ((madeCells #[.int .i64 0] T).setIfInBounds m (.int .i64 1)) 3)) w.heap.size ((List.replicate m 0 ++ [1]).map WI) 3 := by
    have h := Blk.new w ((madeCells #[.int .i64 0] T).setIfInBounds m (.int .i64 1)) 3
    have e : (List.replicate T 0).set m 1 = List.replicate m 0 ++ [1] := by rw [hT, List.replicate_succ', set_last]
    rw [Array.toList_setIfInBounds, toList_madeCells_one] at h
    rw [← e, List.map_set, List.map_replicate]
    exact h
  have c0' : (w.alloc (.cells (madeCells #[.int .i64 0] T) 3)).cell? ⟨w.heap.size, m, none⟩ = some (.int .i64 0) := c0
  have HS := Lib.hid hs0
  clear hm hr hT hb0 hs0 c0
  go_enter Tryd.func60, Tryd.ntmps60
  go_wp2
  go_loopw [4] (fun v wr => ∃ (i x : Nat), i ≤ r ∧ v = .int .i64 (i : Int) ∧ Hid (x = 2 ^ i) ∧ Blk wr w.heap.size ((List.replicate m 0 ++ [x]).map WI) 3 ∧ Below w.heap.size w wr) (fun v _ => r - (intOf v).toNat)
  case atStart => exact ⟨0, 1, by omega, rfl, rfl, HS.out, (Below.refl _ w).alloc (Nat.le_refl _) _⟩
  case round =>
    clear c0' f0
    obtain ⟨i, x, hi, rfl, HX, hb, hbel⟩ := hrel
    have hlen : (List.replicate m 0 ++ [x]).length = T := by rw [HT.out]; simp
    have lx : x ≤ 65535 := by
      rw [HX.out]
      have := Nat.pow_lt_pow_right (a := 2) (n := 16) (by omega) (show i < 16 by omega)
      omega
    by_cases hlt : i < r
    · have cx := hb.cell m
      have hg : (List.replicate m 0 ++ [x]).getD m 0 = x := by rw [List.getD_eq_getElem?_getD, List.getElem?_append_right (by simp)]; simp
      rw [mapI_at _ m (by rw [hlen]; omega), hg] at cx
      have fx := hb.free m
      obtain ⟨x2, hx2⟩ : ∃ x2, x2 = x * 2 := ⟨_, rfl⟩
      have e1 : IntKind.i64.wrap ((x : Int) * 2) = (x2 : Int) := by rw [IntKind.wrap_i64]; omega
      have e2 : (x : Int) * 2 = (x2 : Int) := by omega
      have HX2 : Hid (x2 = 2 ^ (i + 1)) := Lib.hid (by rw [hx2, HX.out, Nat.pow_succ])
      have hst := hb.set m (WI x2)
      rw [← List.map_set, set_last] at hst
      have R := Lib.hid (And.intro hst (hbel.setCell (p := ⟨w.heap.size, m, none⟩) (Nat.le_refl _) (WI x2)))
      have bi : (i : Int) < (r : Int) := by omega
      clear hb hbel hst hx2 hg hlen
      go_wp2
      go_roundw
      case rel => exact ⟨i + 1, x2, by omega, by go_num, HX2, R.out.1, R.out.2⟩
      case measure => simp [intOf]; omega
    · have e : i = r := by omega
      have bi : ¬ (i : Int) < (r : Int) := by omega
      have hrd := rd_blk hb
      rw [hlen] at hrd
      have he : List.replicate m 0 ++ [x] = digs (2 ^ k) := by rw [HX.out, e]; exact HP.out
      rw [he] at hrd
      have R := Lib.hid (And.intro hrd hbel)
      clear hb hbel hrd he hlen e
      go_wp2
      go_ret
      exact ⟨_, _, _, rfl, R.out.1, Nat.le_refl _, by unfold maxLen; omega, R.out.2⟩

set_option maxRecDepth 100000 in
theorem digs_le {w : World} {A : Option Addr} {n N k : Nat} (h : RdI w A n (digs N)) (hk : N < 65536 ^ k) : n ≤ k := by
  rw [← h.len]
  exact (digs_len N k).2 hk
set_option maxRecDepth 100000 in
theorem two_digs {x y j k : Nat} (hx : x < 65536 ^ j) (hy : y < 65536 ^ k) : x * y < 65536 ^ (j + k) := by
  rw [Nat.pow_add]
  exact Nat.mul_lt_mul'' hx hy

end Go.Proofs.YthpigninbeommaaDoor

/- The contract of the reference's Half of layer 4. -/
namespace Go.Proofs.YthpigninbeommaaDoor
open Go.RowKit
set_option linter.unusedVariables false

set_option maxRecDepth 100000 in
theorem half_step (la nx : List Nat) (i c m : Nat) (hia : i < la.length) (hin : i < nx.length) (hm : m = c * 65536 + la.getD i 0) (h : valB (nx.drop (i + 1)) * 2 + c = valB (la.drop (i + 1))) :
    valB ((nx.set i (m / 2)).drop i) * 2 + m % 2 = valB (la.drop i) := by
  have e1 : (nx.set i (m / 2)).drop i = (m / 2) :: nx.drop (i + 1) := by
    rw [List.drop_eq_getElem_cons (by rw [List.length_set]; exact hin), List.getElem_set_self, List.drop_set_of_lt (by omega)]
  have e2 : la.drop i = la.getD i 0 :: la.drop (i + 1) := by
    rw [List.drop_eq_getElem_cons hia, List.getD_eq_getElem?_getD, List.getElem?_eq_getElem hia]; rfl
  rw [e1, e2, valB, valB, ← h]
  omega
end Go.Proofs.YthpigninbeommaaDoor

/- The contract of the reference's Text of layer 4: the decimal digits of a number. -/
namespace Go.Proofs.YthpigninbeommaaDoor
open Go.RowKit
set_option linter.unusedVariables false

/-- The decimal digits of a number above 0; none of 0. -/
def decL (n : Nat) : List UInt8 := if h : n = 0 then [] else decL (n / 10) ++ [UInt8.ofNat (48 + n % 10)]
termination_by n
decreasing_by omega
set_option maxRecDepth 100000 in
theorem decL_zero : decL 0 = [] := by unfold decL; simp
set_option maxRecDepth 100000 in
theorem decL_pos {n : Nat} (h : n ≠ 0) : decL n = decL (n / 10) ++ [UInt8.ofNat (48 + n % 10)] := by rw [decL]; simp [h]
/-- The text of a number. -/
def decT (n : Nat) : List UInt8 := if n = 0 then [48] else decL n
/-- Bytes as a string holds them. -/
def str (l : List UInt8) : ByteArray := ⟨l.toArray⟩
set_option maxRecDepth 100000 in
theorem str_size (l : List UInt8) : (str l).size = l.length := by show l.toArray.size = _; simp
set_option maxRecDepth 100000 in
theorem str_cat (l r : List UInt8) : str l ++ str r = str (l ++ r) := by
  apply ByteArray.ext
  simp [str, ByteArray.data_append]
set_option maxRecDepth 100000 in
theorem div_step (la nx : List Nat) (i c m : Nat) (hia : i < la.length) (hin : i < nx.length) (hm : m = c * 65536 + la.getD i 0) (h : valB (nx.drop (i + 1)) * 10 + c = valB (la.drop (i + 1))) :
    valB ((nx.set i (m / 10)).drop i) * 10 + m % 10 = valB (la.drop i) := by
  have e1 : (nx.set i (m / 10)).drop i = (m / 10) :: nx.drop (i + 1) := by
    rw [List.drop_eq_getElem_cons (by rw [List.length_set]; exact hin), List.getElem_set_self, List.drop_set_of_lt (by omega)]
  have e2 : la.drop i = la.getD i 0 :: la.drop (i + 1) := by
    rw [List.drop_eq_getElem_cons hia, List.getD_eq_getElem?_getD, List.getElem?_eq_getElem hia]; rfl
  rw [e1, e2, valB, valB, ← h]
  omega

end Go.Proofs.YthpigninbeommaaDoor

/- A block that a law reads again and again while calls make memory above it. -/
namespace Go.Proofs.YthpigninbeommaaDoor
open Go.RowKit

/-- Block g still holds cs, and nothing that was there at w has changed. -/
def Hold (w : World) (g : Nat) (cs : List Value) (t : TypeId) (W : World) : Prop := Blk W g cs t ∧ Below w.heap.size w W
set_option maxRecDepth 100000 in
theorem Hold.blk {w W : World} {g : Nat} {cs : List Value} {t : TypeId} (h : Hold w g cs t W) : Blk W g cs t := h.1
set_option maxRecDepth 100000 in
theorem Hold.bel {w W : World} {g : Nat} {cs : List Value} {t : TypeId} (h : Hold w g cs t W) : Below w.heap.size w W := h.2
set_option maxRecDepth 100000 in
theorem Hold.step {w W W' : World} {g : Nat} {cs : List Value} {t : TypeId} (h : Hold w g cs t W) (hb : Below W.heap.size W W') : Hold w g cs t W' :=
  ⟨h.1.below hb h.1.lt, h.2.trans (hb.mono h.2.size)⟩
set_option maxRecDepth 100000 in
theorem Hold.drew {w W : World} {g : Nat} {cs : List Value} {t : TypeId} (h : Hold w g cs t W) : Hold w g cs t W.drew := ⟨h.1, ⟨h.2.os, h.2.tape, h.2.output, h.2.size, h.2.block⟩⟩
set_option maxRecDepth 100000 in
theorem Hold.new (w : World) (cs : Array Value) (t : TypeId) : Hold w w.heap.size cs.toList t (w.alloc (.cells cs t)) := ⟨Blk.new w cs t, (Below.refl _ w).alloc (Nat.le_refl _) _⟩
set_option maxRecDepth 100000 in
theorem Hold.drewN {w W : World} {g : Nat} {cs : List Value} {t : TypeId} (h : Hold w g cs t W) (n : Nat) : Hold w g cs t (W.drewN n) := ⟨h.1, ⟨h.2.os, h.2.tape, h.2.output, h.2.size, h.2.block⟩⟩
set_option maxRecDepth 100000 in
theorem ret_hold {P : Program} {f : FuncId} {args : Array Value} {v : Value} {w W : World} {g : Nat} {cs : List Value} {t : TypeId} (hc : Calls P f args W (Ret W v)) (h : Hold w g cs t W) :
    Calls P f args W fun e W' => e = .returned v ∧ Hold w g cs t W' := hc.mono fun _ _ ⟨he, hb⟩ => ⟨he, h.step hb⟩
set_option maxRecDepth 100000 in
theorem same_hold {P : Program} {f : FuncId} {args : Array Value} {v : Value} {w W : World} {g : Nat} {cs : List Value} {t : TypeId} (hc : Calls P f args W fun e w' => e = .returned v ∧ W = w') (h : Hold w g cs t W) :
    Calls P f args W fun e W' => e = .returned v ∧ Hold w g cs t W' := hc.mono fun _ _ ⟨he, hb⟩ => ⟨he, hb ▸ h⟩
end Go.Proofs.YthpigninbeommaaDoor

/- The contracts of layer 4's laws' own big and is. -/
namespace Go.Proofs.YthpigninbeommaaDoor
open Go.RowKit
set_option linter.unusedVariables false

/-- A wide number. -/
structure U4 where
  a : Nat
  b : Nat
  c : Nat
  d : Nat
def U4.ok (u : U4) : Prop := u.a < 2 ^ 64 ∧ u.b < 2 ^ 64 ∧ u.c < 2 ^ 64 ∧ u.d < 2 ^ 64
def U4.arr (u : U4) : Array Value := #[.int .u64 (u.a : Int), .int .u64 (u.b : Int), .int .u64 (u.c : Int), .int .u64 (u.d : Int)]
def U4.vals (u : U4) : List Value := [.int .u64 (u.a : Int), .int .u64 (u.b : Int), .int .u64 (u.c : Int), .int .u64 (u.d : Int)]
def U4.val (u : U4) : Nat := valW [u.a, u.b, u.c, u.d]
set_option maxRecDepth 100000 in
theorem U4.val_eq (u : U4) : u.val = u.a + 18446744073709551616 * (u.b + 18446744073709551616 * (u.c + 18446744073709551616 * u.d)) := by simp [U4.val, valW]
set_option maxRecDepth 100000 in
theorem U4.val_lt (u : U4) (h : u.ok) : u.val < 2 ^ 256 := by
  obtain ⟨h1, h2, h3, h4⟩ := h
  rw [U4.val_eq]
  omega
set_option maxRecDepth 100000 in
theorem U4.words (u : U4) (h : u.ok) : ws4 (digs u.val) 0 = u.vals := by
  obtain ⟨h1, h2, h3, h4⟩ := h
  have hd := digs_lt u.val
  unfold ws4 U4.vals
  rw [wk_val _ 0 hd, wk_val _ 1 hd, wk_val _ 2 hd, wk_val _ 3 hd, val_digs, U4.val_eq]
  have e0 : (u.a + 18446744073709551616 * (u.b + 18446744073709551616 * (u.c + 18446744073709551616 * u.d))) / 2 ^ (64 * 0) % 2 ^ 64 = u.a := by simp only [Nat.mul_zero, Nat.pow_zero, Nat.div_one]; omega
  have e1 : (u.a + 18446744073709551616 * (u.b + 18446744073709551616 * (u.c + 18446744073709551616 * u.d))) / 2 ^ (64 * 1) % 2 ^ 64 = u.b := by
    rw [show 2 ^ (64 * 1) = 18446744073709551616 from rfl, Nat.add_mul_div_left _ _ (by omega), Nat.div_eq_of_lt h1]; omega
  have e2 : (u.a + 18446744073709551616 * (u.b + 18446744073709551616 * (u.c + 18446744073709551616 * u.d))) / 2 ^ (64 * 2) % 2 ^ 64 = u.c := by
    rw [show 2 ^ (64 * 2) = 18446744073709551616 * 18446744073709551616 from rfl, ← Nat.div_div_eq_div_mul, Nat.add_mul_div_left _ _ (by omega), Nat.div_eq_of_lt h1, Nat.zero_add, Nat.add_mul_div_left _ _ (by omega), Nat.div_eq_of_lt h2]; omega
  have e3 : (u.a + 18446744073709551616 * (u.b + 18446744073709551616 * (u.c + 18446744073709551616 * u.d))) / 2 ^ (64 * 3) % 2 ^ 64 = u.d := by
    rw [show 2 ^ (64 * 3) = 18446744073709551616 * 18446744073709551616 * 18446744073709551616 from rfl, ← Nat.div_div_eq_div_mul, ← Nat.div_div_eq_div_mul, Nat.add_mul_div_left _ _ (by omega), Nat.div_eq_of_lt h1, Nat.zero_add, Nat.add_mul_div_left _ _ (by omega), Nat.div_eq_of_lt h2, Nat.zero_add, Nat.add_mul_div_left _ _ (by omega), Nat.div_eq_of_lt h3]; omega
  rw [e0, e1, e2, e3]
set_option maxRecDepth 100000 in
theorem u64_wf' (n : Nat) (h : n < 2 ^ 64) : (Lit.int .u64 (n : Int)).wf = true := by
  have h1 : IntKind.u64.min = 0 := rfl
  have h2 : IntKind.u64.max = 18446744073709551615 := rfl
  simp [Lit.wf, h1, h2]
  omega
set_option maxRecDepth 100000 in
theorem U4.wf (u : U4) (h : u.ok) : ∀ v ∈ u.vals, ∃ n, v = .int .u64 n ∧ (Lit.int .u64 n).wf = true := fun v hv => by
  simp only [U4.vals, List.mem_cons, List.not_mem_nil, or_false] at hv
  rcases hv with rfl | rfl | rfl | rfl
  · exact ⟨_, rfl, u64_wf' _ h.1⟩
  · exact ⟨_, rfl, u64_wf' _ h.2.1⟩
  · exact ⟨_, rfl, u64_wf' _ h.2.2.1⟩
  · exact ⟨_, rfl, u64_wf' _ h.2.2.2⟩
set_option maxRecDepth 100000 in
theorem u_self (u : U4) (h : u.ok) (w : World) : (Op.equalIn 10000 61 (.agg u.vals.toArray) (.agg u.vals.toArray)).run Tryd.prog w = .ok true w :=
  equal_self 61 50 4 .u64 Tryd.underlying61 Tryd.underlying50 (by kernel_rfl) (by kernel_rfl) (by kernel_rfl) u.vals rfl (u.wf h) w
set_option maxRecDepth 100000 in
theorem guardU : Tryd.prog.eqGuardType Tryd.prog.depth 61 = false := by kernel_rfl

end Go.Proofs.YthpigninbeommaaDoor
