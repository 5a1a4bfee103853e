/- The contracts of layer 4's laws' own big and is. -/
import Derived.Test.YtdgfgehjnfadnaaBigT
import Derived.Test.YtdgfgehjnfadnaaEq
import Derived.Test.YtdgfgehjnfadnaaHold
import Derived.Test.YtdgfgehjnfadnaaStill
import Derived.Deep.RegionHeld3
namespace Go.Proofs.Ytdgfgehjnfadnaa
open Go.RowKit
set_option linter.unusedVariables false

/-- A wide number. -/
structure U4 where
  a : Nat
  b : Nat
  c : Nat
  d : Nat
def U4.ok (u : U4) : Prop := u.a < 2 ^ 64 ∧ u.b < 2 ^ 64 ∧ u.c < 2 ^ 64 ∧ u.d < 2 ^ 64
def U4.arr (u : U4) : Array Value := #[.int .u64 (u.a : Int), .int .u64 (u.b : Int), .int .u64 (u.c : Int), .int .u64 (u.d : Int)]
def U4.vals (u : U4) : List Value := [.int .u64 (u.a : Int), .int .u64 (u.b : Int), .int .u64 (u.c : Int), .int .u64 (u.d : Int)]
def U4.val (u : U4) : Nat := valW [u.a, u.b, u.c, u.d]
theorem U4.val_eq (u : U4) : u.val = u.a + 18446744073709551616 * (u.b + 18446744073709551616 * (u.c + 18446744073709551616 * u.d)) := by simp [U4.val, valW]
theorem U4.val_lt (u : U4) (h : u.ok) : u.val < 2 ^ 256 := by
  obtain ⟨h1, h2, h3, h4⟩ := h
  rw [U4.val_eq]
  omega
theorem U4.words (u : U4) (h : u.ok) : ws4 (digs u.val) 0 = u.vals := by
  obtain ⟨h1, h2, h3, h4⟩ := h
  have hd := digs_lt u.val
  unfold ws4 U4.vals
  rw [wk_val _ 0 hd, wk_val _ 1 hd, wk_val _ 2 hd, wk_val _ 3 hd, val_digs, U4.val_eq]
  have e0 : (u.a + 18446744073709551616 * (u.b + 18446744073709551616 * (u.c + 18446744073709551616 * u.d))) / 2 ^ (64 * 0) % 2 ^ 64 = u.a := by simp only [Nat.mul_zero, Nat.pow_zero, Nat.div_one]; omega
  have e1 : (u.a + 18446744073709551616 * (u.b + 18446744073709551616 * (u.c + 18446744073709551616 * u.d))) / 2 ^ (64 * 1) % 2 ^ 64 = u.b := by
    rw [show 2 ^ (64 * 1) = 18446744073709551616 from rfl, Nat.add_mul_div_left _ _ (by omega), Nat.div_eq_of_lt h1]; omega
  have e2 : (u.a + 18446744073709551616 * (u.b + 18446744073709551616 * (u.c + 18446744073709551616 * u.d))) / 2 ^ (64 * 2) % 2 ^ 64 = u.c := by
    rw [show 2 ^ (64 * 2) = 18446744073709551616 * 18446744073709551616 from rfl, ← Nat.div_div_eq_div_mul, Nat.add_mul_div_left _ _ (by omega), Nat.div_eq_of_lt h1, Nat.zero_add, Nat.add_mul_div_left _ _ (by omega), Nat.div_eq_of_lt h2]; omega
  have e3 : (u.a + 18446744073709551616 * (u.b + 18446744073709551616 * (u.c + 18446744073709551616 * u.d))) / 2 ^ (64 * 3) % 2 ^ 64 = u.d := by
    rw [show 2 ^ (64 * 3) = 18446744073709551616 * 18446744073709551616 * 18446744073709551616 from rfl, ← Nat.div_div_eq_div_mul, ← Nat.div_div_eq_div_mul, Nat.add_mul_div_left _ _ (by omega), Nat.div_eq_of_lt h1, Nat.zero_add, Nat.add_mul_div_left _ _ (by omega), Nat.div_eq_of_lt h2, Nat.zero_add, Nat.add_mul_div_left _ _ (by omega), Nat.div_eq_of_lt h3]; omega
  rw [e0, e1, e2, e3]
theorem u64_wf' (n : Nat) (h : n < 2 ^ 64) : (Lit.int .u64 (n : Int)).wf = true := by
  have h1 : IntKind.u64.min = 0 := rfl
  have h2 : IntKind.u64.max = 18446744073709551615 := rfl
  simp [Lit.wf, h1, h2]
  omega
theorem U4.wf (u : U4) (h : u.ok) : ∀ v ∈ u.vals, ∃ n, v = .int .u64 n ∧ (Lit.int .u64 n).wf = true := fun v hv => by
  simp only [U4.vals, List.mem_cons, List.not_mem_nil, or_false] at hv
  rcases hv with rfl | rfl | rfl | rfl
  · exact ⟨_, rfl, u64_wf' _ h.1⟩
  · exact ⟨_, rfl, u64_wf' _ h.2.1⟩
  · exact ⟨_, rfl, u64_wf' _ h.2.2.1⟩
  · exact ⟨_, rfl, u64_wf' _ h.2.2.2⟩
theorem u_self (u : U4) (h : u.ok) (w : World) : (Op.equalIn 10000 25 (.agg u.vals.toArray) (.agg u.vals.toArray)).run Try.prog w = .ok true w :=
  equal_self 25 23 4 .u64 Try.underlying25 Try.underlying23 (by kernel_rfl) (by kernel_rfl) (by kernel_rfl) u.vals rfl (u.wf h) w
theorem guardU : Try.prog.eqGuardType Try.prog.depth 25 = false := by kernel_rfl

set_option maxHeartbeats 1000000 in
theorem big_calls4 (u : U4) (w : World) (hu : u.ok) : Calls Try.prog 17 #[.agg u.arr] w (MkB w u.val) := by
  obtain ⟨a, b, c, d⟩ := u
  have HU := Lib.hid hu
  unfold U4.arr
  simp only
  obtain ⟨N, hN⟩ : ∃ N, N = U4.val ⟨a, b, c, d⟩ := ⟨_, rfl⟩
  have CO : Hid (Calls Try.prog 35 #[.slice (some ⟨w.heap.size + 1, 0, none⟩) 4 4] ((w.alloc (.cells #[.int .u64 (a : Int), .int .u64 (b : Int), .int .u64 (c : Int), .int .u64 (d : Int)] 25)).alloc (.cells #[.int .u64 (a : Int), .int .u64 (b : Int), .int .u64 (c : Int), .int .u64 (d : Int)] 23)) (MkB ((w.alloc (.cells #[.int .u64 (a : Int), .int .u64 (b : Int), .int .u64 (c : Int), .int .u64 (d : Int)] 25)).alloc (.cells #[.int .u64 (a : Int), .int .u64 (b : Int), .int .u64 (c : Int), .int .u64 (d : Int)] 23)) N)) := Lib.hid (by
    rw [hN]
    have hb := Blk.new' (w.alloc (.cells #[.int .u64 (a : Int), .int .u64 (b : Int), .int .u64 (c : Int), .int .u64 (d : Int)] 25)) #[.int .u64 (a : Int), .int .u64 (b : Int), .int .u64 (c : Int), .int .u64 (d : Int)] 23 (w.heap.size + 1) (by simp)
    refine of_calls _ 4 4 [a, b, c, d] _ (by omega) (fun x hx => ?_) ⟨rfl, fun _ => ⟨_, 0, rfl, hb.lt, fun j hj => ?_⟩⟩
    · obtain ⟨h1, h2, h3, h4⟩ := hu
      simp only at h1 h2 h3 h4
      simp only [List.mem_cons, List.not_mem_nil, or_false] at hx
      rcases hx with rfl | rfl | rfl | rfl
      · exact h1
      · exact h2
      · exact h3
      · exact h4
    · rw [Nat.zero_add, hb.cell]
      rcases (show j = 0 ∨ j = 1 ∨ j = 2 ∨ j = 3 by omega) with rfl | rfl | rfl | rfl <;> rfl)
  rw [← hN]
  clear hN hu
  go_enter Try.func17, Try.ntmps17
  go_wp2_with (go_at_call 35; refine CO.out.mono ?_; rintro e' w1 ⟨A1, n1, c1, rfl, h1, h1c, h1m, b1⟩)
  go_ret
  exact ⟨_, _, _, rfl, h1, h1c, h1m, (((Below.refl _ w).alloc (Nat.le_refl _) _).alloc (by simp) _).trans (b1.mono (by simp <;> omega))⟩

end Go.Proofs.Ytdgfgehjnfadnaa
