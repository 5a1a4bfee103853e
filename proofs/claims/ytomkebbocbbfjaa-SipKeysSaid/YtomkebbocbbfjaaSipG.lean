/- The contracts of sip.Range (by the library's Mul64) and of the document's own Range: the upper half of a product. -/
import Derived.Test.YtomkebbocbbfjaaSipH
namespace Go.Proofs.Ytomkebbocbbfjaa
open Go.RowKit
set_option linter.unusedVariables false

/-- The upper half by four products of halves. -/
theorem hi_split (x n : Nat) (hx : x < 2 ^ 64) (hn : n < 2 ^ 64) :
    let a := x / 4294967296; let b := x % 4294967296; let c := n / 4294967296; let d := n % 4294967296
    let t := a * d + b * d / 4294967296
    let u := t % 4294967296 + b * c
    a * d + b * d / 4294967296 < 2 ^ 64 ∧ u < 2 ^ 64 ∧ a * c + t / 4294967296 + u / 4294967296 = x * n / 2 ^ 64 ∧ a * c < 2 ^ 64 ∧ b * d < 2 ^ 64 ∧ b * c < 2 ^ 64 ∧ a * d < 2 ^ 64 ∧ a * c + t / 4294967296 < 2 ^ 64 ∧ x * n / 2 ^ 64 < 2 ^ 64 := by
  obtain ⟨a, ha⟩ : ∃ a, a = x / 4294967296 := ⟨_, rfl⟩
  obtain ⟨b, hb⟩ : ∃ b, b = x % 4294967296 := ⟨_, rfl⟩
  obtain ⟨c, hc⟩ : ∃ c, c = n / 4294967296 := ⟨_, rfl⟩
  obtain ⟨d, hd⟩ : ∃ d, d = n % 4294967296 := ⟨_, rfl⟩
  have la : a ≤ 4294967295 := by omega
  have lb : b ≤ 4294967295 := by omega
  have lc : c ≤ 4294967295 := by omega
  have ld : d ≤ 4294967295 := by omega
  have hxs : x = 4294967296 * a + b := by omega
  have hns : n = 4294967296 * c + d := by omega
  simp only [← ha, ← hb, ← hc, ← hd]
  have m1 : a * d ≤ 4294967295 * 4294967295 := Nat.mul_le_mul la ld
  have m2 : b * d ≤ 4294967295 * 4294967295 := Nat.mul_le_mul lb ld
  have m3 : b * c ≤ 4294967295 * 4294967295 := Nat.mul_le_mul lb lc
  have m4 : a * c ≤ 4294967295 * 4294967295 := Nat.mul_le_mul la lc
  have hp : x * n = 18446744073709551616 * (a * c) + 4294967296 * (a * d) + 4294967296 * (b * c) + b * d := by
    rw [hxs, hns, Nat.add_mul, Nat.mul_add, Nat.mul_add]
    have e1 : 4294967296 * a * (4294967296 * c) = 18446744073709551616 * (a * c) := by
      rw [Nat.mul_assoc, Nat.mul_left_comm a, ← Nat.mul_assoc]
    have e2 : 4294967296 * a * d = 4294967296 * (a * d) := Nat.mul_assoc _ _ _
    have e3 : b * (4294967296 * c) = 4294967296 * (b * c) := by rw [Nat.mul_left_comm]
    rw [e1, e2, e3]
    omega
  rw [hp]
  generalize a * d = p at *
  generalize b * d = q at *
  generalize b * c = r at *
  generalize a * c = s at *
  clear ha hb hc hd hxs hns hp la lb lc ld hx hn
  refine ⟨by omega, by omega, by omega, by omega, by omega, by omega, by omega, by omega, by omega⟩
def hi64 (x n : Nat) : Nat := x * n / 2 ^ 64

theorem and_half (x : Nat) (hx : x < 2 ^ 64) : bits .and .u64 (x : Int) 4294967295 = ((x % 4294967296 : Nat) : Int) := by
  have h := u64_and_nat x 4294967295 hx (by decide)
  have e : x &&& 4294967295 = x % 4294967296 := Nat.and_two_pow_sub_one_eq_mod x 32
  rw [e] at h
  exact h
theorem mul_int (x y : Nat) (h : x * y < 2 ^ 64) : IntKind.u64.wrap ((x : Int) * (y : Int)) = ((x * y : Nat) : Int) := by
  rw [← Int.natCast_mul, IntKind.wrap_u64]
  omega
theorem add_int (x y : Nat) (h : x + y < 2 ^ 64) : IntKind.u64.wrap ((x : Int) + (y : Int)) = ((x + y : Nat) : Int) := by
  rw [IntKind.wrap_u64]
  omega

theorem wrap_self {x : Nat} (h : x < 2 ^ 64) : IntKind.u64.wrap (x : Int) = (x : Int) := by rw [IntKind.wrap_u64]; omega
theorem wrap_lt {z : Int} {x : Nat} (h : IntKind.u64.wrap z = (x : Int)) : x < 2 ^ 64 := by rw [IntKind.wrap_u64] at h; omega
theorem drewN_add (w : World) (a b : Nat) : (w.drewN a).drewN b = w.drewN (a + b) := by simp [World.drewN, Nat.add_assoc]

/-- The letters of a product by halves. -/
theorem mul_letters (x n : Nat) (hx : x < 2 ^ 64) (hn : n < 2 ^ 64) : ∃ a b c d q q1 p t t0 t1 r u u1 s v : Nat,
    (x : Int) / 4294967296 = (a : Int) ∧ (x : Int) % 4294967296 = (b : Int) ∧ bits .and .u64 (x : Int) 4294967295 = (b : Int) ∧ (n : Int) / 4294967296 = (c : Int) ∧ (n : Int) % 4294967296 = (d : Int) ∧ bits .and .u64 (n : Int) 4294967295 = (d : Int) ∧
    IntKind.u64.wrap ((b : Int) * (d : Int)) = (q : Int) ∧ (q : Int) / 4294967296 = (q1 : Int) ∧ IntKind.u64.wrap ((a : Int) * (d : Int)) = (p : Int) ∧ IntKind.u64.wrap ((p : Int) + (q1 : Int)) = (t : Int) ∧
    (t : Int) % 4294967296 = (t0 : Int) ∧ bits .and .u64 (t : Int) 4294967295 = (t0 : Int) ∧ (t : Int) / 4294967296 = (t1 : Int) ∧ IntKind.u64.wrap ((b : Int) * (c : Int)) = (r : Int) ∧ IntKind.u64.wrap ((t0 : Int) + (r : Int)) = (u : Int) ∧ IntKind.u64.wrap ((r : Int) + (t0 : Int)) = (u : Int) ∧
    (u : Int) / 4294967296 = (u1 : Int) ∧ IntKind.u64.wrap ((a : Int) * (c : Int)) = (s : Int) ∧ IntKind.u64.wrap ((s : Int) + (t1 : Int)) = (v : Int) ∧ IntKind.u64.wrap ((v : Int) + (u1 : Int)) = (hi64 x n : Int) ∧
    IntKind.u64.wrap ((x : Int) * (n : Int)) = ((x * n % 2 ^ 64 : Nat) : Int) := by
  obtain ⟨h1, h2, h3, h4, h5, h6, h7, h8, h9⟩ := hi_split x n hx hn
  refine ⟨x / 4294967296, x % 4294967296, n / 4294967296, n % 4294967296, _, _, _, _, _, _, _, _, _, _, _, by omega, by omega, and_half x hx, by omega, by omega, and_half n hn, mul_int _ _ h5, (Int.natCast_ediv _ _).symm, mul_int _ _ h7, add_int _ _ h1,
    (Int.natCast_emod _ _).symm, and_half _ h1, (Int.natCast_ediv _ _).symm, mul_int _ _ h6, add_int _ _ h2, by rw [Int.add_comm]; exact add_int _ _ h2, (Int.natCast_ediv _ _).symm, mul_int _ _ h4, add_int _ _ h8, ?_, ?_⟩
  · rw [add_int _ _ (by rw [h3]; exact h9), h3]; rfl
  · rw [← Int.natCast_mul, IntKind.wrap_u64]; omega

set_option maxHeartbeats 1000000 in
theorem mul64_calls (x n : Nat) (w : World) (hx : x < 2 ^ 64) (hn : n < 2 ^ 64) :
    Calls Try.prog 25 #[.int .u64 (x : Int), .int .u64 (n : Int)] w fun e w' => e = .returned (.tuple #[.int .u64 (hi64 x n : Int), .int .u64 ((x * n % 2 ^ 64 : Nat) : Int)]) ∧ w = w' := by
  obtain ⟨a, b, c, d, q, q1, p, t, t0, t1, r, u, u1, s, v, e1, _, e2, e3, _, e4, e5, e6, e7, e8, _, e9, e10, e11, e12, _, e13, e14, e15, e16, e17⟩ := mul_letters x n hx hn
  obtain ⟨h, hh⟩ : ∃ h, h = hi64 x n := ⟨_, rfl⟩
  obtain ⟨lo, hlo⟩ : ∃ lo, lo = x * n % 2 ^ 64 := ⟨_, rfl⟩
  rw [← hh] at e16 ⊢
  rw [← hlo] at e17 ⊢
  clear hh hlo hx hn
  go_enter Try.func25, Try.ntmps25
  go_wp2
  go_ret2
  exact ⟨rfl, rfl⟩

theorem range_calls (x n : Nat) (w : World) (hx : x < 2 ^ 64) (hn : n < 2 ^ 64) :
    Calls Try.prog 15 #[.int .u64 (x : Int), .int .u64 (n : Int)] w fun e w' => e = .returned (.int .u64 (hi64 x n : Int)) ∧ w = w' := by
  have C := Lib.hid (mul64_calls x n w hx hn)
  generalize hi64 x n = h at *
  generalize x * n % 2 ^ 64 = lo at *
  go_enter Try.func15, Try.ntmps15
  go_wp2_with (go_at_call 25; refine C.out.mono ?_; rintro e' w' ⟨rfl, rfl⟩)
  go_ret
  exact ⟨rfl, rfl⟩

set_option maxHeartbeats 1000000 in
theorem rrange_calls (x n : Nat) (w : World) (hx : x < 2 ^ 64) (hn : n < 2 ^ 64) :
    Calls Try.prog 16 #[.int .u64 (x : Int), .int .u64 (n : Int)] w (Quiet w (.int .u64 (hi64 x n : Int))) := by
  obtain ⟨a, b, c, d, q, q1, p, t, t0, t1, r, u, u1, s, v, e1, e1', _, e3, e3', _, e5, e6, e7, e8, e9, _, e10, e11, _, e12, e13, e14, e15, e16, _⟩ := mul_letters x n hx hn
  obtain ⟨h, hh⟩ : ∃ h, h = hi64 x n := ⟨_, rfl⟩
  rw [← hh] at e16 ⊢
  have wa := wrap_self (x := a) (by omega)
  have wc := wrap_self (x := c) (by omega)
  have wq := wrap_self (x := q1) (by have := wrap_lt e5; omega)
  have wt := wrap_self (x := t1) (by have := wrap_lt e8; omega)
  have wu := wrap_self (x := u1) (by have := wrap_lt e12; omega)
  have z1 : (t : Int).tdiv 4294967296 = (t1 : Int) := by rw [Int.tdiv_eq_ediv_of_nonneg (by omega)]; exact e10
  have z2 : (t : Int).tmod 4294967296 = (t0 : Int) := by rw [Int.tmod_eq_emod_of_nonneg (by omega)]; exact e9
  have z3 : (u : Int).tdiv 4294967296 = (u1 : Int) := by rw [Int.tdiv_eq_ediv_of_nonneg (by omega)]; exact e13
  clear hh hx hn
  go_enter Try.func16, Try.ntmps16
  go_wp2
  go_quiet (fail)
  go_wp2
  go_quiet (fail)
  go_wp2
  go_quiet (fail)
  go_wp2
  go_ret
  exact ⟨rfl, _, drewN_add _ _ _⟩

/-- What stands in the slice while awake fills it. -/
def upto (t : Nat) : List UInt8 := (List.range t).map UInt8.ofNat ++ List.replicate (15 - t) 0
theorem upto_len (t : Nat) (h : t ≤ 15) : (upto t).length = 15 := by simp [upto]; omega
theorem upto_set (t : Nat) (h : t < 15) : (upto t).set t (UInt8.ofNat t) = upto (t + 1) := by
  unfold upto
  rw [List.set_append_right _ _ (by simp), List.length_map, List.length_range, Nat.sub_self, show 15 - t = (15 - (t + 1)) + 1 from by omega, List.replicate_succ, List.set_cons_zero]
  simp [List.range_succ]
theorem u8_nat (t : Nat) (h : t < 15) : ((UInt8.ofNat t).toNat : Int) = (t : Int) := by rw [ofNat_toNat]; omega

set_option maxHeartbeats 1000000 in
theorem awake3_calls (w : World) : Calls Try.prog 8 #[] w (Ret w (.bool true)) := by
  have hmk : ∀ W, (Instr.makeSlice 24 (.int .i64 15) (.int .i64 15)).run Try.prog W = .ok (.slice (some ⟨W.heap.size, 0, none⟩) 15 15) (W.alloc (.cells (madeCells #[.int .u8 0] 15) 5)) := fun W => run_mk8 15 (by omega) W
  go_enter Try.func8, Try.ntmps8
  go_wp2
  go_loopw [6] (fun i wr => ∃ t : Nat, t ≤ 15 ∧ i = .int .i64 t ∧ Own wr w.heap.size (some ⟨w.heap.size, 0, none⟩) 15 15 (upto t) ∧ Below w.heap.size w wr) (fun i _ => 15 - (intOf i).toNat)
  case atStart =>
    exact ⟨0, Nat.zero_le _, rfl, Own.made w 15 (by unfold maxLen; omega), (Below.refl _ _).alloc (Nat.le_refl _) _⟩
  case round =>
    obtain ⟨t, ht, rfl, hown, hbel⟩ := hrel
    by_cases hlt : t < 15
    · have hc := hown.cell (k := t) (by rw [upto_len t ht]; exact hlt)
      have hf := hown.free t
      have bt : (t : Int) < 15 := by omega
      have hv : IntKind.u8.wrap (t : Int) = (t : Int) := by rw [IntKind.wrap_u8]; omega
      have HO := Lib.hid hown
      clear hown
      go_wp2
      go_roundw
      case rel =>
        have h1 := HO.out.set t (UInt8.ofNat t)
        rw [upto_set t hlt, u8_nat t hlt] at h1
        exact ⟨t + 1, by omega, by go_num, h1, hbel.setCell (Nat.le_refl _) _⟩
      case measure => simp [intOf]; omega
    · have e : t = 15 := by omega
      subst e
      have hrd := hown.rd
      rw [show upto 15 = (little 0 0 ++ [0, 1, 2, 3, 4, 5, 6, 7, 8, 9, 10, 11, 12, 13, 14]) from by decide] at hrd
      have C1 : Hid (Calls Try.prog 9 #[.agg #[.int .u64 506097522914230528, .int .u64 1084818905618843912], .slice (some ⟨w.heap.size, 0, none⟩) 15 15] wr (Ret wr (.int .u64 11613035633349379557))) := Lib.hid (by
        have h := shash_calls 506097522914230528 1084818905618843912 (some ⟨w.heap.size, 0, none⟩) 15 15 _ wr (by decide) (by decide) (by decide) (by decide) hrd
        rw [sip_example] at h
        exact h)
      have C2 : Hid (∀ W, Calls Try.prog 15 #[.int .u64 9223372036854775808, .int .u64 10] W fun e w' => e = .returned (.int .u64 5) ∧ W = w') := Lib.hid fun W => range_calls 9223372036854775808 10 W (by decide) (by decide)
      clear hrd hown
      go_wp2_with (first
        | (go_at_call 9; refine C1.out.mono ?_; rintro e' w2 ⟨rfl, hb2⟩)
        | (go_at_call 15; refine (C2.out _).mono ?_; rintro e' w3 ⟨rfl, rfl⟩))
      go_ret
      exact ⟨rfl, hbel.trans (hb2.mono hbel.size)⟩
end Go.Proofs.Ytomkebbocbbfjaa
