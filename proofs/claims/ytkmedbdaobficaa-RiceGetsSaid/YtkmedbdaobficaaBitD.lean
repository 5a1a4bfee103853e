/- Package bit: clamp, at, Left. -/
import Derived.Test.YtkmedbdaobficaaBitK
import Derived.Test.YtkmedbdaobficaaBitN
import Derived.Test.YtkmedbdaobficaaCodR
namespace Go.Proofs.Ytkmedbdaobficaa
open Go.RowKit
set_option linter.unusedVariables false
set_option linter.unusedSimpArgs false

set_option maxRecDepth 100000 in
set_option maxHeartbeats 2000000 in
theorem bclamp_calls (n : Int) (h : Nat) (hh : h ≤ 100000) (w : World) :
    Calls Try.prog 38 #[.int .i64 n, .int .i64 (h : Int)] w (fun e w' => e = .returned (.int .i64 (hld n h : Int)) ∧ w = w') := by
  by_cases h0 : n < 0
  · have e : hld n h = 0 := by unfold hld; rw [if_pos h0]
    have h1 : ¬ 0 < n := by omega
    have h2 : n ≤ 0 := by omega
    have h3 : ¬ 0 ≤ n := by omega
    rw [e]
    go_enter Try.func38, Try.ntmps38
    go_wp2
    go_ret
    exact ⟨by first | rfl | (simp; omega) | (simp [Int.max_def, Int.min_def, h0, h1, h2, h3]; omega), rfl⟩
  · by_cases h1 : (h : Int) < n
    · have e : hld n h = h := by unfold hld; rw [if_neg h0, if_pos h1]
      have h2 : ¬ n ≤ (h : Int) := by omega
      have h3 : 0 ≤ n := by omega
      rw [e]
      go_enter Try.func38, Try.ntmps38
      go_wp2
      go_ret
      exact ⟨by first | rfl | (simp; omega) | (simp [Int.max_def, Int.min_def, h0, h1, h2, h3]; omega), rfl⟩
    · have e : (hld n h : Int) = n := by unfold hld; rw [if_neg h0, if_neg h1]; omega
      have h2 : n ≤ (h : Int) := by omega
      have h3 : 0 ≤ n := by omega
      rw [e]
      go_enter Try.func38, Try.ntmps38
      go_wp2
      go_ret
      exact ⟨by first | rfl | (simp; omega) | (simp [Int.max_def, Int.min_def, h0, h1, h2, h3]; omega), rfl⟩

/-- The reader at block q has the bytes b, of which k bits were read. -/
structure Rb (w : World) (q : Nat) (A : Option Addr) (c : Nat) (b : List UInt8) (k : Nat) : Prop where
  blk : Blk w q [.slice A b.length c, .int .i64 (k : Int)] 61
  rd : RdF w (fun i => i = q) A b.length b
  cap : b.length ≤ c
  max : c ≤ maxLen
  big : b.length ≤ 140737488355328
  read : k ≤ 8 * b.length
set_option maxRecDepth 100000 in
theorem Rb.below {w w' : World} {q c k : Nat} {A : Option Addr} {b : List UInt8} (h : Rb w q A c b k) (hb : Below w.heap.size w w') : Rb w' q A c b k :=
  ⟨h.blk.below hb h.blk.lt, h.rd.below hb, h.cap, h.max, h.big, h.read⟩
set_option maxRecDepth 100000 in
theorem bit_nat (x s : Nat) (hx : x < 256) : bits .and .u8 ((x / 2 ^ s : Nat) : Int) 1 = ((x / 2 ^ s % 2 : Nat) : Int) := by
  show IntKind.u8.wrap ((BitVec.ofInt 8 ((x / 2 ^ s : Nat) : Int) &&& BitVec.ofInt 8 1).toNat : Int) = _
  have hy : x / 2 ^ s < 256 := Nat.lt_of_le_of_lt (Nat.div_le_self _ _) hx
  generalize x / 2 ^ s = y at hy ⊢
  have e1 : (BitVec.ofInt 8 (y : Int)).toNat = y := by rw [BitVec.toNat_ofInt]; omega
  have e2 : (BitVec.ofInt 8 1).toNat = 1 := by decide
  rw [BitVec.toNat_and, e1, e2, Nat.and_one_is_mod, IntKind.wrap_u8]
  omega
set_option maxRecDepth 100000 in
set_option maxHeartbeats 2000000 in
theorem bat_calls (w : World) (q : Nat) (A : Option Addr) (c : Nat) (b : List UInt8) (k : Nat) (hR : Rb w q A c b k) (i : Nat) (v : Bool) (hv : (unp b)[i]? = some v) :
    Calls Try.prog 40 #[.pointer (some ⟨q, 0, none⟩), .int .i64 (i : Int)] w (fun e w' => e = .returned (.int .u8 (v.toNat : Int)) ∧ w = w') := by
  have hc0 : w.cell? ⟨q, 0, none⟩ = some (.slice A b.length c) := hR.blk.cell 0
  have hil : i < 8 * b.length := by have := (List.getElem?_eq_some_iff.1 hv).1; rwa [unp_len] at this
  have hj : i / 8 < b.length := by omega
  rw [unp_get b i hj] at hv
  have hbig := hR.big
  obtain ⟨g, off, rfl, _, hlt, hc⟩ := hR.rd.2 (by omega)
  obtain ⟨j, hjj⟩ : ∃ z, z = i / 8 := ⟨_, rfl⟩
  obtain ⟨s, hs⟩ : ∃ z, z = 7 - i % 8 := ⟨_, rfl⟩
  obtain ⟨N, hN⟩ : ∃ z, z = b.length := ⟨_, rfl⟩
  have hcj := hc j (by omega)
  have hs7 : s ≤ 7 := by omega
  obtain ⟨x, hx⟩ : ∃ z, z = b[j].toNat := ⟨_, rfl⟩
  rw [← hx] at hcj
  have hx8 : x < 256 := by rw [hx]; exact b[j].toNat_lt
  obtain ⟨y, hy⟩ : ∃ z, z = x / 2 ^ s := ⟨_, rfl⟩
  obtain ⟨z, hz⟩ : ∃ z, z = y % 2 := ⟨_, rfl⟩
  have hvz : v.toNat = z := by
    injection hv with hv
    subst hjj
    rw [← hv, hz, hy, hx, hs]
    have h2 : b[i / 8].toNat / 2 ^ (7 - i % 8) % 2 < 2 := Nat.mod_lt _ (by omega)
    by_cases h1 : b[i / 8].toNat / 2 ^ (7 - i % 8) % 2 = 1
    · rw [decide_eq_true h1, h1]; rfl
    · rw [decide_eq_false h1]; show 0 = _; omega
  rw [hvz]
  have q1 : Int.tdiv (i : Int) 8 = (j : Int) := by rw [Int.tdiv_eq_ediv_of_nonneg (by omega)]; omega
  have q2 : (i : Int) / 8 = (j : Int) := by omega
  obtain ⟨m, hm⟩ : ∃ z, z = i % 8 := ⟨_, rfl⟩
  have q3 : Int.tmod (i : Int) 8 = (m : Int) := by rw [Int.tmod_eq_emod_of_nonneg (by omega)]; omega
  have q4 : (i : Int) % 8 = (m : Int) := by omega
  have q5 : (7 : Int) - (m : Int) = (s : Int) := by omega
  have q6 : (x : Int) / 2 ^ s = (y : Int) := by rw [hy, Int.natCast_ediv, Int.natCast_pow]; rfl
  have q7 : bits .and .u8 (y : Int) 1 = (z : Int) := by rw [hz, hy]; exact bit_nat x s hx8
  have hjN : j < N := by omega
  rw [← hN] at hc0 hbig
  have hi63 : i < 4611686018427387904 := by omega
  have HH := Lib.hid hR
  clear hR hv hvz hx hy hz hc hs hjj hm hN hil hj
  go_enter Try.func40, Try.ntmps40
  go_wp2
  go_ret
  exact ⟨rfl, rfl⟩
set_option maxRecDepth 100000 in
set_option maxHeartbeats 2000000 in
theorem bleft_calls (w : World) (q : Nat) (A : Option Addr) (c : Nat) (b : List UInt8) (k : Nat) (hR : Rb w q A c b k) (m : Nat) (hm : 8 * b.length = k + m) :
    Calls Try.prog 22 #[.pointer (some ⟨q, 0, none⟩)] w (Ret w (.int .i64 (m : Int))) := by
  have hc0 : w.cell? ⟨q, 0, none⟩ = some (.slice A b.length c) := hR.blk.cell 0
  have hc1 : w.cell? ⟨q, 1, none⟩ = some (.int .i64 (k : Int)) := hR.blk.cell 1
  have hbig := hR.big
  obtain ⟨N, hN⟩ : ∃ z, z = b.length := ⟨_, rfl⟩
  rw [← hN] at hc0 hm hbig
  clear hR hN
  have q1 : (8 : Int) * (N : Int) - (k : Int) = (m : Int) := by omega
  go_enter Try.func22, Try.ntmps22
  go_wp2
  go_region
  all_goals go_wp2
  all_goals go_ret
  all_goals exact ⟨rfl, below_drewN (Below.refl _ _) 1⟩
end Go.Proofs.Ytkmedbdaobficaa
