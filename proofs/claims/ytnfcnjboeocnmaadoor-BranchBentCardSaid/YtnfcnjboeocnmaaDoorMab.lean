/- Merged texts: Big RolP Right32 Ret. -/
import Derived.Test.YtnfcnjboeocnmaaDoorMaa
import Derived.Laws.BitsAllLaws
import Derived.WalkKit
import Derived.WalkSpells
import Derived.WalkLawsBesides
import Derived.Lib.Hide
import Derived.Deep.QuietTactic
import Derived.BigQuiet
/- The contract of octet.Big: the number of the first eight bytes, the highest first. -/
namespace Go.Proofs.YtnfcnjboeocnmaaDoor
open Go.RowKit

set_option maxRecDepth 100000 in
theorem big_or (x c : Nat) (hx : x < 72057594037927936) (hc : c < 256) : bits .or .u64 (IntKind.u64.wrap ((x : Int) * 256)) (c : Int) = ((c + 256 * x : Nat) : Int) := by
  have e : (x : Int) * 256 = ((x * 256 : Nat) : Int) := by omega
  rw [e, wrap64_nat _ (by omega), u64_or_nat _ _ (by omega) (by omega)]
  congr 1
  rw [nat_join 8 (x * 256) c (by show x * 256 % 256 = 0; exact Nat.mul_mod_left _ _) (by show c < 256; exact hc)]
  omega
set_option maxRecDepth 100000 in
theorem big_step (l : List UInt8) (t : Nat) (hl : t < l.length) (ht : t < 8) :
    bits .or .u64 (IntKind.u64.wrap ((numL (l.take t).reverse : Int) * 256)) (l[t].toNat : Int) = (numL (l.take (t + 1)).reverse : Int) := by
  have hx := numL_lt (l.take t).reverse
  rw [List.length_reverse, List.length_take, Nat.min_eq_left (by omega)] at hx
  have := pow_lt56 t (by omega)
  rw [big_or _ _ (by omega) l[t].toNat_lt, take_snoc l t hl, List.reverse_append]
  rfl
set_option maxRecDepth 100000 in
set_option maxHeartbeats 400000 in
theorem big_calls (A : Option Addr) (n c : Nat) (l : List UInt8) (w : World) (hr : Rd w A n l) :
    Calls Tryd.prog 52 #[.slice A n c] w fun e w' => e = .returned (.int .u64 (numL (l.take 8).reverse : Int)) ∧ w = w' := by
  have hl := hr.len
  obtain ⟨m, hm⟩ : ∃ m, m = min n 8 := ⟨_, rfl⟩
  have hm8 : m ≤ 8 := by omega
  have hmn : m ≤ n := by omega
  have hc : cw (n : Int) = (m : Int) := by rw [hm]; exact cw_nat n
  have HM := Lib.hid hm
  have HC := Lib.hid hc
  have HL := Lib.hid hl
  have HR := Lib.hid hr
  clear hm hc hl hr
  go_enter Tryd.func52, Tryd.ntmps52
  go_wp2_with (go_at_call 51; refine (clamp_nat _ _ HC.out _).mono ?_; rintro e w' ⟨rfl, rfl⟩)
  go_loop [3, 8] (fun v i => ∃ t : Nat, t ≤ m ∧ i = .int .i64 t ∧ v = .int .u64 (numL (l.take t).reverse : Int)) (fun _ i => m - (intOf i).toNat)
  case atStart => exact ⟨0, Nat.zero_le _, rfl, rfl⟩
  case round =>
    obtain ⟨t, ht, rfl, rfl⟩ := hrel
    by_cases hlt : t < m
    · obtain ⟨b, off, hl, rfl, _, hcell⟩ := HR.out.at_ (k := t) (by omega)
      have hb := l[t].toNat_lt
      go_wp2
      go_round
      case rel => exact ⟨t + 1, by omega, by go_num, by rw [big_step l t hl (by omega)]⟩
      case measure => simp [intOf]; omega
    · have e : t = m := by omega
      subst e
      go_wp2
      go_ret
      have hx : l.take t = l.take 8 := by
        have h1 := HM.out
        have h2 := HL.out
        by_cases h8 : n ≤ 8
        · rw [List.take_of_length_le (by omega), List.take_of_length_le (by omega)]
        · rw [h1, Nat.min_eq_right (by omega)]
      rw [← hx]
      exact ⟨rfl, rfl⟩
end Go.Proofs.YtnfcnjboeocnmaaDoor

/- Rotations as or of shifts; what a call that only computes ends in. -/
namespace Go.Proofs.YtnfcnjboeocnmaaDoor
open Go.RowKit

set_option maxRecDepth 100000 in
theorem or_rol (B x s : Nat) (hs : s ≤ B) (hx : x < 2 ^ B) : x * 2 ^ s % 2 ^ B ||| x / 2 ^ (B - s) = rol B x s := by
  have h1 : x / 2 ^ (B - s) < 2 ^ s := Nat.div_lt_of_lt_mul (by rw [← split_pow B s hs]; exact hx)
  rw [nat_join s _ _ (by rw [split_pow B s hs, Nat.mul_mod_mul_right]; exact Nat.mul_mod_left _ _) h1, rol_or B x s hs]
/-- What a call that only computes ends in. -/
def Quiet (w : World) (v : Value) (e : Ending) (w' : World) : Prop := e = .returned v ∧ ∃ n, w' = w.drewN n
end Go.Proofs.YtnfcnjboeocnmaaDoor

/- The contract of octet.Right32: a word rotated to the right. -/
namespace Go.Proofs.YtnfcnjboeocnmaaDoor
open Go.RowKit

set_option maxRecDepth 100000 in
theorem ro32 (x s : Nat) (hs : s ≤ 32) (hx : x < 4294967296) : bits .or .u32 ((x : Int) / 2 ^ s) ((x : Int) * 2 ^ (32 - s) % 4294967296) = (rol 32 x (32 - s) : Int) := by
  have e1 : (x : Int) * 2 ^ (32 - s) % 4294967296 = ((x * 2 ^ (32 - s) % 2 ^ 32 : Nat) : Int) := by
    rw [Int.natCast_emod, Int.natCast_mul, Int.natCast_pow]; rfl
  have e2 : (x : Int) / 2 ^ s = ((x / 2 ^ s : Nat) : Int) := by rw [Int.natCast_ediv, Int.natCast_pow]; rfl
  have h2 : x / 2 ^ s ≤ x := Nat.div_le_self _ _
  have h3 := or_rol 32 x (32 - s) (by omega) hx
  rw [show 32 - (32 - s) = s from by omega] at h3
  rw [e1, e2, u32_or_nat _ _ (by omega) (Nat.mod_lt _ (by decide)), Nat.or_comm, h3]
set_option maxRecDepth 100000 in
theorem and31 (k : Int) : bits .and .i64 k 31 = k % 32 := by
  show IntKind.i64.wrap ((BitVec.ofInt 64 k &&& BitVec.ofInt 64 31).toNat : Int) = _
  rw [BitVec.toNat_and, BitVec.toNat_ofInt, show (BitVec.ofInt 64 31).toNat = 31 from by decide, nat_mask5, IntKind.wrap_i64]
  omega
set_option maxRecDepth 100000 in
set_option maxHeartbeats 400000 in
theorem right32_calls (x : Nat) (k : Int) (w : World) (hx : x < 4294967296) :
    Calls Tryd.prog 53 #[.int .u32 (x : Int), .int .i64 k] w (Quiet w (.int .u32 (rol 32 x (32 - (k % 32).toNat) : Int))) := by
  obtain ⟨s, hs⟩ : ∃ s : Nat, k % 32 = s := ⟨(k % 32).toNat, by omega⟩
  have hs32 : s < 32 := by omega
  have hand : bits .and .i64 k 31 = (s : Int) := by rw [and31, hs]
  have HS := Lib.hid hs
  clear hs
  go_enter Tryd.func53, Tryd.ntmps53
  go_wp2
  go_quiet (fail)
  go_wp2
  go_ret
  refine ⟨?_, nq, rfl⟩
  have e : (k % 32).toNat = s := by have := HS.out; omega
  rw [e, ← ro32 x s (by omega) hx]
  rfl
end Go.Proofs.YtnfcnjboeocnmaaDoor

/- Words: what a call ends in that leaves all that was there; a byte slice as a string. -/
namespace Go.Proofs.YtnfcnjboeocnmaaDoor
open Go.RowKit

set_option maxRecDepth 100000 in
theorem conv8 (w : World) (A : Option Addr) (n c : Nat) (l : List UInt8) (h : Rd w A n l) :
    (convert 68 9 (.slice A n c)).run Tryd.prog w = .ok (.string ⟨l.toArray⟩) w := by
  obtain ⟨hl, hr⟩ := h
  subst hl
  cases l with
  | nil =>
    cases A with
    | none => exact run_convert_bytes_nil w 68 5 Tryd.underlying68 Tryd.underlying5 0 c 9 Tryd.underlying9
    | some a => exact run_convert_bytes_back w 68 9 5 a c [] Tryd.underlying68 Tryd.underlying5 Tryd.underlying9 (fun j hj => absurd hj (by simp))
  | cons x r =>
    obtain ⟨b, off, rfl, _, hc⟩ := hr (by simp)
    refine run_convert_bytes_back w 68 9 5 ⟨b, off, none⟩ c (x :: r) Tryd.underlying68 Tryd.underlying5 Tryd.underlying9 (fun j hj => ?_)
    have hp : (⟨b, off, none⟩ : Addr).add j = ⟨b, off + j, none⟩ := by unfold Addr.add; split <;> simp_all
    rw [hp]
    exact hc j hj
/-- What a call ends in that answers v and leaves all that was there. -/
def Ret (w : World) (v : Value) (e : Ending) (w' : World) : Prop := e = .returned v ∧ Below w.heap.size w w'
set_option maxRecDepth 100000 in
theorem below_drewN {B : Nat} {a w : World} (h : Below B a w) (n : Nat) : Below B a (w.drewN n) := ⟨h.os, h.tape, h.output, h.size, h.block⟩
end Go.Proofs.YtnfcnjboeocnmaaDoor
