/- The contract of octet.Num: the number of the first eight bytes, the lowest first. -/
import Derived.Test.YthkkllcpogagiaaClamp
import Derived.Test.YthkkllcpogagiaaMem
import Derived.Test.YthkkllcpogagiaaNumP
import Derived.Laws.BitsAllLaws
namespace Go.Proofs.Ythkkllcpogagiaa
open Go.RowKit

set_option maxRecDepth 100000 in
theorem num_step (l : List UInt8) (t : Nat) (hl : t < l.length) (ht : t < 8) :
    bits .or .u64 (numL (l.take t) : Int) (IntKind.u64.wrap ((l[t].toNat : Int) * 2 ^ (8 * t))) = (numL (l.take (t + 1)) : Int) := by
  have hx := numL_lt (l.take t)
  rw [List.length_take, Nat.min_eq_left (by omega)] at hx
  have hc := l[t].toNat_lt
  have hp := pow_le64 (t + 1) (by omega)
  have hpos : 0 < 256 ^ t := Nat.pow_pos (by omega)
  have hz : l[t].toNat * 256 ^ t < 18446744073709551616 := by
    rw [Nat.pow_succ] at hp
    have : l[t].toNat * 256 ^ t ≤ 255 * 256 ^ t := Nat.mul_le_mul_right _ (by omega)
    omega
  have e : (l[t].toNat : Int) * 2 ^ (8 * t) = ((l[t].toNat * 256 ^ t : Nat) : Int) := by
    rw [← pow8, Int.natCast_mul, Int.natCast_pow]; rfl
  rw [e, wrap64_nat _ hz, u64_or_nat _ _ (by have := pow_le64 t (by omega); omega) hz]
  congr 1
  rw [take_snoc l t hl, numL_append, List.length_take, Nat.min_eq_left (by omega), Nat.or_comm]
  rw [nat_join (8 * t) _ _ (by rw [pow8]; exact Nat.mul_mod_left _ _) (by rw [pow8]; exact hx)]
  simp only [numL]
  rw [Nat.mul_zero, Nat.add_zero, Nat.mul_comm (256 ^ t), Nat.add_comm]
set_option maxRecDepth 100000 in
set_option maxHeartbeats 400000 in
theorem num_calls (A : Option Addr) (n c : Nat) (l : List UInt8) (w : World) (hr : Rd w A n l) :
    Calls Try.prog 36 #[.slice A n c] w fun e w' => e = .returned (.int .u64 (numL (l.take 8) : Int)) ∧ w = w' := by
  have hl := hr.len
  obtain ⟨m, hm⟩ : ∃ m, m = min n 8 := ⟨_, rfl⟩
  have hm8 : m ≤ 8 := by omega
  have hmn : m ≤ n := by omega
  have hc : cw (n : Int) = (m : Int) := by rw [hm]; exact cw_nat n
  have HM := Lib.hid hm
  have HC := Lib.hid hc
  have HL := Lib.hid hl
  have HR := Lib.hid hr
  clear hm hc hl hr
  go_enter Try.func36, Try.ntmps36
  go_wp2_with (go_at_call 47; refine (clamp_nat _ _ HC.out _).mono ?_; rintro e w' ⟨rfl, rfl⟩)
  go_loop [3, 8] (fun v i => ∃ t : Nat, t ≤ m ∧ i = .int .i64 t ∧ v = .int .u64 (numL (l.take t) : Int)) (fun _ i => m - (intOf i).toNat)
  case atStart => exact ⟨0, Nat.zero_le _, rfl, rfl⟩
  case round =>
    obtain ⟨t, ht, rfl, rfl⟩ := hrel
    by_cases hlt : t < m
    · obtain ⟨b, off, hl, rfl, _, hcell⟩ := HR.out.at_ (k := t) (by omega)
      have hb := l[t].toNat_lt
      go_wp2
      go_round
      case rel => exact ⟨t + 1, by omega, by go_num, by rw [num_step l t hl (by omega)]⟩
      case measure => simp [intOf]; omega
    · have e : t = m := by omega
      subst e
      go_wp2
      go_ret
      have hx : l.take t = l.take 8 := by
        have h1 := HM.out
        have h2 := HL.out
        by_cases h8 : n ≤ 8
        · rw [List.take_of_length_le (by omega), List.take_of_length_le (by omega)]
        · rw [h1, Nat.min_eq_right (by omega)]
      rw [← hx]
      exact ⟨rfl, rfl⟩
end Go.Proofs.Ythkkllcpogagiaa
