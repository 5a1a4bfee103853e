/- The contract of octet.Big: the number of the first eight bytes, the highest first. -/
import Derived.Test.YtfnlclooneanaaaDoorClamp
import Derived.Test.YtfnlclooneanaaaDoorMem
import Derived.Test.YtfnlclooneanaaaDoorNumP
import Derived.Laws.BitsAllLaws
namespace Go.Proofs.YtfnlclooneanaaaDoor
open Go.RowKit

theorem big_or (x c : Nat) (hx : x < 72057594037927936) (hc : c < 256) : bits .or .u64 (IntKind.u64.wrap ((x : Int) * 256)) (c : Int) = ((c + 256 * x : Nat) : Int) := by
  have e : (x : Int) * 256 = ((x * 256 : Nat) : Int) := by omega
  rw [e, wrap64_nat _ (by omega), u64_or_nat _ _ (by omega) (by omega)]
  congr 1
  rw [nat_join 8 (x * 256) c (by show x * 256 % 256 = 0; exact Nat.mul_mod_left _ _) (by show c < 256; exact hc)]
  omega
theorem big_step (l : List UInt8) (t : Nat) (hl : t < l.length) (ht : t < 8) :
    bits .or .u64 (IntKind.u64.wrap ((numL (l.take t).reverse : Int) * 256)) (l[t].toNat : Int) = (numL (l.take (t + 1)).reverse : Int) := by
  have hx := numL_lt (l.take t).reverse
  rw [List.length_reverse, List.length_take, Nat.min_eq_left (by omega)] at hx
  have := pow_lt56 t (by omega)
  rw [big_or _ _ (by omega) l[t].toNat_lt, take_snoc l t hl, List.reverse_append]
  rfl
set_option maxHeartbeats 400000 in
theorem big_calls (A : Option Addr) (n c : Nat) (l : List UInt8) (w : World) (hr : Rd w A n l) :
    Calls Tryd.prog 27 #[.slice A n c] w fun e w' => e = .returned (.int .u64 (numL (l.take 8).reverse : Int)) ∧ w = w' := by
  have hl := hr.len
  obtain ⟨m, hm⟩ : ∃ m, m = min n 8 := ⟨_, rfl⟩
  have hm8 : m ≤ 8 := by omega
  have hmn : m ≤ n := by omega
  have hc : cw (n : Int) = (m : Int) := by rw [hm]; exact cw_nat n
  have HM := Lib.hid hm
  have HC := Lib.hid hc
  have HL := Lib.hid hl
  have HR := Lib.hid hr
  clear hm hc hl hr
  go_enter Tryd.func27, Tryd.ntmps27
  go_wp2_with (go_at_call 30; refine (clamp_nat _ _ HC.out _).mono ?_; rintro e w' ⟨rfl, rfl⟩)
  go_loop [3, 8] (fun v i => ∃ t : Nat, t ≤ m ∧ i = .int .i64 t ∧ v = .int .u64 (numL (l.take t).reverse : Int)) (fun _ i => m - (intOf i).toNat)
  case atStart => exact ⟨0, Nat.zero_le _, rfl, rfl⟩
  case round =>
    obtain ⟨t, ht, rfl, rfl⟩ := hrel
    by_cases hlt : t < m
    · obtain ⟨b, off, hl, rfl, _, hcell⟩ := HR.out.at_ (k := t) (by omega)
      have hb := l[t].toNat_lt
      go_wp2
      go_round
      case rel => exact ⟨t + 1, by omega, by go_num, by rw [big_step l t hl (by omega)]⟩
      case measure => simp [intOf]; omega
    · have e : t = m := by omega
      subst e
      go_wp2
      go_ret
      have hx : l.take t = l.take 8 := by
        have h1 := HM.out
        have h2 := HL.out
        by_cases h8 : n ≤ 8
        · rw [List.take_of_length_le (by omega), List.take_of_length_le (by omega)]
        · rw [h1, Nat.min_eq_right (by omega)]
      rw [← hx]
      exact ⟨rfl, rfl⟩
end Go.Proofs.YtfnlclooneanaaaDoor
