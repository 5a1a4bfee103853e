/- The contract of the document's own Value. -/
import Derived.Test.YthkkllcpogagiaaMem
import Derived.Test.YthkkllcpogagiaaNumP
import Derived.Laws.BitsAllLaws
import Derived.WalkKit
import Derived.WalkSpells
import Derived.WalkLawsBesides
import Derived.Lib.Hide
namespace Go.Proofs.Ythkkllcpogagiaa
open Go.RowKit

set_option maxRecDepth 100000 in
theorem val_add (x c : Nat) (hx : x < 72057594037927936) (hc : c < 256) : IntKind.u64.wrap (IntKind.u64.wrap ((x : Int) * 256) + (c : Int)) = ((c + 256 * x : Nat) : Int) := by
  have e : (x : Int) * 256 = ((x * 256 : Nat) : Int) := by omega
  rw [e, wrap64_nat _ (by omega), IntKind.wrap_u64]
  omega
set_option maxRecDepth 100000 in
theorem val_step (l : List UInt8) (t : Nat) (hl : t - 1 < l.length) (h0 : 0 < t) (ht : t ≤ 8) :
    IntKind.u64.wrap (IntKind.u64.wrap ((numL ((l.take 8).drop t) : Int) * 256) + (l[t - 1].toNat : Int)) = (numL ((l.take 8).drop (t - 1)) : Int) := by
  have hx := numL_lt ((l.take 8).drop t)
  have h7 : ((l.take 8).drop t).length ≤ 7 := by rw [List.length_drop, List.length_take]; omega
  have := pow_lt56 _ h7
  rw [val_add _ _ (by omega) l[t - 1].toNat_lt]
  congr 1
  have hd : (l.take 8).drop (t - 1) = l[t - 1] :: (l.take 8).drop t := by
    have h := List.drop_eq_getElem_cons (l := l.take 8) (i := t - 1) (by rw [List.length_take]; omega)
    rw [h, show t - 1 + 1 = t from by omega, List.getElem_take]
  rw [hd]
  rfl
set_option maxRecDepth 100000 in
set_option maxHeartbeats 400000 in
theorem value_calls (A : Option Addr) (n c : Nat) (l : List UInt8) (w : World) (hn : n ≤ 9223372036854775807) (hr : Rd w A n l) :
    Calls Try.prog 41 #[.slice A n c] w fun e w' => e = .returned (.int .u64 (numL (l.take 8) : Int)) ∧ w = w' := by
  have HL := Lib.hid hr.len
  have HR := Lib.hid hr
  clear hr
  go_enter Try.func41, Try.ntmps41
  go_wp2
  go_loop [3, 4] (fun v i => ∃ t : Nat, t ≤ n ∧ i = .int .i64 (t - 1) ∧ v = .int .u64 (numL ((l.take 8).drop t) : Int)) (fun _ i => (intOf i + 1).toNat)
  case atStart =>
    refine ⟨n, Nat.le_refl _, rfl, ?_⟩
    rw [List.drop_of_length_le (by rw [List.length_take, HL.out]; omega)]
    rfl
  case round =>
    obtain ⟨t, ht, rfl, rfl⟩ := hrel
    by_cases hlt : 0 < t
    · obtain ⟨b, off, hl, rfl, _, hcell⟩ := HR.out.at_ (k := t - 1) (by omega)
      have hb := l[t - 1].toNat_lt
      by_cases h8 : t ≤ 8
      · go_wp2
        go_round
        case rel => exact ⟨t - 1, by omega, by go_num, by rw [val_step l t hl hlt h8]⟩
        case measure => simp [intOf]; omega
      · go_wp2
        go_round
        case rel =>
          refine ⟨t - 1, by omega, by go_num, ?_⟩
          rw [List.drop_of_length_le (by rw [List.length_take]; omega), List.drop_of_length_le (by rw [List.length_take]; omega)]
        case measure => simp [intOf]; omega
    · have e : t = 0 := by omega
      subst e
      go_wp2
      go_ret
      exact ⟨rfl, rfl⟩
end Go.Proofs.Ythkkllcpogagiaa
