/- Contract of the document's own Hex. -/
import Derived.Test.YtgjpfkkonmibfaaHexA
import Derived.Deep.RegionWith
namespace Go.Proofs.Ytgjpfkkonmibfaa
open Go.RowKit

theorem sign_z (z : Int) (h0 : 0 ≤ z) (h1 : z < 16) (w : World) : Calls Try.prog 29 #[.int .i64 z] w fun e w' => e = .returned (.int .u8 ((hd z.toNat).toNat : Int)) ∧ w = w' :=
  (sign_calls z z.toNat (by omega) (by omega) w).mono fun _ _ ⟨he, hw⟩ => ⟨he, hw.symm⟩

theorem conv_two (W : World) (u1 u2 : UInt8) :
    (convert 26 9 (.slice (some ⟨W.heap.size, 0, none⟩) 2 2)).run Try.prog (W.alloc (.cells #[.int .u8 (u1.toNat : Int), .int .u8 (u2.toNat : Int)] 5)) =
      .ok (.string ⟨#[u1, u2]⟩) (W.alloc (.cells #[.int .u8 (u1.toNat : Int), .int .u8 (u2.toNat : Int)] 5)) := by
  refine conv8 _ _ 2 2 [u1, u2] ⟨rfl, fun _ => ⟨W.heap.size, 0, rfl, by simp, fun j hj => ?_⟩⟩
  rw [cell_of_row _ W.heap.size (0 + j) _ 5 (0, 0) (heap_alloc_new W _)]
  match j, hj with
  | 0, _ => rfl
  | 1, _ => rfl

theorem conv_two_drew (W : World) (u1 u2 : UInt8) :
    (convert 26 9 (.slice (some ⟨W.heap.size, 0, none⟩) 2 2)).run Try.prog (W.alloc (.cells #[.int .u8 (u1.toNat : Int), .int .u8 (u2.toNat : Int)] 5)).drew =
      .ok (.string ⟨#[u1, u2]⟩) (W.alloc (.cells #[.int .u8 (u1.toNat : Int), .int .u8 (u2.toNat : Int)] 5)).drew := conv_two W.drew u1 u2

set_option maxHeartbeats 400000 in
theorem rhex_calls (A : Option Addr) (n c : Nat) (l : List UInt8) (w : World) (hn : n ≤ 1000000) (hr : Rd w A n l) :
    Calls Try.prog 25 #[.slice A n c] w (Ret w (.string ⟨(hexL l).toArray⟩)) := by
  have HL := Lib.hid hr.len
  have HR := Lib.hid hr
  clear hr
  go_enter Try.func25, Try.ntmps25
  go_wp2
  go_loopw [3, 4] (fun o i wr => ∃ (t : Nat) (s : ByteArray), t ≤ n ∧ i = .int .i64 t ∧ o = .string s ∧ s.size ≤ 2000000 ∧ Hid (s = ⟨(hexL (l.take t)).toArray⟩) ∧ Below w.heap.size w wr) (fun _ i _ => n - (intOf i).toNat)
  case atStart => exact ⟨0, _, Nat.zero_le _, rfl, rfl, by decide, rfl, Below.refl _ _⟩
  case round =>
    obtain ⟨t, s, ht, rfl, rfl, hsz, HS, hbel⟩ := hrel
    by_cases hlt : t < n
    · obtain ⟨b, off, hl, rfl, _, hcell⟩ := (HR.out.below hbel).at_ (k := t) hlt
      obtain ⟨x, hx⟩ : ∃ x : Nat, l[t].toNat = x := ⟨_, rfl⟩
      have hx256 : x < 256 := by rw [← hx]; exact l[t].toNat_lt
      rw [hx] at hcell
      have HX := Lib.hid hx
      clear hx
      obtain ⟨p, hp⟩ : ∃ p : Nat, p = x / 16 := ⟨_, rfl⟩
      obtain ⟨q, hq⟩ : ∃ q : Nat, q = x % 16 := ⟨_, rfl⟩
      have hp16 : p < 16 := by omega
      have hq16 : q < 16 := by omega
      have hw1 : IntKind.i64.wrap (x : Int) = (x : Int) := IntWalk.i64_in _ (by omega)
      have hw2 : IntKind.i64.wrap (p : Int) = (p : Int) := IntWalk.i64_in _ (by omega)
      have hw3 : IntKind.i64.wrap (q : Int) = (q : Int) := IntWalk.i64_in _ (by omega)
      have hd1 : (x : Int).tdiv 16 = (p : Int) := by rw [Int.tdiv_eq_ediv_of_nonneg (by omega), hp]; omega
      have hd2 : (x : Int).tmod 16 = (q : Int) := by rw [Int.tmod_eq_emod_of_nonneg (by omega), hq]; omega
      have HP := Lib.hid hp
      have HQ := Lib.hid hq
      clear hp hq
      have hcv := conv_two_drew wr (hd p) (hd q)
      have hss : s.size + (⟨#[hd p, hd q]⟩ : ByteArray).size ≤ 9223372036854775807 := by show s.size + 2 ≤ _; omega
      go_wp2
      go_region_with (first | (go_at_call_of 29 p; refine (sign_calls _ p rfl hp16 _).mono ?_; rintro e w1 ⟨rfl, rfl⟩) | (go_at_call_of 29 q; refine (sign_calls _ q rfl hq16 _).mono ?_; rintro e w1 ⟨rfl, rfl⟩))
      all_goals
        clear hcv hd1 hd2 hw1 hw2 hw3 hcell
        go_wp2
        go_roundw
        case rel =>
          refine ⟨t + 1, s ++ ⟨#[hd p, hd q]⟩, by omega, by go_num, rfl, ?_, ?_, (hbel.alloc hbel.size _).drew⟩
          · rw [ByteArray.size_append]
            have h1 : s.size = 2 * t := by
              rw [HS.out]
              show (hexL (l.take t)).toArray.size = 2 * t
              rw [List.size_toArray, hexL_len, List.length_take, HL.out]
              omega
            show s.size + 2 ≤ 2000000
            omega
          · show s ++ ⟨#[hd p, hd q]⟩ = ⟨(hexL (l.take (t + 1))).toArray⟩
            rw [take_snoc l t hl, hexL_append, HS.out, HP.out, HQ.out]
            simp only [hexL, HX.out]
            rw [← ByteArray.mk_append_mk]
        case measure => simp [intOf]; omega
    · have e : t = n := by omega
      subst e
      have hx : l.take t = l := List.take_of_length_le (by rw [HL.out]; omega)
      rw [hx] at HS
      go_wp2
      go_ret
      rw [← HS.out]
      exact ⟨rfl, hbel⟩
end Go.Proofs.Ytgjpfkkonmibfaa
