/- Contracts of the document's own Sign and Hex and of octet.digitValue and Hex: digits, and the digits of bytes. -/
import Derived.Test.YtgjpfkkonmibfaaOctE
import Derived.Test.YtgjpfkkonmibfaaApp
import Derived.Test.YtgjpfkkonmibfaaHexM
import Derived.Deep.RegionLaw
namespace Go.Proofs.Ytgjpfkkonmibfaa
open Go.RowKit

theorem sign_calls (z : Int) (k : Nat) (hz : z = k) (hk : k < 16) (w : World) : Calls Try.prog 29 #[.int .i64 z] w fun e w' => e = .returned (.int .u8 ((hd k).toNat : Int)) ∧ w' = w := by
  subst hz
  go_enter Try.func29, Try.ntmps29
  go_wp2
  go_ret
  refine ⟨?_, rfl⟩
  rw [← table_hd k hk hk]
  rfl

theorem digit_ok (c : UInt8) (z : Int) (hz : z = c.toNat) (h : dok c = true) (w : World) : Calls Try.prog 28 #[.int .u8 z] w fun e w' => e = .returned (.tuple #[.int .u8 (dv c : Int), .bool true]) ∧ w = w' := by
  subst hz
  have hc := c.toNat_lt
  simp only [dok, decide_eq_true_eq] at h
  by_cases h1 : c.toNat ≤ 57
  · have h2 : 48 ≤ c.toNat := by omega
    have HD : Hid ((dv c : Int) = (c.toNat : Int) - 48) := by show _ = _; unfold dv; rw [if_pos h1]; omega
    clear h
    go_enter Try.func28, Try.ntmps28
    go_wp2
    go_ret2
    rw [HD.out]
    exact ⟨rfl, rfl⟩
  · have h2 : 97 ≤ c.toNat := by omega
    have h3 : c.toNat ≤ 102 := by omega
    have HD : Hid ((dv c : Int) = (c.toNat : Int) - 97 + 10) := by show _ = _; unfold dv; rw [if_neg h1]; omega
    clear h
    go_enter Try.func28, Try.ntmps28
    go_wp2
    go_ret2
    rw [HD.out]
    exact ⟨rfl, rfl⟩

theorem digit_no (c : UInt8) (z : Int) (hz : z = c.toNat) (h : dok c = false) (w : World) : Calls Try.prog 28 #[.int .u8 z] w fun e w' => e = .returned (.tuple #[.int .u8 0, .bool false]) ∧ w = w' := by
  subst hz
  have hc := c.toNat_lt
  simp only [dok, decide_eq_false_iff_not] at h
  rcases (show c.toNat < 48 ∨ (57 < c.toNat ∧ c.toNat < 97) ∨ 102 < c.toNat from by omega) with h1 | ⟨h1, h2⟩ | h1
  all_goals
    clear h
    go_enter Try.func28, Try.ntmps28
    go_wp2
    go_ret2
    exact ⟨rfl, rfl⟩

theorem run_mk8c (z : Int) (c : Nat) (hz : z = c) (hn : c ≤ 281474976710656) (w : World) :
    (Instr.makeSlice 26 (.int .i64 0) (.int .i64 z)).run Try.prog w = .ok (.slice (some ⟨w.heap.size, 0, none⟩) 0 c) (w.alloc (.cells (madeCells #[.int .u8 0] c) 5)) := by
  subst hz
  obtain ⟨i, hi, hzz⟩ := Option.map_eq_some_iff.1 info8
  simp only [Prod.mk.injEq] at hzz
  obtain ⟨hz, hs, hb⟩ := hzz
  have hr := run_make (P := Try.prog) w 26 5 i (.int .u8 0) Try.underlying26 hi hz .i64 .i64 0 c (by omega) (by omega) (by rw [hb]; omega) (by omega)
  simp only [Int.toNat_natCast, hs, Nat.mul_one, Int.toNat_zero] at hr
  exact hr

theorem Own.room (w : World) (c : Nat) (hc : c ≤ maxLen) : Own (w.alloc (.cells (madeCells #[.int .u8 0] c) 5)) w.heap.size (some ⟨w.heap.size, 0, none⟩) 0 c [] :=
  ⟨rfl, rfl, .inr ⟨w.heap.size, c, _, rfl, Nat.le_refl _, heap_alloc_new w _, Nat.zero_le _, hc, by rw [size_madeCells, Nat.mul_one], by simp⟩⟩

theorem Own.drew {w : World} {base n c : Nat} {A : Option Addr} {l : List UInt8} (h : Own w base A n c l) : Own w.drew base A n c l := h
theorem Rd.drew {w : World} {A : Option Addr} {n : Nat} {l : List UInt8} (h : Rd w A n l) : Rd w.drew A n l := h

theorem shr4 (x : Nat) : (x : Int) / 16 = ((x / 16 : Nat) : Int) := by omega
theorem and15 (x : Nat) (h : x < 256) : bits .and .u8 (x : Int) 15 = ((x % 16 : Nat) : Int) := by
  have := u8_and_nat x 15 h (by omega)
  rw [nat_mask4] at this
  exact this

theorem index_hex (z : Int) (k : Nat) (hz : z = k) (hk : k < 16) (W : World) :
    (Instr.index 9 (.string ⟨#[48, 49, 50, 51, 52, 53, 54, 55, 56, 57, 97, 98, 99, 100, 101, 102]⟩) (.int .u8 z)).run Try.prog W = .ok (.int .u8 ((hd k).toNat : Int)) W := by
  subst hz
  have h1 : (0 : Int) ≤ k ∧ (k : Int) < ((⟨#[48, 49, 50, 51, 52, 53, 54, 55, 56, 57, 97, 98, 99, 100, 101, 102]⟩ : ByteArray).size : Nat) := ⟨by omega, by show (k : Int) < 16; omega⟩
  rw [run_index_string W 9 _ .u8 k Try.underlying9, dif_pos h1]
  have h2 := table_hd k hk hk
  rw [← h2]
  rfl

set_option maxHeartbeats 400000 in
theorem hex_calls (A : Option Addr) (n c : Nat) (l : List UInt8) (w : World) (hn : n ≤ 1000000) (hr : Rd w A n l) :
    Calls Try.prog 23 #[.slice A n c] w (Ret w (.string ⟨(hexL l).toArray⟩)) := by
  have HL := Lib.hid hr.len
  have HR := Lib.hid hr
  clear hr
  have hmk := fun W => run_mk8c (2 * (n : Int)) (2 * n) (by omega) (by omega) W
  go_enter Try.func23, Try.ntmps23
  go_wp2
  clear hmk
  go_loopw [3, 12] (fun o i wr => ∃ (t : Nat) (B : Option Addr) (d : Nat), t ≤ n ∧ i = .int .i64 t ∧ o = .slice B (2 * t) d ∧ Own wr w.heap.size B (2 * t) d (hexL (l.take t)) ∧ Below w.heap.size w wr) (fun _ i _ => n - (intOf i).toNat)
  case atStart => exact ⟨0, _, _, Nat.zero_le _, rfl, rfl, Own.room _ _ (by unfold maxLen; omega), (Below.refl _ _).alloc (Nat.le_refl _) _⟩
  case round =>
    obtain ⟨t, B, d, ht, rfl, rfl, hown, hbel⟩ := hrel
    by_cases hlt : t < n
    · obtain ⟨b, off, hl, rfl, _, hcell⟩ := (HR.out.below hbel).at_ (k := t) hlt
      obtain ⟨x, hx⟩ : ∃ x : Nat, l[t].toNat = x := ⟨_, rfl⟩
      have hx256 : x < 256 := by rw [← hx]; exact l[t].toNat_lt
      have ha := and15 x hx256
      rw [hx] at hcell
      have HX := Lib.hid hx
      clear hx
      have hi1 := fun W => index_hex ((x : Int) / 16) (x / 16) (by omega) (by omega) W
      have hi2 := fun W => index_hex ((x : Int) % 16) (x % 16) (by omega) (by omega) W
      go_wp2
      go_region_law (refine st8_two _ wr.drew rfl _ _ rfl w.heap.size B (2 * t) d _ _ _ (hd (x / 16)) (hd (x % 16)) rfl rfl rfl rfl rfl hown.drew (by omega) hbel.size ?_; intro A' c' w' hown' hbel')
      all_goals
        have E2 : Hid (hexL (l.take (t + 1)) = hexL (l.take t) ++ [hd (x / 16), hd (x % 16)]) := by
          show _ = _
          rw [take_snoc l t hl, hexL_append]
          simp only [hexL, HX.out]
        go_wp2
        go_roundw
        case rel =>
          refine ⟨t + 1, A', c', by omega, by go_num, by rw [show 2 * (t + 1) = 2 * t + 2 from by omega], ?_, hbel.drew.trans hbel'⟩
          rw [show 2 * (t + 1) = 2 * t + 2 from by omega, E2.out]
          exact hown'
        case measure => simp [intOf]; omega
    · have e : t = n := by omega
      subst e
      have hx : l.take t = l := List.take_of_length_le (by rw [HL.out]; omega)
      rw [hx] at hown
      have hcv := conv8 wr B (2 * t) d _ hown.rd
      clear hown
      go_wp2
      go_ret
      exact ⟨rfl, hbel⟩
end Go.Proofs.Ytgjpfkkonmibfaa
