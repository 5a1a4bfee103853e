/- The contract of octet.Great: new memory that holds the bytes of a number, the highest first. -/
import Derived.Test.YtfnlclooneanaaaDoorClamp
import Derived.Test.YtfnlclooneanaaaDoorMem
import Derived.Test.YtfnlclooneanaaaDoorPlain
namespace Go.Proofs.YtfnlclooneanaaaDoor
open Go.RowKit

/-- What stands in the slice while Great goes: the last i of the m bytes. -/
def gpart (n m i : Nat) : List UInt8 := List.replicate (m - i) 0 ++ great n i
@[simp] theorem gpart_len (n m i : Nat) (h : i ≤ m) : (gpart n m i).length = m := by simp [gpart]; omega
theorem gpart_set (n m i : Nat) (h : i < m) : (gpart n m i).set (m - 1 - i) (UInt8.ofNat (n / 256 ^ i)) = gpart n m (i + 1) := by
  unfold gpart
  rw [List.set_append_left _ _ (by simp; omega)]
  rw [show m - i = (m - (i + 1)) + 1 from by omega, List.replicate_succ']
  rw [List.set_append_right _ _ (by simp; omega)]
  simp [great, little, List.range_succ, show m - 1 - i - (m - (i + 1)) = 0 from by omega]
set_option maxHeartbeats 400000 in
theorem great_calls (n : Nat) (k : Int) (m : Nat) (hm : cw k = m) (w : World) :
    Calls Tryd.prog 26 #[.int .u64 (n : Int), .int .i64 k] w (Mk w (great n m)) := by
  have hm8 : m ≤ 8 := by have := cw_bd k; omega
  have H := Lib.hid hm
  clear hm
  have hmk := fun W => run_mk8 m (by omega) W
  go_enter Tryd.func26, Tryd.ntmps26
  go_wp2_with (go_at_call 30; refine (clamp_nat _ _ H.out _).mono ?_; rintro e w' ⟨rfl, rfl⟩)
  go_loopw [12] (fun i wr => ∃ t : Nat, t ≤ m ∧ i = .int .i64 t ∧ Own wr w.heap.size (some ⟨w.heap.size, 0, none⟩) m m (gpart n m t) ∧ Below w.heap.size w wr) (fun i _ => m - (intOf i).toNat)
  case atStart =>
    refine ⟨0, Nat.zero_le _, rfl, ?_, (Below.refl _ _).alloc (Nat.le_refl _) _⟩
    have := Own.made w m (by unfold maxLen; omega)
    simpa [gpart, great, little] using this
  case round =>
    obtain ⟨t, ht, rfl, hown, hbel⟩ := hrel
    by_cases hlt : t < m
    · have hl : m - 1 - t < (gpart n m t).length := by rw [gpart_len n m t ht]; omega
      have hc := hown.cell hl
      have hf := hown.free (m - 1 - t)
      have HO := Lib.hid hown
      clear hown
      go_wp2
      go_roundw
      case rel =>
        have h1 := HO.out.set (m - 1 - t) (UInt8.ofNat (n / 256 ^ t))
        rw [gpart_set n m t hlt, ← byte_at] at h1
        exact ⟨t + 1, by omega, by go_num, h1, hbel.setCell (Nat.le_refl _) _⟩
      case measure => simp [intOf]; omega
    · have e : t = m := by omega
      subst e
      have HO := Lib.hid hown
      clear hown
      go_wp2
      go_ret
      have hx : gpart n t t = great n t := by simp [gpart]
      rw [hx] at HO
      exact ⟨_, _, _, rfl, HO.out, hbel⟩
end Go.Proofs.YtfnlclooneanaaaDoor
