/- The contract of octet.Join. -/
import Derived.Test.YtfnlclooneanaaaDoorRdL
import Derived.Test.YtfnlclooneanaaaDoorAppC
import Derived.Test.YtfnlclooneanaaaDoorRoom
import Derived.Test.YtfnlclooneanaaaDoorRet
import Derived.Deep.RegionLaw
namespace Go.Proofs.YtfnlclooneanaaaDoor
open Go.RowKit

set_option maxHeartbeats 400000 in
theorem join_calls (A : Option Addr) (n c : Nat) (L : List (List UInt8)) (w : World) (hn : n ≤ 1000000) (hf : L.flatten.length ≤ 1000000) (hr : RdL w A n L) :
    Calls Tryd.prog 29 #[.slice A n c] w (Mk w L.flatten) := by
  have HL := Lib.hid hr.len
  have HR := Lib.hid hr
  clear hr
  go_enter Tryd.func29, Tryd.ntmps29
  go_wp2
  go_loop [3, 11] (fun v i => ∃ t q : Nat, t ≤ n ∧ i = .int .i64 t ∧ v = .int .i64 q ∧ q ≤ 1000000 ∧ Hid (q = (L.take t).flatten.length)) (fun _ i => n - (intOf i).toNat)
  case atStart => exact ⟨0, 0, Nat.zero_le _, rfl, rfl, by omega, by show 0 = _; simp⟩
  case round =>
    obtain ⟨t, q, ht, rfl, rfl, hq, HQ⟩ := hrel
    by_cases hlt : t < n
    · obtain ⟨b, off, A', m, c', hl, rfl, hcell, _, hrd⟩ := HR.out.at_ (k := t) hlt
      have hm : m ≤ 1000000 := by
        have h1 := flat_le L (t + 1)
        rw [flat_take L t hl, List.length_append, hrd.len] at h1
        omega
      have hqm : q + m ≤ 1000000 := by
        have h1 := flat_le L (t + 1)
        rw [flat_take L t hl, List.length_append, hrd.len, ← HQ.out] at h1
        omega
      have HRD := Lib.hid hrd.len
      clear hrd
      go_wp2
      go_round
      case rel =>
        refine ⟨t + 1, q + m, by omega, by go_num, by go_num, hqm, ?_⟩
        show q + m = _
        rw [flat_take L t hl, List.length_append, HRD.out, ← HQ.out]
      case measure => simp [intOf]; omega
    · have e : t = n := by omega
      subst e
      have hmk := fun W => run_mk8c (q : Int) q rfl (by omega) W
      go_wp2
      clear hmk
      go_loopw [6, 24] (fun o i wr => ∃ (k p : Nat) (B : Option Addr) (d : Nat), k ≤ t ∧ i = .int .i64 k ∧ o = .slice B p d ∧ Own wr w.heap.size B p d (L.take k).flatten ∧ Below w.heap.size w wr) (fun _ i _ => t - (intOf i).toNat)
      case atStart => exact ⟨0, 0, _, _, Nat.zero_le _, rfl, rfl, Own.room _ _ (by unfold maxLen; omega), (Below.refl _ _).alloc (Nat.le_refl _) _⟩
      case round =>
        obtain ⟨k, p, B, d, hk, rfl, rfl, hown, hbel⟩ := hrel
        by_cases hlt2 : k < t
        · obtain ⟨b, off, A', m, c', hl, rfl, hcell, _, hrd⟩ := (HR.out.below hbel).at_ (k := k) hlt2
          have hpm : p + m ≤ 1000000 := by
            have h1 := flat_le L (k + 1)
            rw [flat_take L k hl, List.length_append, hrd.len, hown.len] at h1
            omega
          go_wp2_with (at_builtin; refine app8_all _ rfl _ _ rfl w.heap.size B p d _ A' m c' _ rfl rfl hown hrd (by omega) hbel.size ?_; intro A2 c2 w2 hown' hbel')
          go_roundw
          case rel =>
            rw [← flat_take L k hl] at hown'
            exact ⟨k + 1, p + m, A2, c2, by omega, by go_num, rfl, hown', hbel.trans hbel'⟩
          case measure => simp [intOf]; omega
        · have e : k = t := by omega
          subst e
          rw [List.take_of_length_le (by rw [HL.out]; omega)] at hown
          go_wp2
          go_ret
          exact ⟨_, _, _, rfl, hown, hbel⟩
end Go.Proofs.YtfnlclooneanaaaDoor
