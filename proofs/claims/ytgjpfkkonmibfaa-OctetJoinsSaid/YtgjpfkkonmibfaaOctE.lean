/- A byte slice as a string; the contract of layer 1's awake: true, whatever the world. -/
import Derived.Test.YtgjpfkkonmibfaaOctD
namespace Go.Proofs.Ytgjpfkkonmibfaa
open Go.RowKit

theorem conv8 (w : World) (A : Option Addr) (n c : Nat) (l : List UInt8) (h : Rd w A n l) :
    (convert 26 9 (.slice A n c)).run Try.prog w = .ok (.string ⟨l.toArray⟩) w := by
  obtain ⟨hl, hr⟩ := h
  subst hl
  cases l with
  | nil =>
    cases A with
    | none => exact run_convert_bytes_nil w 26 5 Try.underlying26 Try.underlying5 0 c 9 Try.underlying9
    | some a => exact run_convert_bytes_back w 26 9 5 a c [] Try.underlying26 Try.underlying5 Try.underlying9 (fun j hj => absurd hj (by simp))
  | cons x r =>
    obtain ⟨b, off, rfl, _, hc⟩ := hr (by simp)
    refine run_convert_bytes_back w 26 9 5 ⟨b, off, none⟩ c (x :: r) Try.underlying26 Try.underlying5 Try.underlying9 (fun j hj => ?_)
    have hp : (⟨b, off, none⟩ : Addr).add j = ⟨b, off + j, none⟩ := by unfold Addr.add; split <;> simp_all
    rw [hp]
    exact hc j hj

/-- What a call ends in that answers v and leaves all that was there. -/
def Ret (w : World) (v : Value) (e : Ending) (w' : World) : Prop := e = .returned v ∧ Below w.heap.size w w'

theorem below_drewN {B : Nat} {a w : World} (h : Below B a w) (n : Nat) : Below B a (w.drewN n) := ⟨h.os, h.tape, h.output, h.size, h.block⟩

theorem little258 (w : World) : Calls Try.prog 12 #[.int .u64 258, .int .i64 3] w (Mk w [2, 1, 0]) := by
  have h := little_calls 258 3 3 (by decide) w
  rw [show little 258 3 = [2, 1, 0] from by decide] at h
  exact h
theorem great258 (w : World) : Calls Try.prog 13 #[.int .u64 258, .int .i64 3] w (Mk w [0, 1, 2]) := by
  have h := great_calls 258 3 3 (by decide) w
  rw [show great 258 3 = [0, 1, 2] from by decide] at h
  exact h
theorem left3 (w : World) : Calls Try.prog 19 #[.int .u32 2147483649, .int .i64 1] w (Quiet w (.int .u32 3)) := by
  have h := left32_calls 2147483649 1 w (by omega)
  rw [show rol 32 2147483649 ((1 : Int) % 32).toNat = 3 from by decide] at h
  exact h

set_option maxHeartbeats 400000 in
theorem awake_calls (w : World) : Calls Try.prog 14 #[] w (Ret w (.bool true)) := by
  go_enter Try.func14, Try.ntmps14
  go_wp2_with fail
  refine (little258 _).mono ?_
  rintro e w1 ⟨A1, n1, c1, rfl, ho1, hb1⟩
  have hc1 := conv8 w1 A1 n1 c1 _ ho1.rd
  clear ho1
  go_wp2_with fail
  refine (great258 _).mono ?_
  rintro e w2 ⟨A2, n2, c2, rfl, ho2, hb2⟩
  have hc2 := conv8 w2 A2 n2 c2 _ ho2.rd
  clear ho2
  go_wp2_with fail
  refine (left3 _).mono ?_
  rintro e w3 ⟨rfl, nq, rfl⟩
  go_wp2
  go_ret
  exact ⟨rfl, below_drewN (hb1.trans (hb2.mono hb1.size)) nq⟩
end Go.Proofs.Ytgjpfkkonmibfaa
