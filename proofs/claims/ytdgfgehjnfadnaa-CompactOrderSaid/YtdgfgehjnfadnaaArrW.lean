/- The parameters of layer 4's laws: a wide number, a hash. -/
import Derived.Test.YtdgfgehjnfadnaaArr
import Derived.Test.YtdgfgehjnfadnaaBigQ
namespace Go.Proofs.Ytdgfgehjnfadnaa
open Go.RowKit

theorem arrW {H : Type} {enc : TypeId × Value → H} {W : World} {base : Nat} {sp : Nat → Bool} {held : Bool} {r : Reach} {b0 : Nat} {v : Value} {d : DataW H} {ps : List MemPlace}
    (hv : Value.okWide Try.prog W r b0 25 v) (hd : DataW.Trod enc Try.prog W base sp held 25 v d ps) : ∃ u : U4, v = .agg u.arr ∧ u.ok := by
  obtain ⟨zs, hl, rfl, hw⟩ := open_arr Try.underlying25 Try.underlying23 (by kernel_rfl) (by kernel_rfl) hv hd
  obtain ⟨l, hl2, rfl, hb⟩ := nats_of_ints zs hw
  simp at hl
  match l, hl with
  | [a, b, c, e], _ => exact ⟨⟨a, b, c, e⟩, rfl, hb a (by simp), hb b (by simp), hb c (by simp), hb e (by simp)⟩
end Go.Proofs.Ytdgfgehjnfadnaa
