/- The parameters of layer 4's laws: a wide number, a hash. -/
import Derived.Test.YthbbeknbdgkpkaaArr
import Derived.Test.YthbbeknbdgkpkaaBigQ
namespace Go.Proofs.Ythbbeknbdgkpkaa
open Go.RowKit

theorem arrW {H : Type} {enc : TypeId × Value → H} {W : World} {base : Nat} {sp : Nat → Bool} {held : Bool} {r : Reach} {b0 : Nat} {v : Value} {d : DataW H} {ps : List MemPlace}
    (hv : Value.okWide Try.prog W r b0 24 v) (hd : DataW.Trod enc Try.prog W base sp held 24 v d ps) : ∃ u : U4, v = .agg u.arr ∧ u.ok := by
  obtain ⟨zs, hl, rfl, hw⟩ := open_arr Try.underlying24 Try.underlying22 (by kernel_rfl) (by kernel_rfl) hv hd
  obtain ⟨l, hl2, rfl, hb⟩ := nats_of_ints zs hw
  simp at hl
  match l, hl with
  | [a, b, c, e], _ => exact ⟨⟨a, b, c, e⟩, rfl, hb a (by simp), hb b (by simp), hb c (by simp), hb e (by simp)⟩
theorem arrH {H : Type} {enc : TypeId × Value → H} {W : World} {base : Nat} {sp : Nat → Bool} {held : Bool} {r : Reach} {b0 : Nat} {v : Value} {d : DataW H} {ps : List MemPlace}
    (hv : Value.okWide Try.prog W r b0 49 v) (hd : DataW.Trod enc Try.prog W base sp held 49 v d ps) : ∃ l : List UInt8, v = .agg (l.map B8).toArray ∧ l.length = 32 := by
  obtain ⟨zs, hl, rfl, hw⟩ := open_arr Try.underlying49 Try.underlying5 (by kernel_rfl) (by kernel_rfl) hv hd
  obtain ⟨l, hl2, e⟩ := bytes_of_ints zs hw
  exact ⟨l, by rw [e], by omega⟩
end Go.Proofs.Ythbbeknbdgkpkaa
