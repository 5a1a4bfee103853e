/- The arrays of layer 3's laws: four numbers, two numbers, a hash. -/
import Derived.Test.YtomkebbocbbfjaaArr
import Derived.Test.YtomkebbocbbfjaaSipG
namespace Go.Proofs.Ytomkebbocbbfjaa
open Go.RowKit

theorem arr4 {H : Type} {enc : TypeId × Value → H} {W : World} {base : Nat} {sp : Nat → Bool} {held : Bool} {r : Reach} {b0 : Nat} {v : Value} {d : DataW H} {ps : List MemPlace}
    (hv : Value.okWide Try.prog W r b0 29 v) (hd : DataW.Trod enc Try.prog W base sp held 29 v d ps) : ∃ q : Q, v = .agg q.arr ∧ q.ok := by
  obtain ⟨zs, hl, rfl, hw⟩ := open_arr Try.underlying29 Try.underlying22 (by kernel_rfl) (by kernel_rfl) hv hd
  obtain ⟨l, hl2, rfl, hb⟩ := nats_of_ints zs hw
  simp at hl
  match l, hl with
  | [a, b, c, e], _ => exact ⟨⟨a, b, c, e⟩, rfl, hb a (by simp), hb b (by simp), hb c (by simp), hb e (by simp)⟩
theorem arr2 {H : Type} {enc : TypeId × Value → H} {W : World} {base : Nat} {sp : Nat → Bool} {held : Bool} {r : Reach} {b0 : Nat} {v : Value} {d : DataW H} {ps : List MemPlace}
    (hv : Value.okWide Try.prog W r b0 23 v) (hd : DataW.Trod enc Try.prog W base sp held 23 v d ps) : ∃ k l : Nat, v = .agg #[.int .u64 (k : Int), .int .u64 (l : Int)] ∧ k < 2 ^ 64 ∧ l < 2 ^ 64 := by
  obtain ⟨zs, hl, rfl, hw⟩ := open_arr Try.underlying23 Try.underlying22 (by kernel_rfl) (by kernel_rfl) hv hd
  obtain ⟨l, hl2, rfl, hb⟩ := nats_of_ints zs hw
  simp at hl
  match l, hl with
  | [a, b], _ => exact ⟨a, b, rfl, hb a (by simp), hb b (by simp)⟩
theorem arrH {H : Type} {enc : TypeId × Value → H} {W : World} {base : Nat} {sp : Nat → Bool} {held : Bool} {r : Reach} {b0 : Nat} {v : Value} {d : DataW H} {ps : List MemPlace}
    (hv : Value.okWide Try.prog W r b0 33 v) (hd : DataW.Trod enc Try.prog W base sp held 33 v d ps) : ∃ l : List UInt8, v = .agg (l.map B8).toArray ∧ l.length = 32 := by
  obtain ⟨zs, hl, rfl, hw⟩ := open_arr Try.underlying33 Try.underlying5 (by kernel_rfl) (by kernel_rfl) hv hd
  obtain ⟨l, hl2, e⟩ := bytes_of_ints zs hw
  exact ⟨l, by rw [e], by omega⟩
end Go.Proofs.Ytomkebbocbbfjaa
