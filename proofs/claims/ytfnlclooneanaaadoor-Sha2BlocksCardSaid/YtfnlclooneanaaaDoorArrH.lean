/- The arrays of layer 2's laws: a state, a block. -/
import Derived.Test.YtfnlclooneanaaaDoorArr
import Derived.Test.YtfnlclooneanaaaDoorShaT
namespace Go.Proofs.YtfnlclooneanaaaDoor
open Go.RowKit

theorem nats32_of_ints (zs : List Int) (h : ∀ z ∈ zs, (Lit.int .u32 z).wf = true) : ∃ l : List Nat, l.length = zs.length ∧ zs = l.map (fun n : Nat => (n : Int)) ∧ ∀ n ∈ l, n < 4294967296 := by
  refine ⟨zs.map Int.toNat, by simp, ?_, ?_⟩
  · rw [List.map_map]
    conv => lhs; rw [← List.map_id zs]
    apply List.map_congr_left
    intro z hz
    have hb := bounds_u32 (h z hz)
    simp only [Function.comp, id]
    omega
  · intro n hn
    simp only [List.mem_map] at hn
    obtain ⟨z, hz, rfl⟩ := hn
    have hb := bounds_u32 (h z hz)
    omega
theorem arr8 {H : Type} {enc : TypeId × Value → H} {W : World} {base : Nat} {sp : Nat → Bool} {held : Bool} {r : Reach} {b0 : Nat} {v : Value} {d : DataW H} {ps : List MemPlace}
    (hv : Value.okWide Tryd.prog W r b0 30 v) (hd : DataW.Trod enc Tryd.prog W base sp held 30 v d ps) : ∃ s : St, v = .agg s.arr ∧ s.ok := by
  obtain ⟨zs, hl, rfl, hw⟩ := open_arr Tryd.underlying30 Tryd.underlying29 (by kernel_rfl) (by kernel_rfl) hv hd
  obtain ⟨l, hl2, rfl, hb⟩ := nats32_of_ints zs hw
  simp at hl
  match l, hl with
  | [a, b, c, e, f, g, h, i], _ => exact ⟨⟨a, b, c, e, f, g, h, i⟩, rfl, fun x hx => hb x hx⟩
theorem arr64 {H : Type} {enc : TypeId × Value → H} {W : World} {base : Nat} {sp : Nat → Bool} {held : Bool} {r : Reach} {b0 : Nat} {v : Value} {d : DataW H} {ps : List MemPlace}
    (hv : Value.okWide Tryd.prog W r b0 31 v) (hd : DataW.Trod enc Tryd.prog W base sp held 31 v d ps) : ∃ l : List UInt8, v = .agg (l.map B8).toArray ∧ l.length = 64 := by
  obtain ⟨zs, hl, rfl, hw⟩ := open_arr Tryd.underlying31 Tryd.underlying5 (by kernel_rfl) (by kernel_rfl) hv hd
  obtain ⟨l, hl2, e⟩ := bytes_of_ints zs hw
  exact ⟨l, by rw [e], by omega⟩
end Go.Proofs.YtfnlclooneanaaaDoor
