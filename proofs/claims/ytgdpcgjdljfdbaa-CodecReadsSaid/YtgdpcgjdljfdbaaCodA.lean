/- The contract of layer 6's awake: true, whatever the world. -/
import Derived.Test.YtgdpcgjdljfdbaaCodT
namespace Go.Proofs.Ytgdpcgjdljfdbaa
open Go.RowKit
set_option linter.unusedVariables false

theorem below_frm {w a b : World} {S : Nat → Prop} (h : Below w.heap.size w a) (hf : Frm S a b) (hS : ∀ i, S i → w.heap.size ≤ i) : Below w.heap.size w b := h.trans (hf.below h.size hS)
theorem below_more {w a b : World} (h : Below w.heap.size w a) (hb : Below a.heap.size a b) : Below w.heap.size w b := h.trans (hb.mono h.size)
theorem ws_new {p B : Nat} (h : B ≤ p) : ∀ i, WS p none i → B ≤ i := fun i hi => by
  rcases hi with rfl | hi
  · exact h
  · simp [blkOf] at hi
theorem ws_on {p B : Nat} {A A' : Option Addr} {n : Nat} (hA : ∀ i, WS p A i → B ≤ i) (hn : ∀ g, blkOf A' = some g → blkOf A = some g ∨ n ≤ g) (hB : B ≤ n) : ∀ i, WS p A' i → B ≤ i := fun i hi => by
  rcases ws_turn hn i hi with h | h
  · exact hA i h
  · omega
theorem cnt300 : cnt 300 = [253, 44, 1] := by decide
theorem read300 : cvV [253, 44, 1] 0 300 = 300 := by decide
set_option maxHeartbeats 1000000 in
theorem awake_calls (w : World) : Calls Try.prog 18 #[] w (Ret w (.bool true)) := by
  go_enter Try.func18, Try.ntmps18
  go_wp2_with fail
  refine (new_calls _).mono ?_
  rintro e' w1 ⟨p, rfl, hp, hw1, hb1⟩
  have HV : Hid (Calls Try.prog 11 #[.pointer (some ⟨p, 0, none⟩), .int .u64 300] w1 fun e w' => e = .returned (.tuple #[]) ∧ Wto w1 p none [253, 44, 1] w') := Lib.hid (by
    have := wvar_calls w1 p none 0 [] hw1 300 (by simp)
    rw [cnt300] at this
    exact this)
  clear hw1
  go_wp2_with fail
  refine HV.out.mono ?_
  rintro e' w2 ⟨rfl, A2, c2, hw2, hf2, hn2⟩
  have hb2 : Below w.heap.size w w2 := below_frm hb1 hf2 (ws_new (by omega))
  have hbk := Blk.new w2 #[.int .u8 253, .int .u8 44, .int .u8 1] 5
  have hrd : Rd (w2.alloc (.cells #[.int .u8 253, .int .u8 44, .int .u8 1] 5)) (some ⟨w2.heap.size, 0, none⟩) 3 [253, 44, 1] := hbk.rd 0 3 [253, 44, 1] rfl (fun j hj => by
    rcases j with _ | _ | _ | j
    · rfl
    · rfl
    · rfl
    · exact absurd hj (by simp))
  have HO := Lib.hid (of_calls (some ⟨w2.heap.size, 0, none⟩) 3 3 [253, 44, 1] _ (by omega) hrd)
  have HW := Lib.hid (hw2.below (below_al (Below.refl _ w2) (.cells #[.int .u8 253, .int .u8 44, .int .u8 1] 5)))
  have HB := Lib.hid (below_al hb2 (.cells #[.int .u8 253, .int .u8 44, .int .u8 1] 5))
  clear hbk hrd hw2 hf2 hn2
  go_wp2_with fail
  refine HO.out.mono ?_
  rintro e' w3 ⟨q, rfl, hq, hr3, hb3⟩
  have HY := Lib.hid (wbytes_calls w3 p A2 c2 _ (HW.out.below hb3) (by simp))
  have HB3 := Lib.hid (below_more HB.out hb3)
  have HQ : Hid (w.heap.size ≤ q) := Lib.hid (Nat.le_trans HB.out.size hq)
  go_wp2_with fail
  refine HY.out.mono ?_
  rintro e' w4 ⟨A4, n4, c4, rfl, ho4, hb4⟩
  have hcv := conv8 w4 A4 n4 c4 _ ho4.rd
  have HR : Hid (Calls Try.prog 23 #[.pointer (some ⟨q, 0, none⟩), .int .u64 300] w4 fun en w' => en = .returned (.int .u64 300) ∧ Frm (fun i => i = q) w4 w') := Lib.hid (by
    have := rvar_calls w4 q _ 0 (hr3.below hb4) 300
    rw [read300] at this
    exact this.mono fun _ _ h => ⟨h.1, h.2.2⟩)
  have HB4 := Lib.hid (below_more HB3.out hb4)
  clear ho4
  go_wp2_with fail
  refine HR.out.mono ?_
  rintro e' w5 ⟨rfl, hf5⟩
  go_wp2
  go_ret
  exact ⟨rfl, below_frm HB4.out hf5 (fun i hi => by have := HQ.out; omega)⟩
end Go.Proofs.Ytgdpcgjdljfdbaa
