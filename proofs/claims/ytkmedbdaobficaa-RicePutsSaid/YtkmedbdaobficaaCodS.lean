/- Contracts of small functions: codec.shape, codec.following, bytes.Clone. -/
import Derived.Test.YtkmedbdaobficaaCodF
import Derived.Test.YtkmedbdaobficaaCodM
import Derived.Test.YtkmedbdaobficaaNum
import Derived.Test.YtkmedbdaobficaaLit
import Derived.Lib.LazyBuf
namespace Go.Proofs.Ytkmedbdaobficaa
open Go.RowKit
set_option linter.unusedVariables false

set_option maxRecDepth 100000 in
theorem headB_small (n : Nat) (h : n < 253) : (n : Int) % 256 = ((headB n).toNat : Int) := by
  unfold headB
  rw [if_pos h, ofNat_toNat]
  omega
set_option maxRecDepth 100000 in
theorem toNat_ne {c d : UInt8} (h : c ≠ d) : (c.toNat : Int) ≠ (d.toNat : Int) := fun e => h (UInt8.toNat_inj.1 (by omega))
set_option maxRecDepth 100000 in
/-- An empty row that is made. -/
theorem own_empty (w : World) : Own (w.alloc (.cells #[] 5)) w.heap.size (some ⟨w.heap.size, 0, none⟩) 0 0 [] := by
  refine ⟨rfl, rfl, .inr ⟨w.heap.size, 0, #[], rfl, Nat.le_refl _, heap_alloc_new w _, Nat.le_refl _, by unfold maxLen; omega, rfl, rfl⟩⟩
set_option maxRecDepth 100000 in
theorem Own.nil (w : World) (base : Nat) : Own w base none 0 0 [] := ⟨rfl, World.ownsRow_nil _ _ _ _⟩
set_option maxRecDepth 100000 in
set_option maxHeartbeats 400000 in
theorem clone_calls (A : Option Addr) (n c : Nat) (l : List UInt8) (w : World) (hn : n ≤ 140737488355328) (hr : Rd w A n l) :
    Calls Try.prog 31 #[.slice A n c] w (Mk w l) := by
  have hnil := fun W => run_eql_slice_nil (P := Try.prog) W 32 5 A n c Try.underlying32
  cases A with
  | none =>
    have hn0 : n = 0 := by
      rcases Nat.eq_zero_or_pos n with h | h
      · exact h
      · obtain ⟨b, off, e, _⟩ := hr.2 h
        cases e
    subst hn0
    have hl0 : l = [] := List.eq_nil_of_length_eq_zero hr.1
    subst hl0
    go_enter Try.func31, Try.ntmps31
    go_wp2
    go_ret
    exact ⟨_, _, _, rfl, Own.nil _ _, Below.refl _ _⟩
  | some a =>
    have HR := Lib.hid hr
    clear hr
    go_enter Try.func31, Try.ntmps31
    go_wp2_with (at_builtin; refine app8_all _ rfl _ _ rfl w.heap.size (some ⟨w.heap.size, 0, none⟩) 0 0 [] (some a) n c l rfl rfl (own_empty w) (HR.out.below ((Below.refl _ _).alloc (Nat.le_refl _) _)) (by omega) (by simp) ?_; intro A' c' w' hown hbel)
    go_ret
    simp only [Nat.zero_add] at hown ⊢
    exact ⟨_, _, _, rfl, hown, ((Below.refl _ _).alloc (Nat.le_refl _) _).trans hbel⟩
end Go.Proofs.Ytkmedbdaobficaa
