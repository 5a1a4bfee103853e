/- Contracts of small functions: codec.shape, codec.following, bytes.Clone. -/
import Derived.Test.YthkkllcpogagiaaCodF
import Derived.Test.YthkkllcpogagiaaCodM
import Derived.Test.YthkkllcpogagiaaNum
import Derived.Test.YthkkllcpogagiaaLit
import Derived.Lib.LazyBuf
namespace Go.Proofs.Ythkkllcpogagiaa
open Go.RowKit
set_option linter.unusedVariables false

set_option maxRecDepth 100000 in
theorem headB_small (n : Nat) (h : n < 253) : (n : Int) % 256 = ((headB n).toNat : Int) := by
  unfold headB
  rw [if_pos h, ofNat_toNat]
  omega
set_option maxRecDepth 100000 in
set_option maxHeartbeats 400000 in
theorem shape_calls (n : Nat) (w : World) : Calls Try.prog 45 #[.int .u64 (n : Int)] w (fun e w' => e = .returned (.tuple #[.int .u8 ((headB n).toNat : Int), .int .i64 (more n : Int)]) ∧ w = w') := by
  unfold headB more
  by_cases h1 : n < 253
  · have e : IntKind.u8.wrap (n : Int) = (n : Int) := by rw [IntKind.wrap_u8]; omega
    have e2 : ((UInt8.ofNat n).toNat : Int) = (n : Int) := by rw [ofNat_toNat]; omega
    simp only [if_pos h1, e2]
    go_enter Try.func45, Try.ntmps45
    go_wp2
    refine bodyPost_ret (v := .tuple #[.int .u8 (n : Int), .int .i64 0]) (by simp [results, Try.results45, go_sem]) rfl ⟨rfl, rfl⟩
  · by_cases h2 : n < 65536
    · simp only [if_neg h1, if_pos h2]
      go_enter Try.func45, Try.ntmps45
      go_wp2
      refine bodyPost_ret (v := .tuple #[.int .u8 253, .int .i64 2]) (by simp [results, Try.results45, go_sem]) rfl ⟨rfl, rfl⟩
    · by_cases h3 : n < 4294967296
      · simp only [if_neg h1, if_neg h2, if_pos h3]
        go_enter Try.func45, Try.ntmps45
        go_wp2
        refine bodyPost_ret (v := .tuple #[.int .u8 254, .int .i64 4]) (by simp [results, Try.results45, go_sem]) rfl ⟨rfl, rfl⟩
      · simp only [if_neg h1, if_neg h2, if_neg h3]
        go_enter Try.func45, Try.ntmps45
        go_wp2
        refine bodyPost_ret (v := .tuple #[.int .u8 255, .int .i64 8]) (by simp [results, Try.results45, go_sem]) rfl ⟨rfl, rfl⟩
set_option maxRecDepth 100000 in
theorem toNat_ne {c d : UInt8} (h : c ≠ d) : (c.toNat : Int) ≠ (d.toNat : Int) := fun e => h (UInt8.toNat_inj.1 (by omega))
set_option maxRecDepth 100000 in
set_option maxHeartbeats 400000 in
theorem following_calls (c : UInt8) (w : World) : Calls Try.prog 48 #[.int .u8 (c.toNat : Int)] w (fun e w' => e = .returned (.int .i64 (foll c : Int)) ∧ w = w') := by
  unfold foll
  by_cases h1 : c = 253
  · subst h1
    go_enter Try.func48, Try.ntmps48
    go_wp2
    go_ret
    exact ⟨rfl, rfl⟩
  · by_cases h2 : c = 254
    · subst h2
      go_enter Try.func48, Try.ntmps48
      go_wp2
      go_ret
      exact ⟨rfl, rfl⟩
    · by_cases h3 : c = 255
      · subst h3
        go_enter Try.func48, Try.ntmps48
        go_wp2
        go_ret
        exact ⟨rfl, rfl⟩
      · simp only [if_neg h1, if_neg h2, if_neg h3]
        have g1 : ¬ (c.toNat : Int) = 253 := toNat_ne h1
        have g2 : ¬ (c.toNat : Int) = 254 := toNat_ne h2
        have g3 : ¬ (c.toNat : Int) = 255 := toNat_ne h3
        go_enter Try.func48, Try.ntmps48
        go_wp2
        go_ret
        exact ⟨rfl, rfl⟩
set_option maxRecDepth 100000 in
/-- An empty row that is made. -/
theorem own_empty (w : World) : Own (w.alloc (.cells #[] 5)) w.heap.size (some ⟨w.heap.size, 0, none⟩) 0 0 [] := by
  refine ⟨rfl, rfl, .inr ⟨w.heap.size, 0, #[], rfl, Nat.le_refl _, heap_alloc_new w _, Nat.le_refl _, by unfold maxLen; omega, rfl, rfl⟩⟩
set_option maxRecDepth 100000 in
theorem Own.nil (w : World) (base : Nat) : Own w base none 0 0 [] := ⟨rfl, World.ownsRow_nil _ _ _ _⟩
set_option maxRecDepth 100000 in
set_option maxHeartbeats 400000 in
theorem clone_calls (A : Option Addr) (n c : Nat) (l : List UInt8) (w : World) (hn : n ≤ 140737488355328) (hr : Rd w A n l) :
    Calls Try.prog 35 #[.slice A n c] w (Mk w l) := by
  have hnil := fun W => run_eql_slice_nil (P := Try.prog) W 22 5 A n c Try.underlying22
  cases A with
  | none =>
    have hn0 : n = 0 := by
      rcases Nat.eq_zero_or_pos n with h | h
      · exact h
      · obtain ⟨b, off, e, _⟩ := hr.2 h
        cases e
    subst hn0
    have hl0 : l = [] := List.eq_nil_of_length_eq_zero hr.1
    subst hl0
    go_enter Try.func35, Try.ntmps35
    go_wp2
    go_ret
    exact ⟨_, _, _, rfl, Own.nil _ _, Below.refl _ _⟩
  | some a =>
    have HR := Lib.hid hr
    clear hr
    go_enter Try.func35, Try.ntmps35
    go_wp2_with (at_builtin; refine app8_all _ rfl _ _ rfl w.heap.size (some ⟨w.heap.size, 0, none⟩) 0 0 [] (some a) n c l rfl rfl (own_empty w) (HR.out.below ((Below.refl _ _).alloc (Nat.le_refl _) _)) (by omega) (by simp) ?_; intro A' c' w' hown hbel)
    go_ret
    simp only [Nat.zero_add] at hown ⊢
    exact ⟨_, _, _, rfl, hown, ((Below.refl _ _).alloc (Nat.le_refl _) _).trans hbel⟩
end Go.Proofs.Ythkkllcpogagiaa
