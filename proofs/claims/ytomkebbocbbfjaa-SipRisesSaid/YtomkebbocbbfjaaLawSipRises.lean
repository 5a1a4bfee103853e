/- Proved: for any numbers, Range does not fall when a number or the range rises, and may be turned about; no condition. -/
import Derived.Test.YtomkebbocbbfjaaRows
import Derived.Test.YtomkebbocbbfjaaArrS
import Derived.ProofKit
import Derived.OpenShut
import Derived.ShutString
import Derived.ChangeOld
import Derived.Test.YtomkebbocbbfjaaOpen
namespace Go.Proofs.Ytomkebbocbbfjaa.sipRises
open Go.ChangeShapes Go.WideShapes Go.ChangeAt Go.RowKit
open Go.ChangeMaps (open_string shut_string)
set_option linter.unusedVariables false

theorem own : ownKnob Try.prog.godebug = none := by kernel_rfl
theorem laidOut : laidOutB Try.prog = true := by kernel_rfl

theorem hi_mono {x y n m : Nat} (h1 : x ≤ y) (h2 : n ≤ m) : hi64 x n ≤ hi64 y m := Nat.div_le_div_right (Nat.mul_le_mul h1 h2)
theorem hi_comm (x y : Nat) : hi64 x y = hi64 y x := by unfold hi64; rw [Nat.mul_comm]

set_option maxHeartbeats 1000000 in
theorem walk_ltlt (m n x y : Nat) (w : World) (hxy : x < y) (hnm : n < m) (hm : m < 2 ^ 64) (hn : n < 2 ^ 64) (hx : x < 2 ^ 64) (hy : y < 2 ^ 64) :
    Calls Try.prog 7 #[.agg #[.int .u64 (x : Int), .int .u64 (y : Int), .int .u64 (n : Int), .int .u64 (m : Int)]] w (Ret w (.bool true)) := by
  have C := Lib.hid (fun u v W hu hv => range_calls u v W hu hv)
  have m1 : ((hi64 x n : Nat) : Int) ≤ ((hi64 y n : Nat) : Int) := by have := hi_mono (x := x) (y := y) (n := n) (m := n) (by omega) (by omega); omega
  have m2 : ((hi64 x n : Nat) : Int) ≤ ((hi64 x m : Nat) : Int) := by have := hi_mono (x := x) (y := x) (n := n) (m := m) (by omega) (by omega); omega
  have m3 : ((hi64 x y : Nat) : Int) = ((hi64 y x : Nat) : Int) := by rw [hi_comm]
  have H := Lib.hid (And.intro m1 (And.intro m2 m3))
  clear m1 m2 m3
  go_enter Try.func7, Try.ntmps7
  go_wp2
  go_quiet (fail)
  go_wp2_with fail
  refine (C.out x n _ hx hn).mono ?_
  rintro e' w' ⟨rfl, rfl⟩
  go_wp2_with fail
  refine (C.out y n _ hy hn).mono ?_
  rintro e' w' ⟨rfl, rfl⟩
  obtain ⟨m1, m2, m3⟩ := H.out
  go_wp2_with fail
  refine (C.out x n _ hx hn).mono ?_
  rintro e' w' ⟨rfl, rfl⟩
  go_wp2_with fail
  refine (C.out x m _ hx hm).mono ?_
  rintro e' w' ⟨rfl, rfl⟩
  go_wp2_with fail
  refine (C.out x y _ hx hy).mono ?_
  rintro e' w' ⟨rfl, rfl⟩
  go_wp2_with fail
  refine (C.out y x _ hy hx).mono ?_
  rintro e' w' ⟨rfl, rfl⟩
  rw [hi_comm y x]
  go_wp2_with fail
  refine (awake3_calls _).mono ?_
  rintro e' w4 ⟨rfl, hb4⟩
  go_wp2
  go_ret
  exact ⟨rfl, Below.trans (below_drewN ((Below.refl _ w).alloc (Nat.le_refl _) _) _) (hb4.mono (by simp))⟩

set_option maxHeartbeats 1000000 in
theorem walk_ltgt (m n x y : Nat) (w : World) (hxy : x < y) (hnm : m < n) (hm : m < 2 ^ 64) (hn : n < 2 ^ 64) (hx : x < 2 ^ 64) (hy : y < 2 ^ 64) :
    Calls Try.prog 7 #[.agg #[.int .u64 (x : Int), .int .u64 (y : Int), .int .u64 (n : Int), .int .u64 (m : Int)]] w (Ret w (.bool true)) := by
  have C := Lib.hid (fun u v W hu hv => range_calls u v W hu hv)
  have m1 : ((hi64 x n : Nat) : Int) ≤ ((hi64 y n : Nat) : Int) := by have := hi_mono (x := x) (y := y) (n := n) (m := n) (by omega) (by omega); omega
  have m2 : ((hi64 x m : Nat) : Int) ≤ ((hi64 x n : Nat) : Int) := by have := hi_mono (x := x) (y := x) (n := m) (m := n) (by omega) (by omega); omega
  have m3 : ((hi64 x y : Nat) : Int) = ((hi64 y x : Nat) : Int) := by rw [hi_comm]
  have H := Lib.hid (And.intro m1 (And.intro m2 m3))
  clear m1 m2 m3
  go_enter Try.func7, Try.ntmps7
  go_wp2
  go_quiet (fail)
  go_wp2_with fail
  refine (C.out x n _ hx hn).mono ?_
  rintro e' w' ⟨rfl, rfl⟩
  go_wp2_with fail
  refine (C.out y n _ hy hn).mono ?_
  rintro e' w' ⟨rfl, rfl⟩
  obtain ⟨m1, m2, m3⟩ := H.out
  go_wp2_with fail
  refine (C.out x m _ hx hm).mono ?_
  rintro e' w' ⟨rfl, rfl⟩
  go_wp2_with fail
  refine (C.out x n _ hx hn).mono ?_
  rintro e' w' ⟨rfl, rfl⟩
  go_wp2_with fail
  refine (C.out x y _ hx hy).mono ?_
  rintro e' w' ⟨rfl, rfl⟩
  go_wp2_with fail
  refine (C.out y x _ hy hx).mono ?_
  rintro e' w' ⟨rfl, rfl⟩
  rw [hi_comm y x]
  go_wp2_with fail
  refine (awake3_calls _).mono ?_
  rintro e' w4 ⟨rfl, hb4⟩
  go_wp2
  go_ret
  exact ⟨rfl, Below.trans (below_drewN ((Below.refl _ w).alloc (Nat.le_refl _) _) _) (hb4.mono (by simp))⟩

set_option maxHeartbeats 1000000 in
theorem walk_lteq (n x y : Nat) (w : World) (hxy : x < y) (hn : n < 2 ^ 64) (hx : x < 2 ^ 64) (hy : y < 2 ^ 64) :
    Calls Try.prog 7 #[.agg #[.int .u64 (x : Int), .int .u64 (y : Int), .int .u64 (n : Int), .int .u64 (n : Int)]] w (Ret w (.bool true)) := by
  have C := Lib.hid (fun u v W hu hv => range_calls u v W hu hv)
  have m1 : ((hi64 x n : Nat) : Int) ≤ ((hi64 y n : Nat) : Int) := by have := hi_mono (x := x) (y := y) (n := n) (m := n) (by omega) (by omega); omega
  have m2 : ((hi64 x n : Nat) : Int) ≤ ((hi64 x n : Nat) : Int) := by have := hi_mono (x := x) (y := x) (n := n) (m := n) (by omega) (by omega); omega
  have m3 : ((hi64 x y : Nat) : Int) = ((hi64 y x : Nat) : Int) := by rw [hi_comm]
  have H := Lib.hid (And.intro m1 (And.intro m2 m3))
  clear m1 m2 m3
  go_enter Try.func7, Try.ntmps7
  go_wp2
  go_quiet (fail)
  go_wp2_with fail
  refine (C.out x n _ hx hn).mono ?_
  rintro e' w' ⟨rfl, rfl⟩
  go_wp2_with fail
  refine (C.out y n _ hy hn).mono ?_
  rintro e' w' ⟨rfl, rfl⟩
  obtain ⟨m1, m2, m3⟩ := H.out
  go_wp2_with fail
  refine (C.out x n _ hx hn).mono ?_
  rintro e' w' ⟨rfl, rfl⟩
  go_wp2_with fail
  refine (C.out x n _ hx hn).mono ?_
  rintro e' w' ⟨rfl, rfl⟩
  go_wp2_with fail
  refine (C.out x y _ hx hy).mono ?_
  rintro e' w' ⟨rfl, rfl⟩
  go_wp2_with fail
  refine (C.out y x _ hy hx).mono ?_
  rintro e' w' ⟨rfl, rfl⟩
  rw [hi_comm y x]
  go_wp2_with fail
  refine (awake3_calls _).mono ?_
  rintro e' w4 ⟨rfl, hb4⟩
  go_wp2
  go_ret
  exact ⟨rfl, Below.trans (below_drewN ((Below.refl _ w).alloc (Nat.le_refl _) _) _) (hb4.mono (by simp))⟩

set_option maxHeartbeats 1000000 in
theorem walk_gtlt (m n x y : Nat) (w : World) (hxy : y < x) (hnm : n < m) (hm : m < 2 ^ 64) (hn : n < 2 ^ 64) (hx : x < 2 ^ 64) (hy : y < 2 ^ 64) :
    Calls Try.prog 7 #[.agg #[.int .u64 (x : Int), .int .u64 (y : Int), .int .u64 (n : Int), .int .u64 (m : Int)]] w (Ret w (.bool true)) := by
  have C := Lib.hid (fun u v W hu hv => range_calls u v W hu hv)
  have m1 : ((hi64 y n : Nat) : Int) ≤ ((hi64 x n : Nat) : Int) := by have := hi_mono (x := y) (y := x) (n := n) (m := n) (by omega) (by omega); omega
  have m2 : ((hi64 x n : Nat) : Int) ≤ ((hi64 x m : Nat) : Int) := by have := hi_mono (x := x) (y := x) (n := n) (m := m) (by omega) (by omega); omega
  have m3 : ((hi64 x y : Nat) : Int) = ((hi64 y x : Nat) : Int) := by rw [hi_comm]
  have H := Lib.hid (And.intro m1 (And.intro m2 m3))
  clear m1 m2 m3
  go_enter Try.func7, Try.ntmps7
  go_wp2
  go_quiet (fail)
  go_wp2_with fail
  refine (C.out y n _ hy hn).mono ?_
  rintro e' w' ⟨rfl, rfl⟩
  go_wp2_with fail
  refine (C.out x n _ hx hn).mono ?_
  rintro e' w' ⟨rfl, rfl⟩
  obtain ⟨m1, m2, m3⟩ := H.out
  go_wp2_with fail
  refine (C.out x n _ hx hn).mono ?_
  rintro e' w' ⟨rfl, rfl⟩
  go_wp2_with fail
  refine (C.out x m _ hx hm).mono ?_
  rintro e' w' ⟨rfl, rfl⟩
  go_wp2_with fail
  refine (C.out x y _ hx hy).mono ?_
  rintro e' w' ⟨rfl, rfl⟩
  go_wp2_with fail
  refine (C.out y x _ hy hx).mono ?_
  rintro e' w' ⟨rfl, rfl⟩
  rw [hi_comm y x]
  go_wp2_with fail
  refine (awake3_calls _).mono ?_
  rintro e' w4 ⟨rfl, hb4⟩
  go_wp2
  go_ret
  exact ⟨rfl, Below.trans (below_drewN ((Below.refl _ w).alloc (Nat.le_refl _) _) _) (hb4.mono (by simp))⟩

set_option maxHeartbeats 1000000 in
theorem walk_gtgt (m n x y : Nat) (w : World) (hxy : y < x) (hnm : m < n) (hm : m < 2 ^ 64) (hn : n < 2 ^ 64) (hx : x < 2 ^ 64) (hy : y < 2 ^ 64) :
    Calls Try.prog 7 #[.agg #[.int .u64 (x : Int), .int .u64 (y : Int), .int .u64 (n : Int), .int .u64 (m : Int)]] w (Ret w (.bool true)) := by
  have C := Lib.hid (fun u v W hu hv => range_calls u v W hu hv)
  have m1 : ((hi64 y n : Nat) : Int) ≤ ((hi64 x n : Nat) : Int) := by have := hi_mono (x := y) (y := x) (n := n) (m := n) (by omega) (by omega); omega
  have m2 : ((hi64 x m : Nat) : Int) ≤ ((hi64 x n : Nat) : Int) := by have := hi_mono (x := x) (y := x) (n := m) (m := n) (by omega) (by omega); omega
  have m3 : ((hi64 x y : Nat) : Int) = ((hi64 y x : Nat) : Int) := by rw [hi_comm]
  have H := Lib.hid (And.intro m1 (And.intro m2 m3))
  clear m1 m2 m3
  go_enter Try.func7, Try.ntmps7
  go_wp2
  go_quiet (fail)
  go_wp2_with fail
  refine (C.out y n _ hy hn).mono ?_
  rintro e' w' ⟨rfl, rfl⟩
  go_wp2_with fail
  refine (C.out x n _ hx hn).mono ?_
  rintro e' w' ⟨rfl, rfl⟩
  obtain ⟨m1, m2, m3⟩ := H.out
  go_wp2_with fail
  refine (C.out x m _ hx hm).mono ?_
  rintro e' w' ⟨rfl, rfl⟩
  go_wp2_with fail
  refine (C.out x n _ hx hn).mono ?_
  rintro e' w' ⟨rfl, rfl⟩
  go_wp2_with fail
  refine (C.out x y _ hx hy).mono ?_
  rintro e' w' ⟨rfl, rfl⟩
  go_wp2_with fail
  refine (C.out y x _ hy hx).mono ?_
  rintro e' w' ⟨rfl, rfl⟩
  rw [hi_comm y x]
  go_wp2_with fail
  refine (awake3_calls _).mono ?_
  rintro e' w4 ⟨rfl, hb4⟩
  go_wp2
  go_ret
  exact ⟨rfl, Below.trans (below_drewN ((Below.refl _ w).alloc (Nat.le_refl _) _) _) (hb4.mono (by simp))⟩

set_option maxHeartbeats 1000000 in
theorem walk_gteq (n x y : Nat) (w : World) (hxy : y < x) (hn : n < 2 ^ 64) (hx : x < 2 ^ 64) (hy : y < 2 ^ 64) :
    Calls Try.prog 7 #[.agg #[.int .u64 (x : Int), .int .u64 (y : Int), .int .u64 (n : Int), .int .u64 (n : Int)]] w (Ret w (.bool true)) := by
  have C := Lib.hid (fun u v W hu hv => range_calls u v W hu hv)
  have m1 : ((hi64 y n : Nat) : Int) ≤ ((hi64 x n : Nat) : Int) := by have := hi_mono (x := y) (y := x) (n := n) (m := n) (by omega) (by omega); omega
  have m2 : ((hi64 x n : Nat) : Int) ≤ ((hi64 x n : Nat) : Int) := by have := hi_mono (x := x) (y := x) (n := n) (m := n) (by omega) (by omega); omega
  have m3 : ((hi64 x y : Nat) : Int) = ((hi64 y x : Nat) : Int) := by rw [hi_comm]
  have H := Lib.hid (And.intro m1 (And.intro m2 m3))
  clear m1 m2 m3
  go_enter Try.func7, Try.ntmps7
  go_wp2
  go_quiet (fail)
  go_wp2_with fail
  refine (C.out y n _ hy hn).mono ?_
  rintro e' w' ⟨rfl, rfl⟩
  go_wp2_with fail
  refine (C.out x n _ hx hn).mono ?_
  rintro e' w' ⟨rfl, rfl⟩
  obtain ⟨m1, m2, m3⟩ := H.out
  go_wp2_with fail
  refine (C.out x n _ hx hn).mono ?_
  rintro e' w' ⟨rfl, rfl⟩
  go_wp2_with fail
  refine (C.out x n _ hx hn).mono ?_
  rintro e' w' ⟨rfl, rfl⟩
  go_wp2_with fail
  refine (C.out x y _ hx hy).mono ?_
  rintro e' w' ⟨rfl, rfl⟩
  go_wp2_with fail
  refine (C.out y x _ hy hx).mono ?_
  rintro e' w' ⟨rfl, rfl⟩
  rw [hi_comm y x]
  go_wp2_with fail
  refine (awake3_calls _).mono ?_
  rintro e' w4 ⟨rfl, hb4⟩
  go_wp2
  go_ret
  exact ⟨rfl, Below.trans (below_drewN ((Below.refl _ w).alloc (Nat.le_refl _) _) _) (hb4.mono (by simp))⟩

set_option maxHeartbeats 1000000 in
theorem walk_eqlt (m n x : Nat) (w : World) (hnm : n < m) (hm : m < 2 ^ 64) (hn : n < 2 ^ 64) (hx : x < 2 ^ 64) :
    Calls Try.prog 7 #[.agg #[.int .u64 (x : Int), .int .u64 (x : Int), .int .u64 (n : Int), .int .u64 (m : Int)]] w (Ret w (.bool true)) := by
  have C := Lib.hid (fun u v W hu hv => range_calls u v W hu hv)
  have m1 : ((hi64 x n : Nat) : Int) ≤ ((hi64 x n : Nat) : Int) := by have := hi_mono (x := x) (y := x) (n := n) (m := n) (by omega) (by omega); omega
  have m2 : ((hi64 x n : Nat) : Int) ≤ ((hi64 x m : Nat) : Int) := by have := hi_mono (x := x) (y := x) (n := n) (m := m) (by omega) (by omega); omega
  have m3 : ((hi64 x x : Nat) : Int) = ((hi64 x x : Nat) : Int) := by rw [hi_comm]
  have H := Lib.hid (And.intro m1 (And.intro m2 m3))
  clear m1 m2 m3
  go_enter Try.func7, Try.ntmps7
  go_wp2
  go_quiet (fail)
  go_wp2_with fail
  refine (C.out x n _ hx hn).mono ?_
  rintro e' w' ⟨rfl, rfl⟩
  go_wp2_with fail
  refine (C.out x n _ hx hn).mono ?_
  rintro e' w' ⟨rfl, rfl⟩
  obtain ⟨m1, m2, m3⟩ := H.out
  go_wp2_with fail
  refine (C.out x n _ hx hn).mono ?_
  rintro e' w' ⟨rfl, rfl⟩
  go_wp2_with fail
  refine (C.out x m _ hx hm).mono ?_
  rintro e' w' ⟨rfl, rfl⟩
  go_wp2_with fail
  refine (C.out x x _ hx hx).mono ?_
  rintro e' w' ⟨rfl, rfl⟩
  go_wp2_with fail
  refine (C.out x x _ hx hx).mono ?_
  rintro e' w' ⟨rfl, rfl⟩
  rw [hi_comm x x]
  go_wp2_with fail
  refine (awake3_calls _).mono ?_
  rintro e' w4 ⟨rfl, hb4⟩
  go_wp2
  go_ret
  exact ⟨rfl, Below.trans (below_drewN ((Below.refl _ w).alloc (Nat.le_refl _) _) _) (hb4.mono (by simp))⟩

set_option maxHeartbeats 1000000 in
theorem walk_eqgt (m n x : Nat) (w : World) (hnm : m < n) (hm : m < 2 ^ 64) (hn : n < 2 ^ 64) (hx : x < 2 ^ 64) :
    Calls Try.prog 7 #[.agg #[.int .u64 (x : Int), .int .u64 (x : Int), .int .u64 (n : Int), .int .u64 (m : Int)]] w (Ret w (.bool true)) := by
  have C := Lib.hid (fun u v W hu hv => range_calls u v W hu hv)
  have m1 : ((hi64 x n : Nat) : Int) ≤ ((hi64 x n : Nat) : Int) := by have := hi_mono (x := x) (y := x) (n := n) (m := n) (by omega) (by omega); omega
  have m2 : ((hi64 x m : Nat) : Int) ≤ ((hi64 x n : Nat) : Int) := by have := hi_mono (x := x) (y := x) (n := m) (m := n) (by omega) (by omega); omega
  have m3 : ((hi64 x x : Nat) : Int) = ((hi64 x x : Nat) : Int) := by rw [hi_comm]
  have H := Lib.hid (And.intro m1 (And.intro m2 m3))
  clear m1 m2 m3
  go_enter Try.func7, Try.ntmps7
  go_wp2
  go_quiet (fail)
  go_wp2_with fail
  refine (C.out x n _ hx hn).mono ?_
  rintro e' w' ⟨rfl, rfl⟩
  go_wp2_with fail
  refine (C.out x n _ hx hn).mono ?_
  rintro e' w' ⟨rfl, rfl⟩
  obtain ⟨m1, m2, m3⟩ := H.out
  go_wp2_with fail
  refine (C.out x m _ hx hm).mono ?_
  rintro e' w' ⟨rfl, rfl⟩
  go_wp2_with fail
  refine (C.out x n _ hx hn).mono ?_
  rintro e' w' ⟨rfl, rfl⟩
  go_wp2_with fail
  refine (C.out x x _ hx hx).mono ?_
  rintro e' w' ⟨rfl, rfl⟩
  go_wp2_with fail
  refine (C.out x x _ hx hx).mono ?_
  rintro e' w' ⟨rfl, rfl⟩
  rw [hi_comm x x]
  go_wp2_with fail
  refine (awake3_calls _).mono ?_
  rintro e' w4 ⟨rfl, hb4⟩
  go_wp2
  go_ret
  exact ⟨rfl, Below.trans (below_drewN ((Below.refl _ w).alloc (Nat.le_refl _) _) _) (hb4.mono (by simp))⟩

set_option maxHeartbeats 1000000 in
theorem walk_eqeq (n x : Nat) (w : World)  (hn : n < 2 ^ 64) (hx : x < 2 ^ 64) :
    Calls Try.prog 7 #[.agg #[.int .u64 (x : Int), .int .u64 (x : Int), .int .u64 (n : Int), .int .u64 (n : Int)]] w (Ret w (.bool true)) := by
  have C := Lib.hid (fun u v W hu hv => range_calls u v W hu hv)
  have m1 : ((hi64 x n : Nat) : Int) ≤ ((hi64 x n : Nat) : Int) := by have := hi_mono (x := x) (y := x) (n := n) (m := n) (by omega) (by omega); omega
  have m2 : ((hi64 x n : Nat) : Int) ≤ ((hi64 x n : Nat) : Int) := by have := hi_mono (x := x) (y := x) (n := n) (m := n) (by omega) (by omega); omega
  have m3 : ((hi64 x x : Nat) : Int) = ((hi64 x x : Nat) : Int) := by rw [hi_comm]
  have H := Lib.hid (And.intro m1 (And.intro m2 m3))
  clear m1 m2 m3
  go_enter Try.func7, Try.ntmps7
  go_wp2
  go_quiet (fail)
  go_wp2_with fail
  refine (C.out x n _ hx hn).mono ?_
  rintro e' w' ⟨rfl, rfl⟩
  go_wp2_with fail
  refine (C.out x n _ hx hn).mono ?_
  rintro e' w' ⟨rfl, rfl⟩
  obtain ⟨m1, m2, m3⟩ := H.out
  go_wp2_with fail
  refine (C.out x n _ hx hn).mono ?_
  rintro e' w' ⟨rfl, rfl⟩
  go_wp2_with fail
  refine (C.out x n _ hx hn).mono ?_
  rintro e' w' ⟨rfl, rfl⟩
  go_wp2_with fail
  refine (C.out x x _ hx hx).mono ?_
  rintro e' w' ⟨rfl, rfl⟩
  go_wp2_with fail
  refine (C.out x x _ hx hx).mono ?_
  rintro e' w' ⟨rfl, rfl⟩
  rw [hi_comm x x]
  go_wp2_with fail
  refine (awake3_calls _).mono ?_
  rintro e' w4 ⟨rfl, hb4⟩
  go_wp2
  go_ret
  exact ⟨rfl, Below.trans (below_drewN ((Below.refl _ w).alloc (Nat.le_refl _) _) _) (hb4.mono (by simp))⟩

theorem walk (q : Q) (w : World) (hq : q.ok) :
    Calls Try.prog 7 #[.agg q.arr] w (Ret w (.bool true)) := by
  obtain ⟨x, y, n, m⟩ := q
  obtain ⟨hx, hy, hn, hm⟩ := hq
  simp only at hx hy hn hm
  unfold Q.arr
  simp only
  rcases Nat.lt_trichotomy x y with h1 | rfl | h1 <;> rcases Nat.lt_trichotomy n m with h2 | rfl | h2
  · exact walk_ltlt m n x y w h1 h2 hm hn hx hy
  · exact walk_lteq n x y w h1 hn hx hy
  · exact walk_ltgt m n x y w h1 h2 hm hn hx hy
  · exact walk_eqlt m n x w h2 hm hn hx
  · exact walk_eqeq n x w hn hx
  · exact walk_eqgt m n x w h2 hm hn hx
  · exact walk_gtlt m n x y w h1 h2 hm hn hx hy
  · exact walk_gteq n x y w h1 hn hx hy
  · exact walk_gtgt m n x y w h1 h2 hm hn hx hy

set_option maxRecDepth 100000 in
theorem lifted (os : Os) (started : os.Started) (H : Type) (enc : TypeId × Value → H) :
    ReturnsInHanded {} Try.checked os 7 .any (Rows.sipRisesSpec.pre6 enc Try.prog Try.f7 Rows.sipRisesRow.domain false) (Rows.sipRisesSpec.post enc Try.prog Try.f7 false true false false) := by
  refine returnsInHanded_of_change (C := Try.checked) own started (by kernel_rfl) Try.func7
    (ChangeSpec.witness6 (enc := enc) (C := Try.checked) false ⟨#[], #[.agg #[.int .u64 0, .int .u64 0, .int .u64 0, .int .u64 0]], []⟩ 8 (by kernel_rfl) (by kernel_rfl) (by kernel_rfl) (by kernel_rfl)) ?_
  intro W base args ds gs before hval0 hW hcnd _
  have hval : ∀ (j : Nat) t v, Try.f7.params[j]? = some t → args[j]? = some v → Value.okWide Try.prog W .any base t v := hval0
  have hW' := hW
  obtain ⟨p, q, hA0, hV, rfl, hfz, hnd⟩ := hW
  have hA : DataW.TrodAll enc Try.prog W 0 (fun _ => true) true Try.f7.params.toList args.toList ds p := hA0
  rw [Try.params7] at hA hval
  obtain ⟨v0, vs0, d0, ds0, p0, q0, hargs, rfl, rfl, h0, r0⟩ := trodAll_cons hA
  obtain ⟨rfl, rfl, rfl⟩ := trodAll_nil r0
  obtain rfl : args = #[v0] := by cases args; simp_all
  obtain ⟨rfl, rfl⟩ := trodVars_none hV
  have k0 := h0
  have lt0 : ∀ x ∈ p0, x.block < W.heap.size := by obtain ⟨m, hm⟩ := k0; exact DataW.trod_lt m _ _ _ hm
  obtain ⟨a0, rfl, w0⟩ := arr4 (hval 0 29 v0 rfl rfl) h0
  clear hA0 hval0
  refine (walk a0 W w0).mono fun e W' ⟨he, bel⟩ => ?_
  subst he
  exact ⟨_, rfl, _, _, _, [], _, [], hW', trodAll_mk1 (shut_bool Try.underlying4 _), (trodAll_cons_mk (Below.trod laidOut (by kernel_rfl) (of_decide_eq_true (by kernel_rfl)) k0 bel lt0) trodAll_mk0), rfl, bel.frame _, fun h => by cases h⟩

theorem over : Rows.sipRisesRow.holds Try.pinned (OpenSpec.ofChange Rows.sipRisesSpec) :=
  OpenClaim.holds_of_wide 7 Try.f7 rfl rfl rfl rfl rfl rfl rfl ⟨rfl, rfl, rfl, rfl, rfl⟩ rfl rfl rfl rfl rfl (by kernel_rfl) Try.func7 (by kernel_rfl)
    (of_decide_eq_true (by kernel_rfl)) (by unfold Func.isWrapper; first | (rw [if_pos (by decide +kernel)]; kernel_rfl) | (rw [if_neg (by decide +kernel)]; exact ⟨rfl, rfl⟩))
    (fun os started H enc _ => lifted os started H enc)

theorem proved : Rows.SipRisesSaid := over
end Go.Proofs.Ytomkebbocbbfjaa.sipRises
