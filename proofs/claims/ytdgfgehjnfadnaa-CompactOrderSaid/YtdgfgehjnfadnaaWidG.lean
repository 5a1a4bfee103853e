/- The contract of wide.Cmp. -/
import Derived.Test.YtdgfgehjnfadnaaWidA
import Derived.Test.YtdgfgehjnfadnaaWidQ
namespace Go.Proofs.Ytdgfgehjnfadnaa
open Go.RowKit
set_option linter.unusedVariables false

/-- The array of a number, as it is loaded. -/
def uC (N : Nat) : Array Value := (cellsW (wd N)).toArray
theorem uC_eq (N : Nat) : uC N = uA N := rfl
/-- Less, equal, greater. -/
def cmpN (x y : Nat) : Int := if x = y then 0 else if x < y then -1 else 1
set_option maxHeartbeats 4000000 in
theorem cmp_calls (x y : Nat) (w : World) (hx : x < 2 ^ 256) (hy : y < 2 ^ 256) :
    Calls Try.prog 19 #[.agg (uA x), .agg (uA y)] w (Ret w (.int .i64 (cmpN x y))) := by
  have gU := guardU
  have heq : ∀ W, (Op.equalIn 10000 25 (.agg (cellsW (wd x)).toArray) (.agg (cellsW (wd y)).toArray)).run Try.prog W = .ok (decide (x = y)) W := fun W => u_equal x y hx hy W
  obtain ⟨D, hD⟩ : ∃ D, D = dif x y := ⟨_, rfl⟩
  have CS : Hid (∀ W, Calls Try.prog 18 #[.agg (cellsW (wd x)).toArray, .agg (cellsW (wd y)).toArray] W (Ret W (.tuple #[.agg (cellsW (wd D)).toArray, .bool (decide (x < y))]))) := Lib.hid fun W => by rw [hD]; exact sub_calls x y W hx hy
  have HA : Hid (Blk ((w.alloc (.cells (uA x) 25)).alloc (.cells (uA y) 25)) w.heap.size (cellsW (wd x)) 25 ∧ Blk ((w.alloc (.cells (uA x) 25)).alloc (.cells (uA y) 25)) (w.heap.size + 1) (cellsW (wd y)) 25 ∧ Below w.heap.size w ((w.alloc (.cells (uA x) 25)).alloc (.cells (uA y) 25))) :=
    Lib.hid ⟨(Blk.new w (uA x) _).alloc _, Blk.new' (w.alloc _) (uA y) _ _ (by simp), ((Below.refl _ w).alloc (Nat.le_refl _) _).alloc (by simp) _⟩
  unfold cmpN
  by_cases h0 : x = y
  · rw [if_pos h0]
    rw [decide_eq_true h0] at heq
    clear CS h0 hD hx hy
    go_enter Try.func19, Try.ntmps19
    go_wp2_with (first
      | (refine at_load 25 (.tmp 2) ?_; refine wpList_load_mid rfl 25 (.tmp 2) rfl w.heap.size 0 rfl (cellsW (wd x)) _ HA.out.1.range Try.underlying25 rfl (sizeW _) ?_)
      | (refine at_load 25 (.tmp 3) ?_; refine wpList_load_mid rfl 25 (.tmp 3) rfl (w.heap.size + 1) 0 rfl (cellsW (wd y)) _ HA.out.2.1.range Try.underlying25 rfl (sizeW _) ?_))
    go_ret
    exact ⟨rfl, HA.out.2.2⟩
  · rw [if_neg h0]
    rw [decide_eq_false h0] at heq
    by_cases h1 : x < y
    · rw [if_pos h1]
      rw [decide_eq_true h1] at CS
      clear h0 hD hx hy h1
      go_enter Try.func19, Try.ntmps19
      go_wp2_with (first
        | (refine at_load 25 (.tmp 2) ?_; refine wpList_load_mid rfl 25 (.tmp 2) rfl w.heap.size 0 rfl (cellsW (wd x)) _ HA.out.1.range Try.underlying25 rfl (sizeW _) ?_)
        | (refine at_load 25 (.tmp 3) ?_; refine wpList_load_mid rfl 25 (.tmp 3) rfl (w.heap.size + 1) 0 rfl (cellsW (wd y)) _ HA.out.2.1.range Try.underlying25 rfl (sizeW _) ?_)
        | (go_at_call 18; refine (CS.out _).mono ?_; rintro e' w1 ⟨rfl, b1⟩)
        | (refine at_store 25 (.tmp 5) (.tmp 14) ?_; refine wpList_store_blk rfl 25 (.tmp 5) (.tmp 14) rfl w1.heap.size zerosW (cellsW (wd D)) _ rfl rfl (Blk.new w1 _ _) rfl (sizeW _) (cellsW_one _) ?_; intro w2 hb2 ho2))
      go_ret
      exact ⟨rfl, ((HA.out.2.2.trans (b1.mono HA.out.2.2.size)).alloc (by have := b1.size; have := HA.out.2.2.size; omega) _).trans (ho2.below (by have := b1.size; have := HA.out.2.2.size; omega))⟩
    · rw [if_neg h1]
      rw [decide_eq_false h1] at CS
      clear h0 hD hx hy h1
      go_enter Try.func19, Try.ntmps19
      go_wp2_with (first
        | (refine at_load 25 (.tmp 2) ?_; refine wpList_load_mid rfl 25 (.tmp 2) rfl w.heap.size 0 rfl (cellsW (wd x)) _ HA.out.1.range Try.underlying25 rfl (sizeW _) ?_)
        | (refine at_load 25 (.tmp 3) ?_; refine wpList_load_mid rfl 25 (.tmp 3) rfl (w.heap.size + 1) 0 rfl (cellsW (wd y)) _ HA.out.2.1.range Try.underlying25 rfl (sizeW _) ?_)
        | (go_at_call 18; refine (CS.out _).mono ?_; rintro e' w1 ⟨rfl, b1⟩)
        | (refine at_store 25 (.tmp 5) (.tmp 14) ?_; refine wpList_store_blk rfl 25 (.tmp 5) (.tmp 14) rfl w1.heap.size zerosW (cellsW (wd D)) _ rfl rfl (Blk.new w1 _ _) rfl (sizeW _) (cellsW_one _) ?_; intro w2 hb2 ho2))
      go_ret
      exact ⟨rfl, ((HA.out.2.2.trans (b1.mono HA.out.2.2.size)).alloc (by have := b1.size; have := HA.out.2.2.size; omega) _).trans (ho2.below (by have := b1.size; have := HA.out.2.2.size; omega))⟩
end Go.Proofs.Ytdgfgehjnfadnaa
