/- Merged texts: WidG WidP WidZ WidV WidH. -/
import Derived.Test.YthpigninbeommaaDoorMbl
import Derived.Test.YthpigninbeommaaDoorMbm
import Derived.Test.YthpigninbeommaaDoorMbi
import Derived.Test.YthpigninbeommaaDoorMbn
import Derived.Deep.RegionHeld3
import Derived.Deep.CutRange
import Derived.Deep.DeepCutAuto
/- The contract of wide.Cmp. -/
namespace Go.Proofs.YthpigninbeommaaDoor
open Go.RowKit
set_option linter.unusedVariables false

/-- The array of a number, as it is loaded. -/
def uC (N : Nat) : Array Value := (cellsW (wd N)).toArray
set_option maxRecDepth 100000 in
theorem uC_eq (N : Nat) : uC N = uA N := rfl
/-- Less, equal, greater. -/
def cmpN (x y : Nat) : Int := if x = y then 0 else if x < y then -1 else 1
set_option maxRecDepth 100000 in
set_option maxHeartbeats 4000000 in
theorem cmp_calls (x y : Nat) (w : World) (hx : x < 2 ^ 256) (hy : y < 2 ^ 256) :
    Calls Tryd.prog 44 #[.agg (uA x), .agg (uA y)] w (Ret w (.int .i64 (cmpN x y))) := by
  have gU := guardU
  have heq : ∀ W, (Op.equalIn 10000 61 (.agg (cellsW (wd x)).toArray) (.agg (cellsW (wd y)).toArray)).run Tryd.prog W = .ok (decide (x = y)) W := fun W => u_equal x y hx hy W
  obtain ⟨D, hD⟩ : ∃ D, D = dif x y := ⟨_, rfl⟩
  have CS : Hid (∀ W, Calls Tryd.prog 58 #[.agg (cellsW (wd x)).toArray, .agg (cellsW (wd y)).toArray] W (Ret W (.tuple #[.agg (cellsW (wd D)).toArray, .bool (decide (x < y))]))) := Lib.hid fun W => by rw [hD]; exact sub_calls x y W hx hy
  have HA : Hid (Blk ((w.alloc (.cells (uA x) 61)).alloc (.cells (uA y) 61)) w.heap.size (cellsW (wd x)) 61 ∧ Blk ((w.alloc (.cells (uA x) 61)).alloc (.cells (uA y) 61)) (w.heap.size + 1) (cellsW (wd y)) 61 ∧ Below w.heap.size w ((w.alloc (.cells (uA x) 61)).alloc (.cells (uA y) 61))) :=
    Lib.hid ⟨(Blk.new w (uA x) _).alloc _, Blk.new' (w.alloc _) (uA y) _ _ (by simp), ((Below.refl _ w).alloc (Nat.le_refl _) _).alloc (by simp) _⟩
  unfold cmpN
  by_cases h0 : x = y
  · rw [if_pos h0]
    rw [decide_eq_true h0] at heq
    clear CS h0 hD hx hy
    go_enter Tryd.func44, Tryd.ntmps44
    go_wp2_with (first
      | (refine at_load 61 (.tmp 2) ?_; refine wpList_load_mid rfl 61 (.tmp 2) rfl w.heap.size 0 rfl (cellsW (wd x)) _ HA.out.1.range Tryd.underlying61 rfl (sizeW _) ?_)
      | (refine at_load 61 (.tmp 3) ?_; refine wpList_load_mid rfl 61 (.tmp 3) rfl (w.heap.size + 1) 0 rfl (cellsW (wd y)) _ HA.out.2.1.range Tryd.underlying61 rfl (sizeW _) ?_))
    go_ret
    exact ⟨rfl, HA.out.2.2⟩
  · rw [if_neg h0]
    rw [decide_eq_false h0] at heq
    by_cases h1 : x < y
    · rw [if_pos h1]
      rw [decide_eq_true h1] at CS
      clear h0 hD hx hy h1
      go_enter Tryd.func44, Tryd.ntmps44
      go_wp2_with (first
        | (refine at_load 61 (.tmp 2) ?_; refine wpList_load_mid rfl 61 (.tmp 2) rfl w.heap.size 0 rfl (cellsW (wd x)) _ HA.out.1.range Tryd.underlying61 rfl (sizeW _) ?_)
        | (refine at_load 61 (.tmp 3) ?_; refine wpList_load_mid rfl 61 (.tmp 3) rfl (w.heap.size + 1) 0 rfl (cellsW (wd y)) _ HA.out.2.1.range Tryd.underlying61 rfl (sizeW _) ?_)
        | (go_at_call 58; refine (CS.out _).mono ?_; rintro e' w1 ⟨rfl, b1⟩)
        | (refine at_store 61 (.tmp 5) (.tmp 14) ?_; refine wpList_store_blk rfl 61 (.tmp 5) (.tmp 14) rfl w1.heap.size zerosW (cellsW (wd D)) _ rfl rfl (Blk.new w1 _ _) rfl (sizeW _) (cellsW_one _) ?_; intro w2 hb2 ho2))
      go_ret
      exact ⟨rfl, ((HA.out.2.2.trans (b1.mono HA.out.2.2.size)).alloc (by have := b1.size; have := HA.out.2.2.size; omega) _).trans (ho2.below (by have := b1.size; have := HA.out.2.2.size; omega))⟩
    · rw [if_neg h1]
      rw [decide_eq_false h1] at CS
      clear h0 hD hx hy h1
      go_enter Tryd.func44, Tryd.ntmps44
      go_wp2_with (first
        | (refine at_load 61 (.tmp 2) ?_; refine wpList_load_mid rfl 61 (.tmp 2) rfl w.heap.size 0 rfl (cellsW (wd x)) _ HA.out.1.range Tryd.underlying61 rfl (sizeW _) ?_)
        | (refine at_load 61 (.tmp 3) ?_; refine wpList_load_mid rfl 61 (.tmp 3) rfl (w.heap.size + 1) 0 rfl (cellsW (wd y)) _ HA.out.2.1.range Tryd.underlying61 rfl (sizeW _) ?_)
        | (go_at_call 58; refine (CS.out _).mono ?_; rintro e' w1 ⟨rfl, b1⟩)
        | (refine at_store 61 (.tmp 5) (.tmp 14) ?_; refine wpList_store_blk rfl 61 (.tmp 5) (.tmp 14) rfl w1.heap.size zerosW (cellsW (wd D)) _ rfl rfl (Blk.new w1 _ _) rfl (sizeW _) (cellsW_one _) ?_; intro w2 hb2 ho2))
      go_ret
      exact ⟨rfl, ((HA.out.2.2.trans (b1.mono HA.out.2.2.size)).alloc (by have := b1.size; have := HA.out.2.2.size; omega) _).trans (ho2.below (by have := b1.size; have := HA.out.2.2.size; omega))⟩
end Go.Proofs.YthpigninbeommaaDoor

/- Plain mathematics of wide.Quo: bit by bit, with what is left below the divisor. -/
namespace Go.Proofs.YthpigninbeommaaDoor

set_option maxRecDepth 100000 in
/-- A bit that is set where none stands below. -/
theorem wd_bit (Q k j : Nat) (h : Q % 2 ^ (k + 1) = 0) : wd (Q + 2 ^ k) j = if j = k / 64 then wd Q j + 2 ^ (k % 64) else wd Q j := by
  obtain ⟨c, hc⟩ : ∃ c, Q = 2 ^ (k + 1) * c := ⟨Q / 2 ^ (k + 1), by have := Nat.div_add_mod Q (2 ^ (k + 1)); omega⟩
  have hk := Nat.div_add_mod k 64
  have hp := Nat.mod_lt k (show 0 < 64 by decide)
  rcases Nat.lt_trichotomy j (k / 64) with hj | hj | hj
  · rw [if_neg (by omega)]
    unfold wd
    have e : k = 64 * j + (64 + (k - 64 * j - 64)) := by omega
    have e2 : 2 ^ k = 2 ^ (64 * j) * (2 ^ 64 * 2 ^ (k - 64 * j - 64)) := by rw [← Nat.pow_add, ← Nat.pow_add, ← e]
    rw [e2, Nat.add_mul_div_left _ _ (pP j), Nat.add_mul_mod_self_left]
  · rw [if_pos hj]
    subst hj
    obtain ⟨p, hpe⟩ : ∃ p, p = k % 64 := ⟨_, rfl⟩
    obtain ⟨m, hm⟩ : ∃ m, m = k / 64 := ⟨_, rfl⟩
    rw [← hpe, ← hm]
    have ek : k = 64 * m + p := by omega
    have e2 : 2 ^ k = 2 ^ (64 * m) * 2 ^ p := by rw [← Nat.pow_add, ← ek]
    have e3 : 2 ^ (k + 1) = 2 ^ (64 * m) * 2 ^ (p + 1) := by rw [← Nat.pow_add]; congr 1; omega
    have hq : Q / 2 ^ (64 * m) = 2 ^ (p + 1) * c := by rw [hc, e3, Nat.mul_assoc, Nat.mul_div_cancel_left _ (pP m)]
    have e64 : 2 ^ 64 = 2 ^ (p + 1) * 2 ^ (63 - p) := by rw [← Nat.pow_add]; congr 1; omega
    have hlt : c % 2 ^ (63 - p) < 2 ^ (63 - p) := Nat.mod_lt _ (Nat.pow_pos (by decide))
    have hpp : 2 ^ p < 2 ^ (p + 1) := Nat.pow_lt_pow_right (by decide) (by omega)
    have hw : wd Q m = 2 ^ (p + 1) * (c % 2 ^ (63 - p)) := by
      unfold wd
      rw [hq, e64, Nat.mul_mod_mul_left]
    have hle : 2 ^ (p + 1) * (c % 2 ^ (63 - p)) + 2 ^ p < 2 ^ 64 := by
      rw [e64]
      calc 2 ^ (p + 1) * (c % 2 ^ (63 - p)) + 2 ^ p < 2 ^ (p + 1) * (c % 2 ^ (63 - p)) + 2 ^ (p + 1) := by omega
        _ = 2 ^ (p + 1) * (c % 2 ^ (63 - p) + 1) := by rw [Nat.mul_add, Nat.mul_one]
        _ ≤ 2 ^ (p + 1) * 2 ^ (63 - p) := Nat.mul_le_mul_left _ hlt
    rw [hw]
    show (Q + 2 ^ k) / 2 ^ (64 * m) % 2 ^ 64 = _
    rw [e2, Nat.add_mul_div_left _ _ (pP m), hq]
    have e5 : (2 ^ (p + 1) * c + 2 ^ p) % 2 ^ 64 = (2 ^ (p + 1) * (c % 2 ^ (63 - p)) + 2 ^ p) % 2 ^ 64 := by
      have h1 : 2 ^ (p + 1) * c % 2 ^ 64 = 2 ^ (p + 1) * (c % 2 ^ (63 - p)) := by rw [e64, Nat.mul_mod_mul_left]
      rw [Nat.add_mod, h1, Nat.mod_eq_of_lt (a := 2 ^ p) (b := 2 ^ 64) (by omega)]
    rw [e5, Nat.mod_eq_of_lt hle]
  · rw [if_neg (by omega)]
    unfold wd
    have e : 64 * j = (k + 1) + (64 * j - (k + 1)) := by omega
    have hk1 : 0 < 2 ^ (k + 1) := Nat.pow_pos (by decide)
    have hlt : 2 ^ k < 2 ^ (k + 1) := Nat.pow_lt_pow_right (by decide) (by omega)
    rw [e, Nat.pow_add, ← Nat.div_div_eq_div_mul, ← Nat.div_div_eq_div_mul, hc, Nat.mul_add_div hk1, Nat.div_eq_of_lt hlt, Nat.add_zero, Nat.mul_div_cancel_left _ hk1]
set_option maxRecDepth 100000 in
/-- What a word has below the bit. -/
theorem wd_low (Q k : Nat) (h : Q % 2 ^ (k + 1) = 0) : wd Q (k / 64) % 2 ^ (k % 64 + 1) = 0 := by
  obtain ⟨c, hc⟩ : ∃ c, Q = 2 ^ (k + 1) * c := ⟨Q / 2 ^ (k + 1), by have := Nat.div_add_mod Q (2 ^ (k + 1)); omega⟩
  have hk := Nat.div_add_mod k 64
  have hp := Nat.mod_lt k (show 0 < 64 by decide)
  generalize k / 64 = m at *
  generalize k % 64 = p at *
  have e3 : 2 ^ (k + 1) = 2 ^ (64 * m) * 2 ^ (p + 1) := by rw [← Nat.pow_add]; congr 1; omega
  have hq : Q / 2 ^ (64 * m) = 2 ^ (p + 1) * c := by rw [hc, e3, Nat.mul_assoc, Nat.mul_div_cancel_left _ (pP m)]
  have e64 : 2 ^ 64 = 2 ^ (p + 1) * 2 ^ (63 - p) := by rw [← Nat.pow_add]; congr 1; omega
  unfold wd
  rw [hq, e64, Nat.mul_mod_mul_left, Nat.mul_mod_right]
/-- The state of a division: the quotient so far, what is left, how many bits are left. -/
def QS (x y Q R k : Nat) : Prop := x = Q * y + R ∧ R < y * 2 ^ k ∧ Q % 2 ^ k = 0
set_option maxRecDepth 100000 in
theorem QS.start (x y : Nat) (P : Nat) (hy : y ≠ 0) (h : bl x + 1 ≤ bl y + P) : QS x y 0 x P := by
  refine ⟨by simp, ?_, by simp⟩
  have h1 := bl_ge hy
  have h2 := bl_lt x
  have h3 := bl_pos hy
  calc x < 2 ^ bl x := h2
    _ ≤ 2 ^ (bl y - 1 + P) := Nat.pow_le_pow_right (by decide) (by omega)
    _ = 2 ^ (bl y - 1) * 2 ^ P := Nat.pow_add _ _ _
    _ ≤ y * 2 ^ P := Nat.mul_le_mul_right _ h1
set_option maxRecDepth 100000 in
theorem QS.more {x y Q R k : Nat} (h : QS x y Q R (k + 1)) (hr : y * 2 ^ k ≤ R) : QS x y (Q + 2 ^ k) (R - y * 2 ^ k) k := by
  obtain ⟨h1, h2, h3⟩ := h
  refine ⟨?_, ?_, ?_⟩
  · rw [Nat.add_mul, Nat.mul_comm (2 ^ k) y]
    omega
  · have e : y * 2 ^ (k + 1) = y * 2 ^ k + y * 2 ^ k := by rw [Nat.pow_succ, ← Nat.mul_assoc]; omega
    omega
  · have e : 2 ^ (k + 1) = 2 ^ k * 2 := Nat.pow_succ _ _
    have h4 : Q % 2 ^ k = 0 := by
      have := Nat.mod_mul_right_mod Q (2 ^ k) 2
      rw [← e, h3, Nat.zero_mod] at this
      exact this.symm
    rw [Nat.add_mod_right, h4]
set_option maxRecDepth 100000 in
theorem QS.less {x y Q R k : Nat} (h : QS x y Q R (k + 1)) (hr : R < y * 2 ^ k) : QS x y Q R k := by
  obtain ⟨h1, h2, h3⟩ := h
  refine ⟨h1, hr, ?_⟩
  have e : 2 ^ (k + 1) = 2 ^ k * 2 := Nat.pow_succ _ _
  have := Nat.mod_mul_right_mod Q (2 ^ k) 2
  rw [← e, h3, Nat.zero_mod] at this
  exact this.symm
set_option maxRecDepth 100000 in
theorem QS.fin {x y Q R : Nat} (h : QS x y Q R 0) : Q = x / y ∧ R = x % y := by
  obtain ⟨h1, h2, _⟩ := h
  rw [Nat.pow_zero, Nat.mul_one] at h2
  have hyp : 0 < y := by omega
  rw [h1]
  refine ⟨?_, ?_⟩
  · rw [Nat.mul_comm Q y, Nat.mul_add_div hyp, Nat.div_eq_of_lt h2, Nat.add_zero]
  · rw [Nat.mul_comm Q y, Nat.mul_add_mod, Nat.mod_eq_of_lt h2]
set_option maxRecDepth 100000 in
theorem QS.le {x y Q R k : Nat} (h : QS x y Q R k) : R ≤ x := by have := h.1; omega
set_option maxRecDepth 100000 in
/-- The divisor's shift fits. -/
theorem shl_fits (x y k P : Nat) (hx : x < 2 ^ 256) (_hy : y ≠ 0) (hP : k < P) (h : bl y + P ≤ bl x + 1) : y * 2 ^ k < 2 ^ 256 := by
  have h1 := bl_lt y
  have h2 : bl x ≤ 256 := (bl_le x 256).2 hx
  calc y * 2 ^ k < 2 ^ bl y * 2 ^ k := Nat.mul_lt_mul_of_pos_right h1 (Nat.pow_pos (by decide))
    _ = 2 ^ (bl y + k) := (Nat.pow_add _ _ _).symm
    _ ≤ 2 ^ 256 := Nat.pow_le_pow_right (by decide) (by omega)
end Go.Proofs.YthpigninbeommaaDoor

/- The contract of wide.Quo. -/
namespace Go.Proofs.YthpigninbeommaaDoor
open Go.RowKit
set_option linter.unusedVariables false
set_option linter.unusedSimpArgs false

set_option maxRecDepth 100000 in
theorem Blk.step {w w' : World} {g : Nat} {cs : List Value} {t : TypeId} (h : Blk w g cs t) (hb : Below w.heap.size w w') : Blk w' g cs t := h.below hb h.lt
set_option maxRecDepth 100000 in
theorem Still.setN {w W W' : World} (h : Still w W) (h' : Still w W') (i : Nat) (v : Value) : Still w (W.setCell ⟨W'.heap.size, i, none⟩ v) := Below.setCell h h'.size v
set_option maxRecDepth 100000 in
/-- A whole array or struct is stored into its block: one operation. -/
theorem wp_store_blk {P : Program} {op : Oper} {a : Act} {w : World} {K : Act → World → Prop} {Q : Exit → Act → World → Prop} (ty : TypeId) (x y : Operand) (ho : op.op = .store ty x y)
    (g : Nat) (cs0 cells : List Value) (t : TypeId) (hx : a.eval x = .pointer (some ⟨g, 0, none⟩)) (hy : a.eval y = .agg cells.toArray) (hb : Blk w g cs0 t) (hl : cs0.length = cells.length)
    (hi : (P.info? ty).map (·.size) = some cells.length) (h1 : ∀ v ∈ cells, v.oneCell' = true)
    (h : ∀ w2, Blk w2 g cells t → Only g w w2 → K (a.put op.dst undef) w2) : op.wp P a w K Q := by
  refine wp_store_mid ty x y ho g 0 cells.toArray hx hy (hb.there 0 _ (by rw [List.size_toArray]; omega)) (by rw [List.size_toArray]; exact hi) (all_oneCell_toArray h1) ?_
  have hs := Blk.setCells cells w cs0 0 hb (by omega)
  rw [over_all _ _ hl] at hs
  exact h _ hs (Only.setCells _ _ _ _ (Only.refl g w))
/-- The six blocks of Quo. -/
structure QB (w wr : World) (x y : Nat) (f : Nat → Nat) (R : Nat) : Prop where
  a : Blk wr w.heap.size (cellsW (wd x)) 61
  b : Blk wr (w.heap.size + 1) (cellsW (wd y)) 61
  c : Blk wr (w.heap.size + 1 + 1) zerosW 61
  d : Blk wr (w.heap.size + 1 + 1 + 1) zerosW 61
  q : Blk wr (w.heap.size + 1 + 1 + 1 + 1) (cellsW f) 61
  r : Blk wr (w.heap.size + 1 + 1 + 1 + 1 + 1) (cellsW (wd R)) 61
  below : Below w.heap.size w wr
set_option maxRecDepth 100000 in
theorem QB.step {w wr w2 : World} {x y : Nat} {f : Nat → Nat} {R : Nat} (h : QB w wr x y f R) (s : Still wr w2) : QB w w2 x y f R :=
  ⟨h.a.step s, h.b.step s, h.c.step s, h.d.step s, h.q.step s, h.r.step s, Below.trans h.below (Below.mono s h.below.size)⟩
set_option maxRecDepth 100000 in
theorem QB.rest {w wr w2 : World} {x y : Nat} {f : Nat → Nat} {R R2 : Nat} (h : QB w wr x y f R) (hb : Blk w2 (w.heap.size + 1 + 1 + 1 + 1 + 1) (cellsW (wd R2)) 61) (ho : Only (w.heap.size + 1 + 1 + 1 + 1 + 1) wr w2) : QB w w2 x y f R2 :=
  ⟨ho.blk h.a (by omega), ho.blk h.b (by omega), ho.blk h.c (by omega), ho.blk h.d (by omega), ho.blk h.q (by omega), hb, h.below.trans (ho.below (by omega))⟩
set_option maxRecDepth 100000 in
theorem QB.quo2 {w wr : World} {x y : Nat} {f : Nat → Nat} {R : Nat} (h : QB w wr x y f R) (t v : Nat) (ht : t < 4) : QB w (wr.setCell ⟨w.heap.size + 1 + 1 + 1 + 1, t, none⟩ (.int .u64 (v : Int))) x y (upd f t v) R :=
  ⟨h.a.set_other _ _ (by simp <;> omega), h.b.set_other _ _ (by simp <;> omega), h.c.set_other _ _ (by simp <;> omega), h.d.set_other _ _ (by simp <;> omega), by rw [← cellsW_set f t v ht]; exact h.q.set t _, h.r.set_other _ _ (by simp <;> omega), h.below.setCell (by simp <;> omega) _⟩
set_option maxRecDepth 100000 in
theorem QB.quo {w wr : World} {x y : Nat} {f : Nat → Nat} {R : Nat} (h : QB w wr x y f R) (t v : Nat) (ht : t < 4) : QB w (wr.setCell ⟨w.heap.size + 1 + 1 + 1 + 1, t, none⟩ (.int .u64 (v : Int))).drew x y (upd f t v) R :=
  ⟨(h.a.set_other _ _ (by simp <;> omega)).drewN 1, (h.b.set_other _ _ (by simp <;> omega)).drewN 1, (h.c.set_other _ _ (by simp <;> omega)).drewN 1, (h.d.set_other _ _ (by simp <;> omega)).drewN 1, by rw [← cellsW_set f t v ht]; exact (h.q.set t _).drewN 1, (h.r.set_other _ _ (by simp <;> omega)).drewN 1, below_drewN (h.below.setCell (by simp <;> omega) _) 1⟩

end Go.Proofs.YthpigninbeommaaDoor

/- Blocks and worlds of the laws over wide numbers; the contract of wide.Quo by 0. -/
namespace Go.Proofs.YthpigninbeommaaDoor
open Go.RowKit
set_option linter.unusedVariables false
set_option linter.unusedSimpArgs false

set_option maxRecDepth 100000 in
/-- A store into a block that was made right ahead leaves all that was there. -/
theorem Only.still {W w2 : World} {o : Obj} (h : Only W.heap.size (W.alloc o) w2) : Below W.heap.size W w2 := Below.trans ((Below.refl _ W).alloc (Nat.le_refl _) o) (h.below (Nat.le_refl _))
set_option maxRecDepth 100000 in
theorem Blk.stepS {w w' : World} {g : Nat} {cs : List Value} {t : TypeId} (h : Blk w g cs t) (hb : Still w w') : Blk w' g cs t := h.below hb h.lt
set_option maxRecDepth 100000 in
theorem RdI.still {w W : World} {A : Option Addr} {n : Nat} {l : List Nat} (h : RdI w A n l) (s : Still w W) : RdI W A n l := h.below s
set_option maxRecDepth 100000 in
/-- A whole array is read under a guard that holds. -/
theorem wpList_load_midg {P : Program} {ops : Array Oper} {rest : List Oper} {op : Oper} {a : Act} {w : World} {Q : Exit → Act → World → Prop} (hw : Region.wanted op (yielded ops a.tmps) = true) (ty : TypeId) (x : Operand) (ho : op.op = .load ty x)
    (b o : Nat) (hx : a.eval x = .pointer (some ⟨b, o, none⟩)) (cs : List Value) (d : TypeDesc) (hc : w.rangeAt b o cs)
    (hu : P.underlying ty = some d) (hd : d.isRow = true) (hi : (P.info? ty).map (·.size) = some cs.length)
    (h : wpList P ops Q rest (a.put op.dst (.agg cs.toArray)) w) : wpList P ops Q (op :: rest) a w := by
  unfold wpList
  rw [if_pos hw]
  exact Or.inl (wp_load_mid ty x ho b o hx cs d hc hu hd hi h)
set_option maxRecDepth 100000 in
theorem at_loadg {P : Program} {ops : Array Oper} {rest : List Oper} {Q : Exit → Act → World → Prop} {a : Act} {w : World} {dst : Option Tmp} {t : TypeId} {p : String} {af : Array Edge} {gd : Nat × Bool} (ty : TypeId) (x : Operand)
    (h : wpList P ops Q ({ dst := dst, op := .load ty x, type := t, pos := p, after := af, guard := some gd } :: rest) a w) : wpList P ops Q ({ dst := dst, op := .load ty x, type := t, pos := p, after := af, guard := some gd } :: rest) a w := h
end Go.Proofs.YthpigninbeommaaDoor

/- The contracts of the document's answers in one form, for the laws over wide numbers. -/
namespace Go.Proofs.YthpigninbeommaaDoor
open Go.RowKit
set_option linter.unusedVariables false

/-- V holds the words of n. -/
def Wv (n : Nat) (V : List Value) : Prop := n < 2 ^ 256 ∧ V = cellsW (wd n)
/-- As many digits as the document's answers are called with here. -/
def Few (n : Nat) : Prop := n < 65536 ^ 250
set_option maxRecDepth 100000 in
theorem Few.wide {n : Nat} (h : n < 2 ^ 256) : Few n := Nat.lt_trans h (by decide)
set_option maxRecDepth 100000 in
theorem pow_few (j k : Nat) (h : k < 16 * j) : 2 ^ k < 65536 ^ j := by
  rw [show (65536 : Nat) = 2 ^ 16 from rfl, ← Nat.pow_mul]
  exact Nat.pow_lt_pow_right (by decide) h
set_option maxRecDepth 100000 in
theorem Few.pow {k : Nat} (h : k < 4000) : Few (2 ^ k) := pow_few 250 k (by omega)
set_option maxRecDepth 100000 in
theorem Few.le {w : World} {A : Option Addr} {m n : Nat} (hf : Few n) (h : RdI w A m (digs n)) : m ≤ 10000 := Nat.le_trans (digs_le h hf) (by decide)
set_option maxRecDepth 100000 in
theorem mulV {a b : Nat} (fa : Few a) (fb : Few b) (W : World) (A1 : Option Addr) (n1 c1 : Nat) (A2 : Option Addr) (n2 c2 : Nat) (h1 : RdI W A1 n1 (digs a)) (h2 : RdI W A2 n2 (digs b)) :
    Calls Tryd.prog 59 #[.slice A1 n1 c1, .slice A2 n2 c2] W (MkB W (a * b)) := bmul_calls A1 A2 n1 n2 c1 c2 a b W (fa.le h1) (fb.le h2) h1 h2
set_option maxRecDepth 100000 in
theorem lessV {a b : Nat} (fa : Few a) (fb : Few b) (W : World) (A1 : Option Addr) (n1 c1 : Nat) (A2 : Option Addr) (n2 c2 : Nat) (h1 : RdI W A1 n1 (digs a)) (h2 : RdI W A2 n2 (digs b)) (B : Bool) (hB : decide (a < b) = B) :
    Calls Tryd.prog 32 #[.slice A1 n1 c1, .slice A2 n2 c2] W (Ret W (.bool B)) := by
  rw [← hB]
  exact (bless_calls A1 A2 n1 n2 c1 c2 a b W (fa.le h1) (fb.le h2) h1 h2).mono fun e w' h => ⟨h.1, by obtain ⟨_, n, rfl⟩ := h; exact below_drewN (Below.refl _ _) n⟩
set_option maxRecDepth 100000 in
theorem Below.of_drewN (w : World) (n : Nat) : Below w.heap.size w (w.drewN n) := below_drewN (Below.refl _ _) n
end Go.Proofs.YthpigninbeommaaDoor
