/- Merged texts: BrnT. -/
import Derived.Test.YtnfcnjboeocnmaaDoorMbm
/- Layer 9: a list of hashes, maybe none, appended; a slice of hashes from its second one on. -/
namespace Go.Proofs.YtnfcnjboeocnmaaDoor
open Go.RowKit
set_option linter.unusedVariables false
set_option linter.unusedSimpArgs false

set_option maxRecDepth 100000 in
/-- append of a list of hashes, maybe of none. -/
theorem wp_appZs {o : Oper} {a : Act} {W : World} {K : Act → World → Prop} {Q : Exit → Act → World → Prop} (s x : Operand) (ho : o.op = .call { callee := .builtin .append, args := #[s, x], argTypes := #[22, 22] })
    (base : Nat) (w : World) (hb : Below base w W) (hbase : base ≤ w.heap.size) (A : Option Addr) (n c : Nat) (L : List (List UInt8)) (hs : a.eval s = .slice A n c) (hown : OwnH W base 35 A n c L) (X : Option Addr) (m c2 : Nat) (L2 : List (List UInt8)) (hx : a.eval x = .slice X m c2) (hr : RdH W X m L2)
    (hn : n + m ≤ 1000000) (h : ∀ A' c' w', OwnH w' base 35 A' (n + m) c' (L ++ L2) → Frm (fun i => blkOf A = some i) W w' → Below base w w' → K (a.put o.dst (.slice A' (n + m) c')) w') : o.wp Tryd.prog a W K Q := by
  rcases Nat.eq_zero_or_pos m with h0 | hm
  · subst h0
    obtain rfl : L2 = [] := List.eq_nil_of_length_eq_zero hr.len
    have hbW : base ≤ W.heap.size := Nat.le_trans hbase hb.size
    have key : ∃ A' c' w', (Builtin.append_ #[22, 22] o.type #[.slice A n c, .slice X 0 c2]).run Tryd.prog W = .ok (.slice A' n c') w' ∧ OwnH w' base 35 A' n c' L ∧ W.grownBy w' (Value.ownBlock (.slice A n c)) := by
      obtain ⟨i, hi, hzz⟩ := Option.map_eq_some_iff.1 infoG
      simp only [Prod.mk.injEq] at hzz
      obtain ⟨hz, hsz, hby⟩ := hzz
      cases X with
      | none =>
        refine ⟨A, c, W, ?_, hown, ⟨rfl, rfl, rfl, Nat.le_refl _, fun _ _ _ => rfl⟩⟩
        rcases hown.2.2.2 with ⟨e1, _⟩ | ⟨g, cap, cur, e1, _, _, hnc, _⟩
        · injection e1 with e1 e2 e3
          subst e1 e2 e3
          simp [Builtin.append_, run_underlying Tryd.underlying22, sizeOf, typeInfo, hi, Builtin.lenOf, Builtin.firstCells]
        · injection e1 with e1 e2 e3
          subst e1 e3
          simp [Builtin.append_, run_underlying Tryd.underlying22, sizeOf, typeInfo, hi, Builtin.lenOf, Builtin.firstCells, hnc, storeCells]
      | some ad =>
        obtain ⟨v', w', hrun, h4, h5, _, _⟩ := run_append_own_at (P := Tryd.prog) W base 22 o.type 35 i (.agg z32.toArray) 32 32 Tryd.underlying22 hi hz hsz hby rfl (by omega) _ n _ hown.2.2 ad 0 c2 [] (by simp) (by simp) (by simp) (by unfold maxLen; omega) (by omega) hbW
        obtain ⟨A', c', rfl⟩ : ∃ A' c', v' = .slice A' n c' := by
          rcases h4.2 with ⟨e, h0⟩ | ⟨g', cap, cur, rfl, _⟩
          · exact ⟨none, 0, by rw [e]; congr 1; omega⟩
          · exact ⟨_, _, rfl⟩
        rw [List.append_nil] at h4
        exact ⟨A', c', w', hrun, ⟨hown.1, hown.2.1, h4⟩, h5⟩
    obtain ⟨A', c', w', hrun, h4, h5⟩ := key
    have hblk : ∀ k, Value.ownBlock (.slice A n c) = some k → base ≤ k := fun k hk => by
      rcases hown.2.2.2 with ⟨hv, _⟩ | ⟨g', cap, cur, hv, hb', _⟩
      · injection hv with e1; rw [e1] at hk; simp [Value.ownBlock] at hk
      · injection hv with e1
        rw [e1] at hk
        have : g' = k := by simpa [Value.ownBlock] using hk
        omega
    unfold Oper.wp execOp
    simp only [ho, resolve, invoke, builtin, Sem.run_bind, Sem.run_pure, Result.andThen_ok, List.map_toArray, List.map_cons, List.map_nil, hs, hx, hrun]
    exact h A' c' w' (by rw [List.append_nil]; exact h4) (frm_grownH h5) (hb.trans ((Below.refl _ _).grown h5 hbW hblk))
  · exact wp_appHs s x ho base w hb hbase A n c L hs hown X m c2 L2 hx hr hm hn h
set_option maxRecDepth 100000 in
/-- A list's row is no row of another type. -/
theorem OwnH.ne_blk {w : World} {b n c g : Nat} {e t : TypeId} {A : Option Addr} {L : List (List UInt8)} {cs : List Value} (h : OwnH w b e A n c L) (hb : Blk w g cs t) (hne : e ≠ t) : ∀ k, blkOf A = some k → k ≠ g := fun k hk hkg => by
  rcases h.2.2.2 with ⟨hv, _⟩ | ⟨g', cap, cur, hv, _, hr, _⟩
  · injection hv with e1; rw [e1] at hk; simp [blkOf] at hk
  · injection hv with e1
    rw [e1] at hk
    have e2 : g' = k := by simpa [blkOf] using hk
    rw [e2, hkg] at hr
    have hb' : w.heap[g]? = some (.cells cs.toArray t (0, 0)) := hb
    rw [hb'] at hr
    injection hr with e3
    injection e3 with _ e4
    exact hne e4.symm
def sub32 (A : Option Addr) (c : Nat) : Option Addr := if c = 1 then A else A.map (·.add 32)
set_option maxRecDepth 100000 in
theorem run_sub32 (A : Option Addr) (n c : Nat) (hn : 1 ≤ n) (w : World) : (Instr.sliceAt 22 (.slice A n c) (some (.int .i64 1)) none none).run Tryd.prog w = .ok (.slice (sub32 A c) (n - 1) (c - 1)) w := by
  obtain ⟨i, hi, hzz⟩ := Option.map_eq_some_iff.1 infoG
  simp only [Prod.mk.injEq] at hzz
  obtain ⟨hz, hsz, hby⟩ := hzz
  have e2 : ∀ x, (Instr.sliceBound (.int .i64 1) n x).run Tryd.prog w = .ok 1 w := by intro x; rw [run_sliceBound (h0 := by omega) (h1 := by omega)]; simp
  simp [Instr.sliceAt, Instr.slice, run_underlying Tryd.underlying22, Instr.sliceBounds, e2, sizeOf, typeInfo, hi, hsz, sub32]
set_option maxRecDepth 100000 in
theorem RdH.tail {w : World} {A : Option Addr} {n c : Nat} {L : List (List UInt8)} (h : RdH w A n L) (hn : 1 ≤ n) (hc : n ≤ c) : RdH w (sub32 A c) (n - 1) (L.drop 1) :=
  ⟨by rw [List.length_drop, h.1], fun x hx => h.2.1 x (List.mem_of_mem_drop hx), fun h0 => by
    obtain ⟨b, off, rfl, hlt, hr⟩ := h.2.2 (by omega)
    refine ⟨b, off + 32, ?_, hlt, fun i hi j v hv => ?_⟩
    · unfold sub32
      rw [if_neg (by omega), Option.map_some, Addr.add_mid]
    · have e : hat (L.drop 1) i = hat L (i + 1) := by
        unfold hat
        rw [List.getD_eq_getElem?_getD, List.getElem?_drop, List.getD_eq_getElem?_getD, Nat.add_comm]
      rw [e] at hv
      have := hr (i + 1) (by omega) j v hv
      rw [show off + 32 + i * 32 = off + (i + 1) * 32 by omega]
      exact this⟩
end Go.Proofs.YtnfcnjboeocnmaaDoor
