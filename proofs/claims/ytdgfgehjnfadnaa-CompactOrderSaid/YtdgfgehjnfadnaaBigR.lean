/- Words for slices of digits; the contract of the reference's trim. -/
import Derived.Test.YtdgfgehjnfadnaaBigM
import Derived.Test.YtdgfgehjnfadnaaSub
import Derived.Test.YtdgfgehjnfadnaaRet
import Derived.Test.YtdgfgehjnfadnaaAppC
namespace Go.Proofs.Ytdgfgehjnfadnaa
open Go.RowKit
set_option linter.unusedVariables false

/-- The slice of n ints that begins at A holds the digits l. -/
def RdI (w : World) (A : Option Addr) (n : Nat) (l : List Nat) : Prop :=
  l.length = n ∧ (0 < n → ∃ b off, A = some ⟨b, off, none⟩ ∧ b < w.heap.size ∧ ∀ j, j < n → w.cell? ⟨b, off + j, none⟩ = some (.int .i64 (l.getD j 0 : Int)))
theorem RdI.len {w : World} {A : Option Addr} {n : Nat} {l : List Nat} (h : RdI w A n l) : l.length = n := h.1
theorem RdI.nil (w : World) (A : Option Addr) : RdI w A 0 [] := ⟨rfl, fun h => absurd h (by omega)⟩
theorem RdI.below {w w' : World} {A : Option Addr} {n : Nat} {l : List Nat} (h : RdI w A n l) (hb : Below w.heap.size w w') : RdI w' A n l :=
  ⟨h.1, fun hn => by
    obtain ⟨b, off, e, hlt, hc⟩ := h.2 hn
    exact ⟨b, off, e, Nat.lt_of_lt_of_le hlt hb.size, fun j hj => (hb.cell (p := ⟨b, off + j, none⟩) hlt).trans (hc j hj)⟩⟩
theorem RdI.at_ {w : World} {A : Option Addr} {n : Nat} {l : List Nat} (h : RdI w A n l) {k : Nat} (hk : k < n) :
    ∃ b off, A = some ⟨b, off, none⟩ ∧ w.cell? ⟨b, off + k, none⟩ = some (.int .i64 (l.getD k 0 : Int)) := by
  obtain ⟨b, off, e, _, hc⟩ := h.2 (by omega)
  exact ⟨b, off, e, hc k hk⟩
theorem RdI.take {w : World} {A : Option Addr} {n : Nat} {l : List Nat} (h : RdI w A n l) (c m : Nat) (hm : m ≤ n) (hnc : n ≤ c) : RdI w (sub A c 0) m (l.take m) := by
  refine ⟨by rw [List.length_take, h.1]; omega, fun h0 => ?_⟩
  obtain ⟨b, off, rfl, hlt, hc⟩ := h.2 (by omega)
  refine ⟨b, off, ?_, hlt, fun j hj => ?_⟩
  · unfold sub
    rw [if_neg (by omega), Option.map_some, Addr.add_mid, Nat.add_zero]
  · rw [hc j (by omega)]
    rw [List.getD_eq_getElem?_getD, List.getD_eq_getElem?_getD, List.getElem?_take, if_pos hj]
/-- What a call ends in that makes the digits of N. -/
def MkB (w : World) (N : Nat) (e : Ending) (w' : World) : Prop :=
  ∃ A n c, e = .returned (.slice A n c) ∧ RdI w' A n (digs N) ∧ n ≤ c ∧ c ≤ maxLen ∧ Below w.heap.size w w'
theorem sizeI : (Try.prog.info? 3).map (·.size) = some 1 := by kernel_rfl
theorem infoI : (Try.prog.info? 3).map (fun i => (i.zero, i.size, i.bytes)) = some (some (.int .i64 0), 1, 8) := by kernel_rfl

set_option maxHeartbeats 1000000 in
theorem trim_calls (A : Option Addr) (n c : Nat) (l : List Nat) (w : World) (hd : Dg l) (hr : RdI w A n l) (hnc : n ≤ c) (hcm : c ≤ maxLen) :
    Calls Try.prog 41 #[.slice A n c] w fun e w' => ∃ A' m, e = .returned (.slice A' m c) ∧ m ≤ n ∧ RdI w A' m (digs (valB l)) ∧ w' = w := by
  have HR := Lib.hid hr
  have HD := Lib.hid hd
  have HL := Lib.hid hr.len
  have hcb : (c : Int) ≤ 9223372036854775807 := by unfold maxLen at hcm; omega
  have hnb : (n : Int) ≤ 9223372036854775807 := by omega
  clear hr hd
  go_enter Try.func41, Try.ntmps41
  go_wp2
  go_loop [3] (fun v => ∃ m : Nat, m ≤ n ∧ v = .int .i64 (m : Int) ∧ Hid (∀ d ∈ l.drop m, d = 0)) (fun v => (intOf v).toNat)
  case atStart => exact ⟨n, Nat.le_refl _, rfl, fun d hd => by rw [List.drop_of_length_le (by rw [HL.out]; exact Nat.le_refl _)] at hd; simp at hd⟩
  case round =>
    obtain ⟨m, hm, rfl, HZ⟩ := hrel
    have fin : Hid ((0 < m → l.getD (m - 1) 0 ≠ 0) → RdI w (sub A c 0) m (digs (valB l))) := Lib.hid fun h => by
      rw [← trimmed l m HD.out (by rw [HL.out]; exact hm) HZ.out h]
      exact HR.out.take c m hm hnc
    have hsl := fun W => run_subH (P := Try.prog) 30 3 Try.underlying30 sizeI A n c m (m : Int) rfl (by omega) W
    by_cases h0 : 0 < m
    · obtain ⟨b, off, rfl, hc⟩ := HR.out.at_ (k := m - 1) (by omega)
      obtain ⟨x, hx⟩ : ∃ x, x = l.getD (m - 1) 0 := ⟨_, rfl⟩
      rw [← hx] at hc
      obtain ⟨q, hq⟩ : ∃ q, q = m - 1 := ⟨_, rfl⟩
      rw [← hq] at hc
      have v1 : IntKind.i64.wrap ((m : Int) - 1) = (q : Int) := by rw [IntKind.wrap_i64]; omega
      have v2 : (m : Int) - 1 = (q : Int) := by omega
      have bq : (q : Int) < (n : Int) := by omega
      have b0 : (0 : Int) < (m : Int) := by omega
      by_cases hx0 : x = 0
      · have HZ2 : Hid (∀ d ∈ l.drop q, d = 0) := Lib.hid fun d hd => by
          have hql : q < l.length := by rw [HL.out]; omega
          rw [List.drop_eq_getElem_cons hql] at hd
          rcases List.mem_cons.1 hd with h | h
          · rw [h]
            rw [hx0, ← hq, List.getD_eq_getElem?_getD, List.getElem?_eq_getElem hql] at hx
            exact hx.symm
          · exact HZ.out d (by rw [show m = q + 1 from by omega]; exact h)
        have hx0' : (x : Int) = 0 := by omega
        clear hx hq
        go_wp2
        go_round
        case rel => exact ⟨q, by omega, rfl, HZ2⟩
        case measure => simp [intOf]; omega
      · have F := Lib.hid (fin.out (fun _ => by rw [← hx]; exact hx0))
        have hx0' : ¬ (x : Int) = 0 := by omega
        clear hx hq
        go_wp2
        go_ret
        exact ⟨_, m, rfl, hm, F.out, rfl⟩
    · have e : m = 0 := by omega
      subst e
      have F := Lib.hid (fin.out (fun h => absurd h (by omega)))
      go_wp2
      go_ret
      exact ⟨_, 0, rfl, hm, ⟨F.out.len, fun h => absurd h (by omega)⟩, rfl⟩

def WI (n : Nat) : Value := .int .i64 (n : Int)
/-- The slice of n digits that begins at A was made by the call. -/
def OwnI (w : World) (base : Nat) (A : Option Addr) (n c : Nat) (l : List Nat) : Prop := l.length = n ∧ w.ownsRow base 3 1 (.slice A n c) n (l.map WI)
theorem OwnI.len {w : World} {base n c : Nat} {A : Option Addr} {l : List Nat} (h : OwnI w base A n c l) : l.length = n := h.1
theorem OwnI.nil (w : World) (base : Nat) : OwnI w base none 0 0 [] := ⟨rfl, World.ownsRow_nil _ _ _ _⟩
theorem OwnI.cap {w : World} {base n c : Nat} {A : Option Addr} {l : List Nat} (h : OwnI w base A n c l) : n ≤ c ∧ c ≤ maxLen := by
  obtain ⟨hl, h1, h | ⟨g', cap, cur, hv, hb, _, hc, hm, _⟩⟩ := h
  · obtain ⟨h, h0⟩ := h
    injection h with e1 e2 e3
    exact ⟨by omega, by unfold maxLen; omega⟩
  · injection hv with e1 e2 e3
    exact ⟨by omega, by omega⟩
theorem mapI_at (l : List Nat) (t : Nat) (h : t < l.length) : (l.map WI)[t]? = some (.int .i64 (l.getD t 0 : Int)) := by
  simp [WI, List.getElem?_eq_getElem h, List.getD]
theorem OwnI.rd {w : World} {base n c : Nat} {A : Option Addr} {l : List Nat} (h : OwnI w base A n c l) : RdI w A n l := by
  obtain ⟨hl, h⟩ := h
  refine ⟨hl, fun hn => ?_⟩
  obtain ⟨g, cap, hv, hb, hlt⟩ := World.ownsRow.form h hn
  have hA : A = some ⟨g, 0, none⟩ := by injection hv
  subst hA
  refine ⟨g, 0, rfl, hlt, fun k hk => ?_⟩
  rw [Nat.zero_add, World.ownsRow.cellAt h k (by omega), mapI_at l k (by omega)]
theorem appI_big {ops : Array Oper} {rest : List Oper} {o : Oper} {a : Act} {Q : Exit → Act → World → Prop} (w : World) (hgd : o.guard = none) (s x : Operand)
    (ho : o.op = .call { callee := .builtin .append, args := #[s, x], argTypes := #[30, 30] })
    (base : Nat) (A : Option Addr) (n c : Nat) (l : List Nat) (z : Int) (u : Nat) (hz : z = (u : Int)) (hs : a.eval s = .slice A n c) (hx : a.eval x = .slice (some ⟨w.heap.size, 0, none⟩) 1 1)
    (hown : OwnI w base A n c l) (hb : n + 1 ≤ 1000000) (hbase : base ≤ w.heap.size)
    (h : ∀ A' c' w', OwnI w' base A' (n + 1) c' (l ++ [u]) → Below base w w' → wpList Try.prog ops Q rest (a.put o.dst (.slice A' (n + 1) c')) w') :
    wpList Try.prog ops Q (o :: rest) a (w.alloc (.cells #[.int .i64 z] 3)) := by
  subst hz
  refine wpList_plain hgd fun _ hK => ?_
  refine wpo_appG _ s x 30 ho 3 (.int .i64 0) 8 Try.underlying30 infoI rfl base _ n (l.map WI) hs (own_alloc hown.2 _) _ 1 1 [WI u] hx rfl ?_ ?_ (by unfold maxLen; omega) (by omega) (by simp; omega) ?_
  · intro _
    refine ⟨_, rfl, fun j v hj => ?_⟩
    rw [Addr.add_mid, cell_of_row _ w.heap.size (0 + j) _ 3 (0, 0) (heap_alloc_new w _)]
    simpa [WI] using hj
  · intro v hv; simp at hv; subst hv; rfl
  · intro A' c' w' hown' hbel _ _
    exact hK _ _ (h A' c' w' ⟨by simp [hown.1], by rw [List.map_append]; exact hown'⟩ (((Below.refl _ _).alloc hbase _).trans hbel))
end Go.Proofs.Ytdgfgehjnfadnaa
