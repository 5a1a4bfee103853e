/- Words for slices of numbers of 64 bits that a call made, and append onto them. -/
import Derived.Test.YtomkebbocbbfjaaAppC
import Derived.Deep.MidRow
import Derived.Deep.WholeRow
namespace Go.Proofs.Ytomkebbocbbfjaa
open Go.RowKit
set_option linter.unusedVariables false

theorem info64 : (Try.prog.info? 22).map (fun i => (i.zero, i.size, i.bytes)) = some (some (.int .u64 0), 1, 8) := by kernel_rfl
def W64 (n : Nat) : Value := .int .u64 (n : Int)
theorem map_at64 (l : List Nat) (t : Nat) (h : t < l.length) : (l.map W64)[t]? = some (.int .u64 (l.getD t 0 : Int)) := by
  simp [W64, List.getElem?_eq_getElem h, List.getD]
/-- The slice of n numbers that begins at A was made by the call and holds the numbers l. -/
def Own64 (w : World) (base : Nat) (A : Option Addr) (n c : Nat) (l : List Nat) : Prop := l.length = n ∧ w.ownsRow base 22 1 (.slice A n c) n (l.map W64)
theorem Own64.len {w : World} {base n c : Nat} {A : Option Addr} {l : List Nat} (h : Own64 w base A n c l) : l.length = n := h.1
theorem Own64.nil (w : World) (base : Nat) : Own64 w base none 0 0 [] := ⟨rfl, World.ownsRow_nil _ _ _ _⟩
theorem Own64.at_ {w : World} {base n c : Nat} {A : Option Addr} {l : List Nat} (h : Own64 w base A n c l) (hn : 0 < n) :
    ∃ g, A = some ⟨g, 0, none⟩ ∧ base ≤ g ∧ g < w.heap.size ∧ ∀ k, k < n → w.cell? ⟨g, k, none⟩ = some (.int .u64 (l.getD k 0 : Int)) := by
  obtain ⟨hl, h⟩ := h
  obtain ⟨g, cap, hv, hb, hlt⟩ := World.ownsRow.form h hn
  have hA : A = some ⟨g, 0, none⟩ := by injection hv
  subst hA
  refine ⟨g, rfl, hb, hlt, fun k hk => ?_⟩
  have hk' : k < l.length := by omega
  rw [World.ownsRow.cellAt h k (by omega), map_at64 l k hk']
theorem wpo_app64 {o : Oper} {a : Act} {K : Act → World → Prop} {Q : Exit → Act → World → Prop} (w : World) (s x : Operand)
    (ho : o.op = .call { callee := .builtin .append, args := #[s, x], argTypes := #[43, 43] })
    (base : Nat) (A : Option Addr) (n c : Nat) (l : List Nat) (u : Nat) (hs : a.eval s = .slice A n c) (hx : a.eval x = .slice (some ⟨w.heap.size, 0, none⟩) 1 1)
    (hown : Own64 w base A n c l) (hb : n + 1 ≤ 1000000) (hbase : base ≤ w.heap.size)
    (h : ∀ A' c' w', Own64 w' base A' (n + 1) c' (l ++ [u]) → Below base w w' → K (a.put o.dst (.slice A' (n + 1) c')) w') :
    o.wp Try.prog a (w.alloc (.cells #[W64 u] 22)) K Q := by
  refine wpo_appG _ s x 43 ho 22 (.int .u64 0) 8 Try.underlying43 info64 rfl base _ n (l.map W64) hs (own_alloc hown.2 _) _ 1 1 [W64 u] hx rfl ?_ ?_ (by unfold maxLen; omega) (by omega) (by simp; omega) ?_
  · intro _
    refine ⟨_, rfl, fun j v hj => ?_⟩
    rw [Addr.add_mid, cell_of_row _ w.heap.size (0 + j) _ 22 (0, 0) (heap_alloc_new w _)]
    simpa using hj
  · intro v hv; simp at hv; subst hv; rfl
  · intro A' c' w' hown' hbel _ _
    refine h A' c' w' ⟨by simp [hown.1], by rw [List.map_append]; exact hown'⟩ (((Below.refl _ _).alloc hbase _).trans hbel)
theorem app64_one {ops : Array Oper} {rest : List Oper} {o : Oper} {a : Act} {Q : Exit → Act → World → Prop} (w : World) (hgd : o.guard = none) (s x : Operand)
    (ho : o.op = .call { callee := .builtin .append, args := #[s, x], argTypes := #[43, 43] })
    (base : Nat) (A : Option Addr) (n c : Nat) (l : List Nat) (z : Int) (u : Nat) (hz : z = (u : Int)) (hs : a.eval s = .slice A n c) (hx : a.eval x = .slice (some ⟨w.heap.size, 0, none⟩) 1 1)
    (hown : Own64 w base A n c l) (hb : n + 1 ≤ 1000000) (hbase : base ≤ w.heap.size)
    (h : ∀ A' c' w', Own64 w' base A' (n + 1) c' (l ++ [u]) → Below base w w' → wpList Try.prog ops Q rest (a.put o.dst (.slice A' (n + 1) c')) w') :
    wpList Try.prog ops Q (o :: rest) a (w.alloc (.cells #[.int .u64 z] 22)) := by
  subst hz
  exact wpList_plain hgd fun _ hK => wpo_app64 w s x ho base A n c l u hs hx hown hb hbase fun A' c' w' h1 h2 => hK _ _ (h A' c' w' h1 h2)
end Go.Proofs.Ytomkebbocbbfjaa
