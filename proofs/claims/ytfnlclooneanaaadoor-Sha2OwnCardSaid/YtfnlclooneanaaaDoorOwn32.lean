/- Words for slices of words that a call made, and append onto them. -/
import Derived.Test.YtfnlclooneanaaaDoorShaT
import Derived.Test.YtfnlclooneanaaaDoorAppC
import Derived.Test.YtfnlclooneanaaaDoorRefR
namespace Go.Proofs.YtfnlclooneanaaaDoor
open Go.RowKit
set_option linter.unusedVariables false

theorem info32 : (Tryd.prog.info? 29).map (fun i => (i.zero, i.size, i.bytes)) = some (some (.int .u32 0), 1, 4) := by kernel_rfl
/-- The slice of n words that begins at A was made by the call and holds the words l. -/
def Own32 (w : World) (base : Nat) (A : Option Addr) (n c : Nat) (l : List Nat) : Prop := l.length = n ∧ w.ownsRow base 29 1 (.slice A n c) n (l.map W32)
theorem Own32.len {w : World} {base n c : Nat} {A : Option Addr} {l : List Nat} (h : Own32 w base A n c l) : l.length = n := h.1
theorem Own32.nil (w : World) (base : Nat) : Own32 w base none 0 0 [] := ⟨rfl, World.ownsRow_nil _ _ _ _⟩
theorem Own32.drew {w : World} {base n c : Nat} {A : Option Addr} {l : List Nat} (h : Own32 w base A n c l) : Own32 w.drew base A n c l := ⟨h.1, h.2.drew⟩
theorem Own32.at_ {w : World} {base n c : Nat} {A : Option Addr} {l : List Nat} (h : Own32 w base A n c l) (hn : 0 < n) :
    ∃ g, A = some ⟨g, 0, none⟩ ∧ base ≤ g ∧ g < w.heap.size ∧ ∀ k, k < n → w.cell? ⟨g, k, none⟩ = some (.int .u32 (l.getD k 0 : Int)) := by
  obtain ⟨hl, h⟩ := h
  obtain ⟨g, cap, hv, hb, hlt⟩ := World.ownsRow.form h hn
  have hA : A = some ⟨g, 0, none⟩ := by injection hv
  subst hA
  refine ⟨g, rfl, hb, hlt, fun k hk => ?_⟩
  have hk' : k < l.length := by omega
  rw [World.ownsRow.cellAt h k (by omega), map_at l k hk']
theorem Own32.below {w w' : World} {base n c : Nat} {A : Option Addr} {l : List Nat} (h : Own32 w base A n c l) (hb : Below w.heap.size w w') : Own32 w' base A n c l := by
  obtain ⟨hl, h0, h | ⟨g, cap, cur, hv, hbg, hg, hc, hm, hs, ht⟩⟩ := h
  · exact ⟨hl, h0, Or.inl h⟩
  · exact ⟨hl, h0, Or.inr ⟨g, cap, cur, hv, hbg, (hb.block g (Array.getElem?_eq_some_iff.1 hg).1).trans hg, hc, hm, hs, ht⟩⟩
theorem wpo_app32 {o : Oper} {a : Act} {K : Act → World → Prop} {Q : Exit → Act → World → Prop} (w : World) (s x : Operand)
    (ho : o.op = .call { callee := .builtin .append, args := #[s, x], argTypes := #[48, 48] })
    (base : Nat) (A : Option Addr) (n c : Nat) (l : List Nat) (u : Nat) (hs : a.eval s = .slice A n c) (hx : a.eval x = .slice (some ⟨w.heap.size, 0, none⟩) 1 1)
    (hown : Own32 w base A n c l) (hb : n + 1 ≤ 1000000) (hbase : base ≤ w.heap.size)
    (h : ∀ A' c' w', Own32 w' base A' (n + 1) c' (l ++ [u]) → Below base w w' → K (a.put o.dst (.slice A' (n + 1) c')) w') :
    o.wp Tryd.prog a (w.alloc (.cells #[W32 u] 29)) K Q := by
  refine wpo_appG _ s x 48 ho 29 (.int .u32 0) 4 Tryd.underlying48 info32 rfl base _ n (l.map W32) hs (own_alloc hown.2 _) _ 1 1 [W32 u] hx rfl ?_ ?_ (by unfold maxLen; omega) (by omega) (by simp; omega) ?_
  · intro _
    refine ⟨_, rfl, fun j v hj => ?_⟩
    rw [Addr.add_mid, cell_of_row _ w.heap.size (0 + j) _ 29 (0, 0) (heap_alloc_new w _)]
    simpa using hj
  · intro v hv; simp at hv; subst hv; rfl
  · intro A' c' w' hown' hbel _ _
    refine h A' c' w' ⟨by simp [hown.1], by rw [List.map_append]; exact hown'⟩ (((Below.refl _ _).alloc hbase _).trans hbel)
/-- The same at a step of a region that draws its order. -/
theorem st32_one {ops : Array Oper} {o : Oper} {a : Act} {K : Act → World → Prop} {Q : Exit → Act → World → Prop} {E : Prop} (W w : World) (hgd : o.guard = none) (s x : Operand)
    (ho : o.op = .call { callee := .builtin .append, args := #[s, x], argTypes := #[48, 48] })
    (base : Nat) (A : Option Addr) (n c : Nat) (l : List Nat) (z : Int) (u : Nat) (hs : a.eval s = .slice A n c) (hx : a.eval x = .slice (some ⟨w.heap.size, 0, none⟩) 1 1)
    (hW : W = w.alloc (.cells #[.int .u32 z] 29)) (hz : z = (u : Int))
    (hown : Own32 w base A n c l) (hb : n + 1 ≤ 1000000) (hbase : base ≤ w.heap.size)
    (h : ∀ A' c' w', Own32 w' base A' (n + 1) c' (l ++ [u]) → Below base w w' → K (a.put o.dst (.slice A' (n + 1) c')) w') :
    if Region.wanted o (yielded ops a.tmps) = true then Oper.wp Tryd.prog o a W K Q else E := by
  subst hz hW
  exact step_of_wp hgd (wpo_app32 w s x ho base A n c l u hs hx hown hb hbase h)
/-- The word of four bytes, as the reference reckons it. -/
theorem word_four (B : List UInt8) (t : Nat) (ht : 4 * t + 3 < B.length) :
    word B t = B[4 * t].toNat * 16777216 + B[4 * t + 1].toNat * 65536 + B[4 * t + 2].toNat * 256 + B[4 * t + 3].toNat := by
  unfold word
  have e : (B.drop (4 * t)).take 4 = [B[4 * t], B[4 * t + 1], B[4 * t + 2], B[4 * t + 3]] := by
    rw [List.drop_eq_getElem_cons (by omega), List.drop_eq_getElem_cons (by omega), List.drop_eq_getElem_cons (by omega), List.drop_eq_getElem_cons (by omega)]
    rfl
  rw [e]
  simp only [List.reverse_cons, List.reverse_nil, List.nil_append, List.cons_append, numL]
  omega
end Go.Proofs.YtfnlclooneanaaaDoor
