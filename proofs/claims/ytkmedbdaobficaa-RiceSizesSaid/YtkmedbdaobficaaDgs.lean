/- Slices of ints that a call made; contracts of the document's own Held (a width within 0 and 8) and Digits (the bytes of a number as ints). -/
import Derived.Test.YtkmedbdaobficaaClamp
import Derived.Test.YtkmedbdaobficaaNumP
import Derived.Test.YtkmedbdaobficaaAppC
namespace Go.Proofs.Ytkmedbdaobficaa
open Go.RowKit

set_option maxRecDepth 100000 in
theorem infoInt : (Try.prog.info? 3).map (fun i => (i.zero, i.size, i.bytes)) = some (some (.int .i64 0), 1, 8) := by kernel_rfl

/-- The slice of ints that the call made. -/
def OwnJ (w : World) (base : Nat) (A : Option Addr) (n c : Nat) (l : List Int) : Prop := l.length = n ∧ w.ownsRow base 3 1 (.slice A n c) n (l.map (Value.int .i64))

set_option maxRecDepth 100000 in
theorem OwnJ.at_ {w : World} {base n c : Nat} {A : Option Addr} {l : List Int} (h : OwnJ w base A n c l) {k : Nat} (hk : k < n) :
    ∃ g, ∃ hl : k < l.length, A = some ⟨g, 0, none⟩ ∧ g < w.heap.size ∧ w.cell? ⟨g, k, none⟩ = some (.int .i64 l[k]) := by
  obtain ⟨hl, h⟩ := h
  obtain ⟨g, cap, hv, _, hlt⟩ := World.ownsRow.form h (by omega)
  have hA : A = some ⟨g, 0, none⟩ := by injection hv
  subst hA
  have := World.ownsRow.cellAt h k (by omega)
  refine ⟨g, by omega, rfl, hlt, ?_⟩
  rw [this]
  simp [List.getElem?_eq_getElem (show k < l.length by omega)]
set_option maxRecDepth 100000 in
theorem OwnJ.below {w w' : World} {base n c : Nat} {A : Option Addr} {l : List Int} (h : OwnJ w base A n c l) (hb : Below w.heap.size w w') : OwnJ w' base A n c l := by
  refine ⟨h.1, h.2.1, ?_⟩
  rcases h.2.2 with h' | ⟨g, cap, cur, e, hbg, hh, hr⟩
  · exact .inl h'
  · refine .inr ⟨g, cap, cur, e, hbg, ?_, hr⟩
    have hlt : g < w.heap.size := by
      rcases Nat.lt_or_ge g w.heap.size with h1 | h1
      · exact h1
      · rw [Array.getElem?_eq_none h1] at hh; cases hh
    rw [hb.block g hlt]; exact hh

set_option maxRecDepth 100000 in
theorem appI_one {ops : Array Oper} {rest : List Oper} {o : Oper} {a : Act} {Q : Exit → Act → World → Prop} (w : World) (hgd : o.guard = none) (s x : Operand)
    (ho : o.op = .call { callee := .builtin .append, args := #[s, x], argTypes := #[37, 37] })
    (base : Nat) (A : Option Addr) (n c : Nat) (l : List Int) (z : Int) (hs : a.eval s = .slice A n c) (hx : a.eval x = .slice (some ⟨w.heap.size, 0, none⟩) 1 1)
    (hown : OwnJ w base A n c l) (hb : (n + 1) * 8 ≤ 140737488355328) (hbase : base ≤ w.heap.size)
    (h : ∀ A' c' w', OwnJ w' base A' (n + 1) c' (l ++ [z]) → Below base w w' → wpList Try.prog ops Q rest (a.put o.dst (.slice A' (n + 1) c')) w') :
    wpList Try.prog ops Q (o :: rest) a (w.alloc (.cells #[.int .i64 z] 3)) := by
  refine wpList_plain hgd fun _ hK => wpo_appG _ s x 37 ho 3 (.int .i64 0) 8 Try.underlying37 infoInt rfl base _ n (l.map (Value.int .i64)) hs (own_alloc hown.2 _) _ 1 1 [.int .i64 z] hx rfl ?_ ?_ (by unfold maxLen; omega) (by omega) (by simp; omega) ?_
  · intro _
    refine ⟨_, rfl, fun j v hj => ?_⟩
    cases j with
    | zero => simp at hj; subst hj; exact cell_one_alloc w _ _
    | succ j => simp at hj
  · intro v hv; simp at hv; subst hv; rfl
  · intro A' c' w' hown' hbel _ _
    exact hK _ _ (h A' c' w' ⟨by simp [hown.1], by rw [List.map_append]; exact hown'⟩ (((Below.refl _ _).alloc hbase _).trans hbel))
/-- The first m bytes of n as ints. -/
def dgs (n m : Nat) : List Int := (List.range m).map fun i => ((n / 256 ^ i % 256 : Nat) : Int)
set_option maxRecDepth 100000 in
theorem dgs_succ (n m : Nat) : dgs n (m + 1) = dgs n m ++ [((n / 256 ^ m % 256 : Nat) : Int)] := by simp [dgs, List.range_succ]

def MkI (w : World) (l : List Int) (e : Ending) (w' : World) : Prop :=
  ∃ A n c, e = .returned (.slice A n c) ∧ OwnJ w' w.heap.size A n c l ∧ Below w.heap.size w w'

set_option maxRecDepth 100000 in
theorem OwnJ.nil (w : World) (base : Nat) : OwnJ w base none 0 0 [] := ⟨rfl, World.ownsRow_nil _ _ _ _⟩

end Go.Proofs.Ytkmedbdaobficaa
