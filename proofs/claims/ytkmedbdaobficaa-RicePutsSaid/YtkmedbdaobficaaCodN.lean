/- Contracts of the document's own Num, Var, Text of layer 6: bytes as strings. -/
import Derived.Test.YtkmedbdaobficaaCodT
import Derived.Test.YtkmedbdaobficaaDgs
import Derived.Laws.Concat
namespace Go.Proofs.Ytkmedbdaobficaa
open Go.RowKit
set_option linter.unusedVariables false

set_option maxRecDepth 100000 in
theorem OwnJ.lt {w : World} {base n c : Nat} {A : Option Addr} {l : List Int} (h : OwnJ w base A n c l) {g : Nat} (hg : blkOf A = some g) : g < w.heap.size ∧ base ≤ g := by
  rcases h.2.2 with ⟨hv, _⟩ | ⟨g', cap, cur, hv, hb, hh, _⟩
  · injection hv with e1; rw [e1] at hg; simp [blkOf] at hg
  · injection hv with e1
    rw [e1] at hg
    simp [blkOf] at hg
    subst hg
    exact ⟨(Array.getElem?_eq_some_iff.1 hh).1, hb⟩
set_option maxRecDepth 100000 in
theorem OwnJ.frm {w w' : World} {base n c : Nat} {A : Option Addr} {l : List Int} {S : Nat → Prop} (h : OwnJ w base A n c l) (hf : Frm S w w') (hS : ∀ g, blkOf A = some g → ¬ S g) : OwnJ w' base A n c l := by
  have hlt := fun g (hg : blkOf A = some g) => h.lt hg
  obtain ⟨h1, h2, h3⟩ := h
  refine ⟨h1, h2, ?_⟩
  rcases h3 with h' | ⟨g, cap, cur, e, hb, hh, hr⟩
  · exact .inl h'
  · refine .inr ⟨g, cap, cur, e, hb, ?_, hr⟩
    injection e with e1
    have hA : blkOf A = some g := by rw [e1]; rfl
    rw [hf.block g (hlt g hA).1 (hS g hA)]; exact hh
set_option maxRecDepth 100000 in
/-- append(out, u) at a byte slice that the call made: nothing but its own block has changed. -/
theorem app8_fr {ops : Array Oper} {rest : List Oper} {o : Oper} {a : Act} {Q : Exit → Act → World → Prop} (w : World) (hgd : o.guard = none) (s x : Operand)
    (ho : o.op = .call { callee := .builtin .append, args := #[s, x], argTypes := #[32, 32] })
    (A : Option Addr) (n c : Nat) (l : List UInt8) (z : Int) (u : UInt8) (hz : z = (u.toNat : Int)) (hs : a.eval s = .slice A n c) (hx : a.eval x = .slice (some ⟨w.heap.size, 0, none⟩) 1 1)
    (hown : Own w 0 A n c l) (hb : n + 1 ≤ 140737488355328)
    (h : ∀ A' c' w', Own w' 0 A' (n + 1) c' (l ++ [u]) → Frm (fun i => blkOf A = some i) w w' → (∀ g, blkOf A' = some g → blkOf A = some g ∨ w.heap.size ≤ g) → wpList Try.prog ops Q rest (a.put o.dst (.slice A' (n + 1) c')) w') :
    wpList Try.prog ops Q (o :: rest) a (w.alloc (.cells #[.int .u8 z] 5)) := by
  subst hz
  refine wpList_plain hgd fun _ hK => wpo_appG _ s x 32 ho 5 (.int .u8 0) 1 Try.underlying32 info8 rfl 0 _ n (l.map B8) hs (own_alloc hown.2 _) _ 1 1 [B8 u] hx rfl ?_ ?_ (by unfold maxLen; omega) (by omega) (Nat.zero_le _) ?_
  · intro _
    refine ⟨_, rfl, fun j v hj => ?_⟩
    have hp : (⟨w.heap.size, 0, none⟩ : Addr).add j = ⟨w.heap.size, j, none⟩ := by unfold Addr.add; split <;> simp_all
    rw [hp, cell_of_row _ w.heap.size j _ 5 (0, 0) (heap_alloc_new w _)]
    simpa [B8] using hj
  · intro v hv; simp at hv; subst hv; rfl
  · intro A' c' w' hown' _ hbk hgr
    have hf : Frm (fun i => blkOf A = some i) w w' := ((Frm.refl _ w).alloc _).trans (frm_grown hgr)
    rw [own_blkOf, own_blkOf] at hbk
    refine hK _ _ (h A' c' w' ⟨by simp [hown.1], by rw [List.map_append]; exact hown'⟩ hf (fun g hg => ?_))
    rcases hbk with e | e
    · exact .inl (e ▸ hg)
    · rw [e] at hg; injection hg with hg; exact .inr (by simp at hg; omega)
set_option maxRecDepth 100000 in
theorem dgs_get (n m t : Nat) (h : t < (dgs n m).length) : (dgs n m)[t] = ((n / 256 ^ t % 256 : Nat) : Int) := by simp [dgs]
set_option maxRecDepth 100000 in
theorem dgs_len (n m : Nat) : (dgs n m).length = m := by simp [dgs]
set_option maxRecDepth 100000 in
theorem little_snoc (n t : Nat) : little n (t + 1) = little n t ++ [UInt8.ofNat (n / 256 ^ t)] := by simp [little, List.range_succ]
set_option maxRecDepth 100000 in
theorem bstr_size (l : List UInt8) : (⟨l.toArray⟩ : ByteArray).size = l.length := by simp [ByteArray.size]
set_option maxRecDepth 100000 in
theorem bstr_add (x y : List UInt8) (hx : x.length ≤ 8388608) (hy : y.length ≤ 8388608) (W : World) : (Op.stringOp .add ⟨x.toArray⟩ ⟨y.toArray⟩).run Try.prog W = .ok (.string ⟨(x ++ y).toArray⟩) W :=
  run_string_add_lists W x y (by omega) (by omega)
end Go.Proofs.Ytkmedbdaobficaa
