/- Merged texts: AppC Own64 SipN. -/
import Derived.Test.YtplnmjdafchjbaaMaa
import Derived.OwnWalk
import Derived.Maps.AppendAt
import Derived.Deep.MidRow
import Derived.Deep.WholeRow
import Derived.Test.YtplnmjdafchjbaaMad
import Derived.Test.YtplnmjdafchjbaaMac
/- Laws for append onto a slice that the call made, of one-cell elements, in the words of Own and Rd. -/
namespace Go.Proofs.Ytplnmjdafchjbaa
open Go.RowKit

set_option maxRecDepth 100000 in
theorem own_shape {w : World} {base n : Nat} {e : TypeId} {v : Value} {xs : List Value} (h : w.ownsRow base e 1 v n xs) : ∃ A c, v = .slice A n c := by
  rcases h.2 with ⟨rfl, hx⟩ | ⟨g, cap, cur, rfl, _⟩
  · have : n = 0 := by have h1 := h.1; subst hx; simp at h1; omega
    subst this
    exact ⟨none, 0, rfl⟩
  · exact ⟨_, _, rfl⟩
set_option maxRecDepth 100000 in
theorem own_block {w : World} {base n : Nat} {e : TypeId} {v : Value} {xs : List Value} (h : w.ownsRow base e 1 v n xs) : ∀ k, v.ownBlock = some k → base ≤ k := by
  intro k hk
  rcases h.2 with ⟨rfl, hx⟩ | ⟨g, cap, cur, rfl, hb, _⟩
  · simp [Value.ownBlock] at hk
  · have : g = k := by simpa [Value.ownBlock] using hk
    omega
set_option maxRecDepth 100000 in
theorem run_appG {P : Program} (w : World) (t ty e : TypeId) (z : Value) (bytes : Nat) (ht : P.underlying t = some (.slice e)) (hinfo : (P.info? e).map (fun i => (i.zero, i.size, i.bytes)) = some (some z, 1, bytes)) (hz1 : z.cells.size = 1)
    (base : Nat) (v : Value) (n : Nat) (xs : List Value) (hown : w.ownsRow base e 1 v n xs)
    (X : Option Addr) (m c : Nat) (news : List Value) (hl : news.length = m) (hX : 0 < m → ∃ ad, X = some ad ∧ ∀ j u, news[j]? = some u → w.cell? (ad.add j) = some u) (h1 : ∀ u ∈ news, u.oneCell' = true)
    (h63 : n + m ≤ maxLen) (hbytes : (n + m) * bytes ≤ 140737488355328) (hbase : base ≤ w.heap.size) :
    ∃ v' w', (Builtin.append_ #[t, t] ty #[v, .slice X m c]).run P w = .ok v' w' ∧ w'.ownsRow base e 1 v' (n + m) (xs ++ news) ∧ w.grownBy w' v.ownBlock ∧ (v'.ownBlock = v.ownBlock ∨ v'.ownBlock = some w.heap.size) := by
  obtain ⟨i, hi, hzz⟩ := Option.map_eq_some_iff.1 hinfo
  simp only [Prod.mk.injEq] at hzz
  obtain ⟨hz, hs, hb⟩ := hzz
  cases X with
  | none =>
    have hm : m = 0 := by
      rcases Nat.eq_zero_or_pos m with h | h
      · exact h
      · obtain ⟨ad, he, _⟩ := hX h
        cases he
    subst hm
    have hn : news = [] := List.eq_nil_of_length_eq_zero hl
    subst hn
    refine ⟨v, w, ?_, by simpa using hown, ⟨rfl, rfl, rfl, Nat.le_refl _, fun _ _ _ => rfl⟩, .inl rfl⟩
    rcases hown.2 with ⟨rfl, rfl⟩ | ⟨g, cap, cur, rfl, _, _, hnc, _⟩
    · simp [Builtin.append_, run_underlying ht, sizeOf, typeInfo, hi, Builtin.lenOf, Builtin.firstCells]
    · simp [Builtin.append_, run_underlying ht, sizeOf, typeInfo, hi, Builtin.lenOf, Builtin.firstCells, hnc, storeCells]
  | some ad =>
    have hcells : ∀ j u, news[j]? = some u → w.cell? (ad.add j) = some u := by
      intro j u hu
      have hjm : j < news.length := (List.getElem?_eq_some_iff.1 hu).1
      obtain ⟨ad', he, hc⟩ := hX (by omega)
      injection he with he
      subst he
      exact hc j u hu
    obtain ⟨v', w', hrun, h2, h3, _, h5⟩ := run_append_own_at (P := P) w base t ty e i z 1 bytes ht hi hz hs hb hz1 (by omega) v n xs hown ad m c news (by omega) hcells h1 h63 hbytes hbase
    exact ⟨v', w', hrun, h2, h3, h5⟩
set_option maxRecDepth 100000 in
theorem wpo_appG {P : Program} {o : Oper} {a : Act} {K : Act → World → Prop} {Q : Exit → Act → World → Prop} (w : World) (s x : Operand) (t : TypeId)
    (ho : o.op = .call { callee := .builtin .append, args := #[s, x], argTypes := #[t, t] })
    (e : TypeId) (z : Value) (bytes : Nat) (ht : P.underlying t = some (.slice e)) (hinfo : (P.info? e).map (fun i => (i.zero, i.size, i.bytes)) = some (some z, 1, bytes)) (hz1 : z.cells.size = 1)
    (base : Nat) (v : Value) (n : Nat) (xs : List Value) (hs : a.eval s = v) (hown : w.ownsRow base e 1 v n xs)
    (X : Option Addr) (m c : Nat) (news : List Value) (hx : a.eval x = .slice X m c) (hl : news.length = m) (hX : 0 < m → ∃ ad, X = some ad ∧ ∀ j u, news[j]? = some u → w.cell? (ad.add j) = some u) (h1 : ∀ u ∈ news, u.oneCell' = true)
    (h63 : n + m ≤ maxLen) (hbytes : (n + m) * bytes ≤ 140737488355328) (hbase : base ≤ w.heap.size)
    (h : ∀ A' c' w', w'.ownsRow base e 1 (.slice A' (n + m) c') (n + m) (xs ++ news) → Below base w w' → (Value.ownBlock (.slice A' (n + m) c') = v.ownBlock ∨ Value.ownBlock (.slice A' (n + m) c') = some w.heap.size) → w.grownBy w' v.ownBlock → K (a.put o.dst (.slice A' (n + m) c')) w') :
    o.wp P a w K Q := by
  obtain ⟨v', w', hrun, h2, h3, h4⟩ := run_appG (P := P) w t o.type e z bytes ht hinfo hz1 base v n xs hown X m c news hl hX h1 h63 hbytes hbase
  obtain ⟨A', c', rfl⟩ := own_shape h2
  unfold Oper.wp execOp
  simp only [ho, resolve, invoke, builtin, Sem.run_bind, Sem.run_pure, Result.andThen_ok, List.map_toArray, List.map_cons, List.map_nil, hs, hx, hrun]
  exact h A' c' w' h2 ((Below.refl _ _).grown h3 hbase (own_block hown)) h4 h3
set_option maxRecDepth 100000 in
theorem step_of_wp {P : Program} {ops : Array Oper} {o : Oper} {a : Act} {w : World} {K : Act → World → Prop} {Q : Exit → Act → World → Prop} {E : Prop} (hgd : o.guard = none) (h : o.wp P a w K Q) :
    if Region.wanted o (yielded ops a.tmps) = true then Oper.wp P o a w K Q else E := by
  have hw : Region.wanted o (yielded ops a.tmps) = true := by simp [Region.wanted, hgd]
  rw [if_pos hw]
  exact h
set_option maxRecDepth 100000 in
theorem cell_one_alloc (w : World) (u : Value) (e : TypeId) : (w.alloc (.cells #[u] e)).cell? ⟨w.heap.size, 0, none⟩ = some u := by
  rw [cell_of_row _ w.heap.size 0 #[u] e (0, 0) (heap_alloc_new w _)]
  rfl
set_option maxRecDepth 100000 in
theorem own_alloc {w : World} {base n : Nat} {e : TypeId} {v : Value} {xs : List Value} (h : w.ownsRow base e 1 v n xs) (o : Obj) : (w.alloc o).ownsRow base e 1 v n xs := World.ownsRow.alloc h o
set_option maxRecDepth 100000 in
/-- append(out, us...) at a byte slice that the call made, the elements just laid in a new block. -/
theorem wpo_app8_new {o : Oper} {a : Act} {K : Act → World → Prop} {Q : Exit → Act → World → Prop} (w : World) (s x : Operand)
    (ho : o.op = .call { callee := .builtin .append, args := #[s, x], argTypes := #[27, 27] })
    (base : Nat) (A : Option Addr) (n c m : Nat) (l r : List UInt8) (hs : a.eval s = .slice A n c) (hx : a.eval x = .slice (some ⟨w.heap.size, 0, none⟩) m m) (hm : r.length = m)
    (hown : Own w base A n c l) (hb : n + m ≤ 140737488355328) (hbase : base ≤ w.heap.size)
    (h : ∀ A' c' w', Own w' base A' (n + m) c' (l ++ r) → Below base w w' → K (a.put o.dst (.slice A' (n + m) c')) w') :
    o.wp Try.prog a (w.alloc (.cells (r.map B8).toArray 5)) K Q := by
  refine wpo_appG _ s x 27 ho 5 (.int .u8 0) 1 Try.underlying27 info8 rfl base _ n (l.map B8) hs (own_alloc hown.2 _) _ m m (r.map B8) hx (by simp [hm]) ?_ ?_ (by unfold maxLen; omega) (by omega) (by simp; omega) ?_
  · intro _
    refine ⟨_, rfl, fun j v hj => ?_⟩
    have hp : (⟨w.heap.size, 0, none⟩ : Addr).add j = ⟨w.heap.size, j, none⟩ := by unfold Addr.add; split <;> simp_all
    rw [hp, cell_of_row _ w.heap.size j _ 5 (0, 0) (heap_alloc_new w _)]
    simpa using hj
  · intro v hv; simp at hv; obtain ⟨u, _, rfl⟩ := hv; rfl
  · intro A' c' w' hown' hbel _ _
    refine h A' c' w' ⟨by simp [hown.1, hm], by rw [List.map_append]; exact hown'⟩ (((Below.refl _ _).alloc hbase _).trans hbel)
set_option maxRecDepth 100000 in
/-- append(out, u) at a byte slice that the call made. -/
theorem app8_one {ops : Array Oper} {rest : List Oper} {o : Oper} {a : Act} {Q : Exit → Act → World → Prop} (w : World) (hgd : o.guard = none) (s x : Operand)
    (ho : o.op = .call { callee := .builtin .append, args := #[s, x], argTypes := #[27, 27] })
    (base : Nat) (A : Option Addr) (n c : Nat) (l : List UInt8) (z : Int) (u : UInt8) (hz : z = (u.toNat : Int)) (hs : a.eval s = .slice A n c) (hx : a.eval x = .slice (some ⟨w.heap.size, 0, none⟩) 1 1)
    (hown : Own w base A n c l) (hb : n + 1 ≤ 140737488355328) (hbase : base ≤ w.heap.size)
    (h : ∀ A' c' w', Own w' base A' (n + 1) c' (l ++ [u]) → Below base w w' → wpList Try.prog ops Q rest (a.put o.dst (.slice A' (n + 1) c')) w') :
    wpList Try.prog ops Q (o :: rest) a (w.alloc (.cells #[.int .u8 z] 5)) := by
  subst hz
  exact wpList_plain hgd fun _ hK => wpo_app8_new w s x ho base A n c 1 l [u] hs hx rfl hown hb hbase fun A' c' w' h1 h2 => hK _ _ (h A' c' w' h1 h2)
set_option maxRecDepth 100000 in
theorem app8_two {ops : Array Oper} {rest : List Oper} {o : Oper} {a : Act} {Q : Exit → Act → World → Prop} (w : World) (hgd : o.guard = none) (s x : Operand)
    (ho : o.op = .call { callee := .builtin .append, args := #[s, x], argTypes := #[27, 27] })
    (base : Nat) (A : Option Addr) (n c : Nat) (l : List UInt8) (z1 z2 : Int) (u1 u2 : UInt8) (hz1 : z1 = (u1.toNat : Int)) (hz2 : z2 = (u2.toNat : Int)) (hs : a.eval s = .slice A n c) (hx : a.eval x = .slice (some ⟨w.heap.size, 0, none⟩) 2 2)
    (hown : Own w base A n c l) (hb : n + 2 ≤ 140737488355328) (hbase : base ≤ w.heap.size)
    (h : ∀ A' c' w', Own w' base A' (n + 2) c' (l ++ [u1, u2]) → Below base w w' → wpList Try.prog ops Q rest (a.put o.dst (.slice A' (n + 2) c')) w') :
    wpList Try.prog ops Q (o :: rest) a (w.alloc (.cells #[.int .u8 z1, .int .u8 z2] 5)) := by
  subst hz1 hz2
  exact wpList_plain hgd fun _ hK => wpo_app8_new w s x ho base A n c 2 l [u1, u2] hs hx rfl hown hb hbase fun A' c' w' h1 h2 => hK _ _ (h A' c' w' h1 h2)
set_option maxRecDepth 100000 in
/-- The same at a step of a region that draws its order; the world W is w with the new block, and with draws. -/
theorem st8_two {ops : Array Oper} {o : Oper} {a : Act} {K : Act → World → Prop} {Q : Exit → Act → World → Prop} {E : Prop} (W w : World) (hgd : o.guard = none) (s x : Operand)
    (ho : o.op = .call { callee := .builtin .append, args := #[s, x], argTypes := #[27, 27] })
    (base : Nat) (A : Option Addr) (n c : Nat) (l : List UInt8) (z1 z2 : Int) (u1 u2 : UInt8) (hz1 : z1 = (u1.toNat : Int)) (hz2 : z2 = (u2.toNat : Int)) (hs : a.eval s = .slice A n c) (hx : a.eval x = .slice (some ⟨w.heap.size, 0, none⟩) 2 2)
    (hW : W = w.alloc (.cells #[.int .u8 z1, .int .u8 z2] 5))
    (hown : Own w base A n c l) (hb : n + 2 ≤ 140737488355328) (hbase : base ≤ w.heap.size)
    (h : ∀ A' c' w', Own w' base A' (n + 2) c' (l ++ [u1, u2]) → Below base w w' → K (a.put o.dst (.slice A' (n + 2) c')) w') :
    if Region.wanted o (yielded ops a.tmps) = true then Oper.wp Try.prog o a W K Q else E := by
  subst hz1 hz2 hW
  exact step_of_wp hgd (wpo_app8_new w s x ho base A n c 2 l [u1, u2] hs hx rfl hown hb hbase h)
set_option maxRecDepth 100000 in
/-- append(out, xs...) at a byte slice that the call made. -/
theorem wpo_app8_all {o : Oper} {a : Act} {K : Act → World → Prop} {Q : Exit → Act → World → Prop} (w : World) (s x : Operand)
    (ho : o.op = .call { callee := .builtin .append, args := #[s, x], argTypes := #[27, 27] })
    (base : Nat) (A : Option Addr) (n c : Nat) (l : List UInt8) (X : Option Addr) (m cx : Nat) (r : List UInt8) (hs : a.eval s = .slice A n c) (hx : a.eval x = .slice X m cx)
    (hown : Own w base A n c l) (hr : Rd w X m r) (hb : n + m ≤ 140737488355328) (hbase : base ≤ w.heap.size)
    (h : ∀ A' c' w', Own w' base A' (n + m) c' (l ++ r) → Below base w w' → K (a.put o.dst (.slice A' (n + m) c')) w') :
    o.wp Try.prog a w K Q := by
  refine wpo_appG _ s x 27 ho 5 (.int .u8 0) 1 Try.underlying27 info8 rfl base _ n (l.map B8) hs hown.2 X m cx (r.map B8) hx (by rw [List.length_map]; exact hr.1) ?_ ?_ (by unfold maxLen; omega) (by omega) hbase ?_
  · intro hm
    obtain ⟨b, off, rfl, _, hc⟩ := hr.2 hm
    refine ⟨_, rfl, fun j v hj => ?_⟩
    have hjl : j < r.length := by have := (List.getElem?_eq_some_iff.1 hj).1; simpa using this
    have hp : (⟨b, off, none⟩ : Addr).add j = ⟨b, off + j, none⟩ := by unfold Addr.add; split <;> simp_all
    rw [hp, hc j hjl]
    simp [List.getElem?_eq_getElem hjl] at hj
    rw [← hj]; rfl
  · intro v hv; simp at hv; obtain ⟨u, _, rfl⟩ := hv; rfl
  · intro A' c' w' hown' hbel _ _
    refine h A' c' w' ⟨by simp [hown.1, hr.1], by rw [List.map_append]; exact hown'⟩ hbel
set_option maxRecDepth 100000 in
theorem app8_all {ops : Array Oper} {rest : List Oper} {o : Oper} {a : Act} {Q : Exit → Act → World → Prop} (w : World) (hgd : o.guard = none) (s x : Operand)
    (ho : o.op = .call { callee := .builtin .append, args := #[s, x], argTypes := #[27, 27] })
    (base : Nat) (A : Option Addr) (n c : Nat) (l : List UInt8) (X : Option Addr) (m cx : Nat) (r : List UInt8) (hs : a.eval s = .slice A n c) (hx : a.eval x = .slice X m cx)
    (hown : Own w base A n c l) (hr : Rd w X m r) (hb : n + m ≤ 140737488355328) (hbase : base ≤ w.heap.size)
    (h : ∀ A' c' w', Own w' base A' (n + m) c' (l ++ r) → Below base w w' → wpList Try.prog ops Q rest (a.put o.dst (.slice A' (n + m) c')) w') :
    wpList Try.prog ops Q (o :: rest) a w :=
  wpList_plain hgd fun _ hK => wpo_app8_all w s x ho base A n c l X m cx r hs hx hown hr hb hbase fun A' c' w' h1 h2 => hK _ _ (h A' c' w' h1 h2)
set_option maxRecDepth 100000 in
theorem own_cap {w : World} {base n c : Nat} {A : Option Addr} {l : List UInt8} (h : Own w base A n c l) : n ≤ c ∧ c ≤ maxLen := by
  obtain ⟨hl, h1, h | ⟨g', cap, cur, hv, hb, _, hc, hm, _⟩⟩ := h
  · obtain ⟨h, h0⟩ := h
    injection h with e1 e2 e3
    exact ⟨by omega, by unfold maxLen; omega⟩
  · injection hv with e1 e2 e3
    exact ⟨by omega, by omega⟩
end Go.Proofs.Ytplnmjdafchjbaa

/- Words for slices of numbers of 64 bits that a call made, and append onto them. -/
namespace Go.Proofs.Ytplnmjdafchjbaa
open Go.RowKit
set_option linter.unusedVariables false

set_option maxRecDepth 100000 in
theorem info64 : (Try.prog.info? 22).map (fun i => (i.zero, i.size, i.bytes)) = some (some (.int .u64 0), 1, 8) := by kernel_rfl
def W64 (n : Nat) : Value := .int .u64 (n : Int)
set_option maxRecDepth 100000 in
theorem map_at64 (l : List Nat) (t : Nat) (h : t < l.length) : (l.map W64)[t]? = some (.int .u64 (l.getD t 0 : Int)) := by
  simp [W64, List.getElem?_eq_getElem h, List.getD]
/-- The slice of n numbers that begins at A was made by the call and holds the numbers l. -/
def Own64 (w : World) (base : Nat) (A : Option Addr) (n c : Nat) (l : List Nat) : Prop := l.length = n ∧ w.ownsRow base 22 1 (.slice A n c) n (l.map W64)
set_option maxRecDepth 100000 in
theorem Own64.len {w : World} {base n c : Nat} {A : Option Addr} {l : List Nat} (h : Own64 w base A n c l) : l.length = n := h.1
set_option maxRecDepth 100000 in
theorem Own64.nil (w : World) (base : Nat) : Own64 w base none 0 0 [] := ⟨rfl, World.ownsRow_nil _ _ _ _⟩
set_option maxRecDepth 100000 in
theorem Own64.at_ {w : World} {base n c : Nat} {A : Option Addr} {l : List Nat} (h : Own64 w base A n c l) (hn : 0 < n) :
    ∃ g, A = some ⟨g, 0, none⟩ ∧ base ≤ g ∧ g < w.heap.size ∧ ∀ k, k < n → w.cell? ⟨g, k, none⟩ = some (.int .u64 (l.getD k 0 : Int)) := by
  obtain ⟨hl, h⟩ := h
  obtain ⟨g, cap, hv, hb, hlt⟩ := World.ownsRow.form h hn
  have hA : A = some ⟨g, 0, none⟩ := by injection hv
  subst hA
  refine ⟨g, rfl, hb, hlt, fun k hk => ?_⟩
  have hk' : k < l.length := by omega
  rw [World.ownsRow.cellAt h k (by omega), map_at64 l k hk']
set_option maxRecDepth 100000 in
theorem wpo_app64 {o : Oper} {a : Act} {K : Act → World → Prop} {Q : Exit → Act → World → Prop} (w : World) (s x : Operand)
    (ho : o.op = .call { callee := .builtin .append, args := #[s, x], argTypes := #[35, 35] })
    (base : Nat) (A : Option Addr) (n c : Nat) (l : List Nat) (u : Nat) (hs : a.eval s = .slice A n c) (hx : a.eval x = .slice (some ⟨w.heap.size, 0, none⟩) 1 1)
    (hown : Own64 w base A n c l) (hb : n + 1 ≤ 1000000) (hbase : base ≤ w.heap.size)
    (h : ∀ A' c' w', Own64 w' base A' (n + 1) c' (l ++ [u]) → Below base w w' → K (a.put o.dst (.slice A' (n + 1) c')) w') :
    o.wp Try.prog a (w.alloc (.cells #[W64 u] 22)) K Q := by
  refine wpo_appG _ s x 35 ho 22 (.int .u64 0) 8 Try.underlying35 info64 rfl base _ n (l.map W64) hs (own_alloc hown.2 _) _ 1 1 [W64 u] hx rfl ?_ ?_ (by unfold maxLen; omega) (by omega) (by simp; omega) ?_
  · intro _
    refine ⟨_, rfl, fun j v hj => ?_⟩
    rw [Addr.add_mid, cell_of_row _ w.heap.size (0 + j) _ 22 (0, 0) (heap_alloc_new w _)]
    simpa using hj
  · intro v hv; simp at hv; subst hv; rfl
  · intro A' c' w' hown' hbel _ _
    refine h A' c' w' ⟨by simp [hown.1], by rw [List.map_append]; exact hown'⟩ (((Below.refl _ _).alloc hbase _).trans hbel)
set_option maxRecDepth 100000 in
theorem app64_one {ops : Array Oper} {rest : List Oper} {o : Oper} {a : Act} {Q : Exit → Act → World → Prop} (w : World) (hgd : o.guard = none) (s x : Operand)
    (ho : o.op = .call { callee := .builtin .append, args := #[s, x], argTypes := #[35, 35] })
    (base : Nat) (A : Option Addr) (n c : Nat) (l : List Nat) (z : Int) (u : Nat) (hz : z = (u : Int)) (hs : a.eval s = .slice A n c) (hx : a.eval x = .slice (some ⟨w.heap.size, 0, none⟩) 1 1)
    (hown : Own64 w base A n c l) (hb : n + 1 ≤ 1000000) (hbase : base ≤ w.heap.size)
    (h : ∀ A' c' w', Own64 w' base A' (n + 1) c' (l ++ [u]) → Below base w w' → wpList Try.prog ops Q rest (a.put o.dst (.slice A' (n + 1) c')) w') :
    wpList Try.prog ops Q (o :: rest) a (w.alloc (.cells #[.int .u64 z] 22)) := by
  subst hz
  exact wpList_plain hgd fun _ hK => wpo_app64 w s x ho base A n c l u hs hx hown hb hbase fun A' c' w' h1 h2 => hK _ _ (h A' c' w' h1 h2)
end Go.Proofs.Ytplnmjdafchjbaa

/- The contract of the document's own Numbers: the words of a text, its last one too. -/
namespace Go.Proofs.Ytplnmjdafchjbaa
open Go.RowKit
set_option linter.unusedVariables false

/-- The text with its end. -/
def fullT (b : List UInt8) : List UInt8 := b ++ List.replicate (7 - b.length % 8) 0 ++ [UInt8.ofNat (b.length % 256)]
set_option maxRecDepth 100000 in
theorem fullT_len (b : List UInt8) : (fullT b).length = 8 * (b.length / 8 + 1) := by simp [fullT]; omega
/-- The words. -/
def nums (b : List UInt8) (t : Nat) : List Nat := (List.range t).map fun i => wordAt (fullT b) i
set_option maxRecDepth 100000 in
theorem nums_len (b : List UInt8) (t : Nat) : (nums b t).length = t := by simp [nums]
set_option maxRecDepth 100000 in
theorem nums_succ (b : List UInt8) (t : Nat) : nums b (t + 1) = nums b t ++ [wordAt (fullT b) t] := by simp [nums, List.range_succ]
set_option maxRecDepth 100000 in
theorem numL_zeros (n : Nat) : numL (List.replicate n 0) = 0 := by
  induction n with
  | zero => rfl
  | succ n ih => simp [List.replicate_succ, numL, ih]
set_option maxRecDepth 100000 in
theorem full_word (b : List UInt8) (t : Nat) (h : t < b.length / 8) : wordAt (fullT b) t = wordAt b t := by
  unfold wordAt fullT
  rw [List.append_assoc, List.drop_append_of_le_length (by omega), List.take_append_of_le_length (by rw [List.length_drop]; omega)]
set_option maxRecDepth 100000 in
theorem full_last (b : List UInt8) : wordAt (fullT b) (b.length / 8) = lastW b := by
  unfold wordAt fullT lastW
  rw [List.append_assoc, List.drop_append_of_le_length (by omega)]
  rw [List.take_of_length_le (by simp; omega), numL_append, numL_append, numL_zeros, List.length_replicate, List.length_drop]
  simp only [numL]
  rw [ofNat_toNat]
  have e : 256 ^ (b.length - 8 * (b.length / 8)) * (0 + 256 ^ (7 - b.length % 8) * (b.length % 256 % 256 + 256 * 0)) = 2 ^ 56 * (b.length % 256) := by
    rw [Nat.zero_add, Nat.mul_zero, Nat.add_zero, Nat.mod_mod, ← Nat.mul_assoc, ← Nat.pow_add, show b.length - 8 * (b.length / 8) + (7 - b.length % 8) = 7 from by omega]
  rw [e]

set_option maxRecDepth 100000 in
set_option maxHeartbeats 1000000 in
theorem numbers_calls (A : Option Addr) (n c : Nat) (b : List UInt8) (w : World) (hn : n ≤ 100000) (hr : Rd w A n b) :
    Calls Try.prog 100 #[.slice A n c] w fun e w' => ∃ A' c', e = .returned (.slice A' (n / 8 + 1) c') ∧ Own64 w' w.heap.size A' (n / 8 + 1) c' (nums b (n / 8 + 1)) ∧ Below w.heap.size w w' := by
  have hbl := hr.len
  have HR := Lib.hid hr
  have HL := Lib.hid hbl
  have hE : Own (w.alloc (.cells #[] 5)) w.heap.size (some ⟨w.heap.size, 0, none⟩) 0 0 [] := by
    have h := Own.room w 0 (by unfold maxLen; omega)
    rw [show madeCells #[Value.int .u8 0] 0 = #[] from Array.eq_empty_of_size_eq_zero (by rw [size_madeCells])] at h
    exact h
  have HE := Lib.hid hE
  clear hr hbl hE
  go_enter Try.func100, Try.ntmps100
  go_wp2_with (at_builtin; refine app8_all _ rfl _ _ rfl w.heap.size (some ⟨w.heap.size, 0, none⟩) 0 0 [] A n c b rfl rfl HE.out (HR.out.below ((Below.refl _ w).alloc (Nat.le_refl _) _)) (by omega) (by simp) ?_; intro A2 c2 w2 hown2 hbel2)
  rw [List.nil_append] at hown2
  simp only [Nat.zero_add] at hown2
  have hB2 : Below w.heap.size w w2 := ((Below.refl _ w).alloc (Nat.le_refl _) _).trans hbel2
  have H2 := Lib.hid (And.intro hown2 hB2)
  clear hown2 hB2 hbel2
  go_loopw [4] (fun v wr => ∃ (j : Nat) (B : Option Addr) (d : Nat), j ≤ 7 - n % 8 ∧ v = .slice B (n + j) d ∧ Own wr w.heap.size B (n + j) d (b ++ List.replicate j 0) ∧ Below w.heap.size w wr) (fun v _ => match v with | .slice _ p _ => n + 8 - p | _ => 0)
  case atStart => exact ⟨0, A2, c2, Nat.zero_le _, rfl, by simpa using H2.out.1, H2.out.2⟩
  case round =>
    obtain ⟨j, B, d, hj, rfl, hown, hbel⟩ := hrel
    obtain ⟨p, hp⟩ : ∃ p, p = n + j := ⟨_, rfl⟩
    rw [← hp] at hown ⊢
    have hmod : (p : Int).tmod 8 = ((p % 8 : Nat) : Int) := by rw [Int.tmod_eq_emod_of_nonneg (by omega)]; omega
    obtain ⟨r, hrr⟩ : ∃ r, r = p % 8 := ⟨_, rfl⟩
    rw [← hrr] at hmod
    by_cases hlt : j < 7 - n % 8
    · have hne : (r : Int) ≠ 7 := by omega
      have HB := Lib.hid hbel
      have HO := Lib.hid hown
      have HP := Lib.hid hp
      clear hbel hown hp hrr
      go_wp2_with (at_builtin; refine app8_one _ rfl _ _ rfl w.heap.size B p d _ _ 0 rfl rfl rfl HO.out (by have := HP.out; omega) HB.out.size ?_; intro A3 c3 w3 hown3 hbel3)
      go_roundw
      case rel =>
        have hpp := HP.out
        refine ⟨j + 1, A3, c3, by omega, by rw [hpp, Nat.add_assoc], ?_, HB.out.trans hbel3⟩
        rw [← Nat.add_assoc, ← hpp, List.replicate_succ', ← List.append_assoc]
        exact hown3
      case measure => have := HP.out; simp; omega
    · have hj7 : j = 7 - n % 8 := by omega
      have h7 : r = 7 := by omega
      subst h7
      obtain ⟨u, hu⟩ : ∃ u, u = n % 256 := ⟨_, rfl⟩
      have hmn : (n : Int).tmod 256 = (u : Int) := by rw [Int.tmod_eq_emod_of_nonneg (by omega)]; omega
      have hwu : IntKind.u8.wrap (u : Int) = (u : Int) := by rw [IntKind.wrap_u8]; omega
      have HB := Lib.hid hbel
      have HO := Lib.hid hown
      have HP := Lib.hid (And.intro hp (And.intro hj7 hu))
      clear hbel hown hp hrr hj7
      go_wp2_with (at_builtin; refine app8_one _ rfl _ _ rfl w.heap.size B p d _ _ (UInt8.ofNat u) (by rw [ofNat_toNat]; have := HP.out.2.2; omega) rfl rfl HO.out (by have := HP.out.1; omega) HB.out.size ?_; intro A3 c3 w3 hown3 hbel3)
      obtain ⟨hp, hj7, hu⟩ := HP.out
      have hfull : b ++ List.replicate j 0 ++ [UInt8.ofNat u] = fullT b := by unfold fullT; rw [HL.out, ← hj7, ← hu]
      rw [hfull] at hown3
      have hB3 := HB.out.trans hbel3
      have hrd := hown3.rd
      have hlen := fullT_len b
      rw [HL.out] at hlen
      obtain ⟨M, hM⟩ : ∃ M, M = n / 8 + 1 := ⟨_, rfl⟩
      rw [← hM] at hlen
      obtain ⟨P, hP⟩ : ∃ P, P = p + 1 := ⟨_, rfl⟩
      rw [← hP] at hrd hown3 ⊢
      have hP8 : P = 8 * M := by rw [← hown3.len, hlen]
      have hcap : P ≤ c3 := (own_cap hown3).1
      have H3 := Lib.hid (And.intro hB3 hrd)
      have hPa : P ≤ 8 * M := by omega
      have hPb : 8 * M ≤ P := by omega
      have hMn : M ≤ 100001 := by omega
      have HM := Lib.hid hM
      clear hP8 hM hown3 hbel3 hB3 hrd hfull hp hj7 hu HP HO HB hlen hP
      go_loopw [3, 5] (fun o i wr => ∃ (t : Nat) (B : Option Addr) (d : Nat), t ≤ M ∧ i = .int .i64 ((8 * t : Nat) : Int) ∧ o = .slice B t d ∧ Own64 wr w3.heap.size B t d (nums b t) ∧ Below w3.heap.size w3 wr) (fun _ i _ => 8 * M - (intOf i).toNat)
      case atStart => exact ⟨0, none, 0, Nat.zero_le _, rfl, rfl, Own64.nil _ _, Below.refl _ _⟩
      case round =>
        obtain ⟨t, B, d, ht, rfl, rfl, hown, hbel⟩ := hrel
        obtain ⟨q, hq⟩ : ∃ q, q = 8 * t := ⟨_, rfl⟩
        rw [← hq]
        by_cases hlt : t < M
        · have bq : (q : Int) < (P : Int) := by omega
          have hsl := fun W => run_subLH (P := Try.prog) 27 5 Try.underlying27 size8 A3 P c3 q (q + 8) (q : Int) ((q : Int) + 8) rfl (by omega) (by omega) (by omega) W
          rw [show q + 8 - q = 8 from by omega] at hsl
          obtain ⟨m, hm⟩ : ∃ m, m = wordAt (fullT b) t := ⟨_, rfl⟩
          have CV : Hid (Calls Try.prog 65 #[.slice (sub A3 c3 q) 8 (c3 - q)] wr fun e w' => e = .returned (.int .u64 (m : Int)) ∧ wr = w') := Lib.hid (by
            have h := value_calls (sub A3 c3 q) 8 (c3 - q) ((fullT b).drop q |>.take 8) wr (by omega) (by
              have h := (H3.out.2.below hbel).mid q (q + 8) hcap (by omega)
              rw [show q + 8 - q = 8 from by omega] at h
              exact h)
            rw [hm, wordAt, ← hq]
            rw [List.take_take, Nat.min_self] at h
            exact h)
          generalize sub A3 c3 q = A4 at *
          have hs := nums_succ b t
          rw [← hm] at hs
          have HS := Lib.hid hs
          have HO := Lib.hid hown
          have HB := Lib.hid hbel
          have HQ := Lib.hid hq
          clear hown hbel hs hm hq
          go_wp2_with (first
            | (go_at_call 65; refine CV.out.mono ?_; rintro e' w' ⟨rfl, rfl⟩)
            | (at_builtin; refine app64_one _ rfl _ _ rfl w3.heap.size B t d _ _ m rfl rfl rfl HO.out (by omega) HB.out.size ?_; intro A5 c5 w5 hown5 hbel5))
          go_roundw
          case rel =>
            rw [← HS.out] at hown5
            refine ⟨t + 1, A5, c5, by omega, ?_, rfl, hown5, HB.out.trans hbel5⟩
            have := HQ.out
            congr 1
            omega
          case measure => simp [intOf]; omega
        · have e : t = M := by omega
          subst e
          have bq : ¬ (q : Int) < (P : Int) := by omega
          have HO := Lib.hid hown
          have HB := Lib.hid hbel
          clear hown hbel
          go_wp2
          go_ret
          have hs3 := H3.out.1.size
          rw [← HM.out]
          refine ⟨_, _, rfl, ⟨HO.out.1, ?_⟩, H3.out.1.trans (HB.out.mono hs3)⟩
          obtain ⟨h0, h1, h | ⟨g, cap, cur, hv, hbg, hrest⟩⟩ := HO.out
          · exact ⟨h1, Or.inl h⟩
          · exact ⟨h1, Or.inr ⟨g, cap, cur, hv, by omega, hrest⟩⟩
end Go.Proofs.Ytplnmjdafchjbaa
