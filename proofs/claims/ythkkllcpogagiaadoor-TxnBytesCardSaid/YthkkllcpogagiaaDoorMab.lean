/- Merged texts: AppC Room Open RdL JoinC. -/
import Derived.Test.YthkkllcpogagiaaDoorMaa
import Derived.OwnWalk
import Derived.Maps.AppendAt
import Derived.WalkKit
import Derived.OpenShut
import Derived.Deep.RegionLaw
/- Laws for append onto a slice that the call made, of one-cell elements, in the words of Own and Rd. -/
namespace Go.Proofs.YthkkllcpogagiaaDoor
open Go.RowKit

set_option maxRecDepth 100000 in
theorem own_shape {w : World} {base n : Nat} {e : TypeId} {v : Value} {xs : List Value} (h : w.ownsRow base e 1 v n xs) : ∃ A c, v = .slice A n c := by
  rcases h.2 with ⟨rfl, hx⟩ | ⟨g, cap, cur, rfl, _⟩
  · have : n = 0 := by have h1 := h.1; subst hx; simp at h1; omega
    subst this
    exact ⟨none, 0, rfl⟩
  · exact ⟨_, _, rfl⟩
set_option maxRecDepth 100000 in
theorem own_block {w : World} {base n : Nat} {e : TypeId} {v : Value} {xs : List Value} (h : w.ownsRow base e 1 v n xs) : ∀ k, v.ownBlock = some k → base ≤ k := by
  intro k hk
  rcases h.2 with ⟨rfl, hx⟩ | ⟨g, cap, cur, rfl, hb, _⟩
  · simp [Value.ownBlock] at hk
  · have : g = k := by simpa [Value.ownBlock] using hk
    omega
set_option maxRecDepth 100000 in
theorem run_appG {P : Program} (w : World) (t ty e : TypeId) (z : Value) (bytes : Nat) (ht : P.underlying t = some (.slice e)) (hinfo : (P.info? e).map (fun i => (i.zero, i.size, i.bytes)) = some (some z, 1, bytes)) (hz1 : z.cells.size = 1)
    (base : Nat) (v : Value) (n : Nat) (xs : List Value) (hown : w.ownsRow base e 1 v n xs)
    (X : Option Addr) (m c : Nat) (news : List Value) (hl : news.length = m) (hX : 0 < m → ∃ ad, X = some ad ∧ ∀ j u, news[j]? = some u → w.cell? (ad.add j) = some u) (h1 : ∀ u ∈ news, u.oneCell' = true)
    (h63 : n + m ≤ maxLen) (hbytes : (n + m) * bytes ≤ 140737488355328) (hbase : base ≤ w.heap.size) :
    ∃ v' w', (Builtin.append_ #[t, t] ty #[v, .slice X m c]).run P w = .ok v' w' ∧ w'.ownsRow base e 1 v' (n + m) (xs ++ news) ∧ w.grownBy w' v.ownBlock ∧ (v'.ownBlock = v.ownBlock ∨ v'.ownBlock = some w.heap.size) := by
  obtain ⟨i, hi, hzz⟩ := Option.map_eq_some_iff.1 hinfo
  simp only [Prod.mk.injEq] at hzz
  obtain ⟨hz, hs, hb⟩ := hzz
  cases X with
  | none =>
    have hm : m = 0 := by
      rcases Nat.eq_zero_or_pos m with h | h
      · exact h
      · obtain ⟨ad, he, _⟩ := hX h
        cases he
    subst hm
    have hn : news = [] := List.eq_nil_of_length_eq_zero hl
    subst hn
    refine ⟨v, w, ?_, by simpa using hown, ⟨rfl, rfl, rfl, Nat.le_refl _, fun _ _ _ => rfl⟩, .inl rfl⟩
    rcases hown.2 with ⟨rfl, rfl⟩ | ⟨g, cap, cur, rfl, _, _, hnc, _⟩
    · simp [Builtin.append_, run_underlying ht, sizeOf, typeInfo, hi, Builtin.lenOf, Builtin.firstCells]
    · simp [Builtin.append_, run_underlying ht, sizeOf, typeInfo, hi, Builtin.lenOf, Builtin.firstCells, hnc, storeCells]
  | some ad =>
    have hcells : ∀ j u, news[j]? = some u → w.cell? (ad.add j) = some u := by
      intro j u hu
      have hjm : j < news.length := (List.getElem?_eq_some_iff.1 hu).1
      obtain ⟨ad', he, hc⟩ := hX (by omega)
      injection he with he
      subst he
      exact hc j u hu
    obtain ⟨v', w', hrun, h2, h3, _, h5⟩ := run_append_own_at (P := P) w base t ty e i z 1 bytes ht hi hz hs hb hz1 (by omega) v n xs hown ad m c news (by omega) hcells h1 h63 hbytes hbase
    exact ⟨v', w', hrun, h2, h3, h5⟩
set_option maxRecDepth 100000 in
theorem wpo_appG {P : Program} {o : Oper} {a : Act} {K : Act → World → Prop} {Q : Exit → Act → World → Prop} (w : World) (s x : Operand) (t : TypeId)
    (ho : o.op = .call { callee := .builtin .append, args := #[s, x], argTypes := #[t, t] })
    (e : TypeId) (z : Value) (bytes : Nat) (ht : P.underlying t = some (.slice e)) (hinfo : (P.info? e).map (fun i => (i.zero, i.size, i.bytes)) = some (some z, 1, bytes)) (hz1 : z.cells.size = 1)
    (base : Nat) (v : Value) (n : Nat) (xs : List Value) (hs : a.eval s = v) (hown : w.ownsRow base e 1 v n xs)
    (X : Option Addr) (m c : Nat) (news : List Value) (hx : a.eval x = .slice X m c) (hl : news.length = m) (hX : 0 < m → ∃ ad, X = some ad ∧ ∀ j u, news[j]? = some u → w.cell? (ad.add j) = some u) (h1 : ∀ u ∈ news, u.oneCell' = true)
    (h63 : n + m ≤ maxLen) (hbytes : (n + m) * bytes ≤ 140737488355328) (hbase : base ≤ w.heap.size)
    (h : ∀ A' c' w', w'.ownsRow base e 1 (.slice A' (n + m) c') (n + m) (xs ++ news) → Below base w w' → (Value.ownBlock (.slice A' (n + m) c') = v.ownBlock ∨ Value.ownBlock (.slice A' (n + m) c') = some w.heap.size) → w.grownBy w' v.ownBlock → K (a.put o.dst (.slice A' (n + m) c')) w') :
    o.wp P a w K Q := by
  obtain ⟨v', w', hrun, h2, h3, h4⟩ := run_appG (P := P) w t o.type e z bytes ht hinfo hz1 base v n xs hown X m c news hl hX h1 h63 hbytes hbase
  obtain ⟨A', c', rfl⟩ := own_shape h2
  unfold Oper.wp execOp
  simp only [ho, resolve, invoke, builtin, Sem.run_bind, Sem.run_pure, Result.andThen_ok, List.map_toArray, List.map_cons, List.map_nil, hs, hx, hrun]
  exact h A' c' w' h2 ((Below.refl _ _).grown h3 hbase (own_block hown)) h4 h3
set_option maxRecDepth 100000 in
theorem step_of_wp {P : Program} {ops : Array Oper} {o : Oper} {a : Act} {w : World} {K : Act → World → Prop} {Q : Exit → Act → World → Prop} {E : Prop} (hgd : o.guard = none) (h : o.wp P a w K Q) :
    if Region.wanted o (yielded ops a.tmps) = true then Oper.wp P o a w K Q else E := by
  have hw : Region.wanted o (yielded ops a.tmps) = true := by simp [Region.wanted, hgd]
  rw [if_pos hw]
  exact h
set_option maxRecDepth 100000 in
theorem cell_one_alloc (w : World) (u : Value) (e : TypeId) : (w.alloc (.cells #[u] e)).cell? ⟨w.heap.size, 0, none⟩ = some u := by
  rw [cell_of_row _ w.heap.size 0 #[u] e (0, 0) (heap_alloc_new w _)]
  rfl
set_option maxRecDepth 100000 in
theorem own_alloc {w : World} {base n : Nat} {e : TypeId} {v : Value} {xs : List Value} (h : w.ownsRow base e 1 v n xs) (o : Obj) : (w.alloc o).ownsRow base e 1 v n xs := World.ownsRow.alloc h o
set_option maxRecDepth 100000 in
/-- append(out, us...) at a byte slice that the call made, the elements just laid in a new block. -/
theorem wpo_app8_new {o : Oper} {a : Act} {K : Act → World → Prop} {Q : Exit → Act → World → Prop} (w : World) (s x : Operand)
    (ho : o.op = .call { callee := .builtin .append, args := #[s, x], argTypes := #[28, 28] })
    (base : Nat) (A : Option Addr) (n c m : Nat) (l r : List UInt8) (hs : a.eval s = .slice A n c) (hx : a.eval x = .slice (some ⟨w.heap.size, 0, none⟩) m m) (hm : r.length = m)
    (hown : Own w base A n c l) (hb : n + m ≤ 140737488355328) (hbase : base ≤ w.heap.size)
    (h : ∀ A' c' w', Own w' base A' (n + m) c' (l ++ r) → Below base w w' → K (a.put o.dst (.slice A' (n + m) c')) w') :
    o.wp Tryd.prog a (w.alloc (.cells (r.map B8).toArray 5)) K Q := by
  refine wpo_appG _ s x 28 ho 5 (.int .u8 0) 1 Tryd.underlying28 info8 rfl base _ n (l.map B8) hs (own_alloc hown.2 _) _ m m (r.map B8) hx (by simp [hm]) ?_ ?_ (by unfold maxLen; omega) (by omega) (by simp; omega) ?_
  · intro _
    refine ⟨_, rfl, fun j v hj => ?_⟩
    have hp : (⟨w.heap.size, 0, none⟩ : Addr).add j = ⟨w.heap.size, j, none⟩ := by unfold Addr.add; split <;> simp_all
    rw [hp, cell_of_row _ w.heap.size j _ 5 (0, 0) (heap_alloc_new w _)]
    simpa using hj
  · intro v hv; simp at hv; obtain ⟨u, _, rfl⟩ := hv; rfl
  · intro A' c' w' hown' hbel _ _
    refine h A' c' w' ⟨by simp [hown.1, hm], by rw [List.map_append]; exact hown'⟩ (((Below.refl _ _).alloc hbase _).trans hbel)
set_option maxRecDepth 100000 in
/-- append(out, u) at a byte slice that the call made. -/
theorem app8_one {ops : Array Oper} {rest : List Oper} {o : Oper} {a : Act} {Q : Exit → Act → World → Prop} (w : World) (hgd : o.guard = none) (s x : Operand)
    (ho : o.op = .call { callee := .builtin .append, args := #[s, x], argTypes := #[28, 28] })
    (base : Nat) (A : Option Addr) (n c : Nat) (l : List UInt8) (z : Int) (u : UInt8) (hz : z = (u.toNat : Int)) (hs : a.eval s = .slice A n c) (hx : a.eval x = .slice (some ⟨w.heap.size, 0, none⟩) 1 1)
    (hown : Own w base A n c l) (hb : n + 1 ≤ 140737488355328) (hbase : base ≤ w.heap.size)
    (h : ∀ A' c' w', Own w' base A' (n + 1) c' (l ++ [u]) → Below base w w' → wpList Tryd.prog ops Q rest (a.put o.dst (.slice A' (n + 1) c')) w') :
    wpList Tryd.prog ops Q (o :: rest) a (w.alloc (.cells #[.int .u8 z] 5)) := by
  subst hz
  exact wpList_plain hgd fun _ hK => wpo_app8_new w s x ho base A n c 1 l [u] hs hx rfl hown hb hbase fun A' c' w' h1 h2 => hK _ _ (h A' c' w' h1 h2)
set_option maxRecDepth 100000 in
theorem app8_two {ops : Array Oper} {rest : List Oper} {o : Oper} {a : Act} {Q : Exit → Act → World → Prop} (w : World) (hgd : o.guard = none) (s x : Operand)
    (ho : o.op = .call { callee := .builtin .append, args := #[s, x], argTypes := #[28, 28] })
    (base : Nat) (A : Option Addr) (n c : Nat) (l : List UInt8) (z1 z2 : Int) (u1 u2 : UInt8) (hz1 : z1 = (u1.toNat : Int)) (hz2 : z2 = (u2.toNat : Int)) (hs : a.eval s = .slice A n c) (hx : a.eval x = .slice (some ⟨w.heap.size, 0, none⟩) 2 2)
    (hown : Own w base A n c l) (hb : n + 2 ≤ 140737488355328) (hbase : base ≤ w.heap.size)
    (h : ∀ A' c' w', Own w' base A' (n + 2) c' (l ++ [u1, u2]) → Below base w w' → wpList Tryd.prog ops Q rest (a.put o.dst (.slice A' (n + 2) c')) w') :
    wpList Tryd.prog ops Q (o :: rest) a (w.alloc (.cells #[.int .u8 z1, .int .u8 z2] 5)) := by
  subst hz1 hz2
  exact wpList_plain hgd fun _ hK => wpo_app8_new w s x ho base A n c 2 l [u1, u2] hs hx rfl hown hb hbase fun A' c' w' h1 h2 => hK _ _ (h A' c' w' h1 h2)
set_option maxRecDepth 100000 in
/-- The same at a step of a region that draws its order; the world W is w with the new block, and with draws. -/
theorem st8_two {ops : Array Oper} {o : Oper} {a : Act} {K : Act → World → Prop} {Q : Exit → Act → World → Prop} {E : Prop} (W w : World) (hgd : o.guard = none) (s x : Operand)
    (ho : o.op = .call { callee := .builtin .append, args := #[s, x], argTypes := #[28, 28] })
    (base : Nat) (A : Option Addr) (n c : Nat) (l : List UInt8) (z1 z2 : Int) (u1 u2 : UInt8) (hz1 : z1 = (u1.toNat : Int)) (hz2 : z2 = (u2.toNat : Int)) (hs : a.eval s = .slice A n c) (hx : a.eval x = .slice (some ⟨w.heap.size, 0, none⟩) 2 2)
    (hW : W = w.alloc (.cells #[.int .u8 z1, .int .u8 z2] 5))
    (hown : Own w base A n c l) (hb : n + 2 ≤ 140737488355328) (hbase : base ≤ w.heap.size)
    (h : ∀ A' c' w', Own w' base A' (n + 2) c' (l ++ [u1, u2]) → Below base w w' → K (a.put o.dst (.slice A' (n + 2) c')) w') :
    if Region.wanted o (yielded ops a.tmps) = true then Oper.wp Tryd.prog o a W K Q else E := by
  subst hz1 hz2 hW
  exact step_of_wp hgd (wpo_app8_new w s x ho base A n c 2 l [u1, u2] hs hx rfl hown hb hbase h)
set_option maxRecDepth 100000 in
/-- append(out, xs...) at a byte slice that the call made. -/
theorem wpo_app8_all {o : Oper} {a : Act} {K : Act → World → Prop} {Q : Exit → Act → World → Prop} (w : World) (s x : Operand)
    (ho : o.op = .call { callee := .builtin .append, args := #[s, x], argTypes := #[28, 28] })
    (base : Nat) (A : Option Addr) (n c : Nat) (l : List UInt8) (X : Option Addr) (m cx : Nat) (r : List UInt8) (hs : a.eval s = .slice A n c) (hx : a.eval x = .slice X m cx)
    (hown : Own w base A n c l) (hr : Rd w X m r) (hb : n + m ≤ 140737488355328) (hbase : base ≤ w.heap.size)
    (h : ∀ A' c' w', Own w' base A' (n + m) c' (l ++ r) → Below base w w' → K (a.put o.dst (.slice A' (n + m) c')) w') :
    o.wp Tryd.prog a w K Q := by
  refine wpo_appG _ s x 28 ho 5 (.int .u8 0) 1 Tryd.underlying28 info8 rfl base _ n (l.map B8) hs hown.2 X m cx (r.map B8) hx (by rw [List.length_map]; exact hr.1) ?_ ?_ (by unfold maxLen; omega) (by omega) hbase ?_
  · intro hm
    obtain ⟨b, off, rfl, _, hc⟩ := hr.2 hm
    refine ⟨_, rfl, fun j v hj => ?_⟩
    have hjl : j < r.length := by have := (List.getElem?_eq_some_iff.1 hj).1; simpa using this
    have hp : (⟨b, off, none⟩ : Addr).add j = ⟨b, off + j, none⟩ := by unfold Addr.add; split <;> simp_all
    rw [hp, hc j hjl]
    simp [List.getElem?_eq_getElem hjl] at hj
    rw [← hj]; rfl
  · intro v hv; simp at hv; obtain ⟨u, _, rfl⟩ := hv; rfl
  · intro A' c' w' hown' hbel _ _
    refine h A' c' w' ⟨by simp [hown.1, hr.1], by rw [List.map_append]; exact hown'⟩ hbel
set_option maxRecDepth 100000 in
theorem app8_all {ops : Array Oper} {rest : List Oper} {o : Oper} {a : Act} {Q : Exit → Act → World → Prop} (w : World) (hgd : o.guard = none) (s x : Operand)
    (ho : o.op = .call { callee := .builtin .append, args := #[s, x], argTypes := #[28, 28] })
    (base : Nat) (A : Option Addr) (n c : Nat) (l : List UInt8) (X : Option Addr) (m cx : Nat) (r : List UInt8) (hs : a.eval s = .slice A n c) (hx : a.eval x = .slice X m cx)
    (hown : Own w base A n c l) (hr : Rd w X m r) (hb : n + m ≤ 140737488355328) (hbase : base ≤ w.heap.size)
    (h : ∀ A' c' w', Own w' base A' (n + m) c' (l ++ r) → Below base w w' → wpList Tryd.prog ops Q rest (a.put o.dst (.slice A' (n + m) c')) w') :
    wpList Tryd.prog ops Q (o :: rest) a w :=
  wpList_plain hgd fun _ hK => wpo_app8_all w s x ho base A n c l X m cx r hs hx hown hr hb hbase fun A' c' w' h1 h2 => hK _ _ (h A' c' w' h1 h2)
set_option maxRecDepth 100000 in
theorem own_cap {w : World} {base n c : Nat} {A : Option Addr} {l : List UInt8} (h : Own w base A n c l) : n ≤ c ∧ c ≤ maxLen := by
  obtain ⟨hl, h1, h | ⟨g', cap, cur, hv, hb, _, hc, hm, _⟩⟩ := h
  · obtain ⟨h, h0⟩ := h
    injection h with e1 e2 e3
    exact ⟨by omega, by unfold maxLen; omega⟩
  · injection hv with e1 e2 e3
    exact ⟨by omega, by omega⟩
end Go.Proofs.YthkkllcpogagiaaDoor

/- make of byte slices with room. -/
namespace Go.Proofs.YthkkllcpogagiaaDoor
open Go.RowKit

set_option maxRecDepth 100000 in
theorem run_mk8c (z : Int) (c : Nat) (hz : z = c) (hn : c ≤ 281474976710656) (w : World) :
    (Instr.makeSlice 28 (.int .i64 0) (.int .i64 z)).run Tryd.prog w = .ok (.slice (some ⟨w.heap.size, 0, none⟩) 0 c) (w.alloc (.cells (madeCells #[.int .u8 0] c) 5)) := by
  subst hz
  obtain ⟨i, hi, hzz⟩ := Option.map_eq_some_iff.1 info8
  simp only [Prod.mk.injEq] at hzz
  obtain ⟨hz, hs, hb⟩ := hzz
  have hr := run_make (P := Tryd.prog) w 28 5 i (.int .u8 0) Tryd.underlying28 hi hz .i64 .i64 0 c (by omega) (by omega) (by rw [hb]; omega) (by omega)
  simp only [Int.toNat_natCast, hs, Nat.mul_one, Int.toNat_zero] at hr
  exact hr
set_option maxRecDepth 100000 in
theorem Own.room (w : World) (c : Nat) (hc : c ≤ maxLen) : Own (w.alloc (.cells (madeCells #[.int .u8 0] c) 5)) w.heap.size (some ⟨w.heap.size, 0, none⟩) 0 c [] :=
  ⟨rfl, rfl, .inr ⟨w.heap.size, c, _, rfl, Nat.le_refl _, heap_alloc_new w _, Nat.zero_le _, hc, by rw [size_madeCells, Nat.mul_one], by simp⟩⟩
end Go.Proofs.YthkkllcpogagiaaDoor

/- A byte slice that came in, as it is read off the row's data: it holds some bytes. -/
namespace Go.Proofs.YthkkllcpogagiaaDoor
open Go.RowKit

set_option maxRecDepth 100000 in
theorem lt_of_cell {w : World} {a : Addr} {v : Value} (h : w.cell? a = some v) : a.block < w.heap.size := by
  rcases Nat.lt_or_ge a.block w.heap.size with h1 | h1
  · exact h1
  · unfold World.cell? at h
    rw [Array.getElem?_eq_none h1] at h
    simp at h

/-- The bytes of the first len numbers. -/
def bytesOf (zs : List Int) (len : Nat) : List UInt8 := (zs.take len).map fun z => UInt8.ofNat z.toNat
set_option maxRecDepth 100000 in
theorem rd_ints_at {w : World} {x : Addr} {len cap : Nat} {zs : List Int} (hcell : ∀ i, i < zs.length → w.cell? (x.add i) = some (.int .u8 (zs.getD i 0))) (hl : len ≤ cap) (hz : zs.length = cap)
    (hwz : ∀ n ∈ zs, (Lit.int .u8 n).wf = true) : Rd w (some x) len (bytesOf zs len) := by
  unfold bytesOf
  refine ⟨by simp; omega, fun hn => ?_⟩
  obtain ⟨b, off, spot⟩ := x
  have hc := hcell 0 (by omega)
  have hspot : spot = none := by simpa [Addr.add] using World.cell?_spot hc
  subst hspot
  refine ⟨b, off, rfl, lt_of_cell (a := (⟨b, off, none⟩ : Addr).add 0) hc, fun j hj => ?_⟩
  have hj' : j < zs.length := by simp at hj; omega
  have hp : (⟨b, off, none⟩ : Addr).add j = ⟨b, off + j, none⟩ := by unfold Addr.add; split <;> simp_all
  rw [← hp, hcell j hj']
  have hb := bounds_u8 (hwz zs[j] (List.getElem_mem hj'))
  simp only [List.getElem_map, List.getElem_take, List.getD, List.getElem?_eq_getElem hj', Option.getD_some]
  congr 2
  rw [UInt8.toNat_ofNat']
  omega
set_option maxRecDepth 100000 in
theorem rd_ints {w : World} {x : Addr} {len cap : Nat} {zs : List Int} (hcell : ∀ i, i < zs.length → w.cell? (x.add i) = some (.int .u8 (zs.getD i 0))) (hl : len ≤ cap) (hz : zs.length = cap)
    (hwz : ∀ n ∈ zs, (Lit.int .u8 n).wf = true) : ∃ l, Rd w (some x) len l := ⟨_, rd_ints_at hcell hl hz hwz⟩
end Go.Proofs.YthkkllcpogagiaaDoor

/- Words for lists of byte slices. -/
namespace Go.Proofs.YthkkllcpogagiaaDoor
open Go.RowKit

/-- The slice of n byte slices that begins at A holds the byte lists L. -/
def RdL (w : World) (A : Option Addr) (n : Nat) (L : List (List UInt8)) : Prop :=
  L.length = n ∧ (0 < n → ∃ b off, A = some ⟨b, off, none⟩ ∧ b < w.heap.size ∧ ∀ j (h : j < L.length), ∃ A' m c', w.cell? ⟨b, off + j, none⟩ = some (.slice A' m c') ∧ m ≤ maxLen ∧ Rd w A' m L[j])
set_option maxRecDepth 100000 in
theorem RdL.len {w : World} {A : Option Addr} {n : Nat} {L : List (List UInt8)} (h : RdL w A n L) : L.length = n := h.1
set_option maxRecDepth 100000 in
theorem RdL.at_ {w : World} {A : Option Addr} {n : Nat} {L : List (List UInt8)} (h : RdL w A n L) {k : Nat} (hk : k < n) :
    ∃ b off A' m c', ∃ hl : k < L.length, A = some ⟨b, off, none⟩ ∧ w.cell? ⟨b, off + k, none⟩ = some (.slice A' m c') ∧ m ≤ maxLen ∧ Rd w A' m L[k] := by
  obtain ⟨b, off, e, hb, hc⟩ := h.2 (by omega)
  have hl : k < L.length := by have := h.1; omega
  obtain ⟨A', m, c', h1, h2, h3⟩ := hc k hl
  exact ⟨b, off, A', m, c', hl, e, h1, h2, h3⟩
set_option maxRecDepth 100000 in
theorem RdL.below {w w' : World} {A : Option Addr} {n : Nat} {L : List (List UInt8)} (h : RdL w A n L) (hb : Below w.heap.size w w') : RdL w' A n L :=
  ⟨h.1, fun hn => by
    obtain ⟨b, off, e, hlt, hc⟩ := h.2 hn
    have hs := hb.size
    refine ⟨b, off, e, by omega, fun j hj => ?_⟩
    obtain ⟨A', m, c', h1, h2, h3⟩ := hc j hj
    exact ⟨A', m, c', (hb.cell (p := ⟨b, off + j, none⟩) hlt).trans h1, h2, h3.below hb⟩⟩
set_option maxRecDepth 100000 in
theorem flat_take (L : List (List UInt8)) (t : Nat) (h : t < L.length) : (L.take (t + 1)).flatten = (L.take t).flatten ++ L[t] := by
  rw [List.take_succ_eq_append_getElem h, List.flatten_append, List.flatten_cons, List.flatten_nil, List.append_nil]
set_option maxRecDepth 100000 in
theorem flat_le (L : List (List UInt8)) (t : Nat) : (L.take t).flatten.length ≤ L.flatten.length := by
  conv => rhs; rw [← List.take_append_drop t L, List.flatten_append, List.length_append]
  omega
set_option maxRecDepth 100000 in
theorem rdl_rows {w : World} {a : Addr} {len cap : Nat} {A : Nat → Option Addr} {L C : Nat → Nat} {Z : Nat → List Int} (hl : len ≤ cap)
    (hrow : ∀ r, r < cap → w.cell? (a.add r) = some (.slice (A r) (L r) (C r)) ∧ L r ≤ C r ∧ C r ≤ maxLen ∧ (Z r).length = C r ∧ (∀ n ∈ Z r, (Lit.int .u8 n).wf = true) ∧ (A r = none → C r = 0) ∧
        ∀ a', A r = some a' → 0 ≤ a'.block ∧ ∀ c, c < C r → w.cell? (a'.add c) = some (.int .u8 ((Z r).getD c 0))) : ∃ LL, RdL w (some a) len LL := by
  refine ⟨(List.range len).map fun r => bytesOf (Z r) (L r), by simp, fun hn => ?_⟩
  obtain ⟨b, off, spot⟩ := a
  have hc := (hrow 0 (by omega)).1
  have hspot : spot = none := by simpa [Addr.add] using World.cell?_spot hc
  subst hspot
  refine ⟨b, off, rfl, lt_of_cell (a := (⟨b, off, none⟩ : Addr).add 0) hc, fun j hj => ?_⟩
  have hj' : j < len := by simpa using hj
  obtain ⟨h1, h2, h3, h4, h5, h6, h7⟩ := hrow j (by omega)
  have hp : (⟨b, off, none⟩ : Addr).add j = ⟨b, off + j, none⟩ := by unfold Addr.add; split <;> simp_all
  refine ⟨A j, L j, C j, by rw [← hp]; exact h1, by omega, ?_⟩
  rw [List.getElem_map, List.getElem_range]
  cases hA : A j with
  | none =>
    have h0 := h6 hA
    have hL : L j = 0 := by omega
    rw [hL]
    exact Rd.nil _ _
  | some x => exact rd_ints_at (fun i hi => (h7 x hA).2 i (by omega)) h2 h4 h5
end Go.Proofs.YthkkllcpogagiaaDoor

/- The contract of octet.Join. -/
namespace Go.Proofs.YthkkllcpogagiaaDoor
open Go.RowKit

set_option maxRecDepth 100000 in
set_option maxHeartbeats 400000 in
theorem join_calls (A : Option Addr) (n c : Nat) (L : List (List UInt8)) (w : World) (hn : n ≤ 1000000) (hf : L.flatten.length ≤ 1000000) (hr : RdL w A n L) :
    Calls Tryd.prog 54 #[.slice A n c] w (Mk w L.flatten) := by
  have HL := Lib.hid hr.len
  have HR := Lib.hid hr
  clear hr
  go_enter Tryd.func54, Tryd.ntmps54
  go_wp2
  go_loop [3, 11] (fun v i => ∃ t q : Nat, t ≤ n ∧ i = .int .i64 t ∧ v = .int .i64 q ∧ q ≤ 1000000 ∧ Hid (q = (L.take t).flatten.length)) (fun _ i => n - (intOf i).toNat)
  case atStart => exact ⟨0, 0, Nat.zero_le _, rfl, rfl, by omega, by show 0 = _; simp⟩
  case round =>
    obtain ⟨t, q, ht, rfl, rfl, hq, HQ⟩ := hrel
    by_cases hlt : t < n
    · obtain ⟨b, off, A', m, c', hl, rfl, hcell, _, hrd⟩ := HR.out.at_ (k := t) hlt
      have hm : m ≤ 1000000 := by
        have h1 := flat_le L (t + 1)
        rw [flat_take L t hl, List.length_append, hrd.len] at h1
        omega
      have hqm : q + m ≤ 1000000 := by
        have h1 := flat_le L (t + 1)
        rw [flat_take L t hl, List.length_append, hrd.len, ← HQ.out] at h1
        omega
      have HRD := Lib.hid hrd.len
      clear hrd
      go_wp2
      go_round
      case rel =>
        refine ⟨t + 1, q + m, by omega, by go_num, by go_num, hqm, ?_⟩
        show q + m = _
        rw [flat_take L t hl, List.length_append, HRD.out, ← HQ.out]
      case measure => simp [intOf]; omega
    · have e : t = n := by omega
      subst e
      have hmk := fun W => run_mk8c (q : Int) q rfl (by omega) W
      go_wp2
      clear hmk
      go_loopw [6, 24] (fun o i wr => ∃ (k p : Nat) (B : Option Addr) (d : Nat), k ≤ t ∧ i = .int .i64 k ∧ o = .slice B p d ∧ Own wr w.heap.size B p d (L.take k).flatten ∧ Below w.heap.size w wr) (fun _ i _ => t - (intOf i).toNat)
      case atStart => exact ⟨0, 0, _, _, Nat.zero_le _, rfl, rfl, Own.room _ _ (by unfold maxLen; omega), (Below.refl _ _).alloc (Nat.le_refl _) _⟩
      case round =>
        obtain ⟨k, p, B, d, hk, rfl, rfl, hown, hbel⟩ := hrel
        by_cases hlt2 : k < t
        · obtain ⟨b, off, A', m, c', hl, rfl, hcell, _, hrd⟩ := (HR.out.below hbel).at_ (k := k) hlt2
          have hpm : p + m ≤ 1000000 := by
            have h1 := flat_le L (k + 1)
            rw [flat_take L k hl, List.length_append, hrd.len, hown.len] at h1
            omega
          go_wp2_with (at_builtin; refine app8_all _ rfl _ _ rfl w.heap.size B p d _ A' m c' _ rfl rfl hown hrd (by omega) hbel.size ?_; intro A2 c2 w2 hown' hbel')
          go_roundw
          case rel =>
            rw [← flat_take L k hl] at hown'
            exact ⟨k + 1, p + m, A2, c2, by omega, by go_num, rfl, hown', hbel.trans hbel'⟩
          case measure => simp [intOf]; omega
        · have e : k = t := by omega
          subst e
          rw [List.take_of_length_le (by rw [HL.out]; omega)] at hown
          go_wp2
          go_ret
          exact ⟨_, _, _, rfl, hown, hbel⟩
end Go.Proofs.YthkkllcpogagiaaDoor
