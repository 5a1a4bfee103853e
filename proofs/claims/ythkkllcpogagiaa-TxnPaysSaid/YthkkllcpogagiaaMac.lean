/- Merged texts: AppC Lit Dgs Open RolP. -/
import Derived.Test.YthkkllcpogagiaaMaa
import Derived.OwnWalk
import Derived.Maps.AppendAt
import Derived.OpenShut
import Derived.Laws.BitsAllLaws
import Derived.WalkKit
import Derived.WalkSpells
import Derived.WalkLawsBesides
import Derived.Lib.Hide
/- Laws for append onto a slice that the call made, of one-cell elements, in the words of Own and Rd. -/
namespace Go.Proofs.Ythkkllcpogagiaa
open Go.RowKit

set_option maxRecDepth 100000 in
theorem own_shape {w : World} {base n : Nat} {e : TypeId} {v : Value} {xs : List Value} (h : w.ownsRow base e 1 v n xs) : ∃ A c, v = .slice A n c := by
  rcases h.2 with ⟨rfl, hx⟩ | ⟨g, cap, cur, rfl, _⟩
  · have : n = 0 := by have h1 := h.1; subst hx; simp at h1; omega
    subst this
    exact ⟨none, 0, rfl⟩
  · exact ⟨_, _, rfl⟩
set_option maxRecDepth 100000 in
theorem own_block {w : World} {base n : Nat} {e : TypeId} {v : Value} {xs : List Value} (h : w.ownsRow base e 1 v n xs) : ∀ k, v.ownBlock = some k → base ≤ k := by
  intro k hk
  rcases h.2 with ⟨rfl, hx⟩ | ⟨g, cap, cur, rfl, hb, _⟩
  · simp [Value.ownBlock] at hk
  · have : g = k := by simpa [Value.ownBlock] using hk
    omega
set_option maxRecDepth 100000 in
theorem run_appG {P : Program} (w : World) (t ty e : TypeId) (z : Value) (bytes : Nat) (ht : P.underlying t = some (.slice e)) (hinfo : (P.info? e).map (fun i => (i.zero, i.size, i.bytes)) = some (some z, 1, bytes)) (hz1 : z.cells.size = 1)
    (base : Nat) (v : Value) (n : Nat) (xs : List Value) (hown : w.ownsRow base e 1 v n xs)
    (X : Option Addr) (m c : Nat) (news : List Value) (hl : news.length = m) (hX : 0 < m → ∃ ad, X = some ad ∧ ∀ j u, news[j]? = some u → w.cell? (ad.add j) = some u) (h1 : ∀ u ∈ news, u.oneCell' = true)
    (h63 : n + m ≤ maxLen) (hbytes : (n + m) * bytes ≤ 140737488355328) (hbase : base ≤ w.heap.size) :
    ∃ v' w', (Builtin.append_ #[t, t] ty #[v, .slice X m c]).run P w = .ok v' w' ∧ w'.ownsRow base e 1 v' (n + m) (xs ++ news) ∧ w.grownBy w' v.ownBlock ∧ (v'.ownBlock = v.ownBlock ∨ v'.ownBlock = some w.heap.size) := by
  obtain ⟨i, hi, hzz⟩ := Option.map_eq_some_iff.1 hinfo
  simp only [Prod.mk.injEq] at hzz
  obtain ⟨hz, hs, hb⟩ := hzz
  cases X with
  | none =>
    have hm : m = 0 := by
      rcases Nat.eq_zero_or_pos m with h | h
      · exact h
      · obtain ⟨ad, he, _⟩ := hX h
        cases he
    subst hm
    have hn : news = [] := List.eq_nil_of_length_eq_zero hl
    subst hn
    refine ⟨v, w, ?_, by simpa using hown, ⟨rfl, rfl, rfl, Nat.le_refl _, fun _ _ _ => rfl⟩, .inl rfl⟩
    rcases hown.2 with ⟨rfl, rfl⟩ | ⟨g, cap, cur, rfl, _, _, hnc, _⟩
    · simp [Builtin.append_, run_underlying ht, sizeOf, typeInfo, hi, Builtin.lenOf, Builtin.firstCells]
    · simp [Builtin.append_, run_underlying ht, sizeOf, typeInfo, hi, Builtin.lenOf, Builtin.firstCells, hnc, storeCells]
  | some ad =>
    have hcells : ∀ j u, news[j]? = some u → w.cell? (ad.add j) = some u := by
      intro j u hu
      have hjm : j < news.length := (List.getElem?_eq_some_iff.1 hu).1
      obtain ⟨ad', he, hc⟩ := hX (by omega)
      injection he with he
      subst he
      exact hc j u hu
    obtain ⟨v', w', hrun, h2, h3, _, h5⟩ := run_append_own_at (P := P) w base t ty e i z 1 bytes ht hi hz hs hb hz1 (by omega) v n xs hown ad m c news (by omega) hcells h1 h63 hbytes hbase
    exact ⟨v', w', hrun, h2, h3, h5⟩
set_option maxRecDepth 100000 in
theorem wpo_appG {P : Program} {o : Oper} {a : Act} {K : Act → World → Prop} {Q : Exit → Act → World → Prop} (w : World) (s x : Operand) (t : TypeId)
    (ho : o.op = .call { callee := .builtin .append, args := #[s, x], argTypes := #[t, t] })
    (e : TypeId) (z : Value) (bytes : Nat) (ht : P.underlying t = some (.slice e)) (hinfo : (P.info? e).map (fun i => (i.zero, i.size, i.bytes)) = some (some z, 1, bytes)) (hz1 : z.cells.size = 1)
    (base : Nat) (v : Value) (n : Nat) (xs : List Value) (hs : a.eval s = v) (hown : w.ownsRow base e 1 v n xs)
    (X : Option Addr) (m c : Nat) (news : List Value) (hx : a.eval x = .slice X m c) (hl : news.length = m) (hX : 0 < m → ∃ ad, X = some ad ∧ ∀ j u, news[j]? = some u → w.cell? (ad.add j) = some u) (h1 : ∀ u ∈ news, u.oneCell' = true)
    (h63 : n + m ≤ maxLen) (hbytes : (n + m) * bytes ≤ 140737488355328) (hbase : base ≤ w.heap.size)
    (h : ∀ A' c' w', w'.ownsRow base e 1 (.slice A' (n + m) c') (n + m) (xs ++ news) → Below base w w' → (Value.ownBlock (.slice A' (n + m) c') = v.ownBlock ∨ Value.ownBlock (.slice A' (n + m) c') = some w.heap.size) → w.grownBy w' v.ownBlock → K (a.put o.dst (.slice A' (n + m) c')) w') :
    o.wp P a w K Q := by
  obtain ⟨v', w', hrun, h2, h3, h4⟩ := run_appG (P := P) w t o.type e z bytes ht hinfo hz1 base v n xs hown X m c news hl hX h1 h63 hbytes hbase
  obtain ⟨A', c', rfl⟩ := own_shape h2
  unfold Oper.wp execOp
  simp only [ho, resolve, invoke, builtin, Sem.run_bind, Sem.run_pure, Result.andThen_ok, List.map_toArray, List.map_cons, List.map_nil, hs, hx, hrun]
  exact h A' c' w' h2 ((Below.refl _ _).grown h3 hbase (own_block hown)) h4 h3
set_option maxRecDepth 100000 in
theorem step_of_wp {P : Program} {ops : Array Oper} {o : Oper} {a : Act} {w : World} {K : Act → World → Prop} {Q : Exit → Act → World → Prop} {E : Prop} (hgd : o.guard = none) (h : o.wp P a w K Q) :
    if Region.wanted o (yielded ops a.tmps) = true then Oper.wp P o a w K Q else E := by
  have hw : Region.wanted o (yielded ops a.tmps) = true := by simp [Region.wanted, hgd]
  rw [if_pos hw]
  exact h
set_option maxRecDepth 100000 in
theorem cell_one_alloc (w : World) (u : Value) (e : TypeId) : (w.alloc (.cells #[u] e)).cell? ⟨w.heap.size, 0, none⟩ = some u := by
  rw [cell_of_row _ w.heap.size 0 #[u] e (0, 0) (heap_alloc_new w _)]
  rfl
set_option maxRecDepth 100000 in
theorem own_alloc {w : World} {base n : Nat} {e : TypeId} {v : Value} {xs : List Value} (h : w.ownsRow base e 1 v n xs) (o : Obj) : (w.alloc o).ownsRow base e 1 v n xs := World.ownsRow.alloc h o
set_option maxRecDepth 100000 in
/-- append(out, us...) at a byte slice that the call made, the elements just laid in a new block. -/
theorem wpo_app8_new {o : Oper} {a : Act} {K : Act → World → Prop} {Q : Exit → Act → World → Prop} (w : World) (s x : Operand)
    (ho : o.op = .call { callee := .builtin .append, args := #[s, x], argTypes := #[22, 22] })
    (base : Nat) (A : Option Addr) (n c m : Nat) (l r : List UInt8) (hs : a.eval s = .slice A n c) (hx : a.eval x = .slice (some ⟨w.heap.size, 0, none⟩) m m) (hm : r.length = m)
    (hown : Own w base A n c l) (hb : n + m ≤ 140737488355328) (hbase : base ≤ w.heap.size)
    (h : ∀ A' c' w', Own w' base A' (n + m) c' (l ++ r) → Below base w w' → K (a.put o.dst (.slice A' (n + m) c')) w') :
    o.wp Try.prog a (w.alloc (.cells (r.map B8).toArray 5)) K Q := by
  refine wpo_appG _ s x 22 ho 5 (.int .u8 0) 1 Try.underlying22 info8 rfl base _ n (l.map B8) hs (own_alloc hown.2 _) _ m m (r.map B8) hx (by simp [hm]) ?_ ?_ (by unfold maxLen; omega) (by omega) (by simp; omega) ?_
  · intro _
    refine ⟨_, rfl, fun j v hj => ?_⟩
    have hp : (⟨w.heap.size, 0, none⟩ : Addr).add j = ⟨w.heap.size, j, none⟩ := by unfold Addr.add; split <;> simp_all
    rw [hp, cell_of_row _ w.heap.size j _ 5 (0, 0) (heap_alloc_new w _)]
    simpa using hj
  · intro v hv; simp at hv; obtain ⟨u, _, rfl⟩ := hv; rfl
  · intro A' c' w' hown' hbel _ _
    refine h A' c' w' ⟨by simp [hown.1, hm], by rw [List.map_append]; exact hown'⟩ (((Below.refl _ _).alloc hbase _).trans hbel)
set_option maxRecDepth 100000 in
/-- append(out, u) at a byte slice that the call made. -/
theorem app8_one {ops : Array Oper} {rest : List Oper} {o : Oper} {a : Act} {Q : Exit → Act → World → Prop} (w : World) (hgd : o.guard = none) (s x : Operand)
    (ho : o.op = .call { callee := .builtin .append, args := #[s, x], argTypes := #[22, 22] })
    (base : Nat) (A : Option Addr) (n c : Nat) (l : List UInt8) (z : Int) (u : UInt8) (hz : z = (u.toNat : Int)) (hs : a.eval s = .slice A n c) (hx : a.eval x = .slice (some ⟨w.heap.size, 0, none⟩) 1 1)
    (hown : Own w base A n c l) (hb : n + 1 ≤ 140737488355328) (hbase : base ≤ w.heap.size)
    (h : ∀ A' c' w', Own w' base A' (n + 1) c' (l ++ [u]) → Below base w w' → wpList Try.prog ops Q rest (a.put o.dst (.slice A' (n + 1) c')) w') :
    wpList Try.prog ops Q (o :: rest) a (w.alloc (.cells #[.int .u8 z] 5)) := by
  subst hz
  exact wpList_plain hgd fun _ hK => wpo_app8_new w s x ho base A n c 1 l [u] hs hx rfl hown hb hbase fun A' c' w' h1 h2 => hK _ _ (h A' c' w' h1 h2)
set_option maxRecDepth 100000 in
theorem app8_two {ops : Array Oper} {rest : List Oper} {o : Oper} {a : Act} {Q : Exit → Act → World → Prop} (w : World) (hgd : o.guard = none) (s x : Operand)
    (ho : o.op = .call { callee := .builtin .append, args := #[s, x], argTypes := #[22, 22] })
    (base : Nat) (A : Option Addr) (n c : Nat) (l : List UInt8) (z1 z2 : Int) (u1 u2 : UInt8) (hz1 : z1 = (u1.toNat : Int)) (hz2 : z2 = (u2.toNat : Int)) (hs : a.eval s = .slice A n c) (hx : a.eval x = .slice (some ⟨w.heap.size, 0, none⟩) 2 2)
    (hown : Own w base A n c l) (hb : n + 2 ≤ 140737488355328) (hbase : base ≤ w.heap.size)
    (h : ∀ A' c' w', Own w' base A' (n + 2) c' (l ++ [u1, u2]) → Below base w w' → wpList Try.prog ops Q rest (a.put o.dst (.slice A' (n + 2) c')) w') :
    wpList Try.prog ops Q (o :: rest) a (w.alloc (.cells #[.int .u8 z1, .int .u8 z2] 5)) := by
  subst hz1 hz2
  exact wpList_plain hgd fun _ hK => wpo_app8_new w s x ho base A n c 2 l [u1, u2] hs hx rfl hown hb hbase fun A' c' w' h1 h2 => hK _ _ (h A' c' w' h1 h2)
set_option maxRecDepth 100000 in
/-- The same at a step of a region that draws its order; the world W is w with the new block, and with draws. -/
theorem st8_two {ops : Array Oper} {o : Oper} {a : Act} {K : Act → World → Prop} {Q : Exit → Act → World → Prop} {E : Prop} (W w : World) (hgd : o.guard = none) (s x : Operand)
    (ho : o.op = .call { callee := .builtin .append, args := #[s, x], argTypes := #[22, 22] })
    (base : Nat) (A : Option Addr) (n c : Nat) (l : List UInt8) (z1 z2 : Int) (u1 u2 : UInt8) (hz1 : z1 = (u1.toNat : Int)) (hz2 : z2 = (u2.toNat : Int)) (hs : a.eval s = .slice A n c) (hx : a.eval x = .slice (some ⟨w.heap.size, 0, none⟩) 2 2)
    (hW : W = w.alloc (.cells #[.int .u8 z1, .int .u8 z2] 5))
    (hown : Own w base A n c l) (hb : n + 2 ≤ 140737488355328) (hbase : base ≤ w.heap.size)
    (h : ∀ A' c' w', Own w' base A' (n + 2) c' (l ++ [u1, u2]) → Below base w w' → K (a.put o.dst (.slice A' (n + 2) c')) w') :
    if Region.wanted o (yielded ops a.tmps) = true then Oper.wp Try.prog o a W K Q else E := by
  subst hz1 hz2 hW
  exact step_of_wp hgd (wpo_app8_new w s x ho base A n c 2 l [u1, u2] hs hx rfl hown hb hbase h)
set_option maxRecDepth 100000 in
/-- append(out, xs...) at a byte slice that the call made. -/
theorem wpo_app8_all {o : Oper} {a : Act} {K : Act → World → Prop} {Q : Exit → Act → World → Prop} (w : World) (s x : Operand)
    (ho : o.op = .call { callee := .builtin .append, args := #[s, x], argTypes := #[22, 22] })
    (base : Nat) (A : Option Addr) (n c : Nat) (l : List UInt8) (X : Option Addr) (m cx : Nat) (r : List UInt8) (hs : a.eval s = .slice A n c) (hx : a.eval x = .slice X m cx)
    (hown : Own w base A n c l) (hr : Rd w X m r) (hb : n + m ≤ 140737488355328) (hbase : base ≤ w.heap.size)
    (h : ∀ A' c' w', Own w' base A' (n + m) c' (l ++ r) → Below base w w' → K (a.put o.dst (.slice A' (n + m) c')) w') :
    o.wp Try.prog a w K Q := by
  refine wpo_appG _ s x 22 ho 5 (.int .u8 0) 1 Try.underlying22 info8 rfl base _ n (l.map B8) hs hown.2 X m cx (r.map B8) hx (by rw [List.length_map]; exact hr.1) ?_ ?_ (by unfold maxLen; omega) (by omega) hbase ?_
  · intro hm
    obtain ⟨b, off, rfl, _, hc⟩ := hr.2 hm
    refine ⟨_, rfl, fun j v hj => ?_⟩
    have hjl : j < r.length := by have := (List.getElem?_eq_some_iff.1 hj).1; simpa using this
    have hp : (⟨b, off, none⟩ : Addr).add j = ⟨b, off + j, none⟩ := by unfold Addr.add; split <;> simp_all
    rw [hp, hc j hjl]
    simp [List.getElem?_eq_getElem hjl] at hj
    rw [← hj]; rfl
  · intro v hv; simp at hv; obtain ⟨u, _, rfl⟩ := hv; rfl
  · intro A' c' w' hown' hbel _ _
    refine h A' c' w' ⟨by simp [hown.1, hr.1], by rw [List.map_append]; exact hown'⟩ hbel
set_option maxRecDepth 100000 in
theorem app8_all {ops : Array Oper} {rest : List Oper} {o : Oper} {a : Act} {Q : Exit → Act → World → Prop} (w : World) (hgd : o.guard = none) (s x : Operand)
    (ho : o.op = .call { callee := .builtin .append, args := #[s, x], argTypes := #[22, 22] })
    (base : Nat) (A : Option Addr) (n c : Nat) (l : List UInt8) (X : Option Addr) (m cx : Nat) (r : List UInt8) (hs : a.eval s = .slice A n c) (hx : a.eval x = .slice X m cx)
    (hown : Own w base A n c l) (hr : Rd w X m r) (hb : n + m ≤ 140737488355328) (hbase : base ≤ w.heap.size)
    (h : ∀ A' c' w', Own w' base A' (n + m) c' (l ++ r) → Below base w w' → wpList Try.prog ops Q rest (a.put o.dst (.slice A' (n + m) c')) w') :
    wpList Try.prog ops Q (o :: rest) a w :=
  wpList_plain hgd fun _ hK => wpo_app8_all w s x ho base A n c l X m cx r hs hx hown hr hb hbase fun A' c' w' h1 h2 => hK _ _ (h A' c' w' h1 h2)
set_option maxRecDepth 100000 in
theorem own_cap {w : World} {base n c : Nat} {A : Option Addr} {l : List UInt8} (h : Own w base A n c l) : n ≤ c ∧ c ≤ maxLen := by
  obtain ⟨hl, h1, h | ⟨g', cap, cur, hv, hb, _, hc, hm, _⟩⟩ := h
  · obtain ⟨h, h0⟩ := h
    injection h with e1 e2 e3
    exact ⟨by omega, by unfold maxLen; omega⟩
  · injection hv with e1 e2 e3
    exact ⟨by omega, by omega⟩
end Go.Proofs.Ythkkllcpogagiaa

/- The contract of octet.Little: new memory that holds the bytes of a number, the lowest first. -/
namespace Go.Proofs.Ythkkllcpogagiaa
open Go.RowKit

/-- What stands in the slice while Little goes: the first i of the m bytes. -/
def lpart (n m i : Nat) : List UInt8 := little n i ++ List.replicate (m - i) 0
set_option maxRecDepth 100000 in
@[simp] theorem lpart_len (n m i : Nat) (h : i ≤ m) : (lpart n m i).length = m := by simp [lpart]; omega
set_option maxRecDepth 100000 in
theorem lpart_set (n m i : Nat) (h : i < m) : (lpart n m i).set i (UInt8.ofNat (n / 256 ^ i)) = lpart n m (i + 1) := by
  unfold lpart
  rw [List.set_append_right _ _ (by simp)]
  simp only [little_len, Nat.sub_self]
  rw [show m - i = (m - (i + 1)) + 1 from by omega, List.replicate_succ, List.set_cons_zero]
  simp [little, List.range_succ]

set_option maxRecDepth 100000 in
set_option maxHeartbeats 400000 in
theorem little_calls (n : Nat) (k : Int) (m : Nat) (hm : cw k = m) (w : World) :
    Calls Try.prog 44 #[.int .u64 (n : Int), .int .i64 k] w (Mk w (little n m)) := by
  have hm8 : m ≤ 8 := by have := cw_bd k; omega
  have H := Lib.hid hm
  clear hm
  have hmk := fun W => run_mk8 m (by omega) W
  go_enter Try.func44, Try.ntmps44
  go_wp2_with (go_at_call 47; refine (clamp_nat _ _ H.out _).mono ?_; rintro e w' ⟨rfl, rfl⟩)
  go_loopw [12] (fun i wr => ∃ t : Nat, t ≤ m ∧ i = .int .i64 t ∧ Own wr w.heap.size (some ⟨w.heap.size, 0, none⟩) m m (lpart n m t) ∧ Below w.heap.size w wr) (fun i _ => m - (intOf i).toNat)
  case atStart =>
    refine ⟨0, Nat.zero_le _, rfl, ?_, (Below.refl _ _).alloc (Nat.le_refl _) _⟩
    have := Own.made w m (by unfold maxLen; omega)
    simpa [lpart, little] using this
  case round =>
    obtain ⟨t, ht, rfl, hown, hbel⟩ := hrel
    by_cases hlt : t < m
    · have hl : t < (lpart n m t).length := by rw [lpart_len n m t ht]; exact hlt
      have hc := hown.cell hl
      have hf := hown.free t
      have HO := Lib.hid hown
      clear hown
      go_wp2
      go_roundw
      case rel =>
        have h1 := HO.out.set t (UInt8.ofNat (n / 256 ^ t))
        rw [lpart_set n m t hlt, ← byte_at] at h1
        exact ⟨t + 1, by omega, by go_num, h1, hbel.setCell (Nat.le_refl _) _⟩
      case measure => simp [intOf]; omega
    · have e : t = m := by omega
      subst e
      have HO := Lib.hid hown
      clear hown
      go_wp2
      go_ret
      have hx : lpart n t t = little n t := by simp [lpart]
      rw [hx] at HO
      exact ⟨_, _, _, rfl, HO.out, hbel⟩
end Go.Proofs.Ythkkllcpogagiaa

/- Slices of ints that a call made; contracts of the document's own Held (a width within 0 and 8) and Digits (the bytes of a number as ints). -/
namespace Go.Proofs.Ythkkllcpogagiaa
open Go.RowKit

set_option maxRecDepth 100000 in
theorem infoInt : (Try.prog.info? 3).map (fun i => (i.zero, i.size, i.bytes)) = some (some (.int .i64 0), 1, 8) := by kernel_rfl

set_option maxRecDepth 100000 in
theorem held_any (k : Int) (w : World) : Calls Try.prog 40 #[.int .i64 k] w fun e w' => e = .returned (.int .i64 (cw k)) ∧ w = w' := by
  unfold cw
  by_cases h : k < 0
  · go_enter Try.func40, Try.ntmps40
    go_wp2
    go_ret
    exact ⟨rfl, rfl⟩
  · by_cases h8 : 8 < k
    · go_enter Try.func40, Try.ntmps40
      go_wp2
      go_ret
      exact ⟨rfl, rfl⟩
    · go_enter Try.func40, Try.ntmps40
      go_wp2
      go_ret
      exact ⟨rfl, rfl⟩

set_option maxRecDepth 100000 in
theorem held_nat (k : Int) (m : Nat) (h : cw k = m) (w : World) : Calls Try.prog 40 #[.int .i64 k] w fun e w' => e = .returned (.int .i64 (m : Int)) ∧ w = w' := by
  rw [← h]; exact held_any k w
/-- The slice of ints that the call made. -/
def OwnJ (w : World) (base : Nat) (A : Option Addr) (n c : Nat) (l : List Int) : Prop := l.length = n ∧ w.ownsRow base 3 1 (.slice A n c) n (l.map (Value.int .i64))

set_option maxRecDepth 100000 in
theorem OwnJ.at_ {w : World} {base n c : Nat} {A : Option Addr} {l : List Int} (h : OwnJ w base A n c l) {k : Nat} (hk : k < n) :
    ∃ g, ∃ hl : k < l.length, A = some ⟨g, 0, none⟩ ∧ g < w.heap.size ∧ w.cell? ⟨g, k, none⟩ = some (.int .i64 l[k]) := by
  obtain ⟨hl, h⟩ := h
  obtain ⟨g, cap, hv, _, hlt⟩ := World.ownsRow.form h (by omega)
  have hA : A = some ⟨g, 0, none⟩ := by injection hv
  subst hA
  have := World.ownsRow.cellAt h k (by omega)
  refine ⟨g, by omega, rfl, hlt, ?_⟩
  rw [this]
  simp [List.getElem?_eq_getElem (show k < l.length by omega)]
set_option maxRecDepth 100000 in
theorem OwnJ.below {w w' : World} {base n c : Nat} {A : Option Addr} {l : List Int} (h : OwnJ w base A n c l) (hb : Below w.heap.size w w') : OwnJ w' base A n c l := by
  refine ⟨h.1, h.2.1, ?_⟩
  rcases h.2.2 with h' | ⟨g, cap, cur, e, hbg, hh, hr⟩
  · exact .inl h'
  · refine .inr ⟨g, cap, cur, e, hbg, ?_, hr⟩
    have hlt : g < w.heap.size := by
      rcases Nat.lt_or_ge g w.heap.size with h1 | h1
      · exact h1
      · rw [Array.getElem?_eq_none h1] at hh; cases hh
    rw [hb.block g hlt]; exact hh

set_option maxRecDepth 100000 in
theorem appI_one {ops : Array Oper} {rest : List Oper} {o : Oper} {a : Act} {Q : Exit → Act → World → Prop} (w : World) (hgd : o.guard = none) (s x : Operand)
    (ho : o.op = .call { callee := .builtin .append, args := #[s, x], argTypes := #[42, 42] })
    (base : Nat) (A : Option Addr) (n c : Nat) (l : List Int) (z : Int) (hs : a.eval s = .slice A n c) (hx : a.eval x = .slice (some ⟨w.heap.size, 0, none⟩) 1 1)
    (hown : OwnJ w base A n c l) (hb : (n + 1) * 8 ≤ 140737488355328) (hbase : base ≤ w.heap.size)
    (h : ∀ A' c' w', OwnJ w' base A' (n + 1) c' (l ++ [z]) → Below base w w' → wpList Try.prog ops Q rest (a.put o.dst (.slice A' (n + 1) c')) w') :
    wpList Try.prog ops Q (o :: rest) a (w.alloc (.cells #[.int .i64 z] 3)) := by
  refine wpList_plain hgd fun _ hK => wpo_appG _ s x 42 ho 3 (.int .i64 0) 8 Try.underlying42 infoInt rfl base _ n (l.map (Value.int .i64)) hs (own_alloc hown.2 _) _ 1 1 [.int .i64 z] hx rfl ?_ ?_ (by unfold maxLen; omega) (by omega) (by simp; omega) ?_
  · intro _
    refine ⟨_, rfl, fun j v hj => ?_⟩
    cases j with
    | zero => simp at hj; subst hj; exact cell_one_alloc w _ _
    | succ j => simp at hj
  · intro v hv; simp at hv; subst hv; rfl
  · intro A' c' w' hown' hbel _ _
    exact hK _ _ (h A' c' w' ⟨by simp [hown.1], by rw [List.map_append]; exact hown'⟩ (((Below.refl _ _).alloc hbase _).trans hbel))
/-- The first m bytes of n as ints. -/
def dgs (n m : Nat) : List Int := (List.range m).map fun i => ((n / 256 ^ i % 256 : Nat) : Int)
set_option maxRecDepth 100000 in
theorem dgs_succ (n m : Nat) : dgs n (m + 1) = dgs n m ++ [((n / 256 ^ m % 256 : Nat) : Int)] := by simp [dgs, List.range_succ]

def MkI (w : World) (l : List Int) (e : Ending) (w' : World) : Prop :=
  ∃ A n c, e = .returned (.slice A n c) ∧ OwnJ w' w.heap.size A n c l ∧ Below w.heap.size w w'

set_option maxRecDepth 100000 in
theorem OwnJ.nil (w : World) (base : Nat) : OwnJ w base none 0 0 [] := ⟨rfl, World.ownsRow_nil _ _ _ _⟩

set_option maxRecDepth 100000 in
set_option maxHeartbeats 400000 in
theorem digits_calls (n m : Nat) (hn : n < 18446744073709551616) (hm : m ≤ 1000000) (w : World) :
    Calls Try.prog 50 #[.int .u64 (n : Int), .int .i64 (m : Int)] w (MkI w (dgs n m)) := by
  have HN := Lib.hid hn
  clear hn
  go_enter Try.func50, Try.ntmps50
  go_wp2
  go_loopw [0, 5, 6] (fun v o i wr => ∃ (t q : Nat) (A : Option Addr) (c : Nat), t ≤ m ∧ i = .int .i64 t ∧ v = .int .u64 q ∧ Hid (q = n / 256 ^ t) ∧ o = .slice A t c ∧ OwnJ wr w.heap.size A t c (dgs n t) ∧ Below w.heap.size w wr) (fun _ _ i _ => m - (intOf i).toNat)
  case atStart => exact ⟨0, n, none, 0, Nat.zero_le _, rfl, rfl, by show n = n / 256 ^ 0; simp, rfl, OwnJ.nil _ _, Below.refl _ _⟩
  case round =>
    obtain ⟨t, q, A, c, ht, rfl, rfl, HQ, rfl, hown, hbel⟩ := hrel
    by_cases hlt : t < m
    · go_wp2_with (at_builtin; refine appI_one _ rfl _ _ rfl w.heap.size A t c _ _ rfl rfl hown (by omega) hbel.size ?_; intro A' c' w' hown' hbel')
      go_roundw
      case rel =>
        refine ⟨t + 1, q / 256, A', c', by omega, by go_num, by rw [show ((q : Int) / 256) = ((q / 256 : Nat) : Int) from by omega, wrap64_nat _ (by have h1 := HN.out; have h2 : q ≤ n := (by rw [HQ.out]; exact Nat.div_le_self _ _); omega)], ?_, rfl, ?_, hbel.trans hbel'⟩
        · show q / 256 = n / 256 ^ (t + 1)
          rw [HQ.out, Nat.div_div_eq_div_mul, Nat.pow_succ]
        · rw [dgs_succ, ← HQ.out]
          exact hown'
      case measure => simp [intOf]; omega
    · have e : t = m := by omega
      subst e
      go_wp2
      go_ret
      exact ⟨_, _, _, rfl, hown, hbel⟩
end Go.Proofs.Ythkkllcpogagiaa

/- A byte slice that came in, as it is read off the row's data: it holds some bytes. -/
namespace Go.Proofs.Ythkkllcpogagiaa
open Go.RowKit

set_option maxRecDepth 100000 in
theorem lt_of_cell {w : World} {a : Addr} {v : Value} (h : w.cell? a = some v) : a.block < w.heap.size := by
  rcases Nat.lt_or_ge a.block w.heap.size with h1 | h1
  · exact h1
  · unfold World.cell? at h
    rw [Array.getElem?_eq_none h1] at h
    simp at h

/-- The bytes of the first len numbers. -/
def bytesOf (zs : List Int) (len : Nat) : List UInt8 := (zs.take len).map fun z => UInt8.ofNat z.toNat
set_option maxRecDepth 100000 in
theorem rd_ints_at {w : World} {x : Addr} {len cap : Nat} {zs : List Int} (hcell : ∀ i, i < zs.length → w.cell? (x.add i) = some (.int .u8 (zs.getD i 0))) (hl : len ≤ cap) (hz : zs.length = cap)
    (hwz : ∀ n ∈ zs, (Lit.int .u8 n).wf = true) : Rd w (some x) len (bytesOf zs len) := by
  unfold bytesOf
  refine ⟨by simp; omega, fun hn => ?_⟩
  obtain ⟨b, off, spot⟩ := x
  have hc := hcell 0 (by omega)
  have hspot : spot = none := by simpa [Addr.add] using World.cell?_spot hc
  subst hspot
  refine ⟨b, off, rfl, lt_of_cell (a := (⟨b, off, none⟩ : Addr).add 0) hc, fun j hj => ?_⟩
  have hj' : j < zs.length := by simp at hj; omega
  have hp : (⟨b, off, none⟩ : Addr).add j = ⟨b, off + j, none⟩ := by unfold Addr.add; split <;> simp_all
  rw [← hp, hcell j hj']
  have hb := bounds_u8 (hwz zs[j] (List.getElem_mem hj'))
  simp only [List.getElem_map, List.getElem_take, List.getD, List.getElem?_eq_getElem hj', Option.getD_some]
  congr 2
  rw [UInt8.toNat_ofNat']
  omega
set_option maxRecDepth 100000 in
theorem rd_ints {w : World} {x : Addr} {len cap : Nat} {zs : List Int} (hcell : ∀ i, i < zs.length → w.cell? (x.add i) = some (.int .u8 (zs.getD i 0))) (hl : len ≤ cap) (hz : zs.length = cap)
    (hwz : ∀ n ∈ zs, (Lit.int .u8 n).wf = true) : ∃ l, Rd w (some x) len l := ⟨_, rd_ints_at hcell hl hz hwz⟩
end Go.Proofs.Ythkkllcpogagiaa

/- Rotations as or of shifts; what a call that only computes ends in. -/
namespace Go.Proofs.Ythkkllcpogagiaa
open Go.RowKit

set_option maxRecDepth 100000 in
theorem or_rol (B x s : Nat) (hs : s ≤ B) (hx : x < 2 ^ B) : x * 2 ^ s % 2 ^ B ||| x / 2 ^ (B - s) = rol B x s := by
  have h1 : x / 2 ^ (B - s) < 2 ^ s := Nat.div_lt_of_lt_mul (by rw [← split_pow B s hs]; exact hx)
  rw [nat_join s _ _ (by rw [split_pow B s hs, Nat.mul_mod_mul_right]; exact Nat.mul_mod_left _ _) h1, rol_or B x s hs]
/-- What a call that only computes ends in. -/
def Quiet (w : World) (v : Value) (e : Ending) (w' : World) : Prop := e = .returned v ∧ ∃ n, w' = w.drewN n
end Go.Proofs.Ythkkllcpogagiaa
