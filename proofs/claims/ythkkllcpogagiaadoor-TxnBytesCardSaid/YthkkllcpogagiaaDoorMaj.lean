/- Merged texts: OwnB Sub. -/
import Derived.Test.YthkkllcpogagiaaDoorMab
import Derived.ArgAppend
import Derived.Deep.MidRow
import Derived.Laws.IdiomStrings
import Derived.Test.YthkkllcpogagiaaDoorMaa
import Derived.Test.YthkkllcpogagiaaDoorMac
/- Byte slices that a call made, whose row may bear a conversion's mark behind its last cell; append onto them. -/
namespace Go.Proofs.YthkkllcpogagiaaDoor
open Go.RowKit
set_option linter.unusedVariables false

/-- The slice of n bytes lies at the head of a row that the call made, and holds the bytes l; no cell of the row is frozen. -/
def OwnB (w : World) (base : Nat) (A : Option Addr) (n c : Nat) (l : List UInt8) : Prop :=
  l.length = n ∧ ∃ g cur fz, A = some ⟨g, 0, none⟩ ∧ base ≤ g ∧ w.heap[g]? = some (.cells cur 5 fz) ∧ (fz = (0, 0) ∨ cur.size ≤ fz.1) ∧ n ≤ c ∧ c ≤ maxLen ∧ cur.size = c ∧ cur.toList.take n = l.map B8
set_option maxRecDepth 100000 in
theorem OwnB.len {w : World} {base n c : Nat} {A : Option Addr} {l : List UInt8} (h : OwnB w base A n c l) : l.length = n := h.1
set_option maxRecDepth 100000 in
theorem OwnB.cap {w : World} {base n c : Nat} {A : Option Addr} {l : List UInt8} (h : OwnB w base A n c l) : n ≤ c ∧ c ≤ maxLen := by
  obtain ⟨_, g, cur, fz, _, _, _, _, h1, h2, _⟩ := h
  exact ⟨h1, h2⟩
set_option maxRecDepth 100000 in
theorem OwnB.cells {w : World} {n g : Nat} {cur : Array Value} {fz : Nat × Nat} {t : TypeId} {l : List UInt8} (hl : l.length = n) (hg : w.heap[g]? = some (.cells cur t fz)) (ht : cur.toList.take n = l.map B8) (j : Nat) (u : Value) (hu : (l.map B8)[j]? = some u) : w.cell? ⟨g, j, none⟩ = some u := by
  rw [cell_of_row w g j cur t fz hg]
  rw [← ht, List.getElem?_take] at hu
  split at hu
  · simpa using hu
  · cases hu
set_option maxRecDepth 100000 in
theorem OwnB.rd {w : World} {base n c : Nat} {A : Option Addr} {l : List UInt8} (h : OwnB w base A n c l) : Rd w A n l := by
  obtain ⟨hl, g, cur, fz, rfl, _, hg, _, _, _, _, ht⟩ := h
  refine ⟨hl, fun _ => ⟨g, 0, rfl, (Array.getElem?_eq_some_iff.1 hg).1, fun j hj => ?_⟩⟩
  rw [Nat.zero_add]
  exact OwnB.cells hl hg ht j _ (by rw [List.getElem?_map, List.getElem?_eq_getElem hj]; rfl)
set_option maxRecDepth 100000 in
theorem OwnB.alloc {w : World} {base n c : Nat} {A : Option Addr} {l : List UInt8} (h : OwnB w base A n c l) (o : Obj) : OwnB (w.alloc o) base A n c l := by
  obtain ⟨hl, g, cur, fz, hA, hb, hg, hr⟩ := h
  exact ⟨hl, g, cur, fz, hA, hb, (heap_alloc_old w o (Array.getElem?_eq_some_iff.1 hg).1).trans hg, hr⟩
set_option maxRecDepth 100000 in
theorem OwnB.of_row {w : World} {base n : Nat} {v : Value} {l : List UInt8} (hn : 0 < n) (h : w.ownsRow base 5 1 v n (l.map B8)) : ∃ A c, v = .slice A n c ∧ OwnB w base A n c l := by
  obtain ⟨hl, ⟨_, h0⟩ | ⟨g, cap, cur, hv, hb, hg, hc, hm, hs, ht⟩⟩ := h
  · omega
  · rw [Nat.mul_one] at hs ht hl
    exact ⟨_, _, hv, by rw [List.length_map] at hl; exact hl, g, cur, (0, 0), rfl, hb, hg, Or.inl rfl, hc, hm, hs, ht⟩
set_option maxRecDepth 100000 in
theorem heap_setCell_fz (w : World) (g i : Nat) (cs : Array Value) (t : TypeId) (fz : Nat × Nat) (v : Value) (hg : w.heap[g]? = some (.cells cs t fz)) : (w.setCell ⟨g, i, none⟩ v).heap[g]? = some (.cells (cs.setIfInBounds i v) t fz) := by
  simp [World.setCell, Array.getElem?_modify, hg]
set_option maxRecDepth 100000 in
/-- A text converted to bytes. -/
theorem conv_str (w : World) (s : ByteArray) (hs : s.size ≤ maxLen) : ∃ c row, (convert 9 28 (.string s)).run Tryd.prog w = .ok (.slice (some ⟨w.heap.size, 0, none⟩) s.size c) (w.drew.alloc (.cells row 5 (row.size, row.size + 1))) ∧
    OwnB (w.drew.alloc (.cells row 5 (row.size, row.size + 1))) w.heap.size (some ⟨w.heap.size, 0, none⟩) s.size c s.data.toList := by
  have h := run_bytes_of_string (P := Tryd.prog) w 9 28 5 s Tryd.underlying9 Tryd.underlying28 Tryd.underlying5
  have hge := grownCap_ge w s.size 0 5
  have hsz : s.data.toList.length = s.size := by rw [Array.length_toList]; rfl
  refine ⟨_, _, h, hsz, w.heap.size, _, _, rfl, Nat.le_refl _, heap_alloc_new w.drew _, Or.inr (Nat.le_refl _), hge, grownCap_le_maxLen w s.size 0 5 hs, ?_, ?_⟩
  · simp [bytesRow]
    have : s.data.size = s.size := rfl
    omega
  · have e : s.size = (s.data.toList.map B8).length := by rw [List.length_map, hsz]
    simp only [bytesRow, Array.toList_append, Array.toList_map]
    rw [e]
    exact List.take_left
set_option maxRecDepth 100000 in
theorem run_appB (w : World) (ty : TypeId) (base : Nat) (A : Option Addr) (n c : Nat) (l : List UInt8) (u : UInt8) (hown : OwnB w base A n c l) (hb : n + 1 ≤ 140737488355328) (hbase : base ≤ w.heap.size) :
    ∃ A' c' w', (Builtin.append_ #[28, 28] ty #[.slice A n c, .slice (some ⟨w.heap.size, 0, none⟩) 1 1]).run Tryd.prog (w.alloc (.cells #[B8 u] 5)) = .ok (.slice A' (n + 1) c') w' ∧ OwnB w' base A' (n + 1) c' (l ++ [u]) ∧ Below base w w' := by
  obtain ⟨i, hi, hzz⟩ := Option.map_eq_some_iff.1 info8
  simp only [Prod.mk.injEq] at hzz
  obtain ⟨hz, hs, hby⟩ := hzz
  have hown' := hown.alloc (.cells #[B8 u] 5)
  have hsrc : ∀ j v, [B8 u][j]? = some v → (w.alloc (.cells #[B8 u] 5)).cell? ((⟨w.heap.size, 0, none⟩ : Addr).add j) = some v := fun j v hj => by
    rw [Addr.add_mid, cell_of_row _ w.heap.size (0 + j) _ 5 (0, 0) (heap_alloc_new w _)]
    simpa using hj
  have h1 : ∀ v ∈ [B8 u], v.oneCell' = true := fun v hv => by simp at hv; subst hv; rfl
  obtain ⟨hl, g, cur, fz, rfl, hbg, hg, hfz, hnc, hcm, hcs, ht⟩ := hown'
  by_cases hr : n + 1 ≤ c
  · have hrun := run_append_room_cells (P := Tryd.prog) (w.alloc (.cells #[B8 u] 5)) 28 ty 5 i Tryd.underlying28 hi g 0 n c ⟨w.heap.size, 0, none⟩ 1 1 [B8 u] (by rw [hs]; rfl) hsrc h1 hr
      (fun j hj => by
        simp only [List.length_singleton] at hj
        rw [cell_of_row _ g _ cur 5 fz hg, hs]
        simp
        omega)
      (fun j hj => by
        simp only [List.length_singleton] at hj
        unfold World.frozen?
        rw [hg]
        simp only [hs]
        rcases hfz with rfl | hfz
        · simp
        · simp
          omega)
    rw [hs, Nat.zero_add, Nat.mul_one] at hrun
    refine ⟨_, _, _, hrun, ⟨by simp [hl], g, _, fz, rfl, hbg, heap_setCell_fz _ g n cur 5 fz (B8 u) hg, by simpa using hfz, hr, hcm, by simpa using hcs, ?_⟩, ?_⟩
    · rw [Array.toList_setIfInBounds, List.map_append, ← ht, List.take_succ_eq_append_getElem (by simp; omega)]
      rw [List.take_set_of_le (Nat.le_refl _)]
      simp
    · exact ((Below.refl _ w).alloc hbase _).setCell (p := ⟨g, n, none⟩) hbg _
  · obtain ⟨v', w', hrun, hrow, hgr⟩ := run_append_arg_grows (P := Tryd.prog) (w.alloc (.cells #[B8 u] 5)) 28 ty 5 i (.int .u8 0) 1 1 Tryd.underlying28 hi hz hs hby rfl (by omega) ⟨g, 0, none⟩ n c (l.map B8) (by simp [hl])
      (fun j v hj => by rw [Addr.add_mid, Nat.zero_add]; exact OwnB.cells hl hg ht j v hj) ⟨w.heap.size, 0, none⟩ 1 1 [B8 u] rfl hsrc (by omega) (by unfold maxLen; omega) (by omega)
    have hrow' : w'.ownsRow (w.alloc (.cells #[B8 u] 5)).heap.size 5 1 v' (n + 1) ((l ++ [u]).map B8) := by rw [List.map_append]; exact hrow
    obtain ⟨A', c', rfl, ho⟩ := OwnB.of_row (by omega) hrow'
    obtain ⟨hl2, g2, cur2, fz2, hA2, hb2, hr2⟩ := ho
    refine ⟨A', c', w', hrun, ⟨hl2, g2, cur2, fz2, hA2, by simp at hb2; omega, hr2⟩, ?_⟩
    exact ((Below.refl _ w).alloc hbase _).grown hgr (by simp; omega) (fun k hk => by cases hk)
set_option maxRecDepth 100000 in
/-- append(out, u) at such a slice. -/
theorem appB_one {ops : Array Oper} {rest : List Oper} {o : Oper} {a : Act} {Q : Exit → Act → World → Prop} (w : World) (hgd : o.guard = none) (s x : Operand)
    (ho : o.op = .call { callee := .builtin .append, args := #[s, x], argTypes := #[28, 28] })
    (base : Nat) (A : Option Addr) (n c : Nat) (l : List UInt8) (z : Int) (u : UInt8) (hz : z = (u.toNat : Int)) (hs : a.eval s = .slice A n c) (hx : a.eval x = .slice (some ⟨w.heap.size, 0, none⟩) 1 1)
    (hown : OwnB w base A n c l) (hb : n + 1 ≤ 140737488355328) (hbase : base ≤ w.heap.size)
    (h : ∀ A' c' w', OwnB w' base A' (n + 1) c' (l ++ [u]) → Below base w w' → wpList Tryd.prog ops Q rest (a.put o.dst (.slice A' (n + 1) c')) w') :
    wpList Tryd.prog ops Q (o :: rest) a (w.alloc (.cells #[.int .u8 z] 5)) := by
  subst hz
  obtain ⟨A', c', w', hrun, hown', hbel⟩ := run_appB w o.type base A n c l u hown hb hbase
  refine wpList_plain hgd fun _ hK => ?_
  unfold Oper.wp execOp
  have hrun' : (Builtin.append_ #[28, 28] o.type #[.slice A n c, .slice (some ⟨w.heap.size, 0, none⟩) 1 1]).run Tryd.prog (w.alloc (.cells #[.int .u8 (u.toNat : Int)] 5)) = .ok (.slice A' (n + 1) c') w' := hrun
  simp only [ho, resolve, invoke, builtin, Sem.run_bind, Sem.run_pure, Result.andThen_ok, List.map_toArray, List.map_cons, List.map_nil, hs, hx, hrun']
  exact hK _ _ (h A' c' w' hown' hbel)
end Go.Proofs.YthkkllcpogagiaaDoor

/- Slices of byte slices: where they begin and what they hold. -/
namespace Go.Proofs.YthkkllcpogagiaaDoor
open Go.RowKit

/-- Where the slice from k on of a slice with capacity c begins. -/
def sub (A : Option Addr) (c k : Nat) : Option Addr := if c = k then A else A.map (·.add k)
set_option maxRecDepth 100000 in
theorem run_subL {P : Program} (t e : TypeId) (hu : P.underlying t = some (.slice e)) (hs : (P.info? e).map (·.size) = some 1) (A : Option Addr) (n c k : Nat) (z : Int) (hz : z = (k : Int)) (hk : k ≤ n) (w : World) :
    (Instr.sliceAt t (.slice A n c) (some (.int .i64 z)) none none).run P w = .ok (.slice (sub A c k) (n - k) (c - k)) w := by
  obtain ⟨i, hi, hsz⟩ := Option.map_eq_some_iff.1 hs
  subst hz
  have e2 : ∀ x, (Instr.sliceBound (.int .i64 (k : Int)) n x).run P w = .ok k w := by intro x; rw [run_sliceBound (h0 := by omega) (h1 := by omega)]; simp
  simp [Instr.sliceAt, Instr.slice, run_underlying hu, Instr.sliceBounds, e2, sizeOf, typeInfo, hi, hsz, sub]
set_option maxRecDepth 100000 in
theorem run_subH {P : Program} (t e : TypeId) (hu : P.underlying t = some (.slice e)) (hs : (P.info? e).map (·.size) = some 1) (A : Option Addr) (n c h : Nat) (z : Int) (hz : z = (h : Int)) (hh : h ≤ c) (w : World) :
    (Instr.sliceAt t (.slice A n c) none (some (.int .i64 z)) none).run P w = .ok (.slice (sub A c 0) h c) w := by
  obtain ⟨i, hi, hsz⟩ := Option.map_eq_some_iff.1 hs
  subst hz
  have e2 : ∀ x, (Instr.sliceBound (.int .i64 (h : Int)) c x).run P w = .ok h w := by intro x; rw [run_sliceBound (h0 := by omega) (h1 := by omega)]; simp
  simp [Instr.sliceAt, Instr.slice, run_underlying hu, Instr.sliceBounds, e2, sizeOf, typeInfo, hi, sub]
set_option maxRecDepth 100000 in
theorem run_subLH {P : Program} (t e : TypeId) (hu : P.underlying t = some (.slice e)) (hs : (P.info? e).map (·.size) = some 1) (A : Option Addr) (n c l h : Nat) (zl zh : Int) (hzl : zl = (l : Int)) (hzh : zh = (h : Int)) (hl : l ≤ h) (hh : h ≤ c) (w : World) :
    (Instr.sliceAt t (.slice A n c) (some (.int .i64 zl)) (some (.int .i64 zh)) none).run P w = .ok (.slice (sub A c l) (h - l) (c - l)) w := by
  obtain ⟨i, hi, hsz⟩ := Option.map_eq_some_iff.1 hs
  subst hzl hzh
  have e1 : ∀ x, (Instr.sliceBound (.int .i64 (h : Int)) c x).run P w = .ok h w := by intro x; rw [run_sliceBound (h0 := by omega) (h1 := by omega)]; simp
  have e2 : ∀ x, (Instr.sliceBound (.int .i64 (l : Int)) h x).run P w = .ok l w := by intro x; rw [run_sliceBound (h0 := by omega) (h1 := by omega)]; simp
  simp [Instr.sliceAt, Instr.slice, run_underlying hu, Instr.sliceBounds, e1, e2, sizeOf, typeInfo, hi, hsz, sub]
set_option maxRecDepth 100000 in
theorem Rd.drop {w : World} {A : Option Addr} {n c : Nat} {l : List UInt8} (h : Rd w A n l) (k : Nat) (hnc : n ≤ c) : Rd w (sub A c k) (n - k) (l.drop k) := by
  refine ⟨by rw [List.length_drop, h.1], fun hn => ?_⟩
  obtain ⟨b, off, rfl, hb, hc⟩ := h.2 (by omega)
  refine ⟨b, off + k, ?_, hb, fun j hj => ?_⟩
  · unfold sub
    rw [if_neg (by omega), Option.map_some, Addr.add_mid]
  · rw [List.length_drop] at hj
    rw [List.getElem_drop, Nat.add_assoc]
    exact hc (k + j) (by omega)
set_option maxRecDepth 100000 in
theorem Rd.mid {w : World} {A : Option Addr} {n c : Nat} {l : List UInt8} (h : Rd w A n l) (k e : Nat) (hnc : n ≤ c) (he : e ≤ n) : Rd w (sub A c k) (e - k) ((l.drop k).take (e - k)) :=
  (h.drop k hnc).take (by omega)
end Go.Proofs.YthkkllcpogagiaaDoor
