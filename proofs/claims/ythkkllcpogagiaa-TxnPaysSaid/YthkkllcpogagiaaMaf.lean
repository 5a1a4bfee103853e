/- Merged texts: OwnB CodM. -/
import Derived.Test.YthkkllcpogagiaaMac
import Derived.ArgAppend
import Derived.Deep.MidRow
import Derived.Laws.IdiomStrings
import Derived.Test.YthkkllcpogagiaaMaa
/- Byte slices that a call made, whose row may bear a conversion's mark behind its last cell; append onto them. -/
namespace Go.Proofs.Ythkkllcpogagiaa
open Go.RowKit
set_option linter.unusedVariables false

/-- The slice of n bytes lies at the head of a row that the call made, and holds the bytes l; no cell of the row is frozen. -/
def OwnB (w : World) (base : Nat) (A : Option Addr) (n c : Nat) (l : List UInt8) : Prop :=
  l.length = n ∧ ∃ g cur fz, A = some ⟨g, 0, none⟩ ∧ base ≤ g ∧ w.heap[g]? = some (.cells cur 5 fz) ∧ (fz = (0, 0) ∨ cur.size ≤ fz.1) ∧ n ≤ c ∧ c ≤ maxLen ∧ cur.size = c ∧ cur.toList.take n = l.map B8
set_option maxRecDepth 100000 in
theorem OwnB.len {w : World} {base n c : Nat} {A : Option Addr} {l : List UInt8} (h : OwnB w base A n c l) : l.length = n := h.1
set_option maxRecDepth 100000 in
theorem OwnB.cap {w : World} {base n c : Nat} {A : Option Addr} {l : List UInt8} (h : OwnB w base A n c l) : n ≤ c ∧ c ≤ maxLen := by
  obtain ⟨_, g, cur, fz, _, _, _, _, h1, h2, _⟩ := h
  exact ⟨h1, h2⟩
set_option maxRecDepth 100000 in
theorem OwnB.cells {w : World} {n g : Nat} {cur : Array Value} {fz : Nat × Nat} {t : TypeId} {l : List UInt8} (hl : l.length = n) (hg : w.heap[g]? = some (.cells cur t fz)) (ht : cur.toList.take n = l.map B8) (j : Nat) (u : Value) (hu : (l.map B8)[j]? = some u) : w.cell? ⟨g, j, none⟩ = some u := by
  rw [cell_of_row w g j cur t fz hg]
  rw [← ht, List.getElem?_take] at hu
  split at hu
  · simpa using hu
  · cases hu
set_option maxRecDepth 100000 in
theorem OwnB.rd {w : World} {base n c : Nat} {A : Option Addr} {l : List UInt8} (h : OwnB w base A n c l) : Rd w A n l := by
  obtain ⟨hl, g, cur, fz, rfl, _, hg, _, _, _, _, ht⟩ := h
  refine ⟨hl, fun _ => ⟨g, 0, rfl, (Array.getElem?_eq_some_iff.1 hg).1, fun j hj => ?_⟩⟩
  rw [Nat.zero_add]
  exact OwnB.cells hl hg ht j _ (by rw [List.getElem?_map, List.getElem?_eq_getElem hj]; rfl)
set_option maxRecDepth 100000 in
theorem OwnB.alloc {w : World} {base n c : Nat} {A : Option Addr} {l : List UInt8} (h : OwnB w base A n c l) (o : Obj) : OwnB (w.alloc o) base A n c l := by
  obtain ⟨hl, g, cur, fz, hA, hb, hg, hr⟩ := h
  exact ⟨hl, g, cur, fz, hA, hb, (heap_alloc_old w o (Array.getElem?_eq_some_iff.1 hg).1).trans hg, hr⟩
set_option maxRecDepth 100000 in
theorem OwnB.of_row {w : World} {base n : Nat} {v : Value} {l : List UInt8} (hn : 0 < n) (h : w.ownsRow base 5 1 v n (l.map B8)) : ∃ A c, v = .slice A n c ∧ OwnB w base A n c l := by
  obtain ⟨hl, ⟨_, h0⟩ | ⟨g, cap, cur, hv, hb, hg, hc, hm, hs, ht⟩⟩ := h
  · omega
  · rw [Nat.mul_one] at hs ht hl
    exact ⟨_, _, hv, by rw [List.length_map] at hl; exact hl, g, cur, (0, 0), rfl, hb, hg, Or.inl rfl, hc, hm, hs, ht⟩
set_option maxRecDepth 100000 in
theorem heap_setCell_fz (w : World) (g i : Nat) (cs : Array Value) (t : TypeId) (fz : Nat × Nat) (v : Value) (hg : w.heap[g]? = some (.cells cs t fz)) : (w.setCell ⟨g, i, none⟩ v).heap[g]? = some (.cells (cs.setIfInBounds i v) t fz) := by
  simp [World.setCell, Array.getElem?_modify, hg]
set_option maxRecDepth 100000 in
/-- A text converted to bytes. -/
theorem conv_str (w : World) (s : ByteArray) (hs : s.size ≤ maxLen) : ∃ c row, (convert 9 22 (.string s)).run Try.prog w = .ok (.slice (some ⟨w.heap.size, 0, none⟩) s.size c) (w.drew.alloc (.cells row 5 (row.size, row.size + 1))) ∧
    OwnB (w.drew.alloc (.cells row 5 (row.size, row.size + 1))) w.heap.size (some ⟨w.heap.size, 0, none⟩) s.size c s.data.toList := by
  have h := run_bytes_of_string (P := Try.prog) w 9 22 5 s Try.underlying9 Try.underlying22 Try.underlying5
  have hge := grownCap_ge w s.size 0 5
  have hsz : s.data.toList.length = s.size := by rw [Array.length_toList]; rfl
  refine ⟨_, _, h, hsz, w.heap.size, _, _, rfl, Nat.le_refl _, heap_alloc_new w.drew _, Or.inr (Nat.le_refl _), hge, grownCap_le_maxLen w s.size 0 5 hs, ?_, ?_⟩
  · simp [bytesRow]
    have : s.data.size = s.size := rfl
    omega
  · have e : s.size = (s.data.toList.map B8).length := by rw [List.length_map, hsz]
    simp only [bytesRow, Array.toList_append, Array.toList_map]
    rw [e]
    exact List.take_left
set_option maxRecDepth 100000 in
theorem run_appB (w : World) (ty : TypeId) (base : Nat) (A : Option Addr) (n c : Nat) (l : List UInt8) (u : UInt8) (hown : OwnB w base A n c l) (hb : n + 1 ≤ 140737488355328) (hbase : base ≤ w.heap.size) :
    ∃ A' c' w', (Builtin.append_ #[22, 22] ty #[.slice A n c, .slice (some ⟨w.heap.size, 0, none⟩) 1 1]).run Try.prog (w.alloc (.cells #[B8 u] 5)) = .ok (.slice A' (n + 1) c') w' ∧ OwnB w' base A' (n + 1) c' (l ++ [u]) ∧ Below base w w' := by
  obtain ⟨i, hi, hzz⟩ := Option.map_eq_some_iff.1 info8
  simp only [Prod.mk.injEq] at hzz
  obtain ⟨hz, hs, hby⟩ := hzz
  have hown' := hown.alloc (.cells #[B8 u] 5)
  have hsrc : ∀ j v, [B8 u][j]? = some v → (w.alloc (.cells #[B8 u] 5)).cell? ((⟨w.heap.size, 0, none⟩ : Addr).add j) = some v := fun j v hj => by
    rw [Addr.add_mid, cell_of_row _ w.heap.size (0 + j) _ 5 (0, 0) (heap_alloc_new w _)]
    simpa using hj
  have h1 : ∀ v ∈ [B8 u], v.oneCell' = true := fun v hv => by simp at hv; subst hv; rfl
  obtain ⟨hl, g, cur, fz, rfl, hbg, hg, hfz, hnc, hcm, hcs, ht⟩ := hown'
  by_cases hr : n + 1 ≤ c
  · have hrun := run_append_room_cells (P := Try.prog) (w.alloc (.cells #[B8 u] 5)) 22 ty 5 i Try.underlying22 hi g 0 n c ⟨w.heap.size, 0, none⟩ 1 1 [B8 u] (by rw [hs]; rfl) hsrc h1 hr
      (fun j hj => by
        simp only [List.length_singleton] at hj
        rw [cell_of_row _ g _ cur 5 fz hg, hs]
        simp
        omega)
      (fun j hj => by
        simp only [List.length_singleton] at hj
        unfold World.frozen?
        rw [hg]
        simp only [hs]
        rcases hfz with rfl | hfz
        · simp
        · simp
          omega)
    rw [hs, Nat.zero_add, Nat.mul_one] at hrun
    refine ⟨_, _, _, hrun, ⟨by simp [hl], g, _, fz, rfl, hbg, heap_setCell_fz _ g n cur 5 fz (B8 u) hg, by simpa using hfz, hr, hcm, by simpa using hcs, ?_⟩, ?_⟩
    · rw [Array.toList_setIfInBounds, List.map_append, ← ht, List.take_succ_eq_append_getElem (by simp; omega)]
      rw [List.take_set_of_le (Nat.le_refl _)]
      simp
    · exact ((Below.refl _ w).alloc hbase _).setCell (p := ⟨g, n, none⟩) hbg _
  · obtain ⟨v', w', hrun, hrow, hgr⟩ := run_append_arg_grows (P := Try.prog) (w.alloc (.cells #[B8 u] 5)) 22 ty 5 i (.int .u8 0) 1 1 Try.underlying22 hi hz hs hby rfl (by omega) ⟨g, 0, none⟩ n c (l.map B8) (by simp [hl])
      (fun j v hj => by rw [Addr.add_mid, Nat.zero_add]; exact OwnB.cells hl hg ht j v hj) ⟨w.heap.size, 0, none⟩ 1 1 [B8 u] rfl hsrc (by omega) (by unfold maxLen; omega) (by omega)
    have hrow' : w'.ownsRow (w.alloc (.cells #[B8 u] 5)).heap.size 5 1 v' (n + 1) ((l ++ [u]).map B8) := by rw [List.map_append]; exact hrow
    obtain ⟨A', c', rfl, ho⟩ := OwnB.of_row (by omega) hrow'
    obtain ⟨hl2, g2, cur2, fz2, hA2, hb2, hr2⟩ := ho
    refine ⟨A', c', w', hrun, ⟨hl2, g2, cur2, fz2, hA2, by simp at hb2; omega, hr2⟩, ?_⟩
    exact ((Below.refl _ w).alloc hbase _).grown hgr (by simp; omega) (fun k hk => by cases hk)
set_option maxRecDepth 100000 in
/-- append(out, u) at such a slice. -/
theorem appB_one {ops : Array Oper} {rest : List Oper} {o : Oper} {a : Act} {Q : Exit → Act → World → Prop} (w : World) (hgd : o.guard = none) (s x : Operand)
    (ho : o.op = .call { callee := .builtin .append, args := #[s, x], argTypes := #[22, 22] })
    (base : Nat) (A : Option Addr) (n c : Nat) (l : List UInt8) (z : Int) (u : UInt8) (hz : z = (u.toNat : Int)) (hs : a.eval s = .slice A n c) (hx : a.eval x = .slice (some ⟨w.heap.size, 0, none⟩) 1 1)
    (hown : OwnB w base A n c l) (hb : n + 1 ≤ 140737488355328) (hbase : base ≤ w.heap.size)
    (h : ∀ A' c' w', OwnB w' base A' (n + 1) c' (l ++ [u]) → Below base w w' → wpList Try.prog ops Q rest (a.put o.dst (.slice A' (n + 1) c')) w') :
    wpList Try.prog ops Q (o :: rest) a (w.alloc (.cells #[.int .u8 z] 5)) := by
  subst hz
  obtain ⟨A', c', w', hrun, hown', hbel⟩ := run_appB w o.type base A n c l u hown hb hbase
  refine wpList_plain hgd fun _ hK => ?_
  unfold Oper.wp execOp
  have hrun' : (Builtin.append_ #[22, 22] o.type #[.slice A n c, .slice (some ⟨w.heap.size, 0, none⟩) 1 1]).run Try.prog (w.alloc (.cells #[.int .u8 (u.toNat : Int)] 5)) = .ok (.slice A' (n + 1) c') w' := hrun
  simp only [ho, resolve, invoke, builtin, Sem.run_bind, Sem.run_pure, Result.andThen_ok, List.map_toArray, List.map_cons, List.map_nil, hs, hx, hrun']
  exact hK _ _ (h A' c' w' hown' hbel)
end Go.Proofs.Ythkkllcpogagiaa

/- Plain mathematics of layer 6: counts and their bytes; what a reader is left with. Nothing of the program is named here. -/
namespace Go.Proofs.Ythkkllcpogagiaa

/-- How many bytes follow the first byte of the count n. -/
def more (n : Nat) : Nat := if n < 253 then 0 else if n < 65536 then 2 else if n < 4294967296 then 4 else 8
/-- The first byte of the count n. -/
def headB (n : Nat) : UInt8 := if n < 253 then UInt8.ofNat n else if n < 65536 then 253 else if n < 4294967296 then 254 else 255
/-- The bytes of the count n. -/
def cnt (n : Nat) : List UInt8 := headB n :: little n (more n)
/-- How many bytes follow a first byte. -/
def foll (c : UInt8) : Nat := if c = 253 then 2 else if c = 254 then 4 else if c = 255 then 8 else 0
/-- The number that bytes spell as a count. -/
def cval (c : UInt8) (r : List UInt8) : Nat := if foll c = 0 then c.toNat else numL (r.take (foll c))
/-- The count with which bytes begin (0 if none), how many bytes it has (0 if none), and the error. -/
def first (l : List UInt8) (most : Nat) : Nat × Nat × Nat :=
  match l with
  | [] => (0, 0, 2)
  | c :: r => if r.length < foll c then (0, 0, 2) else if foll c ≠ more (cval c r) then (0, 0, 3) else if most < cval c r then (0, 0, 4) else (cval c r, 1 + foll c, 0)
/-- What is taken as n bytes, what is left, and the error. -/
def tkV (l : List UInt8) (e n : Nat) : List UInt8 := if e = 0 ∧ n ≤ l.length then l.take n else []
def tkL (l : List UInt8) (e n : Nat) : List UInt8 := if e = 0 ∧ n ≤ l.length then l.drop n else l
def tkE (l : List UInt8) (e n : Nat) : Nat := if e = 0 then (if n ≤ l.length then 0 else 2) else e
/-- What is taken as a count, what is left, and the error. -/
def cvV (l : List UInt8) (e most : Nat) : Nat := if e = 0 then (first l most).1 else 0
def cvL (l : List UInt8) (e most : Nat) : List UInt8 := if e = 0 then l.drop (first l most).2.1 else l
def cvE (l : List UInt8) (e most : Nat) : Nat := if e = 0 then (first l most).2.2 else e
/-- What is taken as a text, what is left, and the error. -/
def txV (l : List UInt8) (e most : Nat) : List UInt8 := tkV (cvL l e most) (cvE l e most) (cvV l e most)
def txE (l : List UInt8) (e most : Nat) : Nat := tkE (cvL l e most) (cvE l e most) (cvV l e most)
def txL (l : List UInt8) (e most : Nat) : List UInt8 := if txE l e most = 0 then tkL (cvL l e most) (cvE l e most) (cvV l e most) else l

set_option maxRecDepth 100000 in
theorem foll_le (c : UInt8) : foll c ≤ 8 := by unfold foll; (repeat' split) <;> omega
set_option maxRecDepth 100000 in
theorem more_le (n : Nat) : more n ≤ 8 := by unfold more; (repeat' split) <;> omega
set_option maxRecDepth 100000 in
@[simp] theorem cnt_len (n : Nat) : (cnt n).length = 1 + more n := by simp [cnt]; omega
set_option maxRecDepth 100000 in
theorem cval_lt (c : UInt8) (r : List UInt8) : cval c r < 18446744073709551616 := by
  unfold cval
  split
  · have := c.toNat_lt; omega
  · have h1 := numL_lt (r.take (foll c))
    have h2 : (r.take (foll c)).length ≤ 8 := by rw [List.length_take]; have := foll_le c; omega
    have h3 := Nat.pow_le_pow_right (n := 256) (by omega) h2
    have h4 : 256 ^ 8 = 18446744073709551616 := by decide
    omega
set_option maxRecDepth 100000 in
theorem little_numL (l : List UInt8) : little (numL l) l.length = l := by
  induction l with
  | nil => rfl
  | cons c r ih =>
    rw [List.length_cons, little_succ, numL]
    have hc := c.toNat_lt
    congr 1
    · apply UInt8.toNat_inj.1
      rw [ofNat_toNat]
      omega
    · rw [show (c.toNat + 256 * numL r) / 256 = numL r from by omega]
      exact ih
set_option maxRecDepth 100000 in
theorem head_more (n : Nat) : (more n = 0 → n < 253) ∧ (more n = 2 → headB n = 253) ∧ (more n = 4 → headB n = 254) ∧ (more n = 8 → headB n = 255) := by
  unfold more headB
  by_cases h1 : n < 253
  · simp [h1]
  · by_cases h2 : n < 65536
    · simp [h1, h2]
    · by_cases h3 : n < 4294967296
      · simp [h1, h2, h3]
      · simp [h1, h2, h3]
set_option maxRecDepth 100000 in
theorem foll_more {c : UInt8} {r : List UInt8} (hl : foll c ≤ r.length) (h : foll c = more (cval c r)) : c :: r.take (foll c) = cnt (cval c r) := by
  unfold cnt
  have hlen : (r.take (foll c)).length = foll c := by rw [List.length_take]; omega
  by_cases h0 : foll c = 0
  · have hv : cval c r = c.toNat := by simp [cval, h0]
    rw [hv, h0] at h
    rw [hv]
    have hlt : c.toNat < 253 := by unfold more at h; split at h; assumption; split at h; omega; split at h <;> omega
    rw [h0, ← h]
    simp [headB, hlt, little]
  · have hv : cval c r = numL (r.take (foll c)) := by simp [cval, h0]
    have hlit : little (cval c r) (more (cval c r)) = r.take (foll c) := by
      rw [← h, hv]
      have := little_numL (r.take (foll c))
      rw [hlen] at this
      exact this
    rw [hlit]
    congr 1
    have hh := head_more (cval c r)
    unfold foll at h h0
    by_cases e1 : c = 253
    · rw [if_pos e1] at h
      exact e1.trans (hh.2.1 h.symm).symm
    · by_cases e2 : c = 254
      · rw [if_neg e1, if_pos e2] at h
        exact e2.trans (hh.2.2.1 h.symm).symm
      · by_cases e3 : c = 255
        · rw [if_neg e1, if_neg e2, if_pos e3] at h
          exact e3.trans (hh.2.2.2 h.symm).symm
        · rw [if_neg e1, if_neg e2, if_neg e3] at h0
          exact absurd rfl h0
set_option maxRecDepth 100000 in
/-- Bytes spell a count just if they are its bytes. -/
theorem spell_iff {c : UInt8} {r : List UInt8} (hl : foll c ≤ r.length) : cnt (cval c r) = c :: r.take (foll c) ↔ foll c = more (cval c r) := by
  constructor
  · intro h
    have := congrArg List.length h
    rw [cnt_len, List.length_cons, List.length_take] at this
    omega
  · exact fun h => (foll_more hl h).symm
set_option maxRecDepth 100000 in
theorem first_ok {l : List UInt8} {most : Nat} (h : (first l most).2.2 = 0) : l = cnt (first l most).1 ++ l.drop (first l most).2.1 ∧ (first l most).1 ≤ most ∧ (first l most).2.1 ≤ l.length ∧ (first l most).1 < 18446744073709551616 := by
  unfold first at h ⊢
  match l with
  | [] => simp at h
  | c :: r =>
    simp only at h ⊢
    split at h
    · simp at h
    · split at h
      · simp at h
      · split at h
        · simp at h
        · rename_i h1 h2 h3
          rw [if_neg h1, if_neg h2, if_neg h3]
          have h2' : foll c = more (cval c r) := by omega
          refine ⟨?_, by omega, by simp; omega, cval_lt c r⟩
          show c :: r = cnt (cval c r) ++ (c :: r).drop (1 + foll c)
          rw [← foll_more (by omega) h2', Nat.add_comm 1, List.drop_succ_cons, List.cons_append, List.take_append_drop]
set_option maxRecDepth 100000 in
theorem first_err {l : List UInt8} {most : Nat} (h : (first l most).2.2 ≠ 0) : (first l most).1 = 0 ∧ (first l most).2.1 = 0 := by
  unfold first at h ⊢
  match l with
  | [] => simp
  | c :: r =>
    simp only at h ⊢
    split
    · simp
    · split
      · simp
      · split
        · simp
        · rename_i h1 h2 h3
          rw [if_neg h1, if_neg h2, if_neg h3] at h
          simp at h
set_option maxRecDepth 100000 in
theorem first_le (l : List UInt8) (most : Nat) : (first l most).2.1 ≤ l.length ∧ (first l most).1 ≤ most ∧ (first l most).1 < 18446744073709551616 ∧ (first l most).2.2 ≤ 4 := by
  refine ⟨?_, ?_, ?_, ?_⟩
  · by_cases h : (first l most).2.2 = 0
    · exact (first_ok h).2.2.1
    · rw [(first_err h).2]; omega
  · by_cases h : (first l most).2.2 = 0
    · exact (first_ok h).2.1
    · rw [(first_err h).1]; omega
  · by_cases h : (first l most).2.2 = 0
    · exact (first_ok h).2.2.2
    · rw [(first_err h).1]; omega
  · unfold first
    match l with
    | [] => simp
    | c :: r => simp only; (repeat' split) <;> simp only [Nat.le_refl, Nat.reduceLeDiff, Nat.zero_le]
set_option maxRecDepth 100000 in
theorem foll_head (n : Nat) : foll (headB n) = more n := by
  unfold foll headB more
  split
  · rename_i h
    have hn : ∀ c : UInt8, 253 ≤ c.toNat → UInt8.ofNat n ≠ c := fun c hc e => by
      have := congrArg UInt8.toNat e
      rw [ofNat_toNat] at this
      omega
    rw [if_neg (hn 253 (by decide)), if_neg (hn 254 (by decide)), if_neg (hn 255 (by decide))]
  · split
    · rfl
    · split <;> rfl
set_option maxRecDepth 100000 in
theorem cval_cnt (n : Nat) (hn : n < 18446744073709551616) (r : List UInt8) : cval (headB n) (little n (more n) ++ r) = n := by
  unfold cval
  rw [foll_head, List.take_append_of_le_length (by simp), List.take_of_length_le (by simp), numL_little]
  split
  · rename_i h
    have hlt : n < 253 := by unfold more at h; split at h; assumption; split at h; omega; split at h <;> omega
    unfold headB
    rw [if_pos hlt, ofNat_toNat]
    omega
  · rename_i h
    apply Nat.mod_eq_of_lt
    unfold more
    split
    · rename_i h1; simp [more, h1] at h
    · split
      · show n < 65536; assumption
      · split
        · show n < 4294967296; assumption
        · show n < 18446744073709551616; exact hn
set_option maxRecDepth 100000 in
theorem first_cnt (n most : Nat) (hn : n < 18446744073709551616) (hm : n ≤ most) (r : List UInt8) : first (cnt n ++ r) most = (n, 1 + more n, 0) := by
  have hv := cval_cnt n hn r
  unfold first cnt
  simp only [List.cons_append, hv, foll_head]
  rw [if_neg (by simp), if_neg (by omega), if_neg (by omega)]
set_option maxRecDepth 100000 in
theorem drop_cnt (n : Nat) (r : List UInt8) : (cnt n ++ r).drop (1 + more n) = r := by
  rw [← cnt_len n, List.drop_left]
end Go.Proofs.Ythkkllcpogagiaa
