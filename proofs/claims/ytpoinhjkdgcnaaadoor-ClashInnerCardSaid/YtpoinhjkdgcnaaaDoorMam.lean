/- Merged texts: CodS CodW CodR CodT CodN CodV CodI Fil HdrM. -/
import Derived.Test.YtpoinhjkdgcnaaaDoorMal
import Derived.Lib.LazyBuf
import Derived.Laws.Concat
import Derived.Laws.DeepStrings4
import Derived.Deep.RegionHeld3
import Derived.Test.YtpoinhjkdgcnaaaDoorMaj
import Derived.Deep.CutRange
import Derived.Deep.DeepCutAuto
import Derived.Test.YtpoinhjkdgcnaaaDoorMac
import Derived.Laws.Tables
/- Contracts of small functions: codec.shape, codec.following, bytes.Clone. -/
namespace Go.Proofs.YtpoinhjkdgcnaaaDoor
open Go.RowKit
set_option linter.unusedVariables false

set_option maxRecDepth 100000 in
theorem headB_small (n : Nat) (h : n < 253) : (n : Int) % 256 = ((headB n).toNat : Int) := by
  unfold headB
  rw [if_pos h, ofNat_toNat]
  omega
set_option maxRecDepth 100000 in
theorem toNat_ne {c d : UInt8} (h : c ≠ d) : (c.toNat : Int) ≠ (d.toNat : Int) := fun e => h (UInt8.toNat_inj.1 (by omega))
set_option maxRecDepth 100000 in
/-- An empty row that is made. -/
theorem own_empty (w : World) : Own (w.alloc (.cells #[] 5)) w.heap.size (some ⟨w.heap.size, 0, none⟩) 0 0 [] := by
  refine ⟨rfl, rfl, .inr ⟨w.heap.size, 0, #[], rfl, Nat.le_refl _, heap_alloc_new w _, Nat.le_refl _, by unfold maxLen; omega, rfl, rfl⟩⟩
set_option maxRecDepth 100000 in
theorem Own.nil (w : World) (base : Nat) : Own w base none 0 0 [] := ⟨rfl, World.ownsRow_nil _ _ _ _⟩
end Go.Proofs.YtpoinhjkdgcnaaaDoor

/- Contracts of a writer's methods: New, Put, Num, Var, Text, Len, Bytes. -/
namespace Go.Proofs.YtpoinhjkdgcnaaaDoor
open Go.RowKit
set_option linter.unusedVariables false

set_option maxRecDepth 100000 in
theorem frm_grown {w w' : World} {A : Option Addr} {n c : Nat} (h : w.grownBy w' (Value.ownBlock (.slice A n c))) : Frm (fun i => blkOf A = some i) w w' :=
  ⟨h.os, h.tape, h.output, h.size, fun i hi hS => h.block i hi (fun e => hS (by cases A with | none => simp [Value.ownBlock] at e | some a => simpa [Value.ownBlock, blkOf] using e.symm))⟩
set_option maxRecDepth 100000 in
theorem own_blkOf (A : Option Addr) (n c : Nat) : Value.ownBlock (.slice A n c) = blkOf A := by cases A <;> rfl
set_option maxRecDepth 100000 in
theorem RdF.turn {w w' : World} {S T : Nat → Prop} {A : Option Addr} {n : Nat} {l : List UInt8} (h : RdF w S A n l) (hf : Frm S w w') (hT : ∀ i, T i → S i ∨ w.heap.size ≤ i) : RdF w' T A n l :=
  ⟨h.1, fun hn => by
    obtain ⟨b, off, e, hS, hb, hc⟩ := h.2 hn
    exact ⟨b, off, e, fun ht => by rcases hT b ht with h1 | h1; exact hS h1; omega, Nat.lt_of_lt_of_le hb hf.size, fun j hj => (hf.cell (p := ⟨b, off + j, none⟩) hb hS).trans (hc j hj)⟩⟩
set_option maxRecDepth 100000 in
theorem ws_turn {p B : Nat} {A A' : Option Addr} (hn : ∀ g, blkOf A' = some g → blkOf A = some g ∨ B ≤ g) : ∀ i, WS p A' i → WS p A i ∨ B ≤ i := fun i hi => by
  rcases hi with rfl | hi
  · exact .inl (.inl rfl)
  · rcases hn i hi with h1 | h1
    · exact .inl (.inr h1)
    · exact .inr h1
set_option maxRecDepth 100000 in
theorem below_al {w W : World} (h : Below w.heap.size w W) (o : Obj) : Below w.heap.size w (W.alloc o) := h.alloc h.size o

set_option maxRecDepth 100000 in
theorem cw_more (n : Nat) : cw ((more n : Nat) : Int) = more n := by rw [cw_nat, Nat.min_eq_left (more_le n)]
set_option maxRecDepth 100000 in
theorem below_frm {w a b : World} {S : Nat → Prop} (h : Below w.heap.size w a) (hf : Frm S a b) (hS : ∀ i, S i → w.heap.size ≤ i) : Below w.heap.size w b := h.trans (hf.below h.size hS)
set_option maxRecDepth 100000 in
theorem below_more {w a b : World} (h : Below w.heap.size w a) (hb : Below a.heap.size a b) : Below w.heap.size w b := h.trans (hb.mono h.size)
set_option maxRecDepth 100000 in
theorem ws_new {p B : Nat} (h : B ≤ p) : ∀ i, WS p none i → B ≤ i := fun i hi => by
  rcases hi with rfl | hi
  · exact h
  · simp [blkOf] at hi
set_option maxRecDepth 100000 in
theorem ws_on {p B : Nat} {A A' : Option Addr} {n : Nat} (hA : ∀ i, WS p A i → B ≤ i) (hn : ∀ g, blkOf A' = some g → blkOf A = some g ∨ n ≤ g) (hB : B ≤ n) : ∀ i, WS p A' i → B ≤ i := fun i hi => by
  rcases ws_turn hn i hi with h | h
  · exact hA i h
  · omega
end Go.Proofs.YtpoinhjkdgcnaaaDoor

/- Contracts of a reader's methods: Of, Err, Left, End, Take, Var. -/
namespace Go.Proofs.YtpoinhjkdgcnaaaDoor
open Go.RowKit
set_option linter.unusedVariables false

/-- What End answers. -/
def ndE (l : List UInt8) (e : Nat) : Nat := if e = 0 ∧ 0 < l.length then 3 else e
end Go.Proofs.YtpoinhjkdgcnaaaDoor

/- Contracts of codec.firstCount and of a reader's Var, Num, Text. -/
namespace Go.Proofs.YtpoinhjkdgcnaaaDoor
open Go.RowKit
set_option linter.unusedVariables false

set_option maxRecDepth 100000 in
theorem cval_zero {c : UInt8} {r : List UInt8} (h : foll c = 0) : cval c r = c.toNat := by simp [cval, h]
set_option maxRecDepth 100000 in
theorem cval_pos {c : UInt8} {r : List UInt8} (h : foll c ≠ 0) : cval c r = numL (r.take (foll c)) := by simp [cval, h]
set_option maxRecDepth 100000 in
theorem tkV_len (l : List UInt8) (e n : Nat) : (tkV l e n).length ≤ n := by
  unfold tkV
  split
  · rw [List.length_take]; omega
  · simp
set_option maxRecDepth 100000 in
theorem cvV_le (l : List UInt8) (e most : Nat) : cvV l e most ≤ most := by
  unfold cvV
  split
  · exact (first_le l most).2.1
  · exact Nat.zero_le _
end Go.Proofs.YtpoinhjkdgcnaaaDoor

/- Contracts of the document's own Num, Var, Text of layer 6: bytes as strings. -/
namespace Go.Proofs.YtpoinhjkdgcnaaaDoor
open Go.RowKit
set_option linter.unusedVariables false

set_option maxRecDepth 100000 in
theorem OwnJ.lt {w : World} {base n c : Nat} {A : Option Addr} {l : List Int} (h : OwnJ w base A n c l) {g : Nat} (hg : blkOf A = some g) : g < w.heap.size ∧ base ≤ g := by
  rcases h.2.2 with ⟨hv, _⟩ | ⟨g', cap, cur, hv, hb, hh, _⟩
  · injection hv with e1; rw [e1] at hg; simp [blkOf] at hg
  · injection hv with e1
    rw [e1] at hg
    simp [blkOf] at hg
    subst hg
    exact ⟨(Array.getElem?_eq_some_iff.1 hh).1, hb⟩
set_option maxRecDepth 100000 in
theorem OwnJ.frm {w w' : World} {base n c : Nat} {A : Option Addr} {l : List Int} {S : Nat → Prop} (h : OwnJ w base A n c l) (hf : Frm S w w') (hS : ∀ g, blkOf A = some g → ¬ S g) : OwnJ w' base A n c l := by
  have hlt := fun g (hg : blkOf A = some g) => h.lt hg
  obtain ⟨h1, h2, h3⟩ := h
  refine ⟨h1, h2, ?_⟩
  rcases h3 with h' | ⟨g, cap, cur, e, hb, hh, hr⟩
  · exact .inl h'
  · refine .inr ⟨g, cap, cur, e, hb, ?_, hr⟩
    injection e with e1
    have hA : blkOf A = some g := by rw [e1]; rfl
    rw [hf.block g (hlt g hA).1 (hS g hA)]; exact hh
set_option maxRecDepth 100000 in
/-- append(out, u) at a byte slice that the call made: nothing but its own block has changed. -/
theorem app8_fr {ops : Array Oper} {rest : List Oper} {o : Oper} {a : Act} {Q : Exit → Act → World → Prop} (w : World) (hgd : o.guard = none) (s x : Operand)
    (ho : o.op = .call { callee := .builtin .append, args := #[s, x], argTypes := #[23, 23] })
    (A : Option Addr) (n c : Nat) (l : List UInt8) (z : Int) (u : UInt8) (hz : z = (u.toNat : Int)) (hs : a.eval s = .slice A n c) (hx : a.eval x = .slice (some ⟨w.heap.size, 0, none⟩) 1 1)
    (hown : Own w 0 A n c l) (hb : n + 1 ≤ 140737488355328)
    (h : ∀ A' c' w', Own w' 0 A' (n + 1) c' (l ++ [u]) → Frm (fun i => blkOf A = some i) w w' → (∀ g, blkOf A' = some g → blkOf A = some g ∨ w.heap.size ≤ g) → wpList Tryd.prog ops Q rest (a.put o.dst (.slice A' (n + 1) c')) w') :
    wpList Tryd.prog ops Q (o :: rest) a (w.alloc (.cells #[.int .u8 z] 5)) := by
  subst hz
  refine wpList_plain hgd fun _ hK => wpo_appG _ s x 23 ho 5 (.int .u8 0) 1 Tryd.underlying23 info8 rfl 0 _ n (l.map B8) hs (own_alloc hown.2 _) _ 1 1 [B8 u] hx rfl ?_ ?_ (by unfold maxLen; omega) (by omega) (Nat.zero_le _) ?_
  · intro _
    refine ⟨_, rfl, fun j v hj => ?_⟩
    have hp : (⟨w.heap.size, 0, none⟩ : Addr).add j = ⟨w.heap.size, j, none⟩ := by unfold Addr.add; split <;> simp_all
    rw [hp, cell_of_row _ w.heap.size j _ 5 (0, 0) (heap_alloc_new w _)]
    simpa [B8] using hj
  · intro v hv; simp at hv; subst hv; rfl
  · intro A' c' w' hown' _ hbk hgr
    have hf : Frm (fun i => blkOf A = some i) w w' := ((Frm.refl _ w).alloc _).trans (frm_grown hgr)
    rw [own_blkOf, own_blkOf] at hbk
    refine hK _ _ (h A' c' w' ⟨by simp [hown.1], by rw [List.map_append]; exact hown'⟩ hf (fun g hg => ?_))
    rcases hbk with e | e
    · exact .inl (e ▸ hg)
    · rw [e] at hg; injection hg with hg; exact .inr (by simp at hg; omega)
set_option maxRecDepth 100000 in
theorem dgs_get (n m t : Nat) (h : t < (dgs n m).length) : (dgs n m)[t] = ((n / 256 ^ t % 256 : Nat) : Int) := by simp [dgs]
set_option maxRecDepth 100000 in
theorem dgs_len (n m : Nat) : (dgs n m).length = m := by simp [dgs]
set_option maxRecDepth 100000 in
theorem little_snoc (n t : Nat) : little n (t + 1) = little n t ++ [UInt8.ofNat (n / 256 ^ t)] := by simp [little, List.range_succ]
set_option maxRecDepth 100000 in
theorem bstr_size (l : List UInt8) : (⟨l.toArray⟩ : ByteArray).size = l.length := by simp [ByteArray.size]
set_option maxRecDepth 100000 in
theorem bstr_add (x y : List UInt8) (hx : x.length ≤ 8388608) (hy : y.length ≤ 8388608) (W : World) : (Op.stringOp .add ⟨x.toArray⟩ ⟨y.toArray⟩).run Tryd.prog W = .ok (.string ⟨(x ++ y).toArray⟩) W :=
  run_string_add_lists W x y (by omega) (by omega)
end Go.Proofs.YtpoinhjkdgcnaaaDoor

/- Contracts of the document's own Take of layer 6. -/
namespace Go.Proofs.YtpoinhjkdgcnaaaDoor
open Go.RowKit
set_option linter.unusedVariables false

set_option maxRecDepth 100000 in
theorem bstr_from (l : List UInt8) (a N : Nat) (h : l.length = N) : (⟨l.toArray⟩ : ByteArray).extract a N = ⟨(l.drop a).toArray⟩ := by
  rw [ByteArray.extract_mk, List.take_of_length_le (by rw [List.length_drop]; omega)]
set_option maxRecDepth 100000 in
theorem bstr_upto (l : List UInt8) (b : Nat) : (⟨l.toArray⟩ : ByteArray).extract 0 b = ⟨(l.take b).toArray⟩ := by
  rw [ByteArray.extract_mk, List.drop_zero, Nat.sub_zero]
set_option maxRecDepth 100000 in
theorem below2 (w : World) (o1 o2 : Obj) : Below w.heap.size w ((w.alloc o1).alloc o2) := below_al (below_al (Below.refl _ w) _) _
set_option maxRecDepth 100000 in
theorem tk_ok (l : List UInt8) (n : Nat) (h : n ≤ l.length) : tkV l 0 n = l.take n ∧ tkL l 0 n = l.drop n ∧ tkE l 0 n = 0 := by simp [tkV, tkL, tkE, h]
set_option maxRecDepth 100000 in
theorem tk_short (l : List UInt8) (n : Nat) (h : l.length < n) : tkV l 0 n = [] ∧ tkL l 0 n = l ∧ tkE l 0 n = 2 := by
  have h' : ¬ n ≤ l.length := by omega
  simp [tkV, tkL, tkE, h']
set_option maxRecDepth 100000 in
theorem tk_err (l : List UInt8) (e n : Nat) (h : e ≠ 0) : tkV l e n = [] ∧ tkL l e n = l ∧ tkE l e n = e := by simp [tkV, tkL, tkE, h]
end Go.Proofs.YtpoinhjkdgcnaaaDoor

/- Words for the document's own readers of layer 6: what is left and the error, as a struct by value. -/
namespace Go.Proofs.YtpoinhjkdgcnaaaDoor
open Go.RowKit
set_option linter.unusedVariables false

/-- The cells of what is left and the error. -/
def inC (l : List UInt8) (e : Nat) : List Value := [.string ⟨l.toArray⟩, .int .i64 (e : Int)]
def zerosI : List Value := [.string ⟨#[]⟩, .int .i64 0]
set_option maxRecDepth 100000 in
theorem inC_one (l : List UInt8) (e : Nat) : ∀ v ∈ inC l e, v.oneCell' = true := by
  intro v hv
  simp only [inC, List.mem_cons, List.not_mem_nil, or_false] at hv
  rcases hv with rfl | rfl <;> rfl
set_option maxRecDepth 100000 in
/-- A whole struct is stored into its block: one operation. -/
theorem wp_store_in {P : Program} {op : Oper} {a : Act} {w : World} {K : Act → World → Prop} {Q : Exit → Act → World → Prop} (ty : TypeId) (x y : Operand) (ho : op.op = .store ty x y)
    (g : Nat) (cs0 cells : List Value) (t : TypeId) (hx : a.eval x = .pointer (some ⟨g, 0, none⟩)) (hy : a.eval y = .agg cells.toArray) (hb : Blk w g cs0 t) (hl : cs0.length = cells.length)
    (hi : (P.info? ty).map (·.size) = some cells.length) (h1 : ∀ v ∈ cells, v.oneCell' = true)
    (h : ∀ w2, Blk w2 g cells t → Only g w w2 → K (a.put op.dst undef) w2) : op.wp P a w K Q := by
  refine wp_store_mid ty x y ho g 0 cells.toArray hx hy (hb.there 0 _ (by rw [List.size_toArray]; omega)) (by rw [List.size_toArray]; exact hi) (all_oneCell_toArray h1) ?_
  have hs := Blk.setCells cells w cs0 0 hb (by omega)
  rw [over_all _ _ hl] at hs
  exact h _ hs (Only.setCells _ _ _ _ (Only.refl g w))
set_option maxRecDepth 100000 in
/-- Results: a struct and a slot. -/
theorem results_in {P : Program} {fn : Func} {p u : Tmp} {ty : TypeId} (h : fn.results = #[.cell p ty, .tmp u]) (tmps : Array Value) (w : World) (g : Nat) (t : TypeId) (cs : Array Value) (fr : Nat × Nat) (d : TypeDesc) (x : Value)
    (hp : tmps.getD p undef = .pointer (some ⟨g, 0, none⟩)) (hx : tmps.getD u undef = x) (hg : w.heap[g]? = some (.cells cs t fr))
    (hu : P.underlying ty = some d) (hd : (match d with | .struct _ | .array _ _ => true | _ => false) = true) (hi : (P.info? ty).map (·.size) = some cs.size) :
    (results fn tmps).run P w = .ok (.tuple #[.agg cs, x]) w := by
  have hp' : tmps[p]?.getD undef = .pointer (some ⟨g, 0, none⟩) := by simpa using hp
  have hx' : tmps[u]?.getD undef = x := by simpa using hx
  simp [results, h, hp', hx', asAddr, run_loadVar_row w g t ty cs fr d hg hu hd hi]
set_option maxRecDepth 100000 in
/-- Results: a struct or an array alone. -/
theorem results_one {P : Program} {fn : Func} {p : Tmp} {ty : TypeId} (h : fn.results = #[.cell p ty]) (tmps : Array Value) (w : World) (g : Nat) (t : TypeId) (cs : Array Value) (fr : Nat × Nat) (d : TypeDesc)
    (hp : tmps.getD p undef = .pointer (some ⟨g, 0, none⟩)) (hg : w.heap[g]? = some (.cells cs t fr))
    (hu : P.underlying ty = some d) (hd : (match d with | .struct _ | .array _ _ => true | _ => false) = true) (hi : (P.info? ty).map (·.size) = some cs.size) :
    (results fn tmps).run P w = .ok (.agg cs) w := by
  have hp' : tmps[p]?.getD undef = .pointer (some ⟨g, 0, none⟩) := by simpa using hp
  simp [results, h, hp', asAddr, run_loadVar_row w g t ty cs fr d hg hu hd hi]
set_option maxRecDepth 100000 in
theorem below_dr {w W : World} (h : Below w.heap.size w W) : Below w.heap.size w W.drew := h.drew
set_option maxRecDepth 100000 in
theorem below_only {w W W' : World} {g : Nat} (h : Below w.heap.size w W) (ho : Only g W W') (hg : w.heap.size ≤ g) : Below w.heap.size w W' := h.trans (ho.below hg)
set_option maxRecDepth 100000 in
theorem Blk.dr {w : World} {g : Nat} {cs : List Value} {t : TypeId} (h : Blk w g cs t) : Blk w.drew g cs t := h
set_option maxRecDepth 100000 in
theorem Blk.up {w W : World} {g : Nat} {cs : List Value} {t : TypeId} (h : Blk w g cs t) (hb : Below w.heap.size w W) : Blk W g cs t := h.below hb h.lt
set_option maxRecDepth 100000 in
/-- A text converted to bytes, as one step: the bytes are there, and what was there still stands. -/
theorem conv_text (w : World) (l : List UInt8) (hs : l.length ≤ 1000000) : ∃ A c w', (convert 9 23 (.string ⟨l.toArray⟩)).run Tryd.prog w = .ok (.slice A l.length c) w' ∧ Rd w' A l.length l ∧ Below w.heap.size w w' := by
  obtain ⟨c, row, h1, h2⟩ := conv_str w ⟨l.toArray⟩ (by rw [bstr_size]; unfold maxLen; omega)
  rw [bstr_size] at h1 h2
  exact ⟨_, c, _, h1, h2.rd, below_al (below_dr (Below.refl _ w)) _⟩
set_option maxRecDepth 100000 in
theorem sl_upto2 (s : ByteArray) (N n : Nat) (z : Int) (hz : z = (n : Int)) (hs : s.size = N) (h : n ≤ N) (W : World) : (Instr.slice 9 (.string s) none (some (.int .i64 z)) none).run Tryd.prog W = .ok (.string (s.extract 0 n)) W := by
  subst hz
  rw [run_slice_string_h (h0 := by omega) (h2 := by omega)]
  · simp
  · exact Tryd.underlying9
set_option maxRecDepth 100000 in
theorem sl_upto (s : ByteArray) (N n : Nat) (z : Int) (hz : z = (n : Int)) (hs : s.size = N) (h : n ≤ N) (W : World) : (Instr.sliceAt 9 (.string s) none (some (.int .i64 z)) none).run Tryd.prog W = .ok (.string (s.extract 0 n)) W := by
  rw [run_sliceAt_string _ _ _ _ _ _ Tryd.underlying9]
  exact sl_upto2 s N n z hz hs h W
end Go.Proofs.YtpoinhjkdgcnaaaDoor

/- Structs, arrays and slices that are built part by part. -/
namespace Go.Proofs.YtpoinhjkdgcnaaaDoor
open Go.RowKit
set_option linter.unusedVariables false
set_option linter.unusedSimpArgs false

set_option maxRecDepth 100000 in
theorem fold_over : ∀ (V : List Value) (L : List Value) (o k : Nat), o + k + V.length ≤ L.length → (V.zipIdx k).foldl (fun (cs : Array Value) (x : Value × Nat) => cs.setIfInBounds (o + x.2) x.1) L.toArray = (over L (o + k) V).toArray
  | [], L, o, k, _ => by simp [over]
  | v :: V, L, o, k, h => by
    rw [List.zipIdx_cons, List.foldl_cons]
    simp only [List.length_cons] at h
    rw [List.setIfInBounds_toArray, fold_over V (L.set (o + k) v) o (k + 1) (by rw [List.length_set]; omega), show o + (k + 1) = o + k + 1 from rfl, set_over v V L (o + k) (by simp; omega)]
set_option maxRecDepth 100000 in
theorem fill_step (place : Nat → Option (Nat × Nat)) (L V : List Value) (i o : Nat) (v : Value) (rest : List (Nat × Value)) (hp : place i = some (o, V.length)) (hv : v.cells = V.toArray) (h : o + V.length ≤ L.length) :
    Instr.fill place L.toArray ((i, v) :: rest) = Instr.fill place (over L o V).toArray rest := by
  have hf := fold_over V L o 0 (by omega)
  rw [Instr.fill]
  simp only [hp, hv, List.size_toArray]
  rw [if_neg (by simp; omega)]
  congr 1
  rw [Nat.add_zero] at hf
  rw [← hf]
  simp
set_option maxRecDepth 100000 in
theorem over_one (L : List Value) (o : Nat) (v : Value) (h : o < L.length) : over L o [v] = L.set o v := by
  unfold over
  rw [List.set_eq_take_append_cons_drop, if_pos h]
  simp
set_option maxRecDepth 100000 in
/-- A struct or an array that is built: its parts' values, and what they make. -/
theorem wp_bld {P : Program} {o : Oper} {a : Act} {w : World} {K : Act → World → Prop} {Q : Exit → Act → World → Prop} (t : TypeId) (parts : Array (Nat × Operand)) (ho : o.op = .build t parts) (vals : Array (Nat × Value)) (x : Value)
    (hv : (parts.map fun (i, x) => (i, a.eval x)) = vals) (hr : ∀ W, (Instr.build t vals).run P W = .ok x W) (h : K (a.put o.dst x) w) : o.wp P a w K Q := by
  unfold Oper.wp execOp
  simp only [ho, hv, Sem.run_bind, hr w, Result.andThen_ok]
  exact h
set_option maxRecDepth 100000 in
theorem at_bld {P : Program} {ops : Array Oper} {rest : List Oper} {Q : Exit → Act → World → Prop} {a : Act} {w : World} {dst : Option Tmp} {t : TypeId} {p : String} {af : Array Edge} (ty : TypeId) {parts : Array (Nat × Operand)}
    (h : wpList P ops Q ({ dst := dst, op := .build ty parts, type := t, pos := p, after := af, guard := none } :: rest) a w) : wpList P ops Q ({ dst := dst, op := .build ty parts, type := t, pos := p, after := af, guard := none } :: rest) a w := h
set_option maxRecDepth 100000 in
theorem wpList_bld {P : Program} {ops : Array Oper} {rest : List Oper} {op : Oper} {a : Act} {w : World} {Q : Exit → Act → World → Prop} (hgd : op.guard = none) (t : TypeId) (parts : Array (Nat × Operand)) (ho : op.op = .build t parts) (vals : Array (Nat × Value)) (x : Value)
    (hv : (parts.map fun (i, x) => (i, a.eval x)) = vals) (hr : ∀ W, (Instr.build t vals).run P W = .ok x W) (h : wpList P ops Q rest (a.put op.dst x) w) : wpList P ops Q (op :: rest) a w :=
  wpList_plain hgd fun _ hK => wp_bld t parts ho vals x hv hr (hK _ _ h)
end Go.Proofs.YtpoinhjkdgcnaaaDoor

/- Words for headers: their cells and their bytes. -/
namespace Go.Proofs.YtpoinhjkdgcnaaaDoor
open Go.RowKit
set_option linter.unusedVariables false

/-- A header: its version, the hash ahead, its root, its time, its bits, its nonce. -/
structure Hd where
  v : Nat
  p : List UInt8
  r : List UInt8
  t : Nat
  b : Nat
  n : Nat
structure Hd.ok (h : Hd) : Prop where
  v : h.v < 4294967296
  p : h.p.length = 32
  r : h.r.length = 32
  t : h.t < 4294967296
  b : h.b < 4294967296
  n : h.n < 4294967296
def Hd.cells (h : Hd) : List Value := .int .u32 (h.v : Int) :: (h.p.map B8 ++ (h.r.map B8 ++ [.int .u32 (h.t : Int), .int .u32 (h.b : Int), .int .u32 (h.n : Int)]))
/-- The 80 bytes of a header. -/
def Hd.bytes (h : Hd) : List UInt8 := little h.v 4 ++ (h.p ++ (h.r ++ (little h.t 4 ++ (little h.b 4 ++ little h.n 4))))
set_option maxRecDepth 100000 in
theorem Hd.cells_len {h : Hd} (o : h.ok) : h.cells.length = 68 := by simp [Hd.cells, o.p, o.r]
set_option maxRecDepth 100000 in
theorem Hd.bytes_len {h : Hd} (o : h.ok) : h.bytes.length = 80 := by simp [Hd.bytes, o.p, o.r]
set_option maxRecDepth 100000 in
theorem Hd.one (h : Hd) : ∀ v ∈ h.cells, v.oneCell' = true := by
  intro v hv
  simp only [Hd.cells, List.mem_cons, List.mem_append, List.mem_map, List.not_mem_nil, or_false] at hv
  rcases hv with rfl | ⟨x, _, rfl⟩ | ⟨x, _, rfl⟩ | rfl | rfl | rfl <;> rfl
set_option maxRecDepth 100000 in
theorem Hd.c0 (h : Hd) : h.cells[0]? = some (.int .u32 (h.v : Int)) := rfl
set_option maxRecDepth 100000 in
theorem Hd.cp {h : Hd} (o : h.ok) (j : Nat) (hj : j < h.p.length) : h.cells[1 + j]? = some (.int .u8 (h.p[j].toNat : Int)) := by
  unfold Hd.cells
  rw [Nat.add_comm 1, List.getElem?_cons_succ, List.getElem?_append_left (by simpa using hj), List.getElem?_map, List.getElem?_eq_getElem hj]
  rfl
set_option maxRecDepth 100000 in
theorem Hd.cr {h : Hd} (o : h.ok) (j : Nat) (hj : j < h.r.length) : h.cells[33 + j]? = some (.int .u8 (h.r[j].toNat : Int)) := by
  unfold Hd.cells
  have hp := o.p
  rw [show 33 + j = (32 + j) + 1 from by omega, List.getElem?_cons_succ, List.getElem?_append_right (by simp; omega), List.length_map, hp, show 32 + j - 32 = j from by omega, List.getElem?_append_left (by simpa using hj), List.getElem?_map, List.getElem?_eq_getElem hj]
  rfl
set_option maxRecDepth 100000 in
theorem Hd.ct {h : Hd} (o : h.ok) : h.cells[65]? = some (.int .u32 (h.t : Int)) ∧ h.cells[66]? = some (.int .u32 (h.b : Int)) ∧ h.cells[67]? = some (.int .u32 (h.n : Int)) := by
  have hp := o.p
  have hr := o.r
  have key : ∀ j, h.cells[65 + j]? = [Value.int .u32 (h.t : Int), .int .u32 (h.b : Int), .int .u32 (h.n : Int)][j]? := fun j => by
    unfold Hd.cells
    rw [show 65 + j = (64 + j) + 1 from by omega, List.getElem?_cons_succ, List.getElem?_append_right (by simp; omega), List.length_map, hp, List.getElem?_append_right (by simp; omega), List.length_map, hr]
    congr 1
    omega
  exact ⟨key 0, key 1, key 2⟩
set_option maxRecDepth 100000 in
theorem little4_inj {a b : Nat} (ha : a < 4294967296) (hb : b < 4294967296) (h : little a 4 = little b 4) : a = b := by
  have := congrArg numL h
  rw [numL_little, numL_little] at this
  have e : (256 : Nat) ^ 4 = 4294967296 := by decide
  rw [e, Nat.mod_eq_of_lt ha, Nat.mod_eq_of_lt hb] at this
  exact this
set_option maxRecDepth 100000 in
/-- Two headers of the same bytes are one. -/
theorem Hd.bytes_inj {g h : Hd} (og : g.ok) (oh : h.ok) (e : g.bytes = h.bytes) : g = h := by
  obtain ⟨gv, gp, gr, gt, gb, gn⟩ := g
  obtain ⟨hv, hp, hr, ht, hb, hn⟩ := h
  unfold Hd.bytes at e
  simp only at e
  have e1 := List.append_inj e (by simp)
  have e2 := List.append_inj e1.2 (by rw [og.p, oh.p])
  have e3 := List.append_inj e2.2 (by rw [og.r, oh.r])
  have e4 := List.append_inj e3.2 (by simp)
  have e5 := List.append_inj e4.2 (by simp)
  have := little4_inj og.v oh.v e1.1
  have := little4_inj og.t oh.t e4.1
  have := little4_inj og.b oh.b e5.1
  have := little4_inj og.n oh.n e5.2
  have := e2.1
  have := e3.1
  simp_all
end Go.Proofs.YtpoinhjkdgcnaaaDoor
