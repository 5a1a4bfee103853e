/- Words for the document's own readers of layer 6: what is left and the error, as a struct by value. -/
import Derived.Test.YthkkllcpogagiaaCodV
import Derived.Test.YthkkllcpogagiaaOwnB
import Derived.Test.YthkkllcpogagiaaValue
import Derived.Deep.RegionHeld3
import Derived.Deep.CutRange
import Derived.Deep.DeepCutAuto
namespace Go.Proofs.Ythkkllcpogagiaa
open Go.RowKit
set_option linter.unusedVariables false

/-- The cells of what is left and the error. -/
def inC (l : List UInt8) (e : Nat) : List Value := [.string ⟨l.toArray⟩, .int .i64 (e : Int)]
def zerosI : List Value := [.string ⟨#[]⟩, .int .i64 0]
set_option maxRecDepth 100000 in
theorem inC_size (l : List UInt8) (e : Nat) : (Try.prog.info? 62).map (·.size) = some (inC l e).length := by
  have : (Try.prog.info? 62).map (·.size) = some 2 := by kernel_rfl
  exact this
set_option maxRecDepth 100000 in
theorem inC_one (l : List UInt8) (e : Nat) : ∀ v ∈ inC l e, v.oneCell' = true := by
  intro v hv
  simp only [inC, List.mem_cons, List.not_mem_nil, or_false] at hv
  rcases hv with rfl | rfl <;> rfl
set_option maxRecDepth 100000 in
/-- A whole struct is stored into its block: one operation. -/
theorem wp_store_in {P : Program} {op : Oper} {a : Act} {w : World} {K : Act → World → Prop} {Q : Exit → Act → World → Prop} (ty : TypeId) (x y : Operand) (ho : op.op = .store ty x y)
    (g : Nat) (cs0 cells : List Value) (t : TypeId) (hx : a.eval x = .pointer (some ⟨g, 0, none⟩)) (hy : a.eval y = .agg cells.toArray) (hb : Blk w g cs0 t) (hl : cs0.length = cells.length)
    (hi : (P.info? ty).map (·.size) = some cells.length) (h1 : ∀ v ∈ cells, v.oneCell' = true)
    (h : ∀ w2, Blk w2 g cells t → Only g w w2 → K (a.put op.dst undef) w2) : op.wp P a w K Q := by
  refine wp_store_mid ty x y ho g 0 cells.toArray hx hy (hb.there 0 _ (by rw [List.size_toArray]; omega)) (by rw [List.size_toArray]; exact hi) (all_oneCell_toArray h1) ?_
  have hs := Blk.setCells cells w cs0 0 hb (by omega)
  rw [over_all _ _ hl] at hs
  exact h _ hs (Only.setCells _ _ _ _ (Only.refl g w))
set_option maxRecDepth 100000 in
/-- Results: a struct and a slot. -/
theorem results_in {P : Program} {fn : Func} {p u : Tmp} {ty : TypeId} (h : fn.results = #[.cell p ty, .tmp u]) (tmps : Array Value) (w : World) (g : Nat) (t : TypeId) (cs : Array Value) (fr : Nat × Nat) (d : TypeDesc) (x : Value)
    (hp : tmps.getD p undef = .pointer (some ⟨g, 0, none⟩)) (hx : tmps.getD u undef = x) (hg : w.heap[g]? = some (.cells cs t fr))
    (hu : P.underlying ty = some d) (hd : (match d with | .struct _ | .array _ _ => true | _ => false) = true) (hi : (P.info? ty).map (·.size) = some cs.size) :
    (results fn tmps).run P w = .ok (.tuple #[.agg cs, x]) w := by
  have hp' : tmps[p]?.getD undef = .pointer (some ⟨g, 0, none⟩) := by simpa using hp
  have hx' : tmps[u]?.getD undef = x := by simpa using hx
  simp [results, h, hp', hx', asAddr, run_loadVar_row w g t ty cs fr d hg hu hd hi]
set_option maxRecDepth 100000 in
/-- Results: a struct or an array alone. -/
theorem results_one {P : Program} {fn : Func} {p : Tmp} {ty : TypeId} (h : fn.results = #[.cell p ty]) (tmps : Array Value) (w : World) (g : Nat) (t : TypeId) (cs : Array Value) (fr : Nat × Nat) (d : TypeDesc)
    (hp : tmps.getD p undef = .pointer (some ⟨g, 0, none⟩)) (hg : w.heap[g]? = some (.cells cs t fr))
    (hu : P.underlying ty = some d) (hd : (match d with | .struct _ | .array _ _ => true | _ => false) = true) (hi : (P.info? ty).map (·.size) = some cs.size) :
    (results fn tmps).run P w = .ok (.agg cs) w := by
  have hp' : tmps[p]?.getD undef = .pointer (some ⟨g, 0, none⟩) := by simpa using hp
  simp [results, h, hp', asAddr, run_loadVar_row w g t ty cs fr d hg hu hd hi]
set_option maxRecDepth 100000 in
theorem below_dr {w W : World} (h : Below w.heap.size w W) : Below w.heap.size w W.drew := h.drew
set_option maxRecDepth 100000 in
theorem below_only {w W W' : World} {g : Nat} (h : Below w.heap.size w W) (ho : Only g W W') (hg : w.heap.size ≤ g) : Below w.heap.size w W' := h.trans (ho.below hg)
set_option maxRecDepth 100000 in
theorem Blk.dr {w : World} {g : Nat} {cs : List Value} {t : TypeId} (h : Blk w g cs t) : Blk w.drew g cs t := h
set_option maxRecDepth 100000 in
theorem Blk.up {w W : World} {g : Nat} {cs : List Value} {t : TypeId} (h : Blk w g cs t) (hb : Below w.heap.size w W) : Blk W g cs t := h.below hb h.lt
set_option maxRecDepth 100000 in
/-- A text converted to bytes, as one step: the bytes are there, and what was there still stands. -/
theorem conv_text (w : World) (l : List UInt8) (hs : l.length ≤ 1000000) : ∃ A c w', (convert 9 22 (.string ⟨l.toArray⟩)).run Try.prog w = .ok (.slice A l.length c) w' ∧ Rd w' A l.length l ∧ Below w.heap.size w w' := by
  obtain ⟨c, row, h1, h2⟩ := conv_str w ⟨l.toArray⟩ (by rw [bstr_size]; unfold maxLen; omega)
  rw [bstr_size] at h1 h2
  exact ⟨_, c, _, h1, h2.rd, below_al (below_dr (Below.refl _ w)) _⟩
set_option maxRecDepth 100000 in
theorem dtake_in (l : List UInt8) (e : Nat) (k : Int) (n : Nat) (hk : k.toNat = n) (w : World) :
    Calls Try.prog 39 #[.agg (inC l e).toArray, .int .i64 k] w (Ret w (.tuple #[.agg (inC (tkL l e n) (tkE l e n)).toArray, .string ⟨(tkV l e n).toArray⟩])) := dtake_calls l e k n hk w
set_option maxRecDepth 100000 in
theorem sl_upto2 (s : ByteArray) (N n : Nat) (z : Int) (hz : z = (n : Int)) (hs : s.size = N) (h : n ≤ N) (W : World) : (Instr.slice 9 (.string s) none (some (.int .i64 z)) none).run Try.prog W = .ok (.string (s.extract 0 n)) W := by
  subst hz
  rw [run_slice_string_h (h0 := by omega) (h2 := by omega)]
  · simp
  · exact Try.underlying9
set_option maxRecDepth 100000 in
theorem sl_upto (s : ByteArray) (N n : Nat) (z : Int) (hz : z = (n : Int)) (hs : s.size = N) (h : n ≤ N) (W : World) : (Instr.sliceAt 9 (.string s) none (some (.int .i64 z)) none).run Try.prog W = .ok (.string (s.extract 0 n)) W := by
  rw [run_sliceAt_string _ _ _ _ _ _ Try.underlying9]
  exact sl_upto2 s N n z hz hs h W
end Go.Proofs.Ythkkllcpogagiaa
