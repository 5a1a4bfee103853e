/- Merged texts: ShaX. -/
import Derived.Test.YtnfcnjboeocnmaaDoorMah
import Derived.Test.YtnfcnjboeocnmaaDoorMac
import Derived.Test.YtnfcnjboeocnmaaDoorMaf
import Derived.Deep.RegionLaw
import Derived.StillTailTactics
/- Words and laws for writing into a Hasher. -/
namespace Go.Proofs.YtnfcnjboeocnmaaDoor
open Go.RowKit
set_option linter.unusedVariables false

/-- What stood there stands there still, but for block b. -/
structure Beside (b : Nat) (w w2 : World) : Prop where
  os : w2.os = w.os
  tape : w2.tape = w.tape
  output : w2.output = w.output
  size : w.heap.size ≤ w2.heap.size
  block : ∀ i, i < w.heap.size → i ≠ b → w2.heap[i]? = w.heap[i]?
set_option maxRecDepth 100000 in
theorem Beside.refl (b : Nat) (w : World) : Beside b w w := ⟨rfl, rfl, rfl, Nat.le_refl _, fun _ _ _ => rfl⟩
set_option maxRecDepth 100000 in
theorem Beside.trans {b : Nat} {a w w2 : World} (h : Beside b a w) (k : Beside b w w2) : Beside b a w2 :=
  ⟨k.os.trans h.os, k.tape.trans h.tape, k.output.trans h.output, Nat.le_trans h.size k.size, fun i hi hne => (k.block i (Nat.lt_of_lt_of_le hi h.size) hne).trans (h.block i hi hne)⟩
set_option maxRecDepth 100000 in
theorem Only.beside {b : Nat} {w w2 : World} (h : Only b w w2) : Beside b w w2 := ⟨h.os, h.tape, h.output, by rw [h.size]; exact Nat.le_refl _, fun i _ hne => h.block i hne⟩
set_option maxRecDepth 100000 in
theorem Beside.of_below {b : Nat} {w w2 : World} (h : Below w.heap.size w w2) : Beside b w w2 := ⟨h.os, h.tape, h.output, h.size, fun i hi _ => h.block i hi⟩
set_option maxRecDepth 100000 in
theorem Beside.below {b B : Nat} {w w2 : World} (h : Beside b w w2) (hB : B ≤ b) (hb : B ≤ w.heap.size) : Below B w w2 := ⟨h.os, h.tape, h.output, h.size, fun i hi => h.block i (by omega) (by omega)⟩
set_option maxRecDepth 100000 in
theorem Beside.drew {b : Nat} {w w2 : World} (h : Beside b w.drew w2) : Beside b w w2 := ⟨h.os, h.tape, h.output, h.size, h.block⟩
set_option maxRecDepth 100000 in
theorem Beside.range {b g o : Nat} {w w2 : World} {cs : List Value} (h : Beside b w w2) (hr : w.rangeAt g o cs) (hg : g < w.heap.size) (hne : g ≠ b) : w2.rangeAt g o cs := fun j v hv => by
  have := hr j v hv
  simpa [World.cell?, h.block g hg hne] using this
set_option maxRecDepth 100000 in
theorem Beside.tab {b : Nat} {w w2 : World} (h : Beside b w w2) (hT : Tab w) (h0 : 1 ≠ b) (h1 : 0 ≠ b) : Tab w2 :=
  ⟨h.range hT.1 hT.lt.1 h0, h.range hT.2 hT.lt.2 h1⟩
/-- A byte slice that is read, and does not lie in block b. -/
def RdX (w : World) (b : Nat) (A : Option Addr) (n : Nat) (l : List UInt8) : Prop :=
  l.length = n ∧ (0 < n → ∃ g off, A = some ⟨g, off, none⟩ ∧ g ≠ b ∧ g < w.heap.size ∧ ∀ j (h : j < l.length), w.cell? ⟨g, off + j, none⟩ = some (.int .u8 (l[j].toNat : Int)))
set_option maxRecDepth 100000 in
theorem Beside.rdx {b : Nat} {w w2 : World} {A : Option Addr} {n : Nat} {l : List UInt8} (h : Beside b w w2) (hr : RdX w b A n l) : RdX w2 b A n l :=
  ⟨hr.1, fun hn => by
    obtain ⟨g, off, e, hne, hlt, hc⟩ := hr.2 hn
    refine ⟨g, off, e, hne, Nat.lt_of_lt_of_le hlt h.size, fun j hj => ?_⟩
    have := hc j hj
    simpa [World.cell?, h.block g hlt hne] using this⟩
set_option maxRecDepth 100000 in
theorem RdX.of {w : World} {b : Nat} {A : Option Addr} {n : Nat} {l : List UInt8} (h : Rd w A n l) (hne : ∀ g off, A = some ⟨g, off, none⟩ → 0 < n → g ≠ b) : RdX w b A n l :=
  ⟨h.1, fun hn => by obtain ⟨g, off, e, hlt, hc⟩ := h.2 hn; exact ⟨g, off, e, hne g off e hn, hlt, hc⟩⟩

set_option maxRecDepth 100000 in
/-- The operations of a region that are left come in one order alone. -/
theorem wpAny_rest {P : Program} {md : Region.Mode} {ops : Array Oper} {Q : Exit → Act → World → Prop} (k : Nat) {fuel : Nat} {listed : Array Bool} {a : Act} {w : World} (hf : (ops.toList.drop k).length = fuel)
    (hB : Region.seqB md ops fuel k listed = true) (h : wpList P ops Q (ops.toList.drop k) a w) : wpAny P md ops Q fuel listed a w := by
  subst hf
  exact wpAny_of_seq _ k _ _ _ (fun j => by rw [List.getElem?_drop, Array.getElem?_toList]) hB h
set_option maxRecDepth 100000 in
/-- A whole array is read, among the operations of a region that only read. -/
theorem still_load {P : Program} {ops : Array Oper} {w : World} {Q : Act → Prop} {a : Act} {o : Oper} {rest : List Oper} (hgd : o.guard = none) (ty : TypeId) (x : Operand) (ho : o.op = .load ty x)
    (b off : Nat) (hx : a.eval x = .pointer (some ⟨b, off, none⟩)) (cs : List Value) (d : TypeDesc) (hc : w.rangeAt b off cs)
    (hu : P.underlying ty = some d) (hd : d.isRow = true) (hi : (P.info? ty).map (·.size) = some cs.length) (h : wpStill P ops w Q rest (a.put o.dst (.agg cs.toArray))) : wpStill P ops w Q (o :: rest) a := by
  refine wpStill_step fun K hK => ?_
  have hw : Region.wanted o (yielded ops a.tmps) = true := by simp [Region.wanted, hgd]
  rw [if_pos hw]
  unfold Oper.still execOp
  simp only [ho, hx, Instr.loadAt, Instr.sureAddr, Sem.run_bind, Sem.run_pure, Result.andThen_ok, run_loadVar_mid w b off ty cs d hc hu hd hi, Oper.stillUpon]
  exact ⟨trivial, hK _ h⟩
/-- A block with bytes written over from place q on. -/
def putB (B : List UInt8) (q : Nat) (X : List UInt8) : List UInt8 := B.take q ++ X ++ B.drop (q + X.length)
set_option maxRecDepth 100000 in
theorem putB_len (B : List UInt8) (q : Nat) (X : List UInt8) (hB : B.length = 64) (hq : q + X.length ≤ 64) : (putB B q X).length = 64 := by
  simp [putB, hB]; omega
set_option maxRecDepth 100000 in
theorem over_hcells (s : St) (B X : List UInt8) (p q : Nat) (hB : B.length = 64) (hq : q + X.length ≤ 64) : over (hcells s B p) (8 + q) (X.map B8) = hcells s (putB B q X) p := by
  unfold over hcells putB
  have e1 : (s.vals ++ B.map B8 ++ [Value.int .i64 (p : Int)]).take (8 + q) = s.vals ++ (B.take q).map B8 := by
    rw [List.take_append_of_le_length (by simp [vals_len]; omega), List.take_append, vals_len, List.take_of_length_le (by rw [vals_len]; omega), show 8 + q - 8 = q from by omega, List.map_take]
  have e2 : (s.vals ++ B.map B8 ++ [Value.int .i64 (p : Int)]).drop (8 + q + (X.map B8).length) = (B.drop (q + X.length)).map B8 ++ [Value.int .i64 (p : Int)] := by
    rw [List.length_map, List.drop_append_of_le_length (by simp [vals_len]; omega), List.drop_append, vals_len, List.drop_of_length_le (by rw [vals_len]; omega), show 8 + q + X.length - 8 = q + X.length from by omega, List.map_drop, List.nil_append]
  rw [e1, e2]
  simp [List.map_append]
set_option maxRecDepth 100000 in
theorem set_hcells (s : St) (B : List UInt8) (p n : Nat) (hB : B.length = 64) : (hcells s B p).set 72 (.int .i64 (n : Int)) = hcells s B n := by
  unfold hcells
  rw [List.set_append_right _ _ (by simp [vals_len, hB])]
  simp [vals_len, hB]
set_option maxRecDepth 100000 in
theorem over_state (s s' : St) (B : List UInt8) (n : Nat) : over (hcells s B n) 0 s'.vals = hcells s' B n := by
  unfold over hcells
  rw [List.append_assoc s.vals, List.take_zero, List.nil_append, Nat.zero_add, List.drop_append, vals_len, vals_len, List.drop_of_length_le (by rw [vals_len]; omega)]
  simp
set_option maxRecDepth 100000 in
theorem block_range {w : World} {b n : Nat} {s : St} {B : List UInt8} {t : TypeId} (h : Blk w b (hcells s B n) t) : w.rangeAt b 8 (B.map B8) := fun j v hv => by
  rw [h.cell]
  unfold hcells
  have hj : j < (B.map B8).length := (List.getElem?_eq_some_iff.1 hv).1
  rw [List.append_assoc, List.getElem?_append_right (by rw [vals_len]; omega), vals_len, show 8 + j - 8 = j from by omega, List.getElem?_append_left hj]
  exact hv
set_option maxRecDepth 100000 in
theorem state_range {w : World} {b n : Nat} {s : St} {B : List UInt8} {t : TypeId} (h : Blk w b (hcells s B n) t) : w.rangeAt b 0 s.vals := fun j v hv => by
  rw [h.cell, Nat.zero_add]
  unfold hcells
  have hj : j < s.vals.length := (List.getElem?_eq_some_iff.1 hv).1
  rw [List.append_assoc, List.getElem?_append_left hj]
  exact hv
set_option maxRecDepth 100000 in
theorem step_part (P X B : List UInt8) (hB : B.length = 64) (hd : B.take (P.length % 64) = P.drop (64 * (P.length / 64))) (hX : P.length % 64 + X.length < 64) :
    (P ++ X).length / 64 = P.length / 64 ∧ (putB B (P.length % 64) X).take ((P ++ X).length % 64) = (P ++ X).drop (64 * ((P ++ X).length / 64)) ∧ chain h0 (P ++ X) ((P ++ X).length / 64) = chain h0 P (P.length / 64) := by
  have e1 : (P ++ X).length / 64 = P.length / 64 := by rw [List.length_append]; omega
  have e2 : (P ++ X).length % 64 = P.length % 64 + X.length := by rw [List.length_append]; omega
  refine ⟨e1, ?_, ?_⟩
  · rw [e1, e2, List.drop_append_of_le_length (by omega), ← hd]
    unfold putB
    rw [List.take_append_of_le_length (by simp [hB]; omega)]
    exact List.take_of_length_le (by simp [hB]; omega)
  · rw [e1, chain_append _ _ _ _ (by omega)]
set_option maxRecDepth 100000 in
theorem step_full (P X B : List UInt8) (hB : B.length = 64) (hd : B.take (P.length % 64) = P.drop (64 * (P.length / 64))) (hX : P.length % 64 + X.length = 64) :
    (P ++ X).length % 64 = 0 ∧ (P ++ X).length / 64 = P.length / 64 + 1 ∧ (P ++ X).drop (64 * (P.length / 64 + 1)) = [] ∧ chain h0 (P ++ X) (P.length / 64 + 1) = comp (chain h0 P (P.length / 64)) (putB B (P.length % 64) X) := by
  refine ⟨by rw [List.length_append]; omega, by rw [List.length_append]; omega, List.drop_of_length_le (by rw [List.length_append]; omega), ?_⟩
  rw [chain, chain_append _ _ _ _ (by omega), List.drop_append_of_le_length (by omega), ← hd]
  congr 1
  unfold putB
  rw [List.take_of_length_le (by simp [hB]; omega), hX, ← hB, List.drop_length, List.append_nil]
set_option maxRecDepth 100000 in
theorem hcells_one (s : St) (B : List UInt8) (n : Nat) : ∀ v ∈ hcells s B n, v.oneCell' = true := fun v hv => by
  unfold hcells at hv
  simp only [List.mem_append, List.mem_singleton] at hv
  rcases hv with (hv | hv) | rfl
  · exact vals_one s v hv
  · exact b8_one B v hv
  · rfl
set_option maxRecDepth 100000 in
theorem run_stc2 {P : Program} {w : World} {g : Nat} {cs : List Value} {t : TypeId} (h : Blk w g cs t) (vs : List Value) (hl : vs.length ≤ cs.length) (h1 : ∀ v ∈ vs, v.oneCell' = true) :
    (storeCells ⟨g, 0, none⟩ vs).run P w = .ok () (w.setCells g 0 vs) := by
  have := run_storeCells_cells (P := P) g 0 vs 0 w (fun j hj => by have := (h.there 0 vs.length (by omega) j hj).1; simpa using this) (fun j hj => by have := (h.there 0 vs.length (by omega) j hj).2; simpa using this) h1
  simpa using this
set_option maxRecDepth 100000 in
theorem run_rs {P : Program} (t e : TypeId) (hu : P.underlying t = some (.slice e)) (hs : (P.info? e).map (·.size) = some 1) (g off r c k : Nat) (hk : k ≤ r) (w : World) :
    (Instr.sliceAt t (.slice (some ⟨g, off, none⟩) r c) (some (.int .i64 (k : Int))) none none).run P w = .ok (.slice (some (if c = k then ⟨g, off, none⟩ else ⟨g, off + k, none⟩)) (r - k) (c - k)) w := by
  obtain ⟨i, hi, hsz⟩ := Option.map_eq_some_iff.1 hs
  have e2 : ∀ c, (Instr.sliceBound (.int .i64 (k : Int)) r c).run P w = .ok k w := by intro c; rw [run_sliceBound (h0 := by omega) (h1 := by omega)]; simp
  simp [Instr.sliceAt, Instr.slice, run_underlying hu, Instr.sliceBounds, e2, sizeOf, typeInfo, hi, hsz, Addr.add_mid]
  split <;> rfl
end Go.Proofs.YtnfcnjboeocnmaaDoor
