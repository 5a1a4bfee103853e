/- Merged texts: ShaX ShaW. -/
import Derived.Test.YthkkllcpogagiaaDoorMae
import Derived.Test.YthkkllcpogagiaaDoorMab
import Derived.Test.YthkkllcpogagiaaDoorMad
import Derived.Deep.RegionLaw
import Derived.StillTailTactics
import Derived.Deep.DrawnRows
/- Words and laws for writing into a Hasher. -/
namespace Go.Proofs.YthkkllcpogagiaaDoor
open Go.RowKit
set_option linter.unusedVariables false

/-- What stood there stands there still, but for block b. -/
structure Beside (b : Nat) (w w2 : World) : Prop where
  os : w2.os = w.os
  tape : w2.tape = w.tape
  output : w2.output = w.output
  size : w.heap.size ≤ w2.heap.size
  block : ∀ i, i < w.heap.size → i ≠ b → w2.heap[i]? = w.heap[i]?
set_option maxRecDepth 100000 in
theorem Beside.refl (b : Nat) (w : World) : Beside b w w := ⟨rfl, rfl, rfl, Nat.le_refl _, fun _ _ _ => rfl⟩
set_option maxRecDepth 100000 in
theorem Beside.trans {b : Nat} {a w w2 : World} (h : Beside b a w) (k : Beside b w w2) : Beside b a w2 :=
  ⟨k.os.trans h.os, k.tape.trans h.tape, k.output.trans h.output, Nat.le_trans h.size k.size, fun i hi hne => (k.block i (Nat.lt_of_lt_of_le hi h.size) hne).trans (h.block i hi hne)⟩
set_option maxRecDepth 100000 in
theorem Only.beside {b : Nat} {w w2 : World} (h : Only b w w2) : Beside b w w2 := ⟨h.os, h.tape, h.output, by rw [h.size]; exact Nat.le_refl _, fun i _ hne => h.block i hne⟩
set_option maxRecDepth 100000 in
theorem Beside.of_below {b : Nat} {w w2 : World} (h : Below w.heap.size w w2) : Beside b w w2 := ⟨h.os, h.tape, h.output, h.size, fun i hi _ => h.block i hi⟩
set_option maxRecDepth 100000 in
theorem Beside.below {b B : Nat} {w w2 : World} (h : Beside b w w2) (hB : B ≤ b) (hb : B ≤ w.heap.size) : Below B w w2 := ⟨h.os, h.tape, h.output, h.size, fun i hi => h.block i (by omega) (by omega)⟩
set_option maxRecDepth 100000 in
theorem Beside.drew {b : Nat} {w w2 : World} (h : Beside b w.drew w2) : Beside b w w2 := ⟨h.os, h.tape, h.output, h.size, h.block⟩
set_option maxRecDepth 100000 in
theorem Beside.range {b g o : Nat} {w w2 : World} {cs : List Value} (h : Beside b w w2) (hr : w.rangeAt g o cs) (hg : g < w.heap.size) (hne : g ≠ b) : w2.rangeAt g o cs := fun j v hv => by
  have := hr j v hv
  simpa [World.cell?, h.block g hg hne] using this
set_option maxRecDepth 100000 in
theorem Beside.tab {b : Nat} {w w2 : World} (h : Beside b w w2) (hT : Tab w) (h0 : 1 ≠ b) (h1 : 0 ≠ b) : Tab w2 :=
  ⟨h.range hT.1 hT.lt.1 h0, h.range hT.2 hT.lt.2 h1⟩
/-- A byte slice that is read, and does not lie in block b. -/
def RdX (w : World) (b : Nat) (A : Option Addr) (n : Nat) (l : List UInt8) : Prop :=
  l.length = n ∧ (0 < n → ∃ g off, A = some ⟨g, off, none⟩ ∧ g ≠ b ∧ g < w.heap.size ∧ ∀ j (h : j < l.length), w.cell? ⟨g, off + j, none⟩ = some (.int .u8 (l[j].toNat : Int)))
set_option maxRecDepth 100000 in
theorem Beside.rdx {b : Nat} {w w2 : World} {A : Option Addr} {n : Nat} {l : List UInt8} (h : Beside b w w2) (hr : RdX w b A n l) : RdX w2 b A n l :=
  ⟨hr.1, fun hn => by
    obtain ⟨g, off, e, hne, hlt, hc⟩ := hr.2 hn
    refine ⟨g, off, e, hne, Nat.lt_of_lt_of_le hlt h.size, fun j hj => ?_⟩
    have := hc j hj
    simpa [World.cell?, h.block g hlt hne] using this⟩
set_option maxRecDepth 100000 in
theorem RdX.of {w : World} {b : Nat} {A : Option Addr} {n : Nat} {l : List UInt8} (h : Rd w A n l) (hne : ∀ g off, A = some ⟨g, off, none⟩ → 0 < n → g ≠ b) : RdX w b A n l :=
  ⟨h.1, fun hn => by obtain ⟨g, off, e, hlt, hc⟩ := h.2 hn; exact ⟨g, off, e, hne g off e hn, hlt, hc⟩⟩

set_option maxRecDepth 100000 in
/-- The operations of a region that are left come in one order alone. -/
theorem wpAny_rest {P : Program} {md : Region.Mode} {ops : Array Oper} {Q : Exit → Act → World → Prop} (k : Nat) {fuel : Nat} {listed : Array Bool} {a : Act} {w : World} (hf : (ops.toList.drop k).length = fuel)
    (hB : Region.seqB md ops fuel k listed = true) (h : wpList P ops Q (ops.toList.drop k) a w) : wpAny P md ops Q fuel listed a w := by
  subst hf
  exact wpAny_of_seq _ k _ _ _ (fun j => by rw [List.getElem?_drop, Array.getElem?_toList]) hB h
set_option maxRecDepth 100000 in
/-- A whole array is read, among the operations of a region that only read. -/
theorem still_load {P : Program} {ops : Array Oper} {w : World} {Q : Act → Prop} {a : Act} {o : Oper} {rest : List Oper} (hgd : o.guard = none) (ty : TypeId) (x : Operand) (ho : o.op = .load ty x)
    (b off : Nat) (hx : a.eval x = .pointer (some ⟨b, off, none⟩)) (cs : List Value) (d : TypeDesc) (hc : w.rangeAt b off cs)
    (hu : P.underlying ty = some d) (hd : d.isRow = true) (hi : (P.info? ty).map (·.size) = some cs.length) (h : wpStill P ops w Q rest (a.put o.dst (.agg cs.toArray))) : wpStill P ops w Q (o :: rest) a := by
  refine wpStill_step fun K hK => ?_
  have hw : Region.wanted o (yielded ops a.tmps) = true := by simp [Region.wanted, hgd]
  rw [if_pos hw]
  unfold Oper.still execOp
  simp only [ho, hx, Instr.loadAt, Instr.sureAddr, Sem.run_bind, Sem.run_pure, Result.andThen_ok, run_loadVar_mid w b off ty cs d hc hu hd hi, Oper.stillUpon]
  exact ⟨trivial, hK _ h⟩
/-- A block with bytes written over from place q on. -/
def putB (B : List UInt8) (q : Nat) (X : List UInt8) : List UInt8 := B.take q ++ X ++ B.drop (q + X.length)
set_option maxRecDepth 100000 in
theorem putB_len (B : List UInt8) (q : Nat) (X : List UInt8) (hB : B.length = 64) (hq : q + X.length ≤ 64) : (putB B q X).length = 64 := by
  simp [putB, hB]; omega
set_option maxRecDepth 100000 in
theorem over_hcells (s : St) (B X : List UInt8) (p q : Nat) (hB : B.length = 64) (hq : q + X.length ≤ 64) : over (hcells s B p) (8 + q) (X.map B8) = hcells s (putB B q X) p := by
  unfold over hcells putB
  have e1 : (s.vals ++ B.map B8 ++ [Value.int .i64 (p : Int)]).take (8 + q) = s.vals ++ (B.take q).map B8 := by
    rw [List.take_append_of_le_length (by simp [vals_len]; omega), List.take_append, vals_len, List.take_of_length_le (by rw [vals_len]; omega), show 8 + q - 8 = q from by omega, List.map_take]
  have e2 : (s.vals ++ B.map B8 ++ [Value.int .i64 (p : Int)]).drop (8 + q + (X.map B8).length) = (B.drop (q + X.length)).map B8 ++ [Value.int .i64 (p : Int)] := by
    rw [List.length_map, List.drop_append_of_le_length (by simp [vals_len]; omega), List.drop_append, vals_len, List.drop_of_length_le (by rw [vals_len]; omega), show 8 + q + X.length - 8 = q + X.length from by omega, List.map_drop, List.nil_append]
  rw [e1, e2]
  simp [List.map_append]
set_option maxRecDepth 100000 in
theorem set_hcells (s : St) (B : List UInt8) (p n : Nat) (hB : B.length = 64) : (hcells s B p).set 72 (.int .i64 (n : Int)) = hcells s B n := by
  unfold hcells
  rw [List.set_append_right _ _ (by simp [vals_len, hB])]
  simp [vals_len, hB]
set_option maxRecDepth 100000 in
theorem over_state (s s' : St) (B : List UInt8) (n : Nat) : over (hcells s B n) 0 s'.vals = hcells s' B n := by
  unfold over hcells
  rw [List.append_assoc s.vals, List.take_zero, List.nil_append, Nat.zero_add, List.drop_append, vals_len, vals_len, List.drop_of_length_le (by rw [vals_len]; omega)]
  simp
set_option maxRecDepth 100000 in
theorem block_range {w : World} {b n : Nat} {s : St} {B : List UInt8} {t : TypeId} (h : Blk w b (hcells s B n) t) : w.rangeAt b 8 (B.map B8) := fun j v hv => by
  rw [h.cell]
  unfold hcells
  have hj : j < (B.map B8).length := (List.getElem?_eq_some_iff.1 hv).1
  rw [List.append_assoc, List.getElem?_append_right (by rw [vals_len]; omega), vals_len, show 8 + j - 8 = j from by omega, List.getElem?_append_left hj]
  exact hv
set_option maxRecDepth 100000 in
theorem state_range {w : World} {b n : Nat} {s : St} {B : List UInt8} {t : TypeId} (h : Blk w b (hcells s B n) t) : w.rangeAt b 0 s.vals := fun j v hv => by
  rw [h.cell, Nat.zero_add]
  unfold hcells
  have hj : j < s.vals.length := (List.getElem?_eq_some_iff.1 hv).1
  rw [List.append_assoc, List.getElem?_append_left hj]
  exact hv
set_option maxRecDepth 100000 in
theorem step_part (P X B : List UInt8) (hB : B.length = 64) (hd : B.take (P.length % 64) = P.drop (64 * (P.length / 64))) (hX : P.length % 64 + X.length < 64) :
    (P ++ X).length / 64 = P.length / 64 ∧ (putB B (P.length % 64) X).take ((P ++ X).length % 64) = (P ++ X).drop (64 * ((P ++ X).length / 64)) ∧ chain h0 (P ++ X) ((P ++ X).length / 64) = chain h0 P (P.length / 64) := by
  have e1 : (P ++ X).length / 64 = P.length / 64 := by rw [List.length_append]; omega
  have e2 : (P ++ X).length % 64 = P.length % 64 + X.length := by rw [List.length_append]; omega
  refine ⟨e1, ?_, ?_⟩
  · rw [e1, e2, List.drop_append_of_le_length (by omega), ← hd]
    unfold putB
    rw [List.take_append_of_le_length (by simp [hB]; omega)]
    exact List.take_of_length_le (by simp [hB]; omega)
  · rw [e1, chain_append _ _ _ _ (by omega)]
set_option maxRecDepth 100000 in
theorem step_full (P X B : List UInt8) (hB : B.length = 64) (hd : B.take (P.length % 64) = P.drop (64 * (P.length / 64))) (hX : P.length % 64 + X.length = 64) :
    (P ++ X).length % 64 = 0 ∧ (P ++ X).length / 64 = P.length / 64 + 1 ∧ (P ++ X).drop (64 * (P.length / 64 + 1)) = [] ∧ chain h0 (P ++ X) (P.length / 64 + 1) = comp (chain h0 P (P.length / 64)) (putB B (P.length % 64) X) := by
  refine ⟨by rw [List.length_append]; omega, by rw [List.length_append]; omega, List.drop_of_length_le (by rw [List.length_append]; omega), ?_⟩
  rw [chain, chain_append _ _ _ _ (by omega), List.drop_append_of_le_length (by omega), ← hd]
  congr 1
  unfold putB
  rw [List.take_of_length_le (by simp [hB]; omega), hX, ← hB, List.drop_length, List.append_nil]
set_option maxRecDepth 100000 in
theorem hcells_one (s : St) (B : List UInt8) (n : Nat) : ∀ v ∈ hcells s B n, v.oneCell' = true := fun v hv => by
  unfold hcells at hv
  simp only [List.mem_append, List.mem_singleton] at hv
  rcases hv with (hv | hv) | rfl
  · exact vals_one s v hv
  · exact b8_one B v hv
  · rfl
set_option maxRecDepth 100000 in
theorem run_stc2 {P : Program} {w : World} {g : Nat} {cs : List Value} {t : TypeId} (h : Blk w g cs t) (vs : List Value) (hl : vs.length ≤ cs.length) (h1 : ∀ v ∈ vs, v.oneCell' = true) :
    (storeCells ⟨g, 0, none⟩ vs).run P w = .ok () (w.setCells g 0 vs) := by
  have := run_storeCells_cells (P := P) g 0 vs 0 w (fun j hj => by have := (h.there 0 vs.length (by omega) j hj).1; simpa using this) (fun j hj => by have := (h.there 0 vs.length (by omega) j hj).2; simpa using this) h1
  simpa using this
set_option maxRecDepth 100000 in
theorem run_rs {P : Program} (t e : TypeId) (hu : P.underlying t = some (.slice e)) (hs : (P.info? e).map (·.size) = some 1) (g off r c k : Nat) (hk : k ≤ r) (w : World) :
    (Instr.sliceAt t (.slice (some ⟨g, off, none⟩) r c) (some (.int .i64 (k : Int))) none none).run P w = .ok (.slice (some (if c = k then ⟨g, off, none⟩ else ⟨g, off + k, none⟩)) (r - k) (c - k)) w := by
  obtain ⟨i, hi, hsz⟩ := Option.map_eq_some_iff.1 hs
  have e2 : ∀ c, (Instr.sliceBound (.int .i64 (k : Int)) r c).run P w = .ok k w := by intro c; rw [run_sliceBound (h0 := by omega) (h1 := by omega)]; simp
  simp [Instr.sliceAt, Instr.slice, run_underlying hu, Instr.sliceBounds, e2, sizeOf, typeInfo, hi, hsz, Addr.add_mid]
  split <;> rfl
end Go.Proofs.YthkkllcpogagiaaDoor

/- The contract of Hasher.Write: the bytes are written behind those that were. -/
namespace Go.Proofs.YthkkllcpogagiaaDoor
open Go.RowKit
set_option linter.unusedVariables false

set_option maxRecDepth 100000 in
set_option maxHeartbeats 1000000 in
theorem write_calls (BLK : ∀ (s : St) (B : List UInt8) (w : World), s.ok → B.length = 64 → Tab w → Calls Tryd.prog 49 #[.agg s.arr, .agg (B.map B8).toArray] w (Ret w (.agg (comp s B).arr)))
    (w : World) (b : Nat) (l m : List UInt8) (A : Option Addr) (n c : Nat) (hH : Hs w b l) (hR : RdX w b A n m) (hT : Tab w) (hg0 : 1 ≠ b) (hg1 : 0 ≠ b) (hsz : l.length + n ≤ 1000000000000) (hnc : n ≤ c) :
    Calls Tryd.prog 45 #[.pointer (some ⟨b, 0, none⟩), .slice A n c] w fun e w' => e = .returned (.tuple #[]) ∧ Hs w' b (l ++ m) ∧ Beside b w w' := by
  have hB0 := Lib.hid BLK
  clear BLK
  have hl0 := Lib.hid hR.1
  go_enter Tryd.func45, Tryd.ntmps45
  go_wp2
  go_loopw [1] (fun v wr => ∃ (t : Nat) (A' : Option Addr) (c' : Nat), t ≤ n ∧ v = .slice A' (n - t) c' ∧ n - t ≤ c' ∧ Hs wr b (l ++ m.take t) ∧ RdX wr b A' (n - t) (m.drop t) ∧ Beside b w wr ∧ Tab wr) (fun v _ => match v with | .slice _ k _ => k | _ => 0)
  case atStart => exact ⟨0, A, c, Nat.zero_le _, rfl, hnc, by simpa using hH, by simpa using hR, Beside.refl _ _, hT⟩
  case round =>
    obtain ⟨t, A', c', ht, rfl, hc', hHs, hRd, hbes, hTab⟩ := hrel
    by_cases hlt : t < n
    · obtain ⟨g, off, rfl, hne, hg, hcs⟩ := hRd.2 (by omega)
      obtain ⟨B, hB, hd, hb⟩ := hHs
      obtain ⟨p, hp⟩ : ∃ p, p = (l ++ m.take t).length := ⟨_, rfl⟩
      obtain ⟨q, hq⟩ : ∃ q, q = p % 64 := ⟨_, rfl⟩
      obtain ⟨r, hr⟩ : ∃ r, r = n - t := ⟨_, rfl⟩
      have ct := hb.cell 72
      rw [hcells_total _ _ _ hB, ← hp] at ct
      have hsl := fun W => run_sl_l (P := Tryd.prog) 94 5 64 Tryd.underlying94 size8 b 8 q (q : Int) rfl (by omega) W
      have htm : (p : Int).tmod 64 = (q : Int) := by rw [Int.tmod_eq_emod_of_nonneg (by omega)]; omega
      rw [← hr]
      have hr0 : (0 : Int) < (r : Int) := by omega
      have X := Lib.hid (And.intro hp (And.intro hq (And.intro hr (And.intro hd (And.intro hb hRd)))))
      clear hp hq hr hd hb hRd
      obtain ⟨k, hk⟩ : ∃ k, k = Nat.min r (64 - q) := ⟨_, rfl⟩
      have hk1 : 0 < k ∧ k ≤ r ∧ q + k ≤ 64 := by rw [hk]; have := X.out.2.1; simp only [Nat.min_def]; split <;> omega
      obtain ⟨Z, hZ⟩ : ∃ Z, Z = (m.drop t).take k := ⟨_, rfl⟩
      have hZl : Z.length = k := by rw [hZ, List.length_take, List.length_drop, hl0.out]; have := X.out.2.2.1; omega
      have hcsl : (Z.map B8).length = Nat.min r (64 - q) := by rw [List.length_map, hZl, hk]
      have hsrc : ∀ j v, (Z.map B8)[j]? = some v → wr.drew.cell? ((⟨g, off, none⟩ : Addr).add j) = some v := by
        intro j v hv
        rw [Addr.add_mid]
        have hj : j < Z.length := by have := (List.getElem?_eq_some_iff.1 hv).1; simpa using this
        have hj2 : j < (m.drop t).length := by rw [hZ, List.length_take] at hj; omega
        have e : (Z.map B8)[j]? = some (.int .u8 ((m.drop t)[j].toNat : Int)) := by
          rw [List.getElem?_map, hZ, List.getElem?_take, if_pos (by omega), List.getElem?_eq_getElem hj2]
          rfl
        rw [e] at hv
        cases hv
        exact hcs j hj2
      have Y := Lib.hid (And.intro hk (And.intro hk1 (And.intro hZ hZl)))
      have Y1 := Lib.hid hcsl
      have Y2 := Lib.hid hsrc
      have Y3 : Hid (Blk wr.drew b (hcells (chain h0 (l ++ m.take t) (p / 64)) B p) 96) := Lib.hid (by have := X.out.2.2.2.2.1; rw [← X.out.1] at this; exact this)
      have Y4 : Hid (8 + q + (Z.map B8).length ≤ (hcells (chain h0 (l ++ m.take t) (p / 64)) B p).length) := Lib.hid (by rw [hcells_len _ _ _ hB, List.length_map, hZl]; omega)
      have hplen := X.out.1
      have hpb : p + k ≤ 1000000000000 := by rw [hplen, List.length_append, List.length_take]; have := hl0.out; have := X.out.2.2.1; omega
      obtain ⟨A2, hA2⟩ : ∃ A2 : Addr, A2 = (if c' = k then ⟨g, off, none⟩ else ⟨g, off + k, none⟩) := ⟨_, rfl⟩
      have hs2 := fun W => run_rs (P := Tryd.prog) 28 5 Tryd.underlying28 size8 g off r c' k hk1.2.1 W
      rw [← hA2] at hs2
      obtain ⟨st, hst⟩ : ∃ st, st = chain h0 (l ++ m.take t) (p / 64) := ⟨_, rfl⟩
      have hstok : st.ok := hst ▸ chain_ok _ _ _ h0_ok
      rw [← hst] at Y3 Y4
      -- what holds when the round is over
      have NEXT : ∀ (w9 : World) (s9 : St), Blk w9 b (hcells s9 (putB B q Z) (p + k)) 96 → (q + k < 64 → s9 = st) → (q + k = 64 → s9 = comp st (putB B q Z)) → Beside b wr w9 →
          ∃ (t_1 : Nat) (A_1 : Option Addr) (c_1 : Nat), t_1 ≤ n ∧ Value.slice (some A2) (r - k) (c' - k) = .slice A_1 (n - t_1) c_1 ∧ n - t_1 ≤ c_1 ∧ Hs w9 b (l ++ m.take t_1) ∧ RdX w9 b A_1 (n - t_1) (m.drop t_1) ∧ Beside b w w9 ∧ Tab w9 := by
        intro w9 s9 hb9 hpart hfull hbes9
        have hqe := X.out.2.1
        have hr := X.out.2.2.1
        have hd := X.out.2.2.2.1
        have hm := hl0.out
        have hT9 := hbes9.tab hTab hg0 hg1
        have hP : l ++ m.take (t + k) = (l ++ m.take t) ++ Z := by rw [hZ, List.append_assoc, List.take_add]
        have hpk : p + k = ((l ++ m.take t) ++ Z).length := by rw [List.length_append, ← hplen, hZl]
        rw [hplen] at hqe
        refine ⟨t + k, some A2, c' - k, by omega, by rw [show r - k = n - (t + k) from by omega], by omega, ?_, ?_, hbes.trans hbes9, hT9⟩
        · rw [hP]
          refine ⟨putB B q Z, putB_len _ _ _ hB (by omega), ?_⟩
          by_cases hf : q + k = 64
          · obtain ⟨f1, f2, f3, f4⟩ := step_full (l ++ m.take t) Z B hB hd (by omega)
            rw [f1, f2, f3, f4, ← hqe, ← hplen, ← hst, ← hfull hf, ← hpk]
            exact ⟨rfl, hb9⟩
          · obtain ⟨f1, f2, f3⟩ := step_part (l ++ m.take t) Z B hB hd (by omega)
            rw [f3, ← hplen, ← hst, ← hpart (by omega), ← hpk]
            refine ⟨?_, hb9⟩
            rw [hpk, hqe]
            exact f2
        · refine ⟨by rw [List.length_drop]; omega, fun h0n => ⟨g, off + k, by rw [hA2, if_neg (by omega)], hne, Nat.lt_of_lt_of_le hg hbes9.size, fun j hj => ?_⟩⟩
          have hj2 : k + j < (m.drop t).length := by rw [List.length_drop] at hj ⊢; omega
          have h := hcs (k + j) hj2
          have hblk := hbes9.block g hg hne
          have e1 : (m.drop (t + k))[j] = (m.drop t)[k + j] := by simp [Nat.add_assoc]
          rw [e1, Nat.add_assoc]
          simpa [World.cell?, hblk] using h
      have NX := Lib.hid NEXT
      have hkr := hk1.2.2
      have hk0 := hk1.1
      clear hk hk1 hZ hcsl hsrc NEXT hplen hA2 hst
      go_wp2
      go_region_law (refine step_copy_blk rfl _ _ 28 28 rfl 5 Tryd.underlying28 size8 b (8 + q) ⟨g, off, none⟩ (64 - q) (64 - q) r c' rfl rfl _ 96 Y3.out (Z.map B8) Y1.out Y2.out Y4.out (b8_one Z) ?_; intro w5 hb5 ho5)
      rw [over_hcells _ _ _ _ _ hB (by omega)] at hb5
      have hB' := putB_len B q Z hB (by omega)
      have ct5 := hb5.cell 72
      rw [hcells_total _ _ _ hB'] at ct5
      have cf5 := hb5.free 72
      have hb6 := hb5.set 72 (.int .i64 ((p + k : Nat) : Int))
      rw [set_hcells _ _ _ _ hB'] at hb6
      have hbe6 : Beside b wr (w5.setCell ⟨b, 72, none⟩ (.int .i64 ((p + k : Nat) : Int))) := (Beside.drew ho5.beside).trans (Only.set (Only.refl b w5) 72 _).beside
      have H6 := Lib.hid hb6
      have H7 := Lib.hid hbe6
      clear hb5 ho5 hb6 hbe6
      by_cases hf : q + k = 64
      · have htm2 : ((p : Int) + (k : Int)).tmod 64 = 0 := by have := X.out.2.1; rw [Int.tmod_eq_emod_of_nonneg (by omega)]; omega
        go_wp2
        obtain ⟨w6, hw6⟩ : ∃ w6, w6 = w5.setCell ⟨b, 72, none⟩ (.int .i64 ((p + k : Nat) : Int)) := ⟨_, rfl⟩
        rw [show (p : Int) + (k : Int) = ((p + k : Nat) : Int) from by omega, ← hw6]
        rw [← hw6] at H6 H7
        clear hw6 ct5 cf5 ct htm2 htm
        obtain ⟨a1, a2, a3, a4, a5, a6, a7, a8⟩ := st
        have hb6 := H6.out
        have c0 : w6.cell? ⟨b, 0, none⟩ = some (.int .u32 (a1 : Int)) := hb6.cell 0
        have c1 : w6.cell? ⟨b, 1, none⟩ = some (.int .u32 (a2 : Int)) := hb6.cell 1
        have c2 : w6.cell? ⟨b, 2, none⟩ = some (.int .u32 (a3 : Int)) := hb6.cell 2
        have c3 : w6.cell? ⟨b, 3, none⟩ = some (.int .u32 (a4 : Int)) := hb6.cell 3
        have c4 : w6.cell? ⟨b, 4, none⟩ = some (.int .u32 (a5 : Int)) := hb6.cell 4
        have c5 : w6.cell? ⟨b, 5, none⟩ = some (.int .u32 (a6 : Int)) := hb6.cell 5
        have c6 : w6.cell? ⟨b, 6, none⟩ = some (.int .u32 (a7 : Int)) := hb6.cell 6
        have c7 : w6.cell? ⟨b, 7, none⟩ = some (.int .u32 (a8 : Int)) := hb6.cell 7
        obtain ⟨B', hBe⟩ : ∃ B', B' = putB B q Z := ⟨_, rfl⟩
        rw [← hBe] at H6 NX hB' hb6
        have hu31 := Tryd.underlying94
        have hi31 : (Tryd.prog.info? 94).map (·.size) = some (B'.map B8).length := by rw [List.length_map, hB']; exact ib64
        have hl31 : (B'.map B8).length = 64 := by rw [List.length_map, hB']
        have ho31 := b8_one B'
        have hr31 : w6.rangeAt b 8 (B'.map B8) := block_range hb6
        have hT6 : Tab w6.drew := (show Tab w6 from H7.out.tab hTab hg0 hg1)
        obtain ⟨V, hV⟩ : ∃ V, V = (comp ⟨a1, a2, a3, a4, a5, a6, a7, a8⟩ B').vals := ⟨_, rfl⟩
        obtain ⟨V0, hV0⟩ : ∃ V, V = hcells ⟨a1, a2, a3, a4, a5, a6, a7, a8⟩ B' (p + k) := ⟨_, rfl⟩
        have hVl : V.length = 8 := by rw [hV]; exact vals_len _
        have hV0l : V0.length = 73 := by rw [hV0]; exact hcells_len _ _ _ hB'
        have hV1 : ∀ v ∈ V, v.oneCell' = true := by rw [hV]; exact vals_one _
        have hbc : Calls Tryd.prog 49 #[.agg #[.int .u32 (a1 : Int), .int .u32 (a2 : Int), .int .u32 (a3 : Int), .int .u32 (a4 : Int), .int .u32 (a5 : Int), .int .u32 (a6 : Int), .int .u32 (a7 : Int), .int .u32 (a8 : Int)], .agg (B'.map B8).toArray] w6.drew (Ret w6.drew (.agg V.toArray)) := by
          have := hB0.out ⟨a1, a2, a3, a4, a5, a6, a7, a8⟩ B' w6.drew hstok hB' hT6
          rw [St.arr_eq (comp _ _), ← hV] at this
          exact this
        have hr30 : w6.drew.rangeAt b 0 (St.vals ⟨a1, a2, a3, a4, a5, a6, a7, a8⟩) := state_range hb6
        rw [← hV0] at hb6
        have FIN : Hid (∀ w7 : World, Below w6.drew.heap.size w6.drew w7 → ∃ (t_1 : Nat) (A_1 : Option Addr) (c_1 : Nat), t_1 ≤ n ∧ Value.slice (some A2) (r - k) (c' - k) = .slice A_1 (n - t_1) c_1 ∧ n - t_1 ≤ c_1 ∧ Hs (w7.setCells b 0 V) b (l ++ m.take t_1) ∧ RdX (w7.setCells b 0 V) b A_1 (n - t_1) (m.drop t_1) ∧ Beside b w (w7.setCells b 0 V) ∧ Tab (w7.setCells b 0 V)) := Lib.hid (by
          intro w7 hb7
          have h7 := Blk.below (w := w6.drew) hb6 hb7 hb6.lt
          have ho := Only.setCells (g := b) V w7 w7 0 (Only.refl _ _)
          have hn := Blk.setCells V w7 _ 0 h7 (by omega)
          rw [hV0, hV, over_state, ← hV] at hn
          exact NX.out _ _ hn (fun h => absurd hf (by omega)) (fun _ => rfl) ((H7.out.trans (Beside.drew (Beside.of_below hb7))).trans ho.beside))
        have KP : Hid (∀ w7 : World, Below w6.drew.heap.size w6.drew w7 → w7.rangeAt b 8 (B'.map B8)) := Lib.hid fun w7 hb => block_range (s := ⟨a1, a2, a3, a4, a5, a6, a7, a8⟩) (n := p + k) (t := 96) (by rw [← hV0]; exact Blk.below (w := w6.drew) hb6 hb hb6.lt)
        have KQ : Hid (∀ w7 : World, Below w6.drew.heap.size w6.drew w7 → (w7.setCells b 0 V).rangeAt b 8 (B'.map B8)) := Lib.hid fun w7 hb => World.rangeAt_setCells_apart (KP.out w7 hb) _ _ _ (by omega)
        have hstc : Hid (∀ w7 : World, Below w6.drew.heap.size w6.drew w7 → (storeCells ⟨b, 0, none⟩ V).run Tryd.prog w7 = .ok () (w7.setCells b 0 V)) := Lib.hid fun w7 hb => run_stc2 (Blk.below (w := w6.drew) hb6 hb hb6.lt) V (by omega) hV1
        have HBC := Lib.hid hbc
        have hV8 := Lib.hid hVl
        clear hb6 hBe H6 hV hV0 hV1 hV0l hbc hT6 hVl
        have hr32 : w6.drew.rangeAt b 8 (B'.map B8) := hr31
        clear hr31
        refine wp_region_any (by kernel_rfl) ?_
        change wpAny _ _ _ _ _ _ _ (World.drew _)
        refine wpAny_take (i := 0) (v := .pointer (some ⟨b, 0, none⟩)) rfl (by kernel_rfl) (by kernel_rfl) (by kernel_rfl) (fun _ _ _ h => h) (Or.inl ⟨by rfl, by intro w; go_simp⟩) ?_
        refine wpAny_take (i := 1) (v := .pointer (some ⟨b, 0, none⟩)) rfl (by kernel_rfl) (by kernel_rfl) (by kernel_rfl) (fun _ _ _ h => h) (Or.inl ⟨by rfl, by intro w; go_simp⟩) ?_
        refine wpAny_take (i := 2) (v := .pointer (some ⟨b, 0, none⟩)) rfl (by kernel_rfl) (by kernel_rfl) (by kernel_rfl) (fun _ _ _ h => h) (Or.inl ⟨by rfl, by intro w; go_simp⟩) ?_
        refine wpAny_take (i := 3) (v := .pointer (some ⟨b, 0, none⟩)) rfl (by kernel_rfl) (by kernel_rfl) (by kernel_rfl) (fun _ _ _ h => h) (Or.inl ⟨by rfl, by intro w; go_simp⟩) ?_
        refine wpAny_take (i := 5) (v := .pointer (some ⟨b, 0, none⟩)) rfl (by kernel_rfl) (by kernel_rfl) (by kernel_rfl) (fun _ _ _ h => h) (Or.inl ⟨by rfl, by intro w; go_simp⟩) ?_
        refine wpAny_take (i := 6) (v := .pointer (some ⟨b, 0, none⟩)) rfl (by kernel_rfl) (by kernel_rfl) (by kernel_rfl) (fun _ _ _ h => h) (Or.inl ⟨by rfl, by intro w; go_simp⟩) ?_
        refine wpAny_take (i := 7) (v := .pointer (some ⟨b, 8, none⟩)) rfl (by kernel_rfl) (by kernel_rfl) (by kernel_rfl) (fun _ _ _ h => h) (Or.inl ⟨by rfl, by intro w; go_simp⟩) ?_
        simp only [List.getElem_toArray, List.getElem_cons_succ, List.getElem_cons_zero, Act.put, List.setIfInBounds_toArray, List.set_cons_succ, List.set_cons_zero]
        refine wpAny_ready (rs := [4, 8]) (by kernel_rfl) (by simp) ?_
        refine AllReady.cons rfl (fun K hK => ?_) (AllReady.cons rfl (fun K hK => ?_) AllReady.nil)
        · simp only [List.getElem_toArray, List.getElem_cons_succ, List.getElem_cons_zero]
          refine Eq.mpr (if_pos (by rfl)) ?_
          refine wp_load_mid 83 (.tmp 39) (by rfl) b 0 (by rfl) (St.vals ⟨a1, a2, a3, a4, a5, a6, a7, a8⟩) _ hr30 Tryd.underlying83 (by rfl) i8 ?_
          refine hK _ _ ?_
          clear hK K
          simp only [Act.put, List.setIfInBounds_toArray, List.set_cons_succ, List.set_cons_zero]
          refine wpAny_ready (rs := [8]) (by kernel_rfl) (by simp) ?_
          refine AllReady.cons rfl (fun K hK => ?_) AllReady.nil
          simp only [List.getElem_toArray, List.getElem_cons_succ, List.getElem_cons_zero]
          refine Eq.mpr (if_pos (by rfl)) ?_
          refine wp_load_mid 94 (.tmp 43) (by rfl) b 8 (by rfl) (B'.map B8) _ hr32 hu31 (by rfl) hi31 ?_
          refine hK _ _ ?_
          clear hK K
          simp only [Act.put, List.setIfInBounds_toArray, List.set_cons_succ, List.set_cons_zero]
          refine wpAny_rest 9 (by rfl) (by kernel_rfl) ?_
          simp only [List.drop_succ_cons, List.drop_zero]
          go_wp2_with (go_at_call 49; refine HBC.out.mono ?_; rintro e' w7 ⟨rfl, hbel7⟩; have hst := hstc.out w7 hbel7)
          clear hst
          go_roundw
          case rel => exact FIN.out w7 hbel7
          case measure => simp; omega
        · simp only [List.getElem_toArray, List.getElem_cons_succ, List.getElem_cons_zero]
          refine Eq.mpr (if_pos (by rfl)) ?_
          refine wp_load_mid 94 (.tmp 43) (by rfl) b 8 (by rfl) (B'.map B8) _ hr32 hu31 (by rfl) hi31 ?_
          refine hK _ _ ?_
          clear hK K
          simp only [Act.put, List.setIfInBounds_toArray, List.set_cons_succ, List.set_cons_zero]
          refine wpAny_ready (rs := [4]) (by kernel_rfl) (by simp) ?_
          refine AllReady.cons rfl (fun K hK => ?_) AllReady.nil
          simp only [List.getElem_toArray, List.getElem_cons_succ, List.getElem_cons_zero]
          refine Eq.mpr (if_pos (by rfl)) ?_
          refine wp_load_mid 83 (.tmp 39) (by rfl) b 0 (by rfl) (St.vals ⟨a1, a2, a3, a4, a5, a6, a7, a8⟩) _ hr30 Tryd.underlying83 (by rfl) i8 ?_
          refine hK _ _ ?_
          clear hK K
          simp only [Act.put, List.setIfInBounds_toArray, List.set_cons_succ, List.set_cons_zero]
          refine wpAny_rest 9 (by rfl) (by kernel_rfl) ?_
          simp only [List.drop_succ_cons, List.drop_zero]
          go_wp2_with (go_at_call 49; refine HBC.out.mono ?_; rintro e' w7 ⟨rfl, hbel7⟩; have hst := hstc.out w7 hbel7)
          clear hst
          go_roundw
          case rel => exact FIN.out w7 hbel7
          case measure => simp; omega
      · have htm2 : ¬ ((p : Int) + (k : Int)).tmod 64 = 0 := by have := X.out.2.1; rw [Int.tmod_eq_emod_of_nonneg (by omega)]; omega
        have htm3 : ¬ ((p : Int) + (k : Int)) % 64 = 0 := by have := X.out.2.1; omega
        go_wp2
        go_roundw
        case rel => exact NX.out _ st H6.out (fun _ => rfl) (fun h => absurd h hf) H7.out
        case measure => simp; omega
    · have e : t = n := by omega
      subst e
      rw [List.take_of_length_le (by rw [hl0.out]; exact Nat.le_refl _)] at hHs
      have HH := Lib.hid hHs
      clear hHs hRd
      rw [Nat.sub_self]
      go_wp2
      refine bodyPost_end (v := .tuple #[]) (by simp [results, Tryd.results45]) rfl ⟨rfl, HH.out, hbes⟩
end Go.Proofs.YthkkllcpogagiaaDoor
