/- Merged texts: BrnE. -/
import Derived.Test.YtnfcnjboeocnmaaDoorMbo
import Derived.Test.YtnfcnjboeocnmaaDoorMat
/- Arrays of two hashes: their equality, how they are built, what lies in them. -/
namespace Go.Proofs.YtnfcnjboeocnmaaDoor
open Go.RowKit
set_option linter.unusedVariables false
set_option linter.unusedSimpArgs false

set_option maxRecDepth 100000 in
theorem pair_lits {P : Program} (t k e : TypeId) (ht : P.underlying t = some (.array 2 k)) (hct : P.cellsOf t = 64) (hk : P.underlying k = some (.array 32 e)) (hck : P.cellsOf k = 32) (he : P.underlying e = some (.int .u8)) (hce : P.cellsOf e = 1) (a b : List UInt8) (ha : a.length = 32) (hb : b.length = 32) :
    P.keyLits 3 t (a.map B8 ++ b.map B8) = some (blits a ++ blits b) := by
  have c0 : ((a.map B8 ++ b.map B8).drop (0 * 32)).take 32 = a.map B8 := by rw [Nat.zero_mul, List.drop_zero, List.take_left' (by rw [List.length_map]; exact ha)]
  have c1 : ((a.map B8 ++ b.map B8).drop (1 * 32)).take 32 = b.map B8 := by rw [Nat.one_mul, List.drop_left' (by rw [List.length_map]; exact ha), List.take_of_length_le (by rw [List.length_map]; omega)]
  unfold Program.keyLits
  simp only [ht]
  rw [if_pos (by rw [hct, List.length_append, List.length_map, List.length_map, ha, hb])]
  simp only [show List.range 2 = [0, 1] from rfl, List.mapM_cons, List.mapM_nil, hck, c0, c1, lits_bytes k e hk he hce hck _ ha, lits_bytes k e hk he hce hck _ hb]
  simp
set_option maxRecDepth 100000 in
theorem eq64 (a b c d : List UInt8) (ha : a.length = 32) (hb : b.length = 32) (hc : c.length = 32) (hd : d.length = 32) (B : Bool) (hB : (decide (a = c) && decide (b = d)) = B) (w : World) :
    (Op.equalIn 10000 66 (.agg (a.map B8 ++ b.map B8).toArray) (.agg (c.map B8 ++ d.map B8).toArray)).run Tryd.prog w = .ok B w := by
  have hct : Tryd.prog.cellsOf 66 = 64 := by kernel_rfl
  have hf : ∀ x y : List UInt8, x.length = 32 → y.length = 32 → (Value.agg (x.map B8 ++ y.map B8).toArray).formed Tryd.prog 66 = true := fun x y hx hy => by
    simp [Value.formed, Tryd.underlying66, hct, hx, hy]
  have hl : ∀ x y : List UInt8, x.length = 32 → y.length = 32 → Tryd.prog.keyLits 3 66 (x.map B8 ++ y.map B8) = some (blits x ++ blits y) := fun x y hx hy =>
    pair_lits 66 34 5 Tryd.underlying66 hct Tryd.underlying34 (by kernel_rfl) Tryd.underlying5 (by kernel_rfl) x y hx hy
  obtain ⟨r, hr, hiff⟩ := run_equalIn_deep (P := Tryd.prog) 9997 3 66 (by kernel_rfl) w 3 3 (.agg (a.map B8 ++ b.map B8).toArray) (.agg (c.map B8 ++ d.map B8).toArray) _ _ (hf a b ha hb) (hf c d hc hd) (hl a b ha hb) (hl c d hc hd)
  rw [hr]
  have hlen : (blits a).length = (blits c).length := by unfold blits; rw [List.length_map, List.length_map, ha, hc]
  have : r = B := by
    rw [← hB]
    by_cases h : a = c ∧ b = d
    · rw [hiff.2 (by rw [h.1, h.2]), decide_eq_true h.1, decide_eq_true h.2]; rfl
    · have hr0 : r = false := by
        cases hr' : r
        · rfl
        · obtain ⟨e1, e2⟩ := List.append_inj (hiff.1 hr') hlen
          exact absurd ⟨blits_inj e1, blits_inj e2⟩ h
      rw [hr0]
      by_cases h1 : a = c
      · have h2 : ¬ b = d := fun h2 => h ⟨h1, h2⟩
        simp [h2]
      · simp [h1]
  rw [this]
def z64 : List Value := z32 ++ z32
set_option maxRecDepth 100000 in
theorem Z64 : (Tryd.prog.info? 66).map (·.zero) = some (some (.agg z64.toArray)) := by kernel_rfl
set_option maxRecDepth 100000 in
theorem bld64 (X Y : List Value) (hX : X.length = 32) (hY : Y.length = 32) (W : World) : (Instr.build 66 #[(0, .agg X.toArray), (1, .agg Y.toArray)]).run Tryd.prog W = .ok (.agg (X ++ Y).toArray) W := by
  refine run_build W _ _ _ ?_
  obtain ⟨it, hi, hz⟩ := Option.map_eq_some_iff.1 Z64
  obtain ⟨ie, hie, hse⟩ := Option.map_eq_some_iff.1 (show (Tryd.prog.info? 34).map (·.size) = some 32 by kernel_rfl)
  unfold Program.built
  rw [hi, Tryd.underlying66]
  simp only
  rw [hz, hie]
  simp only [hse]
  show Instr.fill (fun i => some (i * 32, 32)) z64.toArray [(0, .agg X.toArray), (1, .agg Y.toArray)] = some (X ++ Y).toArray
  have e1 : over z64 0 X = X ++ z32 := by
    unfold over z64
    rw [List.take_zero, List.nil_append, Nat.zero_add, hX, List.drop_left' (by rfl)]
  have e2 : over (X ++ z32) 32 Y = X ++ Y := by
    unfold over
    rw [List.take_left' hX, hY, List.drop_of_length_le (by rw [List.length_append, hX]; decide), List.append_nil]
  rw [fill_step _ z64 X 0 0 _ _ (by rw [hX]) rfl (by rw [hX]; decide), e1, fill_step _ (X ++ z32) Y 1 32 _ _ (by rw [hY]) rfl (by rw [hY, List.length_append, hX]; decide), e2]
  rfl
set_option maxRecDepth 100000 in
/-- What lies in a block of two hashes. -/
theorem two_ranges {w : World} {g : Nat} {X Y : List Value} {t : TypeId} (h : Blk w g (X ++ Y) t) (hX : X.length = 32) : w.rangeAt g 0 X ∧ w.rangeAt g (0 + 1 * 32) Y :=
  ⟨fun j v hv => by
    rw [h.cell, Nat.zero_add, List.getElem?_append_left (List.getElem?_eq_some_iff.1 hv).1]
    exact hv, fun j v hv => by
    rw [h.cell, show 0 + 1 * 32 + j = X.length + j by omega, List.getElem?_append_right (by omega), Nat.add_sub_cancel_left]
    exact hv⟩
/-! A guarded load whose guard holds. -/
set_option maxRecDepth 100000 in
theorem wpList_load_midgS {P : Program} {ops : Array Oper} {rest : List Oper} {op : Oper} {a : Act} {w : World} {Q : Exit → Act → World → Prop} (hw : Region.wanted op (yielded ops a.tmps) = true) (ty : TypeId) (x : Operand) (ho : op.op = .load ty x)
    (b o : Nat) (hx : a.eval x = .pointer (some ⟨b, o, none⟩)) (cs : List Value) (d : TypeDesc) (hc : w.rangeAt b o cs)
    (hu : P.underlying ty = some d) (hd : d.isRow = true) (hi : (P.info? ty).map (·.size) = some cs.length)
    (h : wpList P ops Q rest (a.put op.dst (.agg cs.toArray)) w) : wpList P ops Q (op :: rest) a w := by
  unfold wpList
  rw [if_pos hw]
  exact Or.inl (wp_load_mid ty x ho b o hx cs d hc hu hd hi h)
set_option maxRecDepth 100000 in
theorem at_loadgS {P : Program} {ops : Array Oper} {rest : List Oper} {Q : Exit → Act → World → Prop} {a : Act} {w : World} {dst : Option Tmp} {t : TypeId} {p : String} {af : Array Edge} {gd : Nat × Bool} (ty : TypeId) (x : Operand)
    (h : wpList P ops Q ({ dst := dst, op := .load ty x, type := t, pos := p, after := af, guard := some gd } :: rest) a w) : wpList P ops Q ({ dst := dst, op := .load ty x, type := t, pos := p, after := af, guard := some gd } :: rest) a w := h
end Go.Proofs.YtnfcnjboeocnmaaDoor
