/- Merged texts: ArrD. -/
import Derived.Test.YthpigninbeommaaDoorMam
import Derived.Test.YthpigninbeommaaDoorMaw
import Derived.OpenShut
/- A header that came in, as it is read off the row's data. -/
namespace Go.Proofs.YthpigninbeommaaDoor
open Go.RowKit
set_option linter.unusedVariables false

set_option maxRecDepth 100000 in
theorem trod_bytes {H : Type} {enc : TypeId × Value → H} {P : Program} {W : World} {base : Nat} {sp : Nat → Bool} {held : Bool} {k e : TypeId} {m : Nat} {cs : List Value} {x : DataW H × List MemPlace} (hu : P.underlying k = some (.array 32 e)) (he : P.underlying e = some (.int .u8)) (hce : P.cellsOf e = 1) (hck : P.cellsOf k = 32)
    (h : DataW.trod enc P W base sp held m k cs = some x) (hl : cs.length = 32) : ∃ l : List UInt8, l.length = 32 ∧ cs = l.map B8 := by
  cases m with
  | zero => simp [DataW.trod] at h
  | succ m =>
    unfold DataW.trod at h
    simp only [hu] at h
    rw [if_pos (by rw [hck, hl])] at h
    simp only [Option.map_eq_some_iff] at h
    obtain ⟨ys, hy, _⟩ := h
    rw [hce] at hy
    have hh := mapM_ints he _ ys hy
    obtain ⟨zs, hz, hw⟩ := ints_of cs (q := .u8) (fun i hi => hh i (by simp at hi ⊢; omega))
    obtain ⟨l, hl2, e2⟩ := bytes_of_ints zs hw
    refine ⟨l, ?_, by rw [hz, e2]⟩
    have := congrArg List.length hz
    simp at this
    omega
set_option maxRecDepth 100000 in
theorem u32_of {z : Int} (h : (Lit.int .u32 z).wf = true) : ∃ n : Nat, z = (n : Int) ∧ n < 4294967296 := by
  have hb := bounds_u32 h
  exact ⟨z.toNat, by omega, by omega⟩
set_option maxRecDepth 100000 in
theorem take_eq {α : Type} {cs : List α} {o n : Nat} {l : List α} (h : (cs.drop o).take n = l) (hl : l.length = n) : cs.drop o = l ++ cs.drop (o + n) := by
  rw [← h, ← List.drop_drop]
  exact (List.take_append_drop n (cs.drop o)).symm
set_option maxRecDepth 100000 in
theorem open_hd {H : Type} {enc : TypeId × Value → H} {P : Program} {W : World} {base : Nat} {sp : Nat → Bool} {held : Bool} {r : Reach} {b0 : Nat} {v : Value} {d : DataW H} {ps : List MemPlace} (t u k e : TypeId) (fs : Array Field) (ht : P.underlying t = some (.struct fs)) (hfs : fs.toList.map (fun f => (f.type, f.offset)) = [(u, 0), (k, 1), (k, 33), (u, 65), (u, 66), (u, 67)])
    (hct : P.cellsOf t = 68) (hu : P.underlying u = some (.int .u32)) (hcu : P.cellsOf u = 1) (hk : P.underlying k = some (.array 32 e)) (hck : P.cellsOf k = 32) (he : P.underlying e = some (.int .u8)) (hce : P.cellsOf e = 1)
    (hv : Value.okWide P W r b0 t v) (hd : DataW.Trod enc P W base sp held t v d ps) : ∃ h : Hd, v = .agg h.cells.toArray ∧ h.ok := by
  simp only [Value.okWide, ht] at hv
  obtain ⟨cs, rfl, hs, _⟩ := hv
  rw [hct] at hs
  obtain ⟨fuel, hf⟩ := hd
  cases fuel with
  | zero => simp [DataW.trod] at hf
  | succ m =>
    unfold DataW.trod at hf
    simp only [ht, Value.cells] at hf
    rw [if_pos (by rw [hct]; simpa using hs)] at hf
    simp only [Option.map_eq_some_iff] at hf
    obtain ⟨ys, hy, _⟩ := hf
    rw [mapM_comp (fun f : Field => (f.type, f.offset)) (fun p => DataW.trod enc P W base sp held m p.1 ((cs.toList.drop p.2).take (P.cellsOf p.1))), hfs] at hy
    simp only [List.mapM_cons, List.mapM_nil, hcu, hck, bind, Option.bind_eq_some_iff, pure, Option.some.injEq] at hy
    obtain ⟨y0, h0, _, ⟨y1, h1, _, ⟨y2, h2, _, ⟨y3, h3, _, ⟨y4, h4, _, ⟨y5, h5, _⟩, _⟩, _⟩, _⟩, _⟩, _⟩ := hy
    have hl : cs.toList.length = 68 := by simpa using hs
    obtain ⟨zv, ev, _, wv⟩ := DataW.trod_int hu h0
    obtain ⟨zt, et, _, wt⟩ := DataW.trod_int hu h3
    obtain ⟨zb, eb, _, wb⟩ := DataW.trod_int hu h4
    obtain ⟨zn, en, _, wn⟩ := DataW.trod_int hu h5
    obtain ⟨p, hp, ep⟩ := trod_bytes hk he hce hck h1 (by rw [List.length_take, List.length_drop]; omega)
    obtain ⟨q, hq, eq⟩ := trod_bytes hk he hce hck h2 (by rw [List.length_take, List.length_drop]; omega)
    obtain ⟨nv, rfl, bv⟩ := u32_of wv
    obtain ⟨nt, rfl, bt⟩ := u32_of wt
    obtain ⟨nb, rfl, bb⟩ := u32_of wb
    obtain ⟨nn, rfl, bn⟩ := u32_of wn
    refine ⟨⟨nv, p, q, nt, nb, nn⟩, ?_, ⟨bv, hp, hq, bt, bb, bn⟩⟩
    have e0 := take_eq ev rfl
    have e1 := take_eq ep (by rw [List.length_map, hp])
    have e2 := take_eq eq (by rw [List.length_map, hq])
    have e3 := take_eq et rfl
    have e4 := take_eq eb rfl
    have e5 := take_eq en rfl
    rw [List.drop_of_length_le (show cs.toList.length ≤ 67 + 1 by omega), List.append_nil] at e5
    rw [show 66 + 1 = 67 from rfl, e5] at e4
    rw [show 65 + 1 = 66 from rfl, e4] at e3
    rw [show 33 + 32 = 65 from rfl, e3] at e2
    rw [show 1 + 32 = 33 from rfl, e2] at e1
    rw [show 0 + 1 = 1 from rfl, e1, List.drop_zero] at e0
    have : cs = (cs.toList).toArray := by simp
    rw [this, e0]
    rfl
set_option maxRecDepth 100000 in
theorem arrG {H : Type} {enc : TypeId × Value → H} {W : World} {base : Nat} {sp : Nat → Bool} {held : Bool} {r : Reach} {b0 : Nat} {v : Value} {d : DataW H} {ps : List MemPlace}
    (hv : Value.okWide Tryd.prog W r b0 26 v) (hd : DataW.Trod enc Tryd.prog W base sp held 26 v d ps) : ∃ h : Hd, v = .agg h.cells.toArray ∧ h.ok :=
  open_hd 26 22 24 5 _ Tryd.underlying26 (by kernel_rfl) (by kernel_rfl) Tryd.underlying22 (by kernel_rfl) Tryd.underlying24 (by kernel_rfl) Tryd.underlying5 (by kernel_rfl) hv hd
end Go.Proofs.YthpigninbeommaaDoor
