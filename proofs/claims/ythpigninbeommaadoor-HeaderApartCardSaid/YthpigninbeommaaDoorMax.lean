/- Merged texts: HdrL. -/
import Derived.Test.YthpigninbeommaaDoorMav
import Derived.Laws.Tables
/- Headers that are built field by field; the contracts of the law's own Ref. -/
namespace Go.Proofs.YthpigninbeommaaDoor
open Go.RowKit
set_option linter.unusedVariables false
set_option linter.unusedSimpArgs false

set_option maxRecDepth 100000 in
theorem fold_over : ∀ (V : List Value) (L : List Value) (o k : Nat), o + k + V.length ≤ L.length → (V.zipIdx k).foldl (fun (cs : Array Value) (x : Value × Nat) => cs.setIfInBounds (o + x.2) x.1) L.toArray = (over L (o + k) V).toArray
  | [], L, o, k, _ => by simp [over]
  | v :: V, L, o, k, h => by
    rw [List.zipIdx_cons, List.foldl_cons]
    simp only [List.length_cons] at h
    rw [List.setIfInBounds_toArray, fold_over V (L.set (o + k) v) o (k + 1) (by rw [List.length_set]; omega), show o + (k + 1) = o + k + 1 from rfl, set_over v V L (o + k) (by simp; omega)]
set_option maxRecDepth 100000 in
theorem fill_step (place : Nat → Option (Nat × Nat)) (L V : List Value) (i o : Nat) (v : Value) (rest : List (Nat × Value)) (hp : place i = some (o, V.length)) (hv : v.cells = V.toArray) (h : o + V.length ≤ L.length) :
    Instr.fill place L.toArray ((i, v) :: rest) = Instr.fill place (over L o V).toArray rest := by
  have hf := fold_over V L o 0 (by omega)
  rw [Instr.fill]
  simp only [hp, hv, List.size_toArray]
  rw [if_neg (by simp; omega)]
  congr 1
  rw [Nat.add_zero] at hf
  rw [← hf]
  simp
def hdPlaces : List (Nat × Nat) := [(0, 1), (1, 32), (33, 32), (65, 1), (66, 1), (67, 1)]
set_option maxRecDepth 100000 in
theorem over_one (L : List Value) (o : Nat) (v : Value) (h : o < L.length) : over L o [v] = L.set o v := by
  unfold over
  rw [List.set_eq_take_append_cons_drop, if_pos h]
  simp
set_option maxRecDepth 100000 in
theorem fill_head (h : Hd) (o : h.ok) : Instr.fill (hdPlaces.toArray[·]?) Hd.zero.cells.toArray [(0, .int .u32 (h.v : Int)), (1, .agg (h.p.map B8).toArray), (2, .agg (h.r.map B8).toArray), (3, .int .u32 (h.t : Int)), (4, .int .u32 (h.b : Int)), (5, .int .u32 (h.n : Int))] = some h.cells.toArray := by
  have hp := o.p
  have hr := o.r
  have z0 := Hd.zero_ok
  have z1 : ({ Hd.zero with v := h.v } : Hd).ok := { z0 with v := o.v }
  have z2 : ({ Hd.zero with v := h.v, p := h.p } : Hd).ok := { z1 with p := o.p }
  have z3 : ({ Hd.zero with v := h.v, p := h.p, r := h.r } : Hd).ok := { z2 with r := o.r }
  have z4 : ({ Hd.zero with v := h.v, p := h.p, r := h.r, t := h.t } : Hd).ok := { z3 with t := o.t }
  have z5 : ({ Hd.zero with v := h.v, p := h.p, r := h.r, t := h.t, b := h.b } : Hd).ok := { z4 with b := o.b }
  rw [fill_step _ _ [.int .u32 (h.v : Int)] 0 0 _ _ rfl rfl (by rw [Hd.cells_len z0]; simp), over_one _ _ _ (by rw [Hd.cells_len z0]; omega), z0.set_v]
  rw [fill_step _ _ (h.p.map B8) 1 1 _ _ (by rw [List.length_map, hp]; rfl) rfl (by rw [Hd.cells_len z1, List.length_map]; omega), z1.over_p _ hp]
  rw [fill_step _ _ (h.r.map B8) 2 33 _ _ (by rw [List.length_map, hr]; rfl) rfl (by rw [Hd.cells_len z2, List.length_map]; omega), z2.over_r _ hr]
  rw [fill_step _ _ [.int .u32 (h.t : Int)] 3 65 _ _ rfl rfl (by rw [Hd.cells_len z3]; simp), over_one _ _ _ (by rw [Hd.cells_len z3]; omega), z3.set_t]
  rw [fill_step _ _ [.int .u32 (h.b : Int)] 4 66 _ _ rfl rfl (by rw [Hd.cells_len z4]; simp), over_one _ _ _ (by rw [Hd.cells_len z4]; omega), z4.set_b]
  rw [fill_step _ _ [.int .u32 (h.n : Int)] 5 67 _ _ rfl rfl (by rw [Hd.cells_len z5]; simp), over_one _ _ _ (by rw [Hd.cells_len z5]; omega), z5.set_n]
  rfl
set_option maxRecDepth 100000 in
theorem fill_bits (b : Nat) : Instr.fill (hdPlaces.toArray[·]?) Hd.zero.cells.toArray [(4, .int .u32 (b : Int))] = some ({ Hd.zero with b := b } : Hd).cells.toArray := by
  rw [fill_step _ _ [.int .u32 (b : Int)] 4 66 _ _ rfl rfl (by rw [Hd.cells_len Hd.zero_ok]; simp), over_one _ _ _ (by rw [Hd.cells_len Hd.zero_ok]; omega), Hd.zero_ok.set_b]
  rfl
set_option maxRecDepth 100000 in
/-- The parts of a header type, as the program lays them. -/
theorem built_of {P : Program} (t : TypeId) (h0 : (P.info? t).map (·.zero) = some (some (.agg Hd.zero.cells.toArray))) (h1 : (P.underlying t).bind (fun d => match d with | .struct fields => fields.toList.mapM (fun f => (P.info? f.type).map fun i => (f.offset, i.size)) | _ => none) = some hdPlaces)
    (parts : List (Nat × Value)) (cells : Array Value) (h2 : Instr.fill (hdPlaces.toArray[·]?) Hd.zero.cells.toArray parts = some cells) : P.built t parts = some cells := by
  obtain ⟨it, hi, hz⟩ := Option.map_eq_some_iff.1 h0
  obtain ⟨d, hd, hm⟩ := Option.bind_eq_some_iff.1 h1
  unfold Program.built
  rw [hi, hd]
  cases d <;> try (simp at hm; done)
  simp only at hm ⊢
  rw [hz, hm]
  exact h2
set_option maxRecDepth 100000 in
theorem hdG0 : (Tryd.prog.info? 26).map (·.zero) = some (some (.agg Hd.zero.cells.toArray)) := by kernel_rfl
set_option maxRecDepth 100000 in
theorem hdG1 : (Tryd.prog.underlying 26).bind (fun d => match d with | .struct fields => fields.toList.mapM (fun f => (Tryd.prog.info? f.type).map fun i => (f.offset, i.size)) | _ => none) = some hdPlaces := by kernel_rfl
set_option maxRecDepth 100000 in
theorem hdR0 : (Tryd.prog.info? 34).map (·.zero) = some (some (.agg Hd.zero.cells.toArray)) := by kernel_rfl
set_option maxRecDepth 100000 in
theorem hdR1 : (Tryd.prog.underlying 34).bind (fun d => match d with | .struct fields => fields.toList.mapM (fun f => (Tryd.prog.info? f.type).map fun i => (f.offset, i.size)) | _ => none) = some hdPlaces := by kernel_rfl
set_option maxRecDepth 100000 in
theorem buildBits (b : Nat) (W : World) : (Instr.build 26 #[(4, .int .u32 (b : Int))]).run Tryd.prog W = .ok (.agg ({ Hd.zero with b := b } : Hd).cells.toArray) W := run_build W _ _ _ (built_of _ hdG0 hdG1 _ _ (fill_bits b))
set_option maxRecDepth 100000 in
theorem buildHead (h : Hd) (o : h.ok) (W : World) : (Instr.build 34 #[(0, .int .u32 (h.v : Int)), (1, .agg (h.p.map B8).toArray), (2, .agg (h.r.map B8).toArray), (3, .int .u32 (h.t : Int)), (4, .int .u32 (h.b : Int)), (5, .int .u32 (h.n : Int))]).run Tryd.prog W = .ok (.agg h.cells.toArray) W := run_build W _ _ _ (built_of _ hdR0 hdR1 _ _ (fill_head h o))
set_option maxRecDepth 100000 in
theorem zeroR (W : World) : (zeroValue 34).run Tryd.prog W = .ok (.agg Hd.zero.cells.toArray) W := by
  obtain ⟨i, hi, hz⟩ := Option.map_eq_some_iff.1 hdR0
  simp [zeroValue, typeInfo, hi, hz]
set_option maxRecDepth 100000 in
theorem Hd.sizeR {h : Hd} (o : h.ok) : (Tryd.prog.info? 34).map (·.size) = some h.cells.length := by
  rw [Hd.cells_len o]
  kernel_rfl
set_option maxRecDepth 100000 in
theorem Hd.rangeP {h : Hd} (o : h.ok) {w : World} {g : Nat} {t : TypeId} (hb : Blk w g h.cells t) : w.rangeAt g 1 (h.p.map B8) := fun j v hv => by
  have hj : j < h.p.length := by have := (List.getElem?_eq_some_iff.1 hv).1; simpa using this
  rw [hb.cell, Hd.cp o j hj]
  rw [List.getElem?_map, List.getElem?_eq_getElem hj] at hv
  simpa [B8] using hv
set_option maxRecDepth 100000 in
theorem Hd.rangeR {h : Hd} (o : h.ok) {w : World} {g : Nat} {t : TypeId} (hb : Blk w g h.cells t) : w.rangeAt g 33 (h.r.map B8) := fun j v hv => by
  have hj : j < h.r.length := by have := (List.getElem?_eq_some_iff.1 hv).1; simpa using this
  rw [hb.cell, Hd.cr o j hj]
  rw [List.getElem?_map, List.getElem?_eq_getElem hj] at hv
  simpa [B8] using hv
set_option maxRecDepth 100000 in
/-- A struct or an array that is built: its parts' values, and what they make. -/
theorem wp_bld {P : Program} {o : Oper} {a : Act} {w : World} {K : Act → World → Prop} {Q : Exit → Act → World → Prop} (t : TypeId) (parts : Array (Nat × Operand)) (ho : o.op = .build t parts) (vals : Array (Nat × Value)) (x : Value)
    (hv : (parts.map fun (i, x) => (i, a.eval x)) = vals) (hr : ∀ W, (Instr.build t vals).run P W = .ok x W) (h : K (a.put o.dst x) w) : o.wp P a w K Q := by
  unfold Oper.wp execOp
  simp only [ho, hv, Sem.run_bind, hr w, Result.andThen_ok]
  exact h
set_option maxRecDepth 100000 in
theorem at_bld {P : Program} {ops : Array Oper} {rest : List Oper} {Q : Exit → Act → World → Prop} {a : Act} {w : World} {dst : Option Tmp} {t : TypeId} {p : String} {af : Array Edge} (ty : TypeId) {parts : Array (Nat × Operand)}
    (h : wpList P ops Q ({ dst := dst, op := .build ty parts, type := t, pos := p, after := af, guard := none } :: rest) a w) : wpList P ops Q ({ dst := dst, op := .build ty parts, type := t, pos := p, after := af, guard := none } :: rest) a w := h
set_option maxRecDepth 100000 in
theorem wpList_bld {P : Program} {ops : Array Oper} {rest : List Oper} {op : Oper} {a : Act} {w : World} {Q : Exit → Act → World → Prop} (hgd : op.guard = none) (t : TypeId) (parts : Array (Nat × Operand)) (ho : op.op = .build t parts) (vals : Array (Nat × Value)) (x : Value)
    (hv : (parts.map fun (i, x) => (i, a.eval x)) = vals) (hr : ∀ W, (Instr.build t vals).run P W = .ok x W) (h : wpList P ops Q rest (a.put op.dst x) w) : wpList P ops Q (op :: rest) a w :=
  wpList_plain hgd fun _ hK => wp_bld t parts ho vals x hv hr (hK _ _ h)
set_option maxRecDepth 100000 in
set_option maxHeartbeats 4000000 in
theorem ref_calls (h : Hd) (o : h.ok) (w : World) : Calls Tryd.prog 10 #[.agg h.cells.toArray] w (Ret w (.agg h.cells.toArray)) := by
  obtain ⟨X, hX⟩ : ∃ X, X = h.cells := ⟨_, rfl⟩
  obtain ⟨XP, hXP⟩ : ∃ X, X = h.p.map B8 := ⟨_, rfl⟩
  obtain ⟨XR, hXR⟩ : ∃ X, X = h.r.map B8 := ⟨_, rfl⟩
  obtain ⟨vv, hvv⟩ : ∃ vv, vv = h.v := ⟨_, rfl⟩
  obtain ⟨tt, htt⟩ : ∃ tt, tt = h.t := ⟨_, rfl⟩
  obtain ⟨bb, hbb⟩ : ∃ bb, bb = h.b := ⟨_, rfl⟩
  obtain ⟨nn, hnn⟩ : ∃ nn, nn = h.n := ⟨_, rfl⟩
  have BD : Hid (∀ W, (Instr.build 34 #[(0, .int .u32 (vv : Int)), (1, .agg XP.toArray), (2, .agg XR.toArray), (3, .int .u32 (tt : Int)), (4, .int .u32 (bb : Int)), (5, .int .u32 (nn : Int))]).run Tryd.prog W = .ok (.agg X.toArray) W) := Lib.hid fun W => by
    rw [hX, hXP, hXR, hvv, htt, hbb, hnn]; exact buildHead h o W
  have IX : Hid ((Tryd.prog.info? 34).map (·.size) = some X.length) := Lib.hid (by rw [hX]; exact Hd.sizeR o)
  have IP : Hid ((Tryd.prog.info? 24).map (·.size) = some XP.length) := Lib.hid (by rw [hXP, List.length_map, o.p]; kernel_rfl)
  have IR : Hid ((Tryd.prog.info? 24).map (·.size) = some XR.length) := Lib.hid (by rw [hXR, List.length_map, o.r]; kernel_rfl)
  have LX : Hid (Hd.zero.cells.length = X.length) := Lib.hid (by rw [hX, Hd.cells_len o]; rfl)
  have OX : Hid (∀ v ∈ X, v.oneCell' = true) := Lib.hid (by rw [hX]; exact Hd.one h)
  have hzv := zeroR
  have hb0 : Blk ((w.alloc (.cells X.toArray 26)).alloc (.cells Hd.zero.cells.toArray 34)) w.heap.size X 26 := Blk.alloc (Blk.new w X.toArray _) _
  have hb1 : Blk ((w.alloc (.cells X.toArray 26)).alloc (.cells Hd.zero.cells.toArray 34)) (w.heap.size + 1) Hd.zero.cells 34 := Blk.new' _ _ _ _ (by simp)
  have HB := below2 w (.cells X.toArray 26) (.cells Hd.zero.cells.toArray 34)
  obtain ⟨w0, hw0⟩ : ∃ w0, w0 = (w.alloc (.cells X.toArray 26)).alloc (.cells Hd.zero.cells.toArray 34) := ⟨_, rfl⟩
  rw [← hw0] at hb0 hb1 HB
  have hct := Hd.ct o
  have k0 : w0.cell? ⟨w.heap.size, 0, none⟩ = some (.int .u32 (vv : Int)) := by rw [hb0.cell, hvv, hX]; exact h.c0
  have k1 : w0.cell? ⟨w.heap.size, 65, none⟩ = some (.int .u32 (tt : Int)) := by rw [hb0.cell, htt, hX]; exact hct.1
  have k2 : w0.cell? ⟨w.heap.size, 66, none⟩ = some (.int .u32 (bb : Int)) := by rw [hb0.cell, hbb, hX]; exact hct.2.1
  have k3 : w0.cell? ⟨w.heap.size, 67, none⟩ = some (.int .u32 (nn : Int)) := by rw [hb0.cell, hnn, hX]; exact hct.2.2
  have RP : Hid (w0.rangeAt w.heap.size 1 XP) := Lib.hid (by rw [hXP]; rw [hX] at hb0; exact Hd.rangeP o hb0)
  have RR : Hid (w0.rangeAt w.heap.size 33 XR) := Lib.hid (by rw [hXR]; rw [hX] at hb0; exact Hd.rangeR o hb0)
  rw [← hX]
  clear hX hXP hXR hvv htt hbb hnn hct o hb0
  go_enter Tryd.func10, Tryd.ntmps10
  go_upto_region 1 with fail
  rw [← hw0]
  clear hw0
  go_wp2_with (first
    | ((with_reducible refine at_load 24 (.tmp 5) ?_); refine wpList_load_mid rfl 24 (.tmp 5) rfl w.heap.size 1 rfl XP _ RP.out Tryd.underlying24 rfl IP.out ?_)
    | ((with_reducible refine at_load 24 (.tmp 7) ?_); refine wpList_load_mid rfl 24 (.tmp 7) rfl w.heap.size 33 rfl XR _ RR.out Tryd.underlying24 rfl IR.out ?_)
    | ((with_reducible refine at_bld 34 ?_); refine wpList_bld rfl 34 _ rfl _ _ (by simp [Act.eval]) BD.out ?_)
    | ((with_reducible refine at_store 34 (.tmp 2) (.tmp 15) ?_); refine wpList_store_blk rfl 34 (.tmp 2) (.tmp 15) rfl (w.heap.size + 1) Hd.zero.cells X 34 rfl rfl hb1 LX.out IX.out OX.out ?_; intro w6 hb6 ho6))
  refine bodyPost_ret (v := .agg X.toArray) ?_ rfl ⟨rfl, below_only HB ho6 (by omega)⟩
  exact results_one Tryd.results10 _ _ (w.heap.size + 1) 34 _ (0, 0) _ (by rfl) hb6 Tryd.underlying34 rfl IX.out
/-- The document's example. -/
def exH : Hd := { Hd.zero with b := 545259519 }
set_option maxRecDepth 100000 in
theorem exH_ok : exH.ok := ⟨by decide, rfl, rfl, by decide, by decide, by decide⟩
set_option maxRecDepth 100000 in
theorem exH_at : exH.bytes[72]? = some 255 ∧ exH.bytes[74]? = some 127 ∧ exH.bytes[75]? = some 32 := by decide +kernel
set_option maxRecDepth 100000 in
theorem Rd.get {w : World} {b off n : Nat} {l : List UInt8} (h : Rd w (some ⟨b, off, none⟩) n l) {k : Nat} {c : UInt8} (hc : l[k]? = some c) : w.cell? ⟨b, off + k, none⟩ = some (.int .u8 (c.toNat : Int)) := by
  obtain ⟨hk, e⟩ := List.getElem?_eq_some_iff.1 hc
  obtain ⟨b', off', _, hA, _, hcell⟩ := h.at_ (k := k) (by have := h.len; omega)
  injection hA with hA
  injection hA with h1 h2
  subst h1 h2
  rw [hcell, e]
set_option maxRecDepth 100000 in
set_option maxHeartbeats 4000000 in
theorem awake_calls (w : World) : Calls Tryd.prog 13 #[] w (Ret w (.bool true)) := by
  obtain ⟨X, hX⟩ : ∃ X, X = exH.cells := ⟨_, rfl⟩
  have BD : Hid (∀ W, (Instr.build 26 #[(4, .int .u32 545259519)]).run Tryd.prog W = .ok (.agg X.toArray) W) := Lib.hid fun W => by rw [hX]; exact buildBits 545259519 W
  have CB : Hid (∀ W, Calls Tryd.prog 7 #[.agg X.toArray] W fun e w' => ∃ b off c, e = .returned (.slice (some ⟨b, off, none⟩) 80 c) ∧ w'.cell? ⟨b, off + 72, none⟩ = some (.int .u8 255) ∧ w'.cell? ⟨b, off + 74, none⟩ = some (.int .u8 127) ∧ w'.cell? ⟨b, off + 75, none⟩ = some (.int .u8 32) ∧ Below W.heap.size W w') := Lib.hid fun W => by
    rw [hX]
    refine (gbytes_calls exH exH_ok W).mono ?_
    rintro e w' ⟨A, n, c, rfl, ho, hb⟩
    have hn := ho.len
    rw [Hd.bytes_len exH_ok] at hn
    subst hn
    obtain ⟨b, off, _, rfl, _, _⟩ := ho.rd.at_ (k := 0) (by omega)
    exact ⟨b, off, c, rfl, ho.rd.get exH_at.1, ho.rd.get exH_at.2.1, ho.rd.get exH_at.2.2, hb⟩
  clear hX
  go_enter Tryd.func13, Tryd.ntmps13
  go_wp2_with (first
    | ((with_reducible refine at_bld 26 ?_); refine wpList_bld rfl 26 _ rfl _ _ (by simp [Act.eval]) BD.out ?_)
    | (go_at_call 7; refine (CB.out _).mono ?_; rintro e' w1 ⟨b, off, c, rfl, h72, h74, h75, hb1⟩))
  go_ret
  exact ⟨rfl, hb1⟩
end Go.Proofs.YthpigninbeommaaDoor
