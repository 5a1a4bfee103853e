/- Merged texts: Arr ArrD MrkO BrnO ClaO. -/
import Derived.Test.YtpoinhjkdgcnaaaDoorMaa
import Derived.OpenShut
import Derived.Test.YtpoinhjkdgcnaaaDoorMan
import Derived.Test.YtpoinhjkdgcnaaaDoorMab
import Derived.Test.YtpoinhjkdgcnaaaDoorMao
import Derived.Lib.SmallJoins
import Derived.Deep.Slices
import Derived.Deep.Strs
import Derived.Test.YtpoinhjkdgcnaaaDoorMag
import Derived.Deep.Matrix
/- Arrays of integers that came in, as they are read off the row's data. -/
namespace Go.Proofs.YtpoinhjkdgcnaaaDoor
open Go.RowKit

set_option maxRecDepth 100000 in
theorem mapM_ints {H : Type} {enc : TypeId × Value → H} {P : Program} {W : World} {base : Nat} {sp : Nat → Bool} {held : Bool} {e : TypeId} {q : IntKind} (he : P.underlying e = some (.int q)) {m : Nat} {cs : List Value} : ∀ (L : List Nat) (xs : List (DataW H × List MemPlace)),
    L.mapM (fun i => DataW.trod enc P W base sp held m e ((cs.drop (i * 1)).take 1)) = some xs → ∀ i ∈ L, ∃ z, (cs.drop (i * 1)).take 1 = [.int q z] ∧ (Lit.int q z).wf = true
  | [], _, _ => fun i hi => by simp at hi
  | j :: L, xs, h => by
    rw [List.mapM_cons] at h
    simp only [bind, Option.bind_eq_some_iff, pure, Option.some.injEq] at h
    obtain ⟨y, hy, ys, hys, rfl⟩ := h
    obtain ⟨a, ea, rfl, wa⟩ := DataW.trod_int he hy
    intro i hi
    rcases List.mem_cons.1 hi with rfl | hi
    · exact ⟨a, ea, wa⟩
    · exact mapM_ints he L ys hys i hi
set_option maxRecDepth 100000 in
theorem ints_of {q : IntKind} : ∀ (cs : List Value), (∀ i, i < cs.length → ∃ z, (cs.drop (i * 1)).take 1 = [.int q z] ∧ (Lit.int q z).wf = true) → ∃ zs : List Int, cs = zs.map (Value.int q) ∧ ∀ z ∈ zs, (Lit.int q z).wf = true
  | [], _ => ⟨[], rfl, fun z hz => by simp at hz⟩
  | c :: cs, h => by
    obtain ⟨z, hz, wz⟩ := h 0 (by simp)
    obtain ⟨zs, rfl, hw⟩ := ints_of cs (fun i hi => by
      obtain ⟨z, hz, wz⟩ := h (i + 1) (by simpa using hi)
      exact ⟨z, by simpa using hz, wz⟩)
    simp at hz
    exact ⟨z :: zs, by rw [hz]; rfl, fun y hy => by
      rcases List.mem_cons.1 hy with rfl | hy
      · exact wz
      · exact hw y hy⟩
set_option maxRecDepth 100000 in
/-- An array of integers. -/
theorem open_arr {H : Type} {enc : TypeId × Value → H} {P : Program} {W : World} {base : Nat} {sp : Nat → Bool} {held : Bool} {r : Reach} {b0 : Nat} {t e : TypeId} {n : Nat} {q : IntKind} {v : Value} {d : DataW H} {ps : List MemPlace}
    (hu : P.underlying t = some (.array n e)) (he : P.underlying e = some (.int q)) (hce : P.cellsOf e = 1) (hct : P.cellsOf t = n) (hv : Value.okWide P W r b0 t v) (hd : DataW.Trod enc P W base sp held t v d ps) :
    ∃ zs : List Int, zs.length = n ∧ v = .agg (zs.map (Value.int q)).toArray ∧ ∀ z ∈ zs, (Lit.int q z).wf = true := by
  simp only [Value.okWide, hu] at hv
  obtain ⟨cs, rfl, hs, _⟩ := hv
  rw [hct] at hs
  obtain ⟨fuel, hf⟩ := hd
  cases fuel with
  | zero => simp [DataW.trod] at hf
  | succ m =>
    unfold DataW.trod at hf
    simp only [hu, Value.cells] at hf
    rw [if_pos (by rw [hct]; simpa using hs)] at hf
    simp only [Option.map_eq_some_iff] at hf
    obtain ⟨ys, hy, _⟩ := hf
    rw [hce] at hy
    have h := mapM_ints he _ ys hy
    obtain ⟨zs, hz, hw⟩ := ints_of cs.toList (q := q) (fun i hi => h i (by simp at hi ⊢; omega))
    refine ⟨zs, ?_, ?_, hw⟩
    · have := congrArg List.length hz
      simp at this
      omega
    · rw [← hz]
set_option maxRecDepth 100000 in
/-- Bytes. -/
theorem bytes_of_ints (zs : List Int) (h : ∀ z ∈ zs, (Lit.int .u8 z).wf = true) : ∃ l : List UInt8, l.length = zs.length ∧ zs.map (Value.int .u8) = l.map B8 := by
  refine ⟨zs.map fun z => UInt8.ofNat z.toNat, by simp, ?_⟩
  rw [List.map_map]
  apply List.map_congr_left
  intro z hz
  have hb := bounds_u8 (h z hz)
  simp only [Function.comp, B8]
  congr 1
  rw [UInt8.toNat_ofNat']
  omega
set_option maxRecDepth 100000 in
/-- Words of 64 bits. -/
theorem nats_of_ints (zs : List Int) (h : ∀ z ∈ zs, (Lit.int .u64 z).wf = true) : ∃ l : List Nat, l.length = zs.length ∧ zs = l.map (fun n : Nat => (n : Int)) ∧ ∀ n ∈ l, n < 2 ^ 64 := by
  refine ⟨zs.map Int.toNat, by simp, ?_, ?_⟩
  · rw [List.map_map]
    conv => lhs; rw [← List.map_id zs]
    apply List.map_congr_left
    intro z hz
    have hb := bounds_u64 (h z hz)
    simp only [Function.comp, id]
    omega
  · intro n hn
    simp only [List.mem_map] at hn
    obtain ⟨z, hz, rfl⟩ := hn
    have hb := bounds_u64 (h z hz)
    omega
end Go.Proofs.YtpoinhjkdgcnaaaDoor

/- A header that came in, as it is read off the row's data. -/
namespace Go.Proofs.YtpoinhjkdgcnaaaDoor
open Go.RowKit
set_option linter.unusedVariables false

set_option maxRecDepth 100000 in
theorem trod_bytes {H : Type} {enc : TypeId × Value → H} {P : Program} {W : World} {base : Nat} {sp : Nat → Bool} {held : Bool} {k e : TypeId} {m : Nat} {cs : List Value} {x : DataW H × List MemPlace} (hu : P.underlying k = some (.array 32 e)) (he : P.underlying e = some (.int .u8)) (hce : P.cellsOf e = 1) (hck : P.cellsOf k = 32)
    (h : DataW.trod enc P W base sp held m k cs = some x) (hl : cs.length = 32) : ∃ l : List UInt8, l.length = 32 ∧ cs = l.map B8 := by
  cases m with
  | zero => simp [DataW.trod] at h
  | succ m =>
    unfold DataW.trod at h
    simp only [hu] at h
    rw [if_pos (by rw [hck, hl])] at h
    simp only [Option.map_eq_some_iff] at h
    obtain ⟨ys, hy, _⟩ := h
    rw [hce] at hy
    have hh := mapM_ints he _ ys hy
    obtain ⟨zs, hz, hw⟩ := ints_of cs (q := .u8) (fun i hi => hh i (by simp at hi ⊢; omega))
    obtain ⟨l, hl2, e2⟩ := bytes_of_ints zs hw
    refine ⟨l, ?_, by rw [hz, e2]⟩
    have := congrArg List.length hz
    simp at this
    omega
set_option maxRecDepth 100000 in
theorem u32_of {z : Int} (h : (Lit.int .u32 z).wf = true) : ∃ n : Nat, z = (n : Int) ∧ n < 4294967296 := by
  have hb := bounds_u32 h
  exact ⟨z.toNat, by omega, by omega⟩
set_option maxRecDepth 100000 in
theorem take_eq {α : Type} {cs : List α} {o n : Nat} {l : List α} (h : (cs.drop o).take n = l) (hl : l.length = n) : cs.drop o = l ++ cs.drop (o + n) := by
  rw [← h, ← List.drop_drop]
  exact (List.take_append_drop n (cs.drop o)).symm
set_option maxRecDepth 100000 in
theorem open_hd {H : Type} {enc : TypeId × Value → H} {P : Program} {W : World} {base : Nat} {sp : Nat → Bool} {held : Bool} {r : Reach} {b0 : Nat} {v : Value} {d : DataW H} {ps : List MemPlace} (t u k e : TypeId) (fs : Array Field) (ht : P.underlying t = some (.struct fs)) (hfs : fs.toList.map (fun f => (f.type, f.offset)) = [(u, 0), (k, 1), (k, 33), (u, 65), (u, 66), (u, 67)])
    (hct : P.cellsOf t = 68) (hu : P.underlying u = some (.int .u32)) (hcu : P.cellsOf u = 1) (hk : P.underlying k = some (.array 32 e)) (hck : P.cellsOf k = 32) (he : P.underlying e = some (.int .u8)) (hce : P.cellsOf e = 1)
    (hv : Value.okWide P W r b0 t v) (hd : DataW.Trod enc P W base sp held t v d ps) : ∃ h : Hd, v = .agg h.cells.toArray ∧ h.ok := by
  simp only [Value.okWide, ht] at hv
  obtain ⟨cs, rfl, hs, _⟩ := hv
  rw [hct] at hs
  obtain ⟨fuel, hf⟩ := hd
  cases fuel with
  | zero => simp [DataW.trod] at hf
  | succ m =>
    unfold DataW.trod at hf
    simp only [ht, Value.cells] at hf
    rw [if_pos (by rw [hct]; simpa using hs)] at hf
    simp only [Option.map_eq_some_iff] at hf
    obtain ⟨ys, hy, _⟩ := hf
    rw [mapM_comp (fun f : Field => (f.type, f.offset)) (fun p => DataW.trod enc P W base sp held m p.1 ((cs.toList.drop p.2).take (P.cellsOf p.1))), hfs] at hy
    simp only [List.mapM_cons, List.mapM_nil, hcu, hck, bind, Option.bind_eq_some_iff, pure, Option.some.injEq] at hy
    obtain ⟨y0, h0, _, ⟨y1, h1, _, ⟨y2, h2, _, ⟨y3, h3, _, ⟨y4, h4, _, ⟨y5, h5, _⟩, _⟩, _⟩, _⟩, _⟩, _⟩ := hy
    have hl : cs.toList.length = 68 := by simpa using hs
    obtain ⟨zv, ev, _, wv⟩ := DataW.trod_int hu h0
    obtain ⟨zt, et, _, wt⟩ := DataW.trod_int hu h3
    obtain ⟨zb, eb, _, wb⟩ := DataW.trod_int hu h4
    obtain ⟨zn, en, _, wn⟩ := DataW.trod_int hu h5
    obtain ⟨p, hp, ep⟩ := trod_bytes hk he hce hck h1 (by rw [List.length_take, List.length_drop]; omega)
    obtain ⟨q, hq, eq⟩ := trod_bytes hk he hce hck h2 (by rw [List.length_take, List.length_drop]; omega)
    obtain ⟨nv, rfl, bv⟩ := u32_of wv
    obtain ⟨nt, rfl, bt⟩ := u32_of wt
    obtain ⟨nb, rfl, bb⟩ := u32_of wb
    obtain ⟨nn, rfl, bn⟩ := u32_of wn
    refine ⟨⟨nv, p, q, nt, nb, nn⟩, ?_, ⟨bv, hp, hq, bt, bb, bn⟩⟩
    have e0 := take_eq ev rfl
    have e1 := take_eq ep (by rw [List.length_map, hp])
    have e2 := take_eq eq (by rw [List.length_map, hq])
    have e3 := take_eq et rfl
    have e4 := take_eq eb rfl
    have e5 := take_eq en rfl
    rw [List.drop_of_length_le (show cs.toList.length ≤ 67 + 1 by omega), List.append_nil] at e5
    rw [show 66 + 1 = 67 from rfl, e5] at e4
    rw [show 65 + 1 = 66 from rfl, e4] at e3
    rw [show 33 + 32 = 65 from rfl, e3] at e2
    rw [show 1 + 32 = 33 from rfl, e2] at e1
    rw [show 0 + 1 = 1 from rfl, e1, List.drop_zero] at e0
    have : cs = (cs.toList).toArray := by simp
    rw [this, e0]
    rfl
end Go.Proofs.YtpoinhjkdgcnaaaDoor

/- Lists of hashes and hashes that came in, as they are read off the row's data. -/
namespace Go.Proofs.YtpoinhjkdgcnaaaDoor
open Go.RowKit Go.ChangeShapes Go.WideShapes Go.ChangeAt Go.Deep
set_option linter.unusedVariables false

set_option maxRecDepth 100000 in
theorem cellsHs : Tryd.prog.cellsOf 47 = 32 := by kernel_rfl
section
variable {H : Type} {enc : TypeId × Value → H}
set_option maxRecDepth 100000 in
/-- A list of hashes that came in. -/
theorem open_hashes {W : World} {sp : Nat → Bool} {held : Bool} {a : Option Addr} {len cap : Nat} {d : DataW H} {p : List MemPlace} (h : DataW.Trod enc Tryd.prog W 0 sp held 24 (.slice a len cap) d p) :
    ∃ L, RdH W a len L ∧ len ≤ cap ∧ cap ≤ maxLen := by
  obtain ⟨fuel, hf⟩ := h
  rcases open_slice Tryd.underlying24 hf with ⟨hcs, _⟩ | ⟨x, l, c, m, n, D, Pl, hcs, _, hl, hm, hmm, _, he⟩
  · simp [Value.cells] at hcs
    obtain ⟨rfl, rfl, rfl⟩ := hcs
    exact ⟨[], RdH.nil _ _, by omega, by unfold maxLen; omega⟩
  · simp [Value.cells] at hcs
    obtain ⟨rfl, rfl, rfl⟩ := hcs
    have hlm : len ≤ m := by rw [hmm]; split <;> omega
    obtain ⟨b, off, spot⟩ := x
    have key : ∀ i, i < len → ∃ o : List UInt8, (∀ j v, (o.map B8)[j]? = some v → W.cell? (((⟨b, off, spot⟩ : Addr).add (i * 32)).add j) = some v) ∧ o.length = 32 := by
      intro i hi
      obtain ⟨cs', h1, h2⟩ := he i (by omega)
      rw [cellsHs] at h1
      obtain ⟨_, hlen, hc⟩ := World.cells?_some h1
      obtain ⟨o, ho32, ho⟩ := trod_bytes Tryd.underlying47 Tryd.underlying5 (by kernel_rfl) (by kernel_rfl) h2 hlen
      refine ⟨o, fun j v hv => ?_, ho32⟩
      rw [← ho] at hv
      have hj : j < 32 := by have := (List.getElem?_eq_some_iff.1 hv).1; omega
      rw [hc j hj, hv]
    obtain ⟨f, hfk⟩ := choose_lt (α := List UInt8) key
    have hget : ∀ i, i < len → hat ((List.range len).map f) i = f i := fun i hi => by
      unfold hat
      rw [List.getD_eq_getElem?_getD, List.getElem?_map, List.getElem?_range hi]
      rfl
    refine ⟨(List.range len).map f, ⟨by simp, fun y hy => ?_, fun hn => ?_⟩, hl, hm⟩
    · simp only [List.mem_map, List.mem_range] at hy
      obtain ⟨i, hi, rfl⟩ := hy
      exact (hfk i hi).2
    have h0 : ∃ v, ((f 0).map B8)[0]? = some v := by
      have := (hfk 0 hn).2
      exact ⟨_, List.getElem?_eq_getElem (by rw [List.length_map]; omega)⟩
    obtain ⟨v0, hv0⟩ := h0
    have hspot : spot = none := by
      have := (hfk 0 hn).1 0 _ hv0
      simpa [Addr.add] using World.cell?_spot this
    subst hspot
    have hlt : b < W.heap.size := by
      have := (hfk 0 hn).1 0 _ hv0
      have h2 := lt_of_cell this
      simpa [Addr.add] using h2
    refine ⟨b, off, rfl, hlt, fun i hi j v hv => ?_⟩
    rw [hget i hi] at hv
    have := (hfk i hi).1 j v hv
    rw [Addr.add_mid, Addr.add_mid] at this
    exact this
end
set_option maxRecDepth 100000 in
/-- A hash that came in. -/
theorem arrH1 {H : Type} {enc : TypeId × Value → H} {W : World} {base : Nat} {sp : Nat → Bool} {held : Bool} {r : Reach} {b0 : Nat} {v : Value} {d : DataW H} {ps : List MemPlace}
    (hv : Value.okWide Tryd.prog W r b0 47 v) (hd : DataW.Trod enc Tryd.prog W base sp held 47 v d ps) : ∃ l : List UInt8, v = .agg (l.map B8).toArray ∧ l.length = 32 := by
  obtain ⟨zs, hl, rfl, hw⟩ := open_arr Tryd.underlying47 Tryd.underlying5 (by kernel_rfl) (by kernel_rfl) hv hd
  obtain ⟨l, hl2, e⟩ := bytes_of_ints zs hw
  exact ⟨l, by rw [e], by omega⟩
end Go.Proofs.YtpoinhjkdgcnaaaDoor

/- A branch that came in, as it is read off the row's data. -/
namespace Go.Proofs.YtpoinhjkdgcnaaaDoor
open Go.RowKit Go.ChangeShapes Go.WideShapes Go.ChangeAt Go.Deep
set_option linter.unusedVariables false
set_option linter.unusedSimpArgs false

set_option maxRecDepth 100000 in
theorem list3 {α : Type} {l : List α} (h : l.length = 3) : ∃ a b c, l = [a, b, c] := by
  match l, h with
  | [a, b, c], _ => exact ⟨a, b, c, rfl⟩
section
variable {H : Type} {enc : TypeId × Value → H}
set_option maxRecDepth 100000 in
theorem cellsBI : Tryd.prog.cellsOf 3 = 1 := by kernel_rfl
set_option maxRecDepth 100000 in
theorem cellsBS : Tryd.prog.cellsOf 24 = 1 := by kernel_rfl
set_option maxRecDepth 100000 in
theorem cellsBB : Tryd.prog.cellsOf 26 = 3 := by kernel_rfl
set_option maxRecDepth 100000 in
theorem open_branch {W : World} {sp : Nat → Bool} {held : Bool} {r : Reach} {b0 : Nat} {v : Value} {d : DataW H} {ps : List MemPlace} (hv : Value.okWide Tryd.prog W r b0 26 v) (hd : DataW.Trod enc Tryd.prog W 0 sp held 26 v d ps) :
    ∃ (c i : Int) (A : Option Addr) (m cap : Nat), v = .agg #[.int .i64 c, .int .i64 i, .slice A m cap] ∧ ∃ L, (RdH W A m L ∧ m ≤ cap ∧ cap ≤ maxLen) ∧ (Lit.int .i64 c).wf = true ∧ (Lit.int .i64 i).wf = true := by
  simp only [Value.okWide, Tryd.underlying26] at hv
  obtain ⟨cs, rfl, hs, _⟩ := hv
  rw [cellsBB] at hs
  obtain ⟨fuel, hf⟩ := hd
  obtain ⟨c0, c1, c2, hl⟩ := list3 (show cs.toList.length = 3 by simpa using hs)
  have hcs : cs = #[c0, c1, c2] := by
    have := congrArg List.toArray hl
    simpa using this
  subst hcs
  obtain ⟨y0, y1, y2, n, _, _, t0, t1, t2⟩ := trod_struct3 Tryd.underlying26 hf
  simp only [cellsBI, cellsBS, Value.cells, List.drop, List.take] at t0 t1 t2
  obtain ⟨C, eC, _, wC⟩ := DataW.trod_int Tryd.underlying3 t0
  obtain ⟨I, eI, _, wI⟩ := DataW.trod_int Tryd.underlying3 t1
  injection eC with eC
  injection eI with eI
  subst eC eI
  obtain ⟨A, m, cap, rfl⟩ : ∃ A m cap, c2 = .slice A m cap := by
    rcases open_slice Tryd.underlying24 t2 with ⟨h, _⟩ | ⟨x, l, c, _, _, _, _, h, _⟩
    · injection h with h; exact ⟨_, _, _, h⟩
    · injection h with h; exact ⟨_, _, _, h⟩
  have hT : DataW.Trod enc Tryd.prog W 0 sp held 24 (.slice A m cap) y2.1 y2.2 := ⟨n, t2⟩
  obtain ⟨L, hL⟩ := open_hashes hT
  exact ⟨C, I, A, m, cap, rfl, L, hL, wC, wI⟩
set_option maxRecDepth 100000 in
theorem cellsBH : Tryd.prog.cellsOf 47 = 32 := by kernel_rfl
end
end Go.Proofs.YtpoinhjkdgcnaaaDoor

/- A case of layer 10 that came in, as it is read off the row's data. -/
namespace Go.Proofs.YtpoinhjkdgcnaaaDoor
open Go.RowKit Go.ChangeShapes Go.WideShapes Go.ChangeAt Go.Deep
set_option linter.unusedVariables false
set_option linter.unusedSimpArgs false

set_option maxRecDepth 100000 in
theorem list5 {α : Type} {l : List α} (h : l.length = 5) : ∃ a b c d e, l = [a, b, c, d, e] := by
  match l, h with
  | [a, b, c, d, e], _ => exact ⟨a, b, c, d, e, rfl⟩
section
variable {H : Type} {enc : TypeId × Value → H}
set_option maxRecDepth 100000 in
theorem cellsCL : Tryd.prog.cellsOf 22 = 1 := by kernel_rfl
set_option maxRecDepth 100000 in
theorem cellsCT : Tryd.prog.cellsOf 23 = 1 := by kernel_rfl
set_option maxRecDepth 100000 in
theorem cellsCC : Tryd.prog.cellsOf 28 = 5 := by kernel_rfl
set_option maxRecDepth 100000 in
theorem open_case {W : World} {held : Bool} {r : Reach} {b0 : Nat} {v : Value} {d : DataW H} {ps : List MemPlace} (hv : Value.okWide Tryd.prog W r b0 28 v) (hd : DataW.Trod enc Tryd.prog W 0 (fun _ => true) held 28 v d ps) :
    ∃ (AL AT AP : Option Addr) (n cL k cT m cP : Nat) (c i : Int), v = .agg #[.slice AL n cL, .slice AT k cT, .int .i64 c, .int .i64 i, .slice AP m cP] ∧ ∃ (T : List (List UInt8)) (x : List UInt8) (P : List (List UInt8)), (RdM W AL n T ∧ n ≤ cL ∧ cL ≤ maxLen) ∧ (Rd W AT k x ∧ k ≤ cT ∧ cT ≤ maxLen) ∧ (RdH W AP m P ∧ m ≤ cP ∧ cP ≤ maxLen) ∧ (Lit.int .i64 c).wf = true ∧ (Lit.int .i64 i).wf = true := by
  simp only [Value.okWide, Tryd.underlying28] at hv
  obtain ⟨cs, rfl, hs, _⟩ := hv
  rw [cellsCC] at hs
  obtain ⟨fuel, hf⟩ := hd
  obtain ⟨e0, e1, e2, e3, e4, hl⟩ := list5 (show cs.toList.length = 5 by simpa using hs)
  have hcs : cs = #[e0, e1, e2, e3, e4] := by
    have := congrArg List.toArray hl
    simpa using this
  subst hcs
  obtain ⟨y0, y1, y2, n, _, _, t0, t1, t2⟩ := trod_struct3 Tryd.underlying28 hf
  simp only [cellsCL, cellsCT, cellsBB, Value.cells, List.drop, List.take] at t0 t1 t2
  obtain ⟨z0, z1, z2, n2, _, _, u0, u1, u2⟩ := trod_struct3 Tryd.underlying26 t2
  simp only [cellsBI, cellsBS, Value.cells, List.drop, List.take] at u0 u1 u2
  obtain ⟨C, eC, _, wC⟩ := DataW.trod_int Tryd.underlying3 u0
  obtain ⟨I, eI, _, wI⟩ := DataW.trod_int Tryd.underlying3 u1
  injection eC with eC
  injection eI with eI
  subst eC eI
  obtain ⟨AP, m, cP, rfl⟩ : ∃ A m cap, e4 = .slice A m cap := by
    rcases open_slice Tryd.underlying24 u2 with ⟨h, _⟩ | ⟨x, l, c, _, _, _, _, h, _⟩
    · injection h with h; exact ⟨_, _, _, h⟩
    · injection h with h; exact ⟨_, _, _, h⟩
  have hTP : DataW.Trod enc Tryd.prog W 0 (fun _ => true) held 24 (.slice AP m cP) z2.1 z2.2 := ⟨n2, u2⟩
  obtain ⟨P, hP⟩ := open_hashes hTP
  obtain ⟨AL, nL, cL, rfl⟩ : ∃ A m cap, e0 = .slice A m cap := by
    rcases Go.Deep.open_int_rows Tryd.underlying22 Tryd.underlying23 Tryd.underlying5 (by kernel_rfl) (by kernel_rfl) t0 with ⟨h, _⟩ | ⟨x, l, c, AA, LL, CC, ZZ, h, _⟩
    · injection h with h; exact ⟨_, _, _, h⟩
    · injection h with h; exact ⟨_, _, _, h⟩
  obtain ⟨T, hT⟩ : ∃ T, RdM W AL nL T ∧ nL ≤ cL ∧ cL ≤ maxLen := by
    rcases Go.Deep.open_int_rows Tryd.underlying22 Tryd.underlying23 Tryd.underlying5 (by kernel_rfl) (by kernel_rfl) t0 with ⟨hcs, _⟩ | ⟨x, l, c, AA, LL, CC, ZZ, hcs, _, hl, hm, _, hrow⟩
    · injection hcs with hcs
      injection hcs with q1 q2 q3
      subst q1 q2 q3
      exact ⟨[], ⟨rfl, fun h => absurd h (by omega)⟩, by omega, by unfold maxLen; omega⟩
    · injection hcs with hcs
      injection hcs with q1 q2 q3
      subst q1 q2 q3
      obtain ⟨l, hr⟩ := rdm_rows hl hrow
      exact ⟨l, hr, hl, hm⟩
  obtain ⟨AT, k, cT, rfl⟩ : ∃ A m cap, e1 = .slice A m cap := by
    rcases open_ints Tryd.underlying23 Tryd.underlying5 (by kernel_rfl) t1 with ⟨h, _⟩ | ⟨x, l, c, zs, h, _⟩
    · injection h with h; exact ⟨_, _, _, h⟩
    · injection h with h; exact ⟨_, _, _, h⟩
  obtain ⟨x, hx⟩ : ∃ l, Rd W AT k l ∧ k ≤ cT ∧ cT ≤ maxLen := by
    rcases open_ints Tryd.underlying23 Tryd.underlying5 (by kernel_rfl) t1 with ⟨hcs, _⟩ | ⟨x, l, c, zs, hcs, _, hl, hm, hz, _, hcell, hwz⟩
    · injection hcs with hcs
      injection hcs with q1 q2 q3
      subst q1 q2 q3
      exact ⟨[], Rd.nil _ _, by omega, by unfold maxLen; omega⟩
    · injection hcs with hcs
      injection hcs with q1 q2 q3
      subst q1 q2 q3
      obtain ⟨l, hr⟩ := rd_ints (len := k) (cap := zs.length) hcell (by rw [hz]; split <;> omega) rfl hwz
      exact ⟨l, hr, hl, hm⟩
  exact ⟨AL, AT, AP, nL, cL, k, cT, m, cP, C, I, rfl, T, x, P, hT, hx, hP, wC, wI⟩
end
end Go.Proofs.YtpoinhjkdgcnaaaDoor
