/- Merged texts: MrkW BrnS. -/
import Derived.Test.YtnfcnjboeocnmaaDoorMbd
import Derived.Deep.RegionHeld3
import Derived.Test.YtnfcnjboeocnmaaDoorMbk
import Derived.Test.YtnfcnjboeocnmaaDoorMbl
/- The contract of layer 8's awake. -/
namespace Go.Proofs.YtnfcnjboeocnmaaDoor
open Go.RowKit
set_option linter.unusedVariables false
set_option linter.unusedSimpArgs false

set_option maxRecDepth 100000 in
theorem RdH.one {W : World} {g : Nat} {a : List UInt8} {e : TypeId} (ha : a.length = 32) (hb : Blk W g (a.map B8) e) : RdH W (some ⟨g, 0, none⟩) 1 [a] :=
  ⟨rfl, fun h hh => by simp at hh; rw [hh]; exact ha, fun _ => ⟨g, 0, rfl, hb.lt, fun i hi j v hv => by
    have : i = 0 := by omega
    subst this
    rw [hb.cell]
    simpa [hat] using hv⟩⟩
set_option maxRecDepth 100000 in
theorem RdH.two {W : World} {g : Nat} {a b : List UInt8} {e : TypeId} (ha : a.length = 32) (hb' : b.length = 32) (hb : Blk W g (a.map B8 ++ b.map B8) e) : RdH W (some ⟨g, 0, none⟩) 2 [a, b] :=
  ⟨rfl, fun h hh => by simp at hh; rcases hh with rfl | rfl; exact ha; exact hb', fun _ => ⟨g, 0, rfl, hb.lt, fun i hi j v hv => by
    rcases (show i = 0 ∨ i = 1 by omega) with rfl | rfl
    · rw [hb.cell]
      have hj : j < (a.map B8).length := by have := (List.getElem?_eq_some_iff.1 hv).1; simpa [hat] using this
      rw [List.getElem?_append_left (by omega)]
      simpa [hat] using hv
    · rw [hb.cell]
      rw [List.getElem?_append_right (by simp [ha]), List.length_map, ha, show 0 + 1 * 32 + j - 32 = j from by omega]
      simpa [hat] using hv⟩⟩
set_option maxRecDepth 100000 in
theorem run_bs2 {P : Program} (t e : TypeId) (ht : P.underlying t = some (.slice e)) (hinfo : (P.info? e).map (fun i => (i.zero, i.size, i.bytes)) = some (some (.agg z32.toArray), 32, 32)) (V U : List Value) (hV : V.length = 32) (hU : U.length = 32) (W : World) :
    (Instr.buildSlice t 2 #[(0, .agg V.toArray), (1, .agg U.toArray)]).run P W = .ok (.slice (some ⟨W.heap.size, 0, none⟩) 2 2) (W.alloc (.cells (V ++ U).toArray e)) := by
  obtain ⟨i, hi, hzz⟩ := Option.map_eq_some_iff.1 hinfo
  simp only [Prod.mk.injEq] at hzz
  obtain ⟨hz, hsz, _⟩ := hzz
  refine run_buildSlice W t e 2 _ (V ++ U).toArray i (.agg z32.toArray) ht hi hz (by rw [hsz]; decide) (by rw [hsz]; decide) ?_
  rw [hsz]
  have hz0 : (Array.range (2 * 32)).map ((Value.agg z32.toArray).cells[· % (Value.agg z32.toArray).cells.size]!) = (z32 ++ z32).toArray := by kernel_rfl
  rw [hz0]
  show Instr.fill (fun i => some (i * 32, 32)) (z32 ++ z32).toArray [(0, .agg V.toArray), (1, .agg U.toArray)] = some (V ++ U).toArray
  have e1 : over (z32 ++ z32) 0 V = V ++ z32 := by
    unfold over
    rw [List.take_zero, List.nil_append, Nat.zero_add, hV, List.drop_left' (by rfl)]
  have e2 : over (V ++ z32) 32 U = V ++ U := by
    unfold over
    rw [List.take_left' hV, hU, List.drop_of_length_le (by rw [List.length_append, hV]; decide), List.append_nil]
  rw [fill_step _ (z32 ++ z32) V 0 0 _ _ (by rw [hV]) rfl (by rw [hV]; decide), e1, fill_step _ (V ++ z32) U 1 32 _ _ (by rw [hU]) rfl (by rw [hU, List.length_append, hV]; decide), e2]
  rfl
set_option maxRecDepth 100000 in
theorem at_bldP {P : Program} {ops : Array Oper} {rest : List Oper} {Q : Exit → Act → World → Prop} {a : Act} {w : World} {dst : Option Tmp} {t : TypeId} {p : String} {af : Array Edge} (ty : TypeId) (parts : Array (Nat × Operand))
    (h : wpList P ops Q ({ dst := dst, op := .build ty parts, type := t, pos := p, after := af, guard := none } :: rest) a w) : wpList P ops Q ({ dst := dst, op := .build ty parts, type := t, pos := p, after := af, guard := none } :: rest) a w := h
def h1a : List UInt8 := 1 :: List.replicate 31 0
def h2a : List UInt8 := 2 :: List.replicate 31 0
set_option maxRecDepth 100000 in
theorem depth5 : depth (5 : Int).toNat = 3 := depth_is 5 3 (by decide) (.inr (by decide))
set_option maxRecDepth 100000 in
theorem root2 (a b : List UInt8) : rootH [a, b] = pr a b := by
  rw [← rootH_abv [a, b] (by simp)]
  exact rootH_one _
set_option maxRecDepth 100000 in
theorem dbl2 (a : List UInt8) : dbl [a, a] = true := dbl_true [a, a] 0 (by rw [show ([a, a] : List (List UInt8)).length = 2 from rfl, depth_big 2 (by omega)]; omega) (pairs_true _ 0 (by simp [lev]) rfl)
end Go.Proofs.YtnfcnjboeocnmaaDoor

/- Layer 9: a made branch is checked; three hashes laid as a slice. -/
namespace Go.Proofs.YtnfcnjboeocnmaaDoor
open Go.RowKit
set_option linter.unusedVariables false
set_option linter.unusedSimpArgs false

set_option maxRecDepth 100000 in
theorem rgt_made (L : List (List UInt8)) (i : Nat) (hi : i < L.length) (h6 : L.length ≤ 65536) (m : Nat) (hm : m = depth L.length) : rgt (L.length : Int) (i : Int) m = 0 := by
  unfold rgt
  rw [if_neg (by omega), if_neg (by rw [Int.toNat_natCast]; simp [hm])]
set_option maxRecDepth 100000 in
theorem upE_made (L : List (List UInt8)) (i : Nat) (hi : i < L.length) (h6 : L.length ≤ 65536) (hd : dbl L = false) : upE (L.length : Int) (i : Int) (pth L i (depth L.length)) (hat L i) = (rootH L, 0) := by
  unfold upE
  rw [if_neg (by rw [rgt_made L i hi h6 _ (pth_len _ _ _)]; simp), Int.toNat_natCast, Int.toNat_natCast, made_up L i hi hd]
set_option maxRecDepth 100000 in
theorem chk_made (L : List (List UInt8)) (i : Nat) (hi : i < L.length) (h6 : L.length ≤ 65536) (hd : dbl L = false) : chk (L.length : Int) (i : Int) (pth L i (depth L.length)) (rootH L) (hat L i) = 0 := by
  unfold chk
  rw [upE_made L i hi h6 hd]
  simp
def h3a : List UInt8 := 3 :: List.replicate 31 0
set_option maxRecDepth 100000 in
theorem pr_apart : pr h1a h2a ≠ pr h3a h3a := by decide +kernel
set_option maxRecDepth 100000 in
theorem depth3 : depth 3 = 2 := depth_is 3 2 (by decide) (.inr (by decide))
set_option maxRecDepth 100000 in
theorem dbl3 : dbl [h1a, h2a, h3a] = false := dbl_false _ (fun k hk => by
  have hk2 : k < 2 := by
    have : k < depth 3 := hk
    rw [depth3] at this
    exact this
  rcases (show k = 0 ∨ k = 1 by omega) with rfl | rfl
  · refine pairs_false _ fun i hi => ?_
    have : i = 0 := by have h : 2 * i + 1 < 3 := hi; omega
    subst this
    show h1a ≠ h2a
    decide
  · refine pairs_false _ fun i hi => ?_
    have : i = 0 := by have h : 2 * i + 1 < 2 := hi; omega
    subst this
    exact pr_apart)
set_option maxRecDepth 100000 in
theorem pth3 : pth [h1a, h2a, h3a] 2 2 = [h3a, pr h1a h2a] := by
  rw [pth_succ, pth_succ]
  rfl
set_option maxRecDepth 100000 in
theorem run_bs3 {P : Program} (t e : TypeId) (ht : P.underlying t = some (.slice e)) (hinfo : (P.info? e).map (fun i => (i.zero, i.size, i.bytes)) = some (some (.agg z32.toArray), 32, 32)) (V U X : List Value) (hV : V.length = 32) (hU : U.length = 32) (hX : X.length = 32) (W : World) :
    (Instr.buildSlice t 3 #[(0, .agg V.toArray), (1, .agg U.toArray), (2, .agg X.toArray)]).run P W = .ok (.slice (some ⟨W.heap.size, 0, none⟩) 3 3) (W.alloc (.cells (V ++ U ++ X).toArray e)) := by
  obtain ⟨i, hi, hzz⟩ := Option.map_eq_some_iff.1 hinfo
  simp only [Prod.mk.injEq] at hzz
  obtain ⟨hz, hsz, _⟩ := hzz
  refine run_buildSlice W t e 3 _ (V ++ U ++ X).toArray i (.agg z32.toArray) ht hi hz (by rw [hsz]; decide) (by rw [hsz]; decide) ?_
  rw [hsz]
  have hz0 : (Array.range (3 * 32)).map ((Value.agg z32.toArray).cells[· % (Value.agg z32.toArray).cells.size]!) = (z32 ++ z32 ++ z32).toArray := by kernel_rfl
  rw [hz0]
  show Instr.fill (fun i => some (i * 32, 32)) (z32 ++ z32 ++ z32).toArray [(0, .agg V.toArray), (1, .agg U.toArray), (2, .agg X.toArray)] = some (V ++ U ++ X).toArray
  have lz : z32.length = 32 := rfl
  have e1 : over (z32 ++ z32 ++ z32) 0 V = V ++ z32 ++ z32 := by
    unfold over
    rw [List.take_zero, List.nil_append, Nat.zero_add, hV, List.append_assoc, List.drop_left' lz, List.append_assoc]
  have e2 : over (V ++ z32 ++ z32) 32 U = V ++ U ++ z32 := by
    have t1 : (V ++ z32 ++ z32).take 32 = V := by rw [List.append_assoc]; exact List.take_left' hV
    have t2 : (V ++ z32 ++ z32).drop (32 + U.length) = z32 := by rw [hU]; exact List.drop_left' (by rw [List.length_append, hV, lz])
    unfold over
    rw [t1, t2]
  have e3 : over (V ++ U ++ z32) 64 X = V ++ U ++ X := by
    unfold over
    rw [List.take_left' (by rw [List.length_append, hV, hU]), hX, List.drop_of_length_le (by rw [List.length_append, List.length_append, hV, hU, lz]; omega), List.append_nil]
  rw [fill_step _ (z32 ++ z32 ++ z32) V 0 0 _ _ (by rw [hV]) rfl (by rw [hV]; decide), e1, fill_step _ (V ++ z32 ++ z32) U 1 32 _ _ (by rw [hU]) rfl (by rw [hU, List.length_append, List.length_append, hV, lz]; omega), e2,
    fill_step _ (V ++ U ++ z32) X 2 64 _ _ (by rw [hX]) rfl (by rw [hX, List.length_append, List.length_append, hV, hU, lz]; omega), e3]
  rfl
set_option maxRecDepth 100000 in
theorem at_bsP {P : Program} {ops : Array Oper} {rest : List Oper} {Q : Exit → Act → World → Prop} {a : Act} {w : World} {dst : Option Tmp} {t : TypeId} {p : String} {af : Array Edge} (ty : TypeId) (k : Nat) (parts : Array (Nat × Operand))
    (h : wpList P ops Q ({ dst := dst, op := .buildSlice ty k parts, type := t, pos := p, after := af, guard := none } :: rest) a w) : wpList P ops Q ({ dst := dst, op := .buildSlice ty k parts, type := t, pos := p, after := af, guard := none } :: rest) a w := h
set_option maxRecDepth 100000 in
theorem wpList_bs3 {ops : Array Oper} {rest : List Oper} {o : Oper} {a : Act} {W : World} {Q : Exit → Act → World → Prop} (hgd : o.guard = none) (x y z : Operand) (ho : o.op = .buildSlice 22 3 #[(0, x), (1, y), (2, z)]) (V U X : List Value) (hx : a.eval x = .agg V.toArray) (hy : a.eval y = .agg U.toArray) (hz : a.eval z = .agg X.toArray) (hV : V.length = 32) (hU : U.length = 32) (hX : X.length = 32)
    (h : ∀ g w', Blk w' g (V ++ U ++ X) 35 → W.heap.size ≤ g → Below W.heap.size W w' → wpList Tryd.prog ops Q rest (a.put o.dst (.slice (some ⟨g, 0, none⟩) 3 3)) w') : wpList Tryd.prog ops Q (o :: rest) a W := by
  refine wpList_plain hgd fun _ hK => ?_
  unfold Oper.wp execOp
  simp only [ho, List.map_toArray, List.map_cons, List.map_nil, hx, hy, hz, Sem.run_bind, run_bs3 22 35 Tryd.underlying22 infoG V U X hV hU hX W, Result.andThen_ok]
  exact hK _ _ (h W.heap.size _ (Blk.new W _ _) (Nat.le_refl _) ((Below.refl _ W).alloc (Nat.le_refl _) _))
set_option maxRecDepth 100000 in
/-- Three hashes, laid side by side. -/
theorem RdH.three {W : World} {g : Nat} {a b d : List UInt8} {e : TypeId} (ha : a.length = 32) (hb' : b.length = 32) (hd : d.length = 32) (hb : Blk W g (a.map B8 ++ b.map B8 ++ d.map B8) e) : RdH W (some ⟨g, 0, none⟩) 3 [a, b, d] :=
  ⟨rfl, fun h hh => by simp at hh; rcases hh with rfl | rfl | rfl; exact ha; exact hb'; exact hd, fun _ => ⟨g, 0, rfl, hb.lt, fun i hi j v hv => by
    have hla : (a.map B8).length = 32 := by simp [ha]
    have hlb : (b.map B8).length = 32 := by simp [hb']
    rcases (show i = 0 ∨ i = 1 ∨ i = 2 by omega) with rfl | rfl | rfl
    · rw [hb.cell]
      have hj : j < (a.map B8).length := by have := (List.getElem?_eq_some_iff.1 hv).1; simpa [hat] using this
      rw [List.append_assoc, List.getElem?_append_left (by omega)]
      simpa [hat] using hv
    · rw [hb.cell]
      have hj : j < (b.map B8).length := by have := (List.getElem?_eq_some_iff.1 hv).1; simpa [hat] using this
      rw [List.append_assoc, List.getElem?_append_right (by omega), hla, show 0 + 1 * 32 + j - 32 = j from by omega, List.getElem?_append_left hj]
      simpa [hat] using hv
    · rw [hb.cell, List.getElem?_append_right (by rw [List.length_append]; omega), List.length_append, hla, hlb, show 0 + 2 * 32 + j - (32 + 32) = j from by omega]
      simpa [hat] using hv⟩⟩
end Go.Proofs.YtnfcnjboeocnmaaDoor
