/- Merged texts: BrnR MrkW BrnS ClaM. -/
import Derived.Test.YtpoinhjkdgcnaaaDoorMay
import Derived.Test.YtpoinhjkdgcnaaaDoorMaw
import Derived.Test.YtpoinhjkdgcnaaaDoorMav
import Derived.Deep.RegionHeld3
import Derived.Test.YtpoinhjkdgcnaaaDoorMaz
import Derived.Test.YtpoinhjkdgcnaaaDoorMau
/- The contract of package branch's Make. -/
namespace Go.Proofs.YtpoinhjkdgcnaaaDoor
open Go.RowKit
set_option linter.unusedVariables false
set_option linter.unusedSimpArgs false

set_option maxRecDepth 100000 in
theorem Z3b : (Tryd.prog.info? 26).map (·.zero) = some (some (.agg #[.int .i64 0, .int .i64 0, .slice none 0 0])) := by kernel_rfl
set_option maxRecDepth 100000 in
theorem I3b : (Tryd.prog.info? 26).map (·.size) = some 3 := by kernel_rfl
set_option maxRecDepth 100000 in
theorem OwnH.blklt {w : World} {b n c g : Nat} {e : TypeId} {A : Option Addr} {L : List (List UInt8)} (h : OwnH w b e A n c L) (hg : blkOf A = some g) : g < w.heap.size := by
  rcases h.2.2.2 with ⟨hv, _⟩ | ⟨g', cap, cur, hv, hb, hr, _⟩
  · injection hv with e1; rw [e1] at hg; simp [blkOf] at hg
  · injection hv with e1
    rw [e1] at hg
    have : g' = g := by simpa [blkOf] using hg
    have := (Array.getElem?_eq_some_iff.1 hr).1
    omega
set_option maxRecDepth 100000 in
theorem wide_less (n k : Nat) (h : 1 < wide n k) : k < depth n := by
  rcases Nat.lt_or_ge k (depth n) with h1 | h1
  · exact h1
  · exfalso
    have h2 : ∀ d, wide n (depth n + d) ≤ 1 := fun d => by
      induction d with
      | zero => exact wide_end n
      | succ d ih =>
        show (wide n (depth n + d) + 1) / 2 ≤ 1
        omega
    have := h2 (k - depth n)
    rw [show depth n + (k - depth n) = k by omega] at this
    omega
end Go.Proofs.YtpoinhjkdgcnaaaDoor

/- The contract of layer 8's awake. -/
namespace Go.Proofs.YtpoinhjkdgcnaaaDoor
open Go.RowKit
set_option linter.unusedVariables false
set_option linter.unusedSimpArgs false

set_option maxRecDepth 100000 in
theorem RdH.one {W : World} {g : Nat} {a : List UInt8} {e : TypeId} (ha : a.length = 32) (hb : Blk W g (a.map B8) e) : RdH W (some ⟨g, 0, none⟩) 1 [a] :=
  ⟨rfl, fun h hh => by simp at hh; rw [hh]; exact ha, fun _ => ⟨g, 0, rfl, hb.lt, fun i hi j v hv => by
    have : i = 0 := by omega
    subst this
    rw [hb.cell]
    simpa [hat] using hv⟩⟩
set_option maxRecDepth 100000 in
theorem RdH.two {W : World} {g : Nat} {a b : List UInt8} {e : TypeId} (ha : a.length = 32) (hb' : b.length = 32) (hb : Blk W g (a.map B8 ++ b.map B8) e) : RdH W (some ⟨g, 0, none⟩) 2 [a, b] :=
  ⟨rfl, fun h hh => by simp at hh; rcases hh with rfl | rfl; exact ha; exact hb', fun _ => ⟨g, 0, rfl, hb.lt, fun i hi j v hv => by
    rcases (show i = 0 ∨ i = 1 by omega) with rfl | rfl
    · rw [hb.cell]
      have hj : j < (a.map B8).length := by have := (List.getElem?_eq_some_iff.1 hv).1; simpa [hat] using this
      rw [List.getElem?_append_left (by omega)]
      simpa [hat] using hv
    · rw [hb.cell]
      rw [List.getElem?_append_right (by simp [ha]), List.length_map, ha, show 0 + 1 * 32 + j - 32 = j from by omega]
      simpa [hat] using hv⟩⟩
set_option maxRecDepth 100000 in
theorem run_bs2 {P : Program} (t e : TypeId) (ht : P.underlying t = some (.slice e)) (hinfo : (P.info? e).map (fun i => (i.zero, i.size, i.bytes)) = some (some (.agg z32.toArray), 32, 32)) (V U : List Value) (hV : V.length = 32) (hU : U.length = 32) (W : World) :
    (Instr.buildSlice t 2 #[(0, .agg V.toArray), (1, .agg U.toArray)]).run P W = .ok (.slice (some ⟨W.heap.size, 0, none⟩) 2 2) (W.alloc (.cells (V ++ U).toArray e)) := by
  obtain ⟨i, hi, hzz⟩ := Option.map_eq_some_iff.1 hinfo
  simp only [Prod.mk.injEq] at hzz
  obtain ⟨hz, hsz, _⟩ := hzz
  refine run_buildSlice W t e 2 _ (V ++ U).toArray i (.agg z32.toArray) ht hi hz (by rw [hsz]; decide) (by rw [hsz]; decide) ?_
  rw [hsz]
  have hz0 : (Array.range (2 * 32)).map ((Value.agg z32.toArray).cells[· % (Value.agg z32.toArray).cells.size]!) = (z32 ++ z32).toArray := by kernel_rfl
  rw [hz0]
  show Instr.fill (fun i => some (i * 32, 32)) (z32 ++ z32).toArray [(0, .agg V.toArray), (1, .agg U.toArray)] = some (V ++ U).toArray
  have e1 : over (z32 ++ z32) 0 V = V ++ z32 := by
    unfold over
    rw [List.take_zero, List.nil_append, Nat.zero_add, hV, List.drop_left' (by rfl)]
  have e2 : over (V ++ z32) 32 U = V ++ U := by
    unfold over
    rw [List.take_left' hV, hU, List.drop_of_length_le (by rw [List.length_append, hV]; decide), List.append_nil]
  rw [fill_step _ (z32 ++ z32) V 0 0 _ _ (by rw [hV]) rfl (by rw [hV]; decide), e1, fill_step _ (V ++ z32) U 1 32 _ _ (by rw [hU]) rfl (by rw [hU, List.length_append, hV]; decide), e2]
  rfl
set_option maxRecDepth 100000 in
theorem at_bldP {P : Program} {ops : Array Oper} {rest : List Oper} {Q : Exit → Act → World → Prop} {a : Act} {w : World} {dst : Option Tmp} {t : TypeId} {p : String} {af : Array Edge} (ty : TypeId) (parts : Array (Nat × Operand))
    (h : wpList P ops Q ({ dst := dst, op := .build ty parts, type := t, pos := p, after := af, guard := none } :: rest) a w) : wpList P ops Q ({ dst := dst, op := .build ty parts, type := t, pos := p, after := af, guard := none } :: rest) a w := h
def h1a : List UInt8 := 1 :: List.replicate 31 0
def h2a : List UInt8 := 2 :: List.replicate 31 0
set_option maxRecDepth 100000 in
theorem depth5 : depth (5 : Int).toNat = 3 := depth_is 5 3 (by decide) (.inr (by decide))
set_option maxRecDepth 100000 in
theorem root2 (a b : List UInt8) : rootH [a, b] = pr a b := by
  rw [← rootH_abv [a, b] (by simp)]
  exact rootH_one _
set_option maxRecDepth 100000 in
theorem dbl2 (a : List UInt8) : dbl [a, a] = true := dbl_true [a, a] 0 (by rw [show ([a, a] : List (List UInt8)).length = 2 from rfl, depth_big 2 (by omega)]; omega) (pairs_true _ 0 (by simp [lev]) rfl)
end Go.Proofs.YtpoinhjkdgcnaaaDoor

/- Layer 9: a made branch is checked; three hashes laid as a slice. -/
namespace Go.Proofs.YtpoinhjkdgcnaaaDoor
open Go.RowKit
set_option linter.unusedVariables false
set_option linter.unusedSimpArgs false

set_option maxRecDepth 100000 in
theorem rgt_made (L : List (List UInt8)) (i : Nat) (hi : i < L.length) (h6 : L.length ≤ 65536) (m : Nat) (hm : m = depth L.length) : rgt (L.length : Int) (i : Int) m = 0 := by
  unfold rgt
  rw [if_neg (by omega), if_neg (by rw [Int.toNat_natCast]; simp [hm])]
set_option maxRecDepth 100000 in
theorem upE_made (L : List (List UInt8)) (i : Nat) (hi : i < L.length) (h6 : L.length ≤ 65536) (hd : dbl L = false) : upE (L.length : Int) (i : Int) (pth L i (depth L.length)) (hat L i) = (rootH L, 0) := by
  unfold upE
  rw [if_neg (by rw [rgt_made L i hi h6 _ (pth_len _ _ _)]; simp), Int.toNat_natCast, Int.toNat_natCast, made_up L i hi hd]
set_option maxRecDepth 100000 in
theorem chk_made (L : List (List UInt8)) (i : Nat) (hi : i < L.length) (h6 : L.length ≤ 65536) (hd : dbl L = false) : chk (L.length : Int) (i : Int) (pth L i (depth L.length)) (rootH L) (hat L i) = 0 := by
  unfold chk
  rw [upE_made L i hi h6 hd]
  simp
def h3a : List UInt8 := 3 :: List.replicate 31 0
set_option maxRecDepth 100000 in
theorem pr_apart : pr h1a h2a ≠ pr h3a h3a := by decide +kernel
set_option maxRecDepth 100000 in
theorem depth3 : depth 3 = 2 := depth_is 3 2 (by decide) (.inr (by decide))
set_option maxRecDepth 100000 in
theorem dbl3 : dbl [h1a, h2a, h3a] = false := dbl_false _ (fun k hk => by
  have hk2 : k < 2 := by
    have : k < depth 3 := hk
    rw [depth3] at this
    exact this
  rcases (show k = 0 ∨ k = 1 by omega) with rfl | rfl
  · refine pairs_false _ fun i hi => ?_
    have : i = 0 := by have h : 2 * i + 1 < 3 := hi; omega
    subst this
    show h1a ≠ h2a
    decide
  · refine pairs_false _ fun i hi => ?_
    have : i = 0 := by have h : 2 * i + 1 < 2 := hi; omega
    subst this
    exact pr_apart)
set_option maxRecDepth 100000 in
theorem pth3 : pth [h1a, h2a, h3a] 2 2 = [h3a, pr h1a h2a] := by
  rw [pth_succ, pth_succ]
  rfl
set_option maxRecDepth 100000 in
theorem run_bs3 {P : Program} (t e : TypeId) (ht : P.underlying t = some (.slice e)) (hinfo : (P.info? e).map (fun i => (i.zero, i.size, i.bytes)) = some (some (.agg z32.toArray), 32, 32)) (V U X : List Value) (hV : V.length = 32) (hU : U.length = 32) (hX : X.length = 32) (W : World) :
    (Instr.buildSlice t 3 #[(0, .agg V.toArray), (1, .agg U.toArray), (2, .agg X.toArray)]).run P W = .ok (.slice (some ⟨W.heap.size, 0, none⟩) 3 3) (W.alloc (.cells (V ++ U ++ X).toArray e)) := by
  obtain ⟨i, hi, hzz⟩ := Option.map_eq_some_iff.1 hinfo
  simp only [Prod.mk.injEq] at hzz
  obtain ⟨hz, hsz, _⟩ := hzz
  refine run_buildSlice W t e 3 _ (V ++ U ++ X).toArray i (.agg z32.toArray) ht hi hz (by rw [hsz]; decide) (by rw [hsz]; decide) ?_
  rw [hsz]
  have hz0 : (Array.range (3 * 32)).map ((Value.agg z32.toArray).cells[· % (Value.agg z32.toArray).cells.size]!) = (z32 ++ z32 ++ z32).toArray := by kernel_rfl
  rw [hz0]
  show Instr.fill (fun i => some (i * 32, 32)) (z32 ++ z32 ++ z32).toArray [(0, .agg V.toArray), (1, .agg U.toArray), (2, .agg X.toArray)] = some (V ++ U ++ X).toArray
  have lz : z32.length = 32 := rfl
  have e1 : over (z32 ++ z32 ++ z32) 0 V = V ++ z32 ++ z32 := by
    unfold over
    rw [List.take_zero, List.nil_append, Nat.zero_add, hV, List.append_assoc, List.drop_left' lz, List.append_assoc]
  have e2 : over (V ++ z32 ++ z32) 32 U = V ++ U ++ z32 := by
    have t1 : (V ++ z32 ++ z32).take 32 = V := by rw [List.append_assoc]; exact List.take_left' hV
    have t2 : (V ++ z32 ++ z32).drop (32 + U.length) = z32 := by rw [hU]; exact List.drop_left' (by rw [List.length_append, hV, lz])
    unfold over
    rw [t1, t2]
  have e3 : over (V ++ U ++ z32) 64 X = V ++ U ++ X := by
    unfold over
    rw [List.take_left' (by rw [List.length_append, hV, hU]), hX, List.drop_of_length_le (by rw [List.length_append, List.length_append, hV, hU, lz]; omega), List.append_nil]
  rw [fill_step _ (z32 ++ z32 ++ z32) V 0 0 _ _ (by rw [hV]) rfl (by rw [hV]; decide), e1, fill_step _ (V ++ z32 ++ z32) U 1 32 _ _ (by rw [hU]) rfl (by rw [hU, List.length_append, List.length_append, hV, lz]; omega), e2,
    fill_step _ (V ++ U ++ z32) X 2 64 _ _ (by rw [hX]) rfl (by rw [hX, List.length_append, List.length_append, hV, hU, lz]; omega), e3]
  rfl
set_option maxRecDepth 100000 in
theorem at_bsP {P : Program} {ops : Array Oper} {rest : List Oper} {Q : Exit → Act → World → Prop} {a : Act} {w : World} {dst : Option Tmp} {t : TypeId} {p : String} {af : Array Edge} (ty : TypeId) (k : Nat) (parts : Array (Nat × Operand))
    (h : wpList P ops Q ({ dst := dst, op := .buildSlice ty k parts, type := t, pos := p, after := af, guard := none } :: rest) a w) : wpList P ops Q ({ dst := dst, op := .buildSlice ty k parts, type := t, pos := p, after := af, guard := none } :: rest) a w := h
set_option maxRecDepth 100000 in
theorem wpList_bs3 {ops : Array Oper} {rest : List Oper} {o : Oper} {a : Act} {W : World} {Q : Exit → Act → World → Prop} (hgd : o.guard = none) (x y z : Operand) (ho : o.op = .buildSlice 24 3 #[(0, x), (1, y), (2, z)]) (V U X : List Value) (hx : a.eval x = .agg V.toArray) (hy : a.eval y = .agg U.toArray) (hz : a.eval z = .agg X.toArray) (hV : V.length = 32) (hU : U.length = 32) (hX : X.length = 32)
    (h : ∀ g w', Blk w' g (V ++ U ++ X) 47 → W.heap.size ≤ g → Below W.heap.size W w' → wpList Tryd.prog ops Q rest (a.put o.dst (.slice (some ⟨g, 0, none⟩) 3 3)) w') : wpList Tryd.prog ops Q (o :: rest) a W := by
  refine wpList_plain hgd fun _ hK => ?_
  unfold Oper.wp execOp
  simp only [ho, List.map_toArray, List.map_cons, List.map_nil, hx, hy, hz, Sem.run_bind, run_bs3 24 47 Tryd.underlying24 infoG V U X hV hU hX W, Result.andThen_ok]
  exact hK _ _ (h W.heap.size _ (Blk.new W _ _) (Nat.le_refl _) ((Below.refl _ W).alloc (Nat.le_refl _) _))
set_option maxRecDepth 100000 in
/-- Three hashes, laid side by side. -/
theorem RdH.three {W : World} {g : Nat} {a b d : List UInt8} {e : TypeId} (ha : a.length = 32) (hb' : b.length = 32) (hd : d.length = 32) (hb : Blk W g (a.map B8 ++ b.map B8 ++ d.map B8) e) : RdH W (some ⟨g, 0, none⟩) 3 [a, b, d] :=
  ⟨rfl, fun h hh => by simp at hh; rcases hh with rfl | rfl | rfl; exact ha; exact hb'; exact hd, fun _ => ⟨g, 0, rfl, hb.lt, fun i hi j v hv => by
    have hla : (a.map B8).length = 32 := by simp [ha]
    have hlb : (b.map B8).length = 32 := by simp [hb']
    rcases (show i = 0 ∨ i = 1 ∨ i = 2 by omega) with rfl | rfl | rfl
    · rw [hb.cell]
      have hj : j < (a.map B8).length := by have := (List.getElem?_eq_some_iff.1 hv).1; simpa [hat] using this
      rw [List.append_assoc, List.getElem?_append_left (by omega)]
      simpa [hat] using hv
    · rw [hb.cell]
      have hj : j < (b.map B8).length := by have := (List.getElem?_eq_some_iff.1 hv).1; simpa [hat] using this
      rw [List.append_assoc, List.getElem?_append_right (by omega), hla, show 0 + 1 * 32 + j - 32 = j from by omega, List.getElem?_append_left hj]
      simpa [hat] using hv
    · rw [hb.cell, List.getElem?_append_right (by rw [List.length_append]; omega), List.length_append, hla, hlb, show 0 + 2 * 32 + j - (32 + 32) = j from by omega]
      simpa [hat] using hv⟩⟩
end Go.Proofs.YtpoinhjkdgcnaaaDoor

/- Plain mathematics of layer 10: the texts of a list and of a claim; a clash, or the text stands in the list. -/
namespace Go.Proofs.YtpoinhjkdgcnaaaDoor
set_option linter.unusedVariables false

/-- The double sum of a text. -/
def ds (t : List UInt8) : List UInt8 := sha (sha t)
set_option maxRecDepth 100000 in
theorem ds_len (t : List UInt8) : (ds t).length = 32 := sha_len _
/-- The double sums of a list of texts. -/
def sums (T : List (List UInt8)) : List (List UInt8) := T.map ds
set_option maxRecDepth 100000 in
theorem sums_len (T : List (List UInt8)) : (sums T).length = T.length := List.length_map _
set_option maxRecDepth 100000 in
theorem sums_32 (T : List (List UInt8)) : ∀ h ∈ sums T, h.length = 32 := fun h hh => by
  obtain ⟨t, _, rfl⟩ := List.mem_map.1 hh
  exact ds_len t
set_option maxRecDepth 100000 in
theorem sums_at (T : List (List UInt8)) (i : Nat) (h : i < T.length) : hat (sums T) i = ds (hat T i) := by
  unfold hat sums
  rw [List.getD_eq_getElem?_getD, List.getD_eq_getElem?_getD, List.getElem?_map, List.getElem?_eq_getElem h]
  rfl
/-- The 64 bytes of node j of level k + 1. -/
def tn (S : List (List UInt8)) (k j : Nat) : List UInt8 := hat (lev k S) (2 * j) ++ hat (lev k S) (beside (wide S.length k) j)
set_option maxRecDepth 100000 in
theorem beside_lt (n j : Nat) (h : j < (n + 1) / 2) : beside n j < n := by unfold beside; split <;> omega
set_option maxRecDepth 100000 in
theorem tn_len (S : List (List UInt8)) (hS : ∀ h ∈ S, h.length = 32) (k j : Nat) (h : j < wide S.length (k + 1)) : (tn S k j).length = 64 := by
  have hw : j < (wide S.length k + 1) / 2 := h
  have h1 := beside_lt _ _ hw
  unfold tn
  rw [List.length_append, hat_32 (lev_32 S hS k) (by rw [lev_len]; omega), hat_32 (lev_32 S hS k) (by rw [lev_len]; exact h1)]
set_option maxRecDepth 100000 in
theorem tn_ds (S : List (List UInt8)) (k j : Nat) (h : j < wide S.length (k + 1)) : ds (tn S k j) = hat (lev (k + 1) S) j := by
  have hw : j < (wide S.length k + 1) / 2 := h
  have := abv_at (lev k S) j (by rw [lev_len]; exact hw)
  rw [lev_len] at this
  exact this.symm
/-- The texts of level k + 1. -/
def tlev (S : List (List UInt8)) (k : Nat) : List (List UInt8) := (List.range (wide S.length (k + 1))).map (tn S k)
/-- The texts of a list. -/
def txs (T : List (List UInt8)) : List (List UInt8) := T ++ ((List.range (depth T.length)).map (tlev (sums T))).flatten
set_option maxRecDepth 100000 in
theorem txs_leaf (T : List (List UInt8)) (i : Nat) (h : i < T.length) : hat T i ∈ txs T := by
  unfold txs hat
  rw [List.getD_eq_getElem?_getD, List.getElem?_eq_getElem h]
  exact List.mem_append_left _ (List.getElem_mem h)
set_option maxRecDepth 100000 in
theorem txs_node (T : List (List UInt8)) (k j : Nat) (hk : k < depth T.length) (hj : j < wide T.length (k + 1)) : tn (sums T) k j ∈ txs T := by
  unfold txs
  refine List.mem_append_right _ (List.mem_flatten.2 ⟨tlev (sums T) k, List.mem_map.2 ⟨k, List.mem_range.2 hk, rfl⟩, ?_⟩)
  exact List.mem_map.2 ⟨j, List.mem_range.2 (by rw [sums_len]; exact hj), rfl⟩
/-- The 64 bytes of a node and what stands beside it. -/
def cp (a : Nat) (x b : List UInt8) : List UInt8 := if a % 2 = 0 then x ++ b else b ++ x
set_option maxRecDepth 100000 in
theorem cp_ds (a : Nat) (x b : List UInt8) : ds (cp a x b) = two a x b := by
  unfold cp two ds
  split <;> rfl
set_option maxRecDepth 100000 in
theorem cp_len (a : Nat) (x b : List UInt8) (hx : x.length = 32) (hb : b.length = 32) : (cp a x b).length = 64 := by
  unfold cp
  split <;> rw [List.length_append] <;> omega
/-- The texts of a claim, from a text and its place on. -/
def clm : Nat → List UInt8 → List (List UInt8) → List (List UInt8)
  | _, t, [] => [t]
  | a, t, b :: r => t :: clm (a / 2) (cp a (ds t) b) r
set_option maxRecDepth 100000 in
theorem clm_len : ∀ (P : List (List UInt8)) (a : Nat) (t : List UInt8), (clm a t P).length = P.length + 1
  | [], _, _ => rfl
  | b :: r, a, t => by rw [clm, List.length_cons, clm_len r, List.length_cons]
set_option maxRecDepth 100000 in
theorem clm_head (P : List (List UInt8)) (a : Nat) (t : List UInt8) : t ∈ clm a t P := by
  cases P <;> simp [clm]
set_option maxRecDepth 100000 in
theorem clm_tail (P : List (List UInt8)) (a : Nat) (t c : List UInt8) (h : c ∈ (clm a t P).tail) : c ∈ clm a t P := List.mem_of_mem_tail h
/-- The claim of a branch: none if its numbers are wrong. -/
def claim (c i : Int) (P : List (List UInt8)) (t : List UInt8) : List (List UInt8) := if rgt c i P.length ≠ 0 then [] else clm i.toNat t P
/-- The first text of a list that clashes with one. -/
def fnd (A : List (List UInt8)) (c : List UInt8) : Option (List UInt8) := A.find? fun t => !decide (t = c) && decide (ds t = ds c)
/-- What Extract tells. -/
def ext (A C : List (List UInt8)) : Option (List UInt8 × List UInt8) := C.findSome? fun c => (fnd A c).map fun t => (c, t)
set_option maxRecDepth 100000 in
theorem fnd_some {A : List (List UInt8)} {c t : List UInt8} (h : fnd A c = some t) : t ∈ A ∧ t ≠ c ∧ ds t = ds c := by
  have h1 := List.find?_some h
  have h2 := List.mem_of_find?_eq_some h
  simp at h1
  exact ⟨h2, h1.1, h1.2⟩
set_option maxRecDepth 100000 in
theorem ext_some {A C : List (List UInt8)} {c t : List UInt8} (h : ext A C = some (c, t)) : c ∈ C ∧ t ∈ A ∧ t ≠ c ∧ ds t = ds c := by
  unfold ext at h
  obtain ⟨l1, x, l2, hC, hx, _⟩ := List.findSome?_eq_some_iff.1 h
  cases hf : fnd A x with
  | none => rw [hf] at hx; simp at hx
  | some u =>
    rw [hf] at hx
    simp at hx
    obtain ⟨rfl, rfl⟩ := hx
    obtain ⟨h1, h2, h3⟩ := fnd_some hf
    exact ⟨by rw [hC]; simp, h1, h2, h3⟩
set_option maxRecDepth 100000 in
theorem ext_is {A C : List (List UInt8)} (h : ∃ c ∈ C, ∃ t ∈ A, t ≠ c ∧ ds t = ds c) : ∃ c t, ext A C = some (c, t) := by
  obtain ⟨c, hc, t, ht, hne, hd⟩ := h
  cases he : ext A C with
  | some p => exact ⟨p.1, p.2, rfl⟩
  | none =>
    exfalso
    unfold ext at he
    have h1 := List.findSome?_eq_none_iff.1 he c hc
    simp only [Option.map_eq_none_iff] at h1
    unfold fnd at h1
    have h2 := List.find?_eq_none.1 h1 t ht
    simp [hne, hd] at h2
set_option maxRecDepth 100000 in
theorem app_halves {a b c d : List UInt8} (h : a ++ b = c ++ d) (hl : a.length = c.length) : a = c ∧ b = d := List.append_inj h hl
set_option maxRecDepth 100000 in
/-- Going down from the root beside the list's own levels: a clash, or the claim's node is the list's. -/
theorem down (T : List (List UInt8)) (hN : 0 < T.length) (h64 : ∀ t ∈ T, t.length ≠ 64) : ∀ (P : List (List UInt8)) (n a : Nat) (t : List UInt8), a < n → P.length = depth n → (∀ p ∈ P, p.length = 32) → goUp n a (ds t) P = some (rootH (sums T)) →
    (∃ c ∈ (clm a t P).tail, ∃ u ∈ txs T, u ≠ c ∧ ds u = ds c) ∨ (P.length ≤ depth T.length ∧ a < wide T.length (depth T.length - P.length) ∧ ds t = hat (lev (depth T.length - P.length) (sums T)) a)
  | [], n, a, t, ha, hd, _, hg => by
    have hn1 : n ≤ 1 := by
      rcases Nat.lt_or_ge 1 n with h | h
      · rw [depth_big n h] at hd; simp at hd
      · exact h
    obtain rfl : a = 0 := by omega
    have hr : rootH (sums T) = hat (lev (depth T.length) (sums T)) 0 := by
      unfold rootH
      rw [sums_len, if_neg (by omega)]
    simp [goUp] at hg
    refine .inr ⟨by simp, ?_, ?_⟩
    · rw [List.length_nil, Nat.sub_zero, wide_one _ hN]; omega
    · rw [List.length_nil, Nat.sub_zero, hg, hr]
  | b :: r, n, a, t, ha, hd, h32, hg => by
    have hn1 : 1 < n := by
      rcases Nat.lt_or_ge 1 n with h | h
      · exact h
      · rw [depth_small n h] at hd; simp at hd
    have hdr : r.length = depth ((n + 1) / 2) := by
      rw [depth_big n hn1] at hd
      simpa using hd
    have hb32 : b.length = 32 := h32 b (by simp)
    unfold goUp at hg
    by_cases hlv : lvl n a (ds t) b = true
    · rw [if_pos hlv] at hg
      rw [← cp_ds] at hg
      have ih := down T hN h64 r ((n + 1) / 2) (a / 2) (cp a (ds t) b) (by omega) hdr (fun p hp => h32 p (by simp [hp])) hg
      have hc64 : (cp a (ds t) b).length = 64 := cp_len _ _ _ (ds_len t) hb32
      have hcl : cp a (ds t) b ∈ (clm a t (b :: r)).tail := clm_head r _ _
      rcases ih with ⟨c, hc, u, hu, h1, h2⟩ | ⟨h1, h2, h3⟩
      · exact .inl ⟨c, clm_tail r _ _ c hc, u, hu, h1, h2⟩
      · rw [List.length_cons]
        rcases Nat.lt_or_ge r.length (depth T.length) with hlt | hge
        · obtain ⟨k, hk⟩ : ∃ k, depth T.length - r.length = k + 1 := ⟨depth T.length - r.length - 1, by omega⟩
          have hk' : depth T.length - (r.length + 1) = k := by omega
          rw [hk] at h2 h3
          rw [hk']
          have hj : a / 2 < wide (sums T).length (k + 1) := by rw [sums_len]; exact h2
          have htd := tn_ds (sums T) k (a / 2) hj
          by_cases he : tn (sums T) k (a / 2) = cp a (ds t) b
          · right
            have hw : a / 2 < (wide T.length k + 1) / 2 := h2
            have hS := sums_32 T
            have hl1 : (hat (lev k (sums T)) (2 * (a / 2))).length = 32 := hat_32 (lev_32 _ hS k) (by rw [lev_len, sums_len]; omega)
            unfold tn cp at he
            rw [sums_len] at he
            by_cases hev : a % 2 = 0
            · rw [if_pos hev] at he
              obtain ⟨e1, _⟩ := app_halves he (by rw [hl1, ds_len])
              have e2 : 2 * (a / 2) = a := by omega
              rw [e2] at e1
              exact ⟨by omega, by omega, e1.symm⟩
            · rw [if_neg hev] at he
              obtain ⟨e1, e2⟩ := app_halves he (by rw [hl1, hb32])
              have e3 : 2 * (a / 2) + 1 = a := by omega
              by_cases hin : 2 * (a / 2) + 1 < wide T.length k
              · unfold beside at e2
                rw [if_pos hin, e3] at e2
                exact ⟨by omega, by omega, e2.symm⟩
              · exfalso
                unfold beside at e2
                rw [if_neg hin] at e2
                have hsame : ds t = b := by rw [← e2, ← e1]
                unfold lvl at hlv
                rw [decide_eq_true hsame, decide_eq_false (show ¬ (a + 1 = n ∧ a % 2 = 0) by omega)] at hlv
                simp at hlv
          · left
            refine ⟨cp a (ds t) b, hcl, tn (sums T) k (a / 2), txs_node T k (a / 2) (by omega) h2, he, ?_⟩
            rw [htd, h3]
        · left
          have e0 : depth T.length - r.length = 0 := by omega
          rw [e0] at h2 h3
          have h2' : a / 2 < T.length := h2
          have h3' : ds (cp a (ds t) b) = ds (hat T (a / 2)) := by
            rw [h3, ← sums_at T _ h2']
            rfl
          refine ⟨cp a (ds t) b, hcl, hat T (a / 2), txs_leaf T _ h2', fun e => ?_, h3'.symm⟩
          have hm : hat T (a / 2) ∈ T := by
            unfold hat
            rw [List.getD_eq_getElem?_getD, List.getElem?_eq_getElem h2']
            exact List.getElem_mem h2'
          exact h64 _ hm (by rw [e]; exact hc64)
    · rw [if_neg hlv] at hg
      simp at hg
set_option maxRecDepth 100000 in
/-- Any branch that is taken to the root: the text stands in the list at that place, or a clash is known. -/
theorem clash_or (T : List (List UInt8)) (n i : Nat) (P : List (List UInt8)) (t : List UInt8) (hN : 0 < T.length) (h64 : ∀ t ∈ T, t.length ≠ 64) (ht : t.length ≠ 64) (hi : i < n) (hP : P.length = depth n) (h32 : ∀ p ∈ P, p.length = 32) (hg : goUp n i (ds t) P = some (rootH (sums T))) :
    (i < T.length ∧ hat T i = t) ∨ ∃ c ∈ clm i t P, ∃ u ∈ txs T, u ≠ c ∧ ds u = ds c := by
  rcases down T hN h64 P n i t hi hP h32 hg with ⟨c, hc, u, hu, h1, h2⟩ | ⟨h1, h2, h3⟩
  · exact .inr ⟨c, clm_tail P _ _ c hc, u, hu, h1, h2⟩
  · rcases Nat.lt_or_ge P.length (depth T.length) with hlt | hge
    · right
      obtain ⟨k, hk⟩ : ∃ k, depth T.length - P.length = k + 1 := ⟨depth T.length - P.length - 1, by omega⟩
      rw [hk] at h2 h3
      have hj : i < wide (sums T).length (k + 1) := by rw [sums_len]; exact h2
      refine ⟨t, clm_head P _ _, tn (sums T) k i, txs_node T k i (by omega) h2, fun e => ?_, ?_⟩
      · exact ht (by rw [← e]; exact tn_len _ (sums_32 T) k i hj)
      · rw [tn_ds (sums T) k i hj, h3]
    · have e0 : depth T.length - P.length = 0 := by omega
      rw [e0] at h2 h3
      have h2' : i < T.length := h2
      have h3' : ds t = ds (hat T i) := by rw [h3, ← sums_at T _ h2']; rfl
      by_cases he : hat T i = t
      · exact .inl ⟨h2', he⟩
      · exact .inr ⟨t, clm_head P _ _, hat T i, txs_leaf T _ h2', he, h3'.symm⟩
end Go.Proofs.YtpoinhjkdgcnaaaDoor
