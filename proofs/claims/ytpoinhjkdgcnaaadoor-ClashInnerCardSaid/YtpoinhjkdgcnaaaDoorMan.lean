/- Merged texts: HdrN MrkM. -/
import Derived.Test.YtpoinhjkdgcnaaaDoorMam
import Derived.Test.YtpoinhjkdgcnaaaDoorMah
import Derived.Deep.MidRow
import Derived.Test.YtpoinhjkdgcnaaaDoorMac
/- Two headers are equal if they are one; what Parse reads of 80 bytes, of fewer, of more. -/
namespace Go.Proofs.YtpoinhjkdgcnaaaDoor
open Go.RowKit
set_option linter.unusedVariables false
set_option linter.unusedSimpArgs false

set_option maxRecDepth 100000 in
/-- A whole array is read under a guard that holds. -/
theorem load_midG {P : Program} {ops : Array Oper} {rest : List Oper} {op : Oper} {a : Act} {w : World} {Q : Exit → Act → World → Prop} (hw : Region.wanted op (yielded ops a.tmps) = true) (ty : TypeId) (x : Operand) (ho : op.op = .load ty x)
    (b o : Nat) (hx : a.eval x = .pointer (some ⟨b, o, none⟩)) (cs : List Value) (d : TypeDesc) (hc : w.rangeAt b o cs)
    (hu : P.underlying ty = some d) (hd : d.isRow = true) (hi : (P.info? ty).map (·.size) = some cs.length)
    (h : wpList P ops Q rest (a.put op.dst (.agg cs.toArray)) w) : wpList P ops Q (op :: rest) a w := by
  unfold wpList
  rw [if_pos hw]
  exact Or.inl (wp_load_mid ty x ho b o hx cs d hc hu hd hi h)
set_option maxRecDepth 100000 in
theorem at_loadG {P : Program} {ops : Array Oper} {rest : List Oper} {Q : Exit → Act → World → Prop} {a : Act} {w : World} {dst : Option Tmp} {t : TypeId} {p : String} {af : Array Edge} {gd : Nat × Bool} (ty : TypeId) (x : Operand)
    (h : wpList P ops Q ({ dst := dst, op := .load ty x, type := t, pos := p, after := af, guard := some gd } :: rest) a w) : wpList P ops Q ({ dst := dst, op := .load ty x, type := t, pos := p, after := af, guard := some gd } :: rest) a w := h
set_option maxRecDepth 100000 in
theorem mapM_list {α β : Type} (f : α → Option β) (g : α → β) : ∀ (l : List α), (∀ a ∈ l, f a = some (g a)) → l.mapM f = some (l.map g)
  | [], _ => rfl
  | a :: l, h => by
    rw [List.mapM_cons, h a (by simp), mapM_list f g l (fun x hx => h x (by simp [hx]))]
    rfl
set_option maxRecDepth 100000 in
theorem mapM_comp {α β γ : Type} (q : α → β) (f : β → Option γ) : ∀ l : List α, l.mapM (fun a => f (q a)) = (l.map q).mapM f
  | [] => rfl
  | a :: l => by
    rw [List.mapM_cons, List.map_cons, List.mapM_cons, mapM_comp q f l]
set_option maxRecDepth 100000 in
theorem flat1 {α β : Type} (f : α → β) : ∀ l : List α, (l.map fun a => [f a]).flatten = l.map f
  | [] => rfl
  | a :: l => by rw [List.map_cons, List.flatten_cons, flat1 f l]; rfl
def blits (l : List UInt8) : List Lit := l.map fun c => Lit.int .u8 (c.toNat : Int)
set_option maxRecDepth 100000 in
theorem blits_inj {l m : List UInt8} (h : blits l = blits m) : l = m := by
  refine List.map_inj_right ?_ |>.1 h
  intro a b e
  injection e with _ e
  exact UInt8.toNat_inj.1 (by omega)
set_option maxRecDepth 100000 in
theorem lit8 (c : UInt8) : (Lit.int .u8 (c.toNat : Int)).wf = true := by
  have := c.toNat_lt; have h1 : IntKind.u8.min = 0 := rfl; have h2 : IntKind.u8.max = 255 := rfl; simp [Lit.wf, h1, h2]; omega
set_option maxRecDepth 100000 in
theorem lit32 (n : Nat) (h : n < 4294967296) : (Lit.int .u32 (n : Int)).wf = true := by
  have h1 : IntKind.u32.min = 0 := rfl; have h2 : IntKind.u32.max = 4294967295 := rfl; simp [Lit.wf, h1, h2]; omega
set_option maxRecDepth 100000 in
theorem lits_bytes {P : Program} (t e : TypeId) (ht : P.underlying t = some (.array 32 e)) (he : P.underlying e = some (.int .u8)) (hce : P.cellsOf e = 1) (hct : P.cellsOf t = 32) (l : List UInt8) (hl : l.length = 32) :
    P.keyLits 2 t (l.map B8) = some (blits l) := by
  have h1 : (List.range 32).mapM (fun i => P.keyLits 1 e (((l.map B8).drop (i * P.cellsOf e)).take (P.cellsOf e))) = some ((List.range 32).map fun i => [Lit.int .u8 ((l.getD i 0).toNat : Int)]) := by
    refine mapM_list _ _ _ fun i hi => ?_
    have hi' : i < l.length := by rw [hl]; simpa using hi
    have e1 : ((l.map B8).drop (i * P.cellsOf e)).take (P.cellsOf e) = [.int .u8 ((l.getD i 0).toNat : Int)] := by
      rw [hce, Nat.mul_one, List.drop_eq_getElem_cons (by rw [List.length_map]; exact hi'), List.getElem_map]
      simp [B8, hi']
    rw [e1]
    simp only [Program.keyLits, he, lit8, and_self, if_true]
  unfold Program.keyLits
  simp only [ht]
  rw [if_pos (by rw [hct, List.length_map, hl]), h1, Option.map_some, flat1]
  congr 1
  unfold blits
  refine List.ext_getElem (by simp [hl]) fun i h2 h3 => ?_
  have : i < l.length := by simpa using h3
  simp [this]
def hdL (h : Hd) : List Lit := Lit.int .u32 (h.v : Int) :: (blits h.p ++ (blits h.r ++ [Lit.int .u32 (h.t : Int), Lit.int .u32 (h.b : Int), Lit.int .u32 (h.n : Int)]))
set_option maxRecDepth 100000 in
theorem hdL_inj {g h : Hd} (og : g.ok) (oh : h.ok) (e : hdL g = hdL h) : g = h := by
  obtain ⟨gv, gp, gr, gt, gb, gn⟩ := g
  obtain ⟨hv, hp, hr, ht, hb, hn⟩ := h
  unfold hdL at e
  simp only at e
  injection e with e1 e2
  have l1 : (blits gp).length = (blits hp).length := by simp [blits]; rw [og.p, oh.p]
  have l2 : (blits gr).length = (blits hr).length := by simp [blits]; rw [og.r, oh.r]
  have e3 := List.append_inj e2 l1
  have e4 := List.append_inj e3.2 l2
  have e5 := blits_inj e3.1
  have e6 := blits_inj e4.1
  have e7 := e4.2
  simp only [List.cons.injEq, Lit.int.injEq, and_true, true_and] at e1 e7
  simp only [Hd.mk.injEq]
  refine ⟨by omega, e5, e6, by omega, by omega, by omega⟩
set_option maxRecDepth 100000 in
theorem hd_lits {P : Program} (t u k e : TypeId) (fs : Array Field) (ht : P.underlying t = some (.struct fs)) (hn : fs.all (·.name != "_") = true) (hfs : fs.toList.map (fun f => (f.type, f.offset)) = [(u, 0), (k, 1), (k, 33), (u, 65), (u, 66), (u, 67)])
    (hct : P.cellsOf t = 68) (hu : P.underlying u = some (.int .u32)) (hcu : P.cellsOf u = 1) (hk : P.underlying k = some (.array 32 e)) (hck : P.cellsOf k = 32) (he : P.underlying e = some (.int .u8)) (hce : P.cellsOf e = 1) (h : Hd) (o : h.ok) :
    P.keyLits 3 t h.cells = some (hdL h) := by
  have hp := o.p
  have hr := o.r
  have c0 : (h.cells.drop 0).take 1 = [.int .u32 (h.v : Int)] := rfl
  have c1 : (h.cells.drop 1).take 32 = h.p.map B8 := by unfold Hd.cells; rw [List.drop_succ_cons, List.drop_zero, List.take_left' (by rw [List.length_map]; exact hp)]
  have c2 : (h.cells.drop 33).take 32 = h.r.map B8 := by unfold Hd.cells; rw [show 33 = 32 + 1 from rfl, List.drop_succ_cons, List.drop_left' (by rw [List.length_map]; exact hp), List.take_left' (by rw [List.length_map]; exact hr)]
  have c65 : ∀ j, (h.cells.drop (65 + j)) = [Value.int .u32 (h.t : Int), .int .u32 (h.b : Int), .int .u32 (h.n : Int)].drop j := fun j => by
    unfold Hd.cells
    rw [show 65 + j = (64 + j) + 1 from by omega, List.drop_succ_cons, show 64 + j = 32 + (32 + j) from by omega, ← List.drop_drop, List.drop_left' (by rw [List.length_map]; exact hp), ← List.drop_drop, List.drop_left' (by rw [List.length_map]; exact hr)]
  have c3 : (h.cells.drop 65).take 1 = [.int .u32 (h.t : Int)] := by rw [c65 0]; rfl
  have c4 : (h.cells.drop 66).take 1 = [.int .u32 (h.b : Int)] := by rw [c65 1]; rfl
  have c5 : (h.cells.drop 67).take 1 = [.int .u32 (h.n : Int)] := by rw [c65 2]; rfl
  have ku : ∀ n : Nat, n < 4294967296 → P.keyLits 2 u [.int .u32 (n : Int)] = some [Lit.int .u32 (n : Int)] := fun n h => by simp only [Program.keyLits, hu, lit32 n h, and_self, if_true]
  unfold Program.keyLits
  simp only [ht]
  rw [if_pos ⟨by rw [hct, Hd.cells_len o], hn⟩, mapM_comp (fun f : Field => (f.type, f.offset)) (fun p => P.keyLits 2 p.1 ((h.cells.drop p.2).take (P.cellsOf p.1))), hfs]
  simp only [List.mapM_cons, List.mapM_nil, hcu, hck, c0, c1, c2, c3, c4, c5, ku _ o.v, ku _ o.t, ku _ o.b, ku _ o.n, lits_bytes k e hk he hce hck _ hp, lits_bytes k e hk he hce hck _ hr]
  rfl
set_option maxRecDepth 100000 in
theorem equalHd {P : Program} (t : TypeId) (hk : P.keyTypeAt 3 t = true) (hf : ∀ h : Hd, h.ok → (Value.agg h.cells.toArray).formed P t = true) (hl : ∀ h : Hd, h.ok → P.keyLits 3 t h.cells = some (hdL h)) (g h : Hd) (og : g.ok) (oh : h.ok) (w : World) :
    ∃ b : Bool, (Op.equalIn 10000 t (.agg g.cells.toArray) (.agg h.cells.toArray)).run P w = .ok b w ∧ (b = true ↔ g = h) := by
  obtain ⟨b, hb, hiff⟩ := run_equalIn_deep (P := P) 9997 3 t hk w 3 3 (.agg g.cells.toArray) (.agg h.cells.toArray) _ _ (hf g og) (hf h oh) (hl g og) (hl h oh)
  exact ⟨b, hb, hiff.trans ⟨hdL_inj og oh, fun e => by rw [e]⟩⟩
end Go.Proofs.YtpoinhjkdgcnaaaDoor

/- Plain mathematics of layer 8: levels of hashes, roots, depths. -/
namespace Go.Proofs.YtpoinhjkdgcnaaaDoor
set_option linter.unusedVariables false

/-- The double sum of two hashes. -/
def pr (a b : List UInt8) : List UInt8 := sha (sha (a ++ b))
/-- A hash of a list. -/
def hat (l : List (List UInt8)) (i : Nat) : List UInt8 := l.getD i []
/-- The level above a list. -/
def abv : List (List UInt8) → List (List UInt8)
  | [] => []
  | [a] => [pr a a]
  | a :: b :: r => pr a b :: abv r
def lev : Nat → List (List UInt8) → List (List UInt8)
  | 0, l => l
  | k + 1, l => abv (lev k l)
/-- How many there are at a level. -/
def wide (n : Nat) : Nat → Nat
  | 0 => n
  | k + 1 => (wide n k + 1) / 2
set_option maxRecDepth 100000 in
theorem pr_len (a b : List UInt8) : (pr a b).length = 32 := sha_len _
set_option maxRecDepth 100000 in
theorem abv_len : ∀ l : List (List UInt8), (abv l).length = (l.length + 1) / 2
  | [] => by simp [abv]
  | [a] => by simp [abv]
  | a :: b :: r => by
    rw [abv, List.length_cons, abv_len r, List.length_cons, List.length_cons]
    omega
set_option maxRecDepth 100000 in
theorem lev_len (l : List (List UInt8)) : ∀ k, (lev k l).length = wide l.length k
  | 0 => rfl
  | k + 1 => by rw [lev, abv_len, lev_len l k]; rfl
/-- The place beside: the second of a pair, or the first itself where there is none. -/
def beside (n i : Nat) : Nat := if 2 * i + 1 < n then 2 * i + 1 else 2 * i
set_option maxRecDepth 100000 in
theorem abv_at : ∀ (l : List (List UInt8)) (i : Nat), i < (l.length + 1) / 2 → hat (abv l) i = pr (hat l (2 * i)) (hat l (beside l.length i))
  | [], i, h => by simp at h
  | [a], i, h => by
    have : i = 0 := by simp at h; omega
    subst this
    rfl
  | a :: b :: r, i, h => by
    rcases i with _ | i
    · unfold beside
      rw [if_pos (by simp)]
      rfl
    · have h1 := abv_at r i (by simp at h; omega)
      have e1 : hat (abv (a :: b :: r)) (i + 1) = hat (abv r) i := by simp [hat, abv]
      have e2 : hat (a :: b :: r) (2 * (i + 1)) = hat r (2 * i) := by rw [show 2 * (i + 1) = 2 * i + 1 + 1 from by omega]; simp [hat]
      have e3 : hat (a :: b :: r) (beside (a :: b :: r).length (i + 1)) = hat r (beside r.length i) := by
        unfold beside
        simp only [List.length_cons]
        by_cases hc : 2 * i + 1 < r.length
        · rw [if_pos hc, if_pos (by omega), show 2 * (i + 1) + 1 = 2 * i + 1 + 1 + 1 from by omega]; simp [hat]
        · rw [if_neg hc, if_neg (by omega), show 2 * (i + 1) = 2 * i + 1 + 1 from by omega]; simp [hat]
      rw [e1, e2, e3, h1]
set_option maxRecDepth 100000 in
theorem abv_32 : ∀ l : List (List UInt8), ∀ h ∈ abv l, h.length = 32
  | [], h, hh => by simp [abv] at hh
  | [a], h, hh => by simp [abv] at hh; rw [hh]; exact pr_len _ _
  | a :: b :: r, h, hh => by
    rw [abv, List.mem_cons] at hh
    rcases hh with rfl | hh
    · exact pr_len _ _
    · exact abv_32 r h hh
set_option maxRecDepth 100000 in
theorem lev_32 (l : List (List UInt8)) (hl : ∀ h ∈ l, h.length = 32) : ∀ k, ∀ h ∈ lev k l, h.length = 32
  | 0 => hl
  | k + 1 => abv_32 _
set_option maxRecDepth 100000 in
theorem hat_32 {l : List (List UInt8)} (hl : ∀ h ∈ l, h.length = 32) {i : Nat} (hi : i < l.length) : (hat l i).length = 32 := by
  unfold hat
  rw [List.getD_eq_getElem?_getD, List.getElem?_eq_getElem hi]
  exact hl _ (List.getElem_mem hi)
set_option maxRecDepth 100000 in
theorem lev_abv (l : List (List UInt8)) : ∀ k, lev k (abv l) = lev (k + 1) l
  | 0 => rfl
  | k + 1 => by rw [lev, lev_abv l k]; rfl
set_option maxRecDepth 100000 in
theorem wide_half (n : Nat) : ∀ k, wide ((n + 1) / 2) k = wide n (k + 1)
  | 0 => rfl
  | k + 1 => by rw [wide, wide_half n k]; rfl
/-- The depth of so many: the least d for which 2^d is at least n. -/
def depth (n : Nat) : Nat := if n ≤ 1 then 0 else depth ((n + 1) / 2) + 1
termination_by n
decreasing_by omega
set_option maxRecDepth 100000 in
theorem depth_small (n : Nat) (h : n ≤ 1) : depth n = 0 := by unfold depth; rw [if_pos h]
set_option maxRecDepth 100000 in
theorem depth_big (n : Nat) (h : 1 < n) : depth n = depth ((n + 1) / 2) + 1 := by rw [depth, if_neg (by omega)]
set_option maxRecDepth 100000 in
theorem depth_up (n : Nat) : n ≤ 2 ^ depth n := by
  induction n using Nat.strongRecOn with
  | ind n ih =>
    by_cases h : n ≤ 1
    · rw [depth_small n h]; omega
    · rw [depth_big n (by omega), Nat.pow_succ]
      have := ih ((n + 1) / 2) (by omega)
      omega
set_option maxRecDepth 100000 in
theorem depth_low (n : Nat) (h : 1 < n) : 2 ^ (depth n - 1) < n := by
  induction n using Nat.strongRecOn with
  | ind n ih =>
    rw [depth_big n h, Nat.add_sub_cancel]
    by_cases h2 : (n + 1) / 2 ≤ 1
    · rw [depth_small _ h2]; omega
    · have h3 := ih ((n + 1) / 2) (by omega) (by omega)
      have h4 : depth ((n + 1) / 2) = (depth ((n + 1) / 2) - 1) + 1 := by rw [depth_big _ (by omega)]; omega
      rw [h4, Nat.pow_succ]
      omega
set_option maxRecDepth 100000 in
/-- A depth by what it is least for. -/
theorem depth_is (n d : Nat) (h1 : n ≤ 2 ^ d) (h2 : d = 0 ∨ 2 ^ (d - 1) < n) : depth n = d := by
  by_cases hn : n ≤ 1
  · rw [depth_small n hn]
    rcases h2 with h2 | h2
    · exact h2.symm
    · have := Nat.two_pow_pos (d - 1)
      omega
  · have hl := depth_low n (by omega)
    have hu := depth_up n
    rcases Nat.lt_trichotomy (depth n) d with h | h | h
    · exfalso
      rcases h2 with h2 | h2
      · omega
      · have := Nat.pow_le_pow_right (n := 2) (by omega) (show depth n ≤ d - 1 by omega)
        omega
    · exact h
    · exfalso
      have := Nat.pow_le_pow_right (n := 2) (by omega) (show d ≤ depth n - 1 by omega)
      omega
set_option maxRecDepth 100000 in
theorem wide_one (n : Nat) (h : 0 < n) : wide n (depth n) = 1 := by
  induction n using Nat.strongRecOn with
  | ind n ih =>
    by_cases h2 : n ≤ 1
    · rw [depth_small n h2]
      show n = 1
      omega
    · rw [depth_big n (by omega), ← wide_half, ih ((n + 1) / 2) (by omega) (by omega)]
set_option maxRecDepth 100000 in
theorem wide_le (n : Nat) : ∀ k, wide n k ≤ n + 1
  | 0 => Nat.le_succ n
  | k + 1 => by have := wide_le n k; rw [wide]; omega
set_option maxRecDepth 100000 in
theorem wide_pos (n : Nat) (h : 0 < n) : ∀ k, 0 < wide n k
  | 0 => h
  | k + 1 => by have := wide_pos n h k; rw [wide]; omega
set_option maxRecDepth 100000 in
theorem wide_more (n : Nat) : ∀ k, k < depth n → 1 < wide n k := by
  induction n using Nat.strongRecOn with
  | ind n ih =>
    intro k hk
    by_cases h2 : n ≤ 1
    · rw [depth_small n h2] at hk; omega
    · rcases k with _ | k
      · show 1 < n; omega
      · rw [← wide_half]
        exact ih ((n + 1) / 2) (by omega) k (by rw [depth_big n (by omega)] at hk; omega)
/-- The root of a list. -/
def rootH (l : List (List UInt8)) : List UInt8 := if l.length = 0 then List.replicate 32 0 else hat (lev (depth l.length) l) 0
set_option maxRecDepth 100000 in
theorem rootH_len (l : List (List UInt8)) (hl : ∀ h ∈ l, h.length = 32) : (rootH l).length = 32 := by
  unfold rootH
  split
  · rfl
  · exact hat_32 (lev_32 l hl _) (by rw [lev_len]; have := wide_one l.length (by omega); omega)
set_option maxRecDepth 100000 in
theorem rootH_one (a : List UInt8) : rootH [a] = a := by
  unfold rootH
  rw [if_neg (by simp), depth_small _ (by simp)]
  rfl
set_option maxRecDepth 100000 in
theorem rootH_abv (l : List (List UInt8)) (h : 1 < l.length) : rootH (abv l) = rootH l := by
  unfold rootH
  rw [if_neg (by rw [abv_len]; omega), if_neg (by omega), abv_len, lev_abv, ← depth_big _ h]
/-- Two of a list of one pair are the same. -/
def pairs (l : List (List UInt8)) : Bool := (List.range (l.length / 2)).any fun i => hat l (2 * i) == hat l (2 * i + 1)
/-- A list is doubled. -/
def dbl (l : List (List UInt8)) : Bool := (List.range (depth l.length)).any fun k => pairs (lev k l)
set_option maxRecDepth 100000 in
theorem dbl_abv (l : List (List UInt8)) (h : 1 < l.length) : dbl l = (pairs l || dbl (abv l)) := by
  unfold dbl
  rw [depth_big _ h, List.range_succ_eq_map, List.any_cons, abv_len]
  congr 1
  rw [List.any_map]
  congr 1
  funext k
  simp only [Function.comp]
  rw [← lev_abv]
set_option maxRecDepth 100000 in
theorem dbl_small (l : List (List UInt8)) (h : l.length ≤ 1) : dbl l = false := by
  unfold dbl
  rw [depth_small _ h]
  rfl
end Go.Proofs.YtpoinhjkdgcnaaaDoor
