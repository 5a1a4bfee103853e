/- Merged texts: ShaS Blk2 Cpy Fil ShaT. -/
import Derived.Test.YthkkllcpogagiaaDoorMac
import Derived.Test.YthkkllcpogagiaaDoorMaa
import Derived.Deep.RegionHeld3
import Derived.Laws.IdiomCopy
import Derived.Laws.Tables
import Derived.Deep.RegionWith
/- The contract of sha2.schedule: the 64 words of a block. -/
namespace Go.Proofs.YthkkllcpogagiaaDoor
open Go.RowKit
set_option linter.unusedVariables false

/-- What stands in the array while its words are laid. -/
def wpart (l : List Nat) : List Value := l.map W32 ++ List.replicate (64 - l.length) (W32 0)
set_option maxRecDepth 100000 in
theorem wpart_len (l : List Nat) (h : l.length ≤ 64) : (wpart l).length = 64 := by simp [wpart]; omega
set_option maxRecDepth 100000 in
theorem wpart_set (l : List Nat) (x : Nat) (h : l.length < 64) : (wpart l).set l.length (W32 x) = wpart (l ++ [x]) := by
  unfold wpart
  rw [List.set_append_right _ _ (by simp)]
  simp only [List.length_map, Nat.sub_self, List.map_append, List.length_append, List.length_cons, List.length_nil, List.map_cons, List.map_nil]
  rw [show 64 - l.length = (64 - (l.length + (0 + 1))) + 1 from by omega, List.replicate_succ, List.set_cons_zero]
  simp
set_option maxRecDepth 100000 in
theorem wpart_get (l : List Nat) (j : Nat) (h : j < l.length) : (wpart l)[j]? = some (.int .u32 (l.getD j 0 : Int)) := by
  unfold wpart
  rw [List.getElem?_append_left (by simpa using h)]
  simp [W32, List.getElem?_eq_getElem h, List.getD]
set_option maxRecDepth 100000 in
theorem wpart_zero (l : List Nat) (j : Nat) (h : l.length ≤ j) (hj : j < 64) : (wpart l)[j]? = some (.int .u32 0) := by
  unfold wpart
  rw [List.getElem?_append_right (by simpa using h)]
  rw [List.getElem?_replicate, if_pos (by simp; omega)]
  rfl
set_option maxRecDepth 100000 in
theorem word_rd {w : World} {g : Nat} {t : TypeId} {B : List UInt8} (h : Blk w g (B.map B8) t) (hB : B.length = 64) (k : Nat) (hk : k < 16) :
    Rd w (some ⟨g, 4 * k, none⟩) 4 ((B.drop (4 * k)).take 4) := by
  refine h.rd (4 * k) 4 _ (by simp; omega) fun j hj => ?_
  simp only [List.length_take, List.length_drop] at hj
  simp [B8, List.getElem?_eq_getElem (show 4 * k + j < B.length by omega)]

set_option maxRecDepth 100000 in
theorem word_val (B : List UInt8) (t : Nat) : ((numL (((B.drop (4 * t)).take 4).take 8).reverse : Nat) : Int) % 4294967296 = (word B t : Int) := by
  rw [List.take_take, show min 8 4 = 4 from rfl]
  have := word_lt B t
  unfold word at *
  omega

set_option maxRecDepth 100000 in
theorem words_lt (B : List UInt8) (n : Nat) : ∀ x ∈ words B n, x < 4294967296 := fun x hx => by
  simp only [words, List.mem_map] at hx
  obtain ⟨t, _, rfl⟩ := hx
  exact word_lt B t
set_option maxRecDepth 100000 in
theorem sched_all (B : List UInt8) (k : Nat) : ∀ x ∈ sched (words B 16) k, x < 4294967296 := by
  induction k with
  | zero => exact words_lt B 16
  | succ k ih =>
    intro x hx
    rw [sched, List.mem_append] at hx
    rcases hx with hx | hx
    · exact ih x hx
    · simp only [List.mem_singleton] at hx
      rw [hx]
      exact Nat.mod_lt _ (by omega)
set_option maxRecDepth 100000 in
theorem sched_lt (B : List UInt8) (k j : Nat) : (sched (words B 16) k).getD j 0 < 4294967296 := by
  rw [List.getD_eq_getElem?_getD]
  cases h : (sched (words B 16) k)[j]? with
  | none => simp
  | some x => exact sched_all B k x (List.mem_of_getElem? h)
set_option maxRecDepth 100000 in
theorem smallS_val (x i j k : Nat) (hx : x < 4294967296) (z : Int) (hz : z = ((x / 2 ^ k : Nat) : Int)) : bits .xor .u32 (bits .xor .u32 (rotr x i : Int) (rotr x j : Int)) z = (smallS x i j k : Int) := by
  subst hz
  rw [u32_xor_nat _ _ (rotr_lt _ _ hx) (rotr_lt _ _ hx), u32_xor_nat _ _ (xor_lt32 (rotr_lt _ _ hx) (rotr_lt _ _ hx)) (Nat.lt_of_le_of_lt (Nat.div_le_self _ _) hx)]
  rfl
set_option maxRecDepth 100000 in
theorem wnext_val (l : List Nat) (x0 x1 x9 x14 n : Nat) (hn : l.length = n) (e0 : x0 = l.getD (n - 16) 0) (e1 : x1 = l.getD (n - 15) 0) (e9 : x9 = l.getD (n - 7) 0) (e14 : x14 = l.getD (n - 2) 0) (l1 : x1 < 4294967296) (l14 : x14 < 4294967296) :
    ((((x0 : Int) + bits .xor .u32 (bits .xor .u32 (rotr x1 7 : Int) (rotr x1 18 : Int)) ((x1 : Int) / 8)) % 4294967296 + (x9 : Int)) % 4294967296 + bits .xor .u32 (bits .xor .u32 (rotr x14 17 : Int) (rotr x14 19 : Int)) ((x14 : Int) / 1024)) % 4294967296 = (wnext l : Int) := by
  rw [smallS_val x1 7 18 3 l1 _ (by omega), smallS_val x14 17 19 10 l14 _ (by omega)]
  unfold wnext
  rw [hn, ← e0, ← e1, ← e9, ← e14]
  omega
set_option maxRecDepth 100000 in
theorem wpart_one (l : List Nat) : (wpart l).toArray.all (·.oneCell') = true := all_oneCell_toArray fun v hv => by
  simp only [wpart, List.mem_append, List.mem_map, List.mem_replicate] at hv
  rcases hv with ⟨x, _, rfl⟩ | ⟨_, rfl⟩ <;> rfl
set_option maxRecDepth 100000 in
theorem i64 : (Tryd.prog.info? 92).map (·.size) = some 64 := by kernel_rfl

set_option maxRecDepth 100000 in
set_option maxHeartbeats 1000000 in
theorem schedule_calls (B : List UInt8) (w : World) (hB : B.length = 64) :
    Calls Tryd.prog 52 #[.agg (B.map B8).toArray] w (Ret w (.agg ((wall B).map W32).toArray)) := by
  go_enter Tryd.func52, Tryd.ntmps52
  go_wp2
  go_loopw [10] (fun i wr => ∃ t : Nat, t ≤ 16 ∧ i = .int .i64 t ∧ Blk wr w.heap.size (B.map B8) 94 ∧ Blk wr (w.heap.size + 1) (wpart []) 92 ∧ Blk wr (w.heap.size + 1 + 1) (wpart (words B t)) 92 ∧ Below w.heap.size w wr) (fun i _ => 16 - (intOf i).toNat)
  case atStart =>
    refine ⟨0, by omega, rfl, ?_, ?_, ?_, ?_⟩
    · simpa using ((Blk.new w (B.map B8).toArray 94).alloc _).alloc _
    · exact (Blk.new' (w.alloc _) _ _ _ (by simp)).alloc _
    · exact Blk.new' ((w.alloc _).alloc _) _ _ _ (by simp)
    · exact (((Below.refl _ w).alloc (Nat.le_refl _) _).alloc (by simp) _).alloc (by simp; omega) _
  case round =>
    obtain ⟨t, ht, rfl, hb1, hb2, hb3, hbel⟩ := hrel
    by_cases hlt : t < 16
    · have hrd := word_rd hb1 hB t hlt
      have H1 := Lib.hid hb1
      have H2 := Lib.hid hb2
      have H3 := Lib.hid hb3
      have HR := Lib.hid hrd
      have hc := hb3.cell t
      rw [wpart_zero _ _ (by simp) (by omega)] at hc
      have hf := hb3.free t
      clear hb1 hb2 hb3 hrd
      have hsl := fun W => run_sl_lh (P := Tryd.prog) 94 5 64 Tryd.underlying94 size8 w.heap.size 0 (4 * t) (4 * t + 4) (4 * (t : Int)) (4 * (t : Int) + 4) (by omega) (by omega) (by omega) (by omega) W
      rw [Nat.zero_add, show 4 * t + 4 - 4 * t = 4 from by omega] at hsl
      go_wp2_with (go_at_call 55; refine (big_calls _ _ _ _ _ HR.out).mono ?_; rintro e' w' ⟨rfl, rfl⟩)
      go_roundw
      case rel =>
        have hB2 : w.heap.size ≤ w.heap.size + 1 + 1 := by omega
        refine ⟨t + 1, by omega, by go_num, H1.out.set_other _ _ (by simp; omega), H2.out.set_other _ _ (by simp), ?_, hbel.setCell hB2 _⟩
        have h3 := H3.out.set t (W32 (word B t))
        have hs := wpart_set (words B t) (word B t) (by simp; omega)
        rw [words_len] at hs
        rw [hs, ← words_succ] at h3
        rw [word_val]
        exact h3
      case measure => simp [intOf]; omega
    · have e : t = 16 := by omega
      subst e
      go_wp2
      go_loopw [5] (fun i wr => ∃ n : Nat, 16 ≤ n ∧ n ≤ 64 ∧ i = .int .i64 (n : Int) ∧ Blk wr (w.heap.size + 1) (wpart []) 92 ∧ Blk wr (w.heap.size + 1 + 1) (wpart (sched (words B 16) (n - 16))) 92 ∧ Below w.heap.size w wr) (fun i _ => 64 - (intOf i).toNat)
      case atStart => exact ⟨16, by omega, by omega, rfl, hb2, hb3, hbel⟩
      case round =>
        obtain ⟨n, hn16, hn, rfl, hb2, hb3, hbel⟩ := hrel
        by_cases hlt : n < 64
        · have hsl : (sched (words B 16) (n - 16)).length = n := by simp; omega
          obtain ⟨j0, ej0⟩ : ∃ j, j = n - 16 := ⟨_, rfl⟩
          obtain ⟨j1, ej1⟩ : ∃ j, j = n - 15 := ⟨_, rfl⟩
          obtain ⟨j9, ej9⟩ : ∃ j, j = n - 7 := ⟨_, rfl⟩
          obtain ⟨j14, ej14⟩ : ∃ j, j = n - 2 := ⟨_, rfl⟩
          have c1 := hb3.cell j0
          have c2 := hb3.cell j1
          have c3 := hb3.cell j9
          have c4 := hb3.cell j14
          have c5 := hb3.cell n
          rw [wpart_get _ _ (by omega)] at c1 c2 c3 c4
          rw [wpart_zero _ _ (by omega) (by omega)] at c5
          have H2 := Lib.hid hb2
          have H3 := Lib.hid hb3
          have hf := hb3.free n
          obtain ⟨x0, e0⟩ : ∃ x, x = (sched (words B 16) (n - 16)).getD j0 0 := ⟨_, rfl⟩
          obtain ⟨x1, e1⟩ : ∃ x, x = (sched (words B 16) (n - 16)).getD j1 0 := ⟨_, rfl⟩
          obtain ⟨x9, e9⟩ : ∃ x, x = (sched (words B 16) (n - 16)).getD j9 0 := ⟨_, rfl⟩
          obtain ⟨x14, e14⟩ : ∃ x, x = (sched (words B 16) (n - 16)).getD j14 0 := ⟨_, rfl⟩
          rw [← e0] at c1
          rw [← e1] at c2
          rw [← e9] at c3
          rw [← e14] at c4
          have l1 : x1 < 4294967296 := e1 ▸ sched_lt _ _ _
          have l14 : x14 < 4294967296 := e14 ▸ sched_lt _ _ _
          have i0 : (n : Int) - 16 = (j0 : Int) := by omega
          have i1 : (n : Int) - 15 = (j1 : Int) := by omega
          have i9 : (n : Int) - 7 = (j9 : Int) := by omega
          have i14 : (n : Int) - 2 = (j14 : Int) := by omega
          have b0 : (j0 : Int) < 64 := by omega
          have b1 : (j1 : Int) < 64 := by omega
          have b9 : (j9 : Int) < 64 := by omega
          have b14 : (j14 : Int) < 64 := by omega
          have bn : (n : Int) < 64 := by omega
          have E := Lib.hid (And.intro hsl (And.intro (And.intro ej0 (And.intro ej1 (And.intro ej9 ej14))) (And.intro e0 (And.intro e1 (And.intro e9 e14)))))
          clear hb2 hb3 e0 e1 e9 e14 ej0 ej1 ej9 ej14 hsl
          go_wp2
          go_quiet (fail)
          go_wp2_with (go_at_call 56; refine (rr_calls _ _ _ (by assumption) (by decide)).mono ?_; rintro e' w' ⟨rfl, k, rfl⟩)
          rename_i k3 k2 k1
          have v0 : IntKind.i64.wrap ((n : Int) - 16) = (j0 : Int) := by rw [IntKind.wrap_i64]; omega
          have v9 : IntKind.i64.wrap ((n : Int) - 7) = (j9 : Int) := by rw [IntKind.wrap_i64]; omega
          clear i0 i1 i9 i14
          have ne0 : ¬ n = j0 := by have := E.out.2.1; omega
          have ne9 : ¬ n = j9 := by have := E.out.2.1; omega
          go_region_held3 (fun w' => w'.cell? ⟨w.heap.size + 1 + 1, j0, none⟩ = some (.int .u32 (x0 : Int)) ∧ w'.cell? ⟨w.heap.size + 1 + 1, j9, none⟩ = some (.int .u32 (x9 : Int))) (first | go_keep | (refine ⟨?_, ?_⟩ <;> (rw [World.cell?_setCell_other _ _ _ _ (by simp [*])]; simp [*]))) (fail)
          go_wp2
          refine ⟨?_, ?_⟩
          · iterate 48 apply Exists.intro
            refine ⟨?_, rfl⟩
            obtain ⟨hsl, ⟨ej0, ej1, ej9, ej14⟩, e0, e1, e9, e14⟩ := E.out
            have hn1 : sched (words B 16) (n + 1 - 16) = sched (words B 16) (n - 16) ++ [wnext (sched (words B 16) (n - 16))] := by
              rw [show n + 1 - 16 = (n - 16) + 1 from by omega]; rfl
            have hB2 : w.heap.size ≤ w.heap.size + 1 + 1 := by omega
            refine ⟨n + 1, by omega, by omega, by go_num, (H2.out.drewN _).set_other _ _ (by simp), ?_, (below_drewN hbel _).setCell hB2 _⟩
            have h3 := (H3.out.drewN (nq + k3 + k2 + k1 + k + 1)).set n (W32 (wnext (sched (words B 16) (n - 16))))
            have hs := wpart_set (sched (words B 16) (n - 16)) (wnext (sched (words B 16) (n - 16))) (by omega)
            rw [hsl] at hs
            rw [hs, ← hn1] at h3
            rw [wnext_val (sched (words B 16) (n - 16)) x0 x1 x9 x14 n hsl (by rw [e0, ej0]) (by rw [e1, ej1]) (by rw [e9, ej9]) (by rw [e14, ej14]) l1 l14]
            exact h3
          · simp [intOf]; omega
        · have e : n = 64 := by omega
          subst e
          have H2 := Lib.hid hb2
          have H3 := Lib.hid hb3
          clear hb2 hb3
          have hlen : (wpart (sched (words B 16) (64 - 16))).length = 64 := wpart_len _ (by simp)
          have hlen0 : (wpart []).length = 64 := wpart_len _ (by simp)
          have hone : (wpart (sched (words B 16) (64 - 16))).toArray.all (·.oneCell') = true := wpart_one _
          go_wp2_with (first | (refine wpList_load_mid (by rfl) 92 (.tmp 3) (by rfl) (w.heap.size + 1 + 1) 0 (by rfl) _ _ H3.out.range Tryd.underlying92 (by rfl) (by rw [hlen]; exact i64) ?_) | (refine wpList_store_mid (by rfl) 92 (.tmp 2) (.tmp 67) (by rfl) (w.heap.size + 1) 0 _ (by rfl) (by rfl) (H2.out.there 0 _ (by rw [List.size_toArray, hlen, hlen0]; omega)) (by rw [List.size_toArray, hlen]; exact i64) hone ?_))
          have hfull : wpart (sched (words B 16) (64 - 16)) = (wall B).map W32 := by
            show wpart (wall B) = _
            have : (wall B).length = 64 := by simp [wall]
            simp [wpart, this]
          have hb := Blk.setCells (wpart (sched (words B 16) (64 - 16))) wr (wpart []) 0 H2.out (by omega)
          rw [over_all _ _ (by omega)] at hb
          refine bodyPost_ret (v := .agg ((wall B).map W32).toArray) ?_ rfl ⟨rfl, below_setCells (by omega) _ _ _ _ hbel⟩
          rw [← hfull]
          exact results_cell_row Tryd.results52 _ _ (w.heap.size + 1) 92 _ (0, 0) _ (by rfl) hb Tryd.underlying92 rfl (by rw [List.size_toArray, hlen]; exact i64)
end Go.Proofs.YthkkllcpogagiaaDoor

/- Loads and stores of whole arrays by what their blocks hold. -/
namespace Go.Proofs.YthkkllcpogagiaaDoor
open Go.RowKit
set_option linter.unusedVariables false

set_option maxRecDepth 100000 in
/-- An element of an array value, of one-cell elements. -/
theorem run_idx {P : Program} (t e : TypeId) (N : Nat) (hu : P.underlying t = some (.array N e)) (k : IntKind) (hue : P.underlying e = some (.int k)) (hs : (P.info? e).map (·.size) = some 1) (cs : List Value) (i : Nat) (v : Value) (hi : i < N) (hv : cs[i]? = some v) (w : World) :
    (Instr.index t (.agg cs.toArray) (.int .i64 (i : Int))).run P w = .ok v w := by
  obtain ⟨inf, hinf, hsz⟩ := Option.map_eq_some_iff.1 hs
  simp [Instr.index, asIntOf, run_underlying hu, run_underlying hue, sizeOf, typeInfo, hinf, hsz, hi, part, isAgg, hv]
set_option maxRecDepth 100000 in
theorem run_ld {P : Program} {w : World} {g : Nat} {cs : List Value} {t : TypeId} (h : Blk w g cs t) (ty : TypeId) (d : TypeDesc) (hu : P.underlying ty = some d) (hd : d.isRow = true) (hi : (P.info? ty).map (·.size) = some cs.length) :
    (Instr.loadAt ty (.pointer (some ⟨g, 0, none⟩))).run P w = .ok (.agg cs.toArray) w := run_loadAt_mid w g 0 ty cs d h.range hu hd hi
set_option maxRecDepth 100000 in
theorem run_st {P : Program} {w : World} {g : Nat} {cs : List Value} {t : TypeId} (h : Blk w g cs t) (ty : TypeId) (cells : List Value) (hl : cells.length = cs.length) (hi : (P.info? ty).map (·.size) = some cells.length) (h1 : ∀ v ∈ cells, v.oneCell' = true) :
    (Instr.storeAt ty (.pointer (some ⟨g, 0, none⟩)) (.agg cells.toArray)).run P w = .ok () (w.setCells g 0 cells) :=
  run_storeAt_mid w g 0 ty cells.toArray (h.there 0 _ (by rw [List.size_toArray]; omega)) (by rw [List.size_toArray]; exact hi) (all_oneCell_toArray h1)
set_option maxRecDepth 100000 in
theorem run_stc {P : Program} {w : World} {g : Nat} {cs : List Value} {t : TypeId} (h : Blk w g cs t) (vs : List Value) (hl : vs.length = cs.length) (h1 : ∀ v ∈ vs, v.oneCell' = true) :
    (storeCells ⟨g, 0, none⟩ vs).run P w = .ok () (w.setCells g 0 vs) := by
  have := run_storeCells_cells (P := P) g 0 vs 0 w (fun j hj => by have := (h.there 0 vs.length (by omega) j hj).1; simpa using this) (fun j hj => by have := (h.there 0 vs.length (by omega) j hj).2; simpa using this) h1
  simpa using this
end Go.Proofs.YthkkllcpogagiaaDoor

/- Copies into blocks that are known whole. -/
namespace Go.Proofs.YthkkllcpogagiaaDoor
open Go.RowKit
set_option linter.unusedVariables false

set_option maxRecDepth 100000 in
theorem b8_one (l : List UInt8) : ∀ v ∈ l.map B8, v.oneCell' = true := fun v hv => by
  simp only [List.mem_map] at hv
  obtain ⟨x, _, rfl⟩ := hv
  rfl
set_option maxRecDepth 100000 in
theorem i32 : (Tryd.prog.info? 42).map (·.size) = some 32 := by kernel_rfl
set_option maxRecDepth 100000 in
theorem src_of_rd {w : World} {g off n : Nat} {l : List UInt8} (h : Rd w (some ⟨g, off, none⟩) n l) (hn : 0 < n) : ∀ j v, (l.map B8)[j]? = some v → w.cell? ((⟨g, off, none⟩ : Addr).add j) = some v := fun j v hv => by
  obtain ⟨b, o, e, _, hc⟩ := h.2 hn
  obtain ⟨rfl, rfl⟩ : g = b ∧ off = o := by injection e with e; injection e with h1 h2; exact ⟨h1, h2⟩
  rw [List.getElem?_map, Option.map_eq_some_iff] at hv
  obtain ⟨x, hx, rfl⟩ := hv
  obtain ⟨hj, rfl⟩ := List.getElem?_eq_some_iff.1 hx
  rw [Addr.add_mid]
  exact hc j hj
set_option maxRecDepth 100000 in
/-- copy into a block that is known whole, at a step of a region that draws its order. -/
theorem step_copy_blk {P : Program} {ops : Array Oper} {o : Oper} {a : Act} {w : World} {K : Act → World → Prop} {Q : Exit → Act → World → Prop} {E : Prop} (hgd : o.guard = none) (d s : Operand) (dT sT : TypeId)
    (ho : o.op = .call { callee := .builtin .copy, args := #[d, s], argTypes := #[dT, sT] }) (elem : TypeId) (hu : P.underlying dT = some (.slice elem)) (hsz : (P.info? elem).map (·.size) = some 1)
    (g off : Nat) (ad : Addr) (dLen dCap sLen sCap : Nat) (hd : a.eval d = .slice (some ⟨g, off, none⟩) dLen dCap) (hs : a.eval s = .slice (some ad) sLen sCap)
    (cur : List Value) (t : TypeId) (hb : Blk w g cur t) (cs : List Value) (hn : cs.length = Nat.min sLen dLen) (hsrc : ∀ j v, cs[j]? = some v → w.cell? (ad.add j) = some v)
    (hfit : off + cs.length ≤ cur.length) (h1 : ∀ v ∈ cs, v.oneCell' = true)
    (h : ∀ w', Blk w' g (over cur off cs) t → Only g w w' → K (a.put o.dst (goInt cs.length)) w') :
    if Region.wanted o (yielded ops a.tmps) = true then Oper.wp P o a w K Q else E := by
  have hw : Region.wanted o (yielded ops a.tmps) = true := by simp [Region.wanted, hgd]
  rw [if_pos hw]
  have hrun := run_copy_cells (P := P) w dT sT o.type elem g off dLen dCap ad sLen sCap cs hu hsz hn hsrc (fun j hj => (hb.there off cs.length hfit j hj).1) (fun j hj => (hb.there off cs.length hfit j hj).2) h1
  unfold Oper.wp
  simp [execOp, ho, resolve, invoke, builtin, hd, hs, hrun, Result.andThen]
  exact h _ (Blk.setCells cs w cur off hb hfit) (Only.setCells _ _ _ _ (Only.refl _ _))
end Go.Proofs.YthkkllcpogagiaaDoor

/- Structs, arrays and slices that are built part by part. -/
namespace Go.Proofs.YthkkllcpogagiaaDoor
open Go.RowKit
set_option linter.unusedVariables false
set_option linter.unusedSimpArgs false

set_option maxRecDepth 100000 in
theorem fold_over : ∀ (V : List Value) (L : List Value) (o k : Nat), o + k + V.length ≤ L.length → (V.zipIdx k).foldl (fun (cs : Array Value) (x : Value × Nat) => cs.setIfInBounds (o + x.2) x.1) L.toArray = (over L (o + k) V).toArray
  | [], L, o, k, _ => by simp [over]
  | v :: V, L, o, k, h => by
    rw [List.zipIdx_cons, List.foldl_cons]
    simp only [List.length_cons] at h
    rw [List.setIfInBounds_toArray, fold_over V (L.set (o + k) v) o (k + 1) (by rw [List.length_set]; omega), show o + (k + 1) = o + k + 1 from rfl, set_over v V L (o + k) (by simp; omega)]
set_option maxRecDepth 100000 in
theorem fill_step (place : Nat → Option (Nat × Nat)) (L V : List Value) (i o : Nat) (v : Value) (rest : List (Nat × Value)) (hp : place i = some (o, V.length)) (hv : v.cells = V.toArray) (h : o + V.length ≤ L.length) :
    Instr.fill place L.toArray ((i, v) :: rest) = Instr.fill place (over L o V).toArray rest := by
  have hf := fold_over V L o 0 (by omega)
  rw [Instr.fill]
  simp only [hp, hv, List.size_toArray]
  rw [if_neg (by simp; omega)]
  congr 1
  rw [Nat.add_zero] at hf
  rw [← hf]
  simp
set_option maxRecDepth 100000 in
theorem over_one (L : List Value) (o : Nat) (v : Value) (h : o < L.length) : over L o [v] = L.set o v := by
  unfold over
  rw [List.set_eq_take_append_cons_drop, if_pos h]
  simp
set_option maxRecDepth 100000 in
/-- A struct or an array that is built: its parts' values, and what they make. -/
theorem wp_bld {P : Program} {o : Oper} {a : Act} {w : World} {K : Act → World → Prop} {Q : Exit → Act → World → Prop} (t : TypeId) (parts : Array (Nat × Operand)) (ho : o.op = .build t parts) (vals : Array (Nat × Value)) (x : Value)
    (hv : (parts.map fun (i, x) => (i, a.eval x)) = vals) (hr : ∀ W, (Instr.build t vals).run P W = .ok x W) (h : K (a.put o.dst x) w) : o.wp P a w K Q := by
  unfold Oper.wp execOp
  simp only [ho, hv, Sem.run_bind, hr w, Result.andThen_ok]
  exact h
set_option maxRecDepth 100000 in
theorem at_bld {P : Program} {ops : Array Oper} {rest : List Oper} {Q : Exit → Act → World → Prop} {a : Act} {w : World} {dst : Option Tmp} {t : TypeId} {p : String} {af : Array Edge} (ty : TypeId) {parts : Array (Nat × Operand)}
    (h : wpList P ops Q ({ dst := dst, op := .build ty parts, type := t, pos := p, after := af, guard := none } :: rest) a w) : wpList P ops Q ({ dst := dst, op := .build ty parts, type := t, pos := p, after := af, guard := none } :: rest) a w := h
set_option maxRecDepth 100000 in
theorem wpList_bld {P : Program} {ops : Array Oper} {rest : List Oper} {op : Oper} {a : Act} {w : World} {Q : Exit → Act → World → Prop} (hgd : op.guard = none) (t : TypeId) (parts : Array (Nat × Operand)) (ho : op.op = .build t parts) (vals : Array (Nat × Value)) (x : Value)
    (hv : (parts.map fun (i, x) => (i, a.eval x)) = vals) (hr : ∀ W, (Instr.build t vals).run P W = .ok x W) (h : wpList P ops Q rest (a.put op.dst x) w) : wpList P ops Q (op :: rest) a w :=
  wpList_plain hgd fun _ hK => wp_bld t parts ho vals x hv hr (hK _ _ h)
end Go.Proofs.YthkkllcpogagiaaDoor

/- Words for the package-level tables; small facts on states in memory. -/
namespace Go.Proofs.YthkkllcpogagiaaDoor
open Go.RowKit
set_option linter.unusedVariables false
attribute [local go_sem] size_setCells

/-- The package-level tables hold what the document says. -/
def Tab (w : World) : Prop := w.rangeAt 1 0 (kk.map W32) ∧ w.rangeAt 0 0 h0.vals
set_option maxRecDepth 100000 in
theorem range_lt {w : World} {b o : Nat} {cs : List Value} (h : w.rangeAt b o cs) (hc : 0 < cs.length) : b < w.heap.size :=
  World.block_lt_of_cell? w ⟨b, o + 0, none⟩ (h 0 cs[0] (List.getElem?_eq_getElem hc))
set_option maxRecDepth 100000 in
theorem range_below {B : Nat} {w w' : World} {b o : Nat} {cs : List Value} (h : w.rangeAt b o cs) (hb : Below B w w') (hlt : b < B) : w'.rangeAt b o cs := fun j v hv =>
  (hb.cell (p := ⟨b, o + j, none⟩) hlt).trans (h j v hv)
set_option maxRecDepth 100000 in
theorem Tab.lt {w : World} (h : Tab w) : 1 < w.heap.size ∧ 0 < w.heap.size := ⟨range_lt h.1 (by decide), range_lt h.2 (by decide)⟩
set_option maxRecDepth 100000 in
theorem Tab.below {B : Nat} {w w' : World} (h : Tab w) (hb : Below B w w') (h0 : 1 < B) (h1 : 0 < B) : Tab w' := ⟨range_below h.1 hb h0, range_below h.2 hb h1⟩
set_option maxRecDepth 100000 in
theorem Tab.all {w w' : World} (h : Tab w) (hb : Below w.heap.size w w') : Tab w' := h.below hb h.lt.1 h.lt.2
set_option maxRecDepth 100000 in
theorem i8 : (Tryd.prog.info? 83).map (·.size) = some 8 := by kernel_rfl
set_option maxRecDepth 100000 in
theorem ib64 : (Tryd.prog.info? 94).map (·.size) = some 64 := by kernel_rfl
set_option maxRecDepth 100000 in
theorem vals_one (s : St) : ∀ v ∈ s.vals, v.oneCell' = true := fun v hv => by
  simp only [St.vals, List.mem_map] at hv
  obtain ⟨x, _, rfl⟩ := hv
  rfl
set_option maxRecDepth 100000 in
theorem w32_one (l : List Nat) : ∀ v ∈ l.map W32, v.oneCell' = true := fun v hv => by
  simp only [List.mem_map] at hv
  obtain ⟨x, _, rfl⟩ := hv
  rfl
set_option maxRecDepth 100000 in
theorem map_at (l : List Nat) (t : Nat) (h : t < l.length) : (l.map W32)[t]? = some (.int .u32 (l.getD t 0 : Int)) := by
  simp [W32, List.getElem?_eq_getElem h, List.getD]
/-- The first k words of a sum, then those of the first state. -/
def addp (s r : List Nat) (k : Nat) : List Nat := (List.range 8).map fun j => if j < k then (s.getD j 0 + r.getD j 0) % 4294967296 else s.getD j 0
set_option maxRecDepth 100000 in
theorem addp_at (s r : St) (k : Nat) (hk : k < 8) : ((addp s.list r.list k).map W32)[k]? = some (.int .u32 (s.list.getD k 0 : Int)) := by
  simp [addp, hk, W32]
set_option maxRecDepth 100000 in
theorem addp_set (s r : St) (k : Nat) (hk : k < 8) : ((addp s.list r.list k).map W32).set k (W32 ((s.list.getD k 0 + r.list.getD k 0) % 4294967296)) = (addp s.list r.list (k + 1)).map W32 := by
  rw [← List.map_set]
  congr 1
  apply List.ext_getElem
  · simp [addp]
  · intro j h1 h2
    rw [List.getElem_set]
    simp only [addp, List.getElem_map, List.getElem_range]
    by_cases e : k = j
    · subst e; simp
    · rw [if_neg e]
      by_cases hj : j < k
      · rw [if_pos hj, if_pos (by omega)]
      · rw [if_neg hj, if_neg (by omega)]
set_option maxRecDepth 100000 in
theorem vals_len (s : St) : s.vals.length = 8 := rfl
set_option maxRecDepth 100000 in
theorem list_len (s : St) : s.list.length = 8 := rfl
set_option maxRecDepth 100000 in
theorem addp_zero (s r : St) : (addp s.list r.list 0).map W32 = s.vals := by
  have h : addp s.list r.list 0 = s.list := by
    apply List.ext_getElem
    · simp [addp, list_len]
    · intro j h1 h2
      simp only [addp, List.getElem_map, List.getElem_range, Nat.not_lt_zero, if_false]
      simp [List.getD, List.getElem?_eq_getElem h2]
  rw [h]
  rfl
set_option maxRecDepth 100000 in
theorem addp_all (s r : St) : (addp s.list r.list 8).map W32 = (s.add r).vals := by
  have h : addp s.list r.list 8 = (s.add r).list := by
    obtain ⟨a, b, c, d, e, f, g, h⟩ := s
    obtain ⟨a', b', c', d', e', f', g', h'⟩ := r
    simp [addp, St.add, St.list, List.range, List.range.loop]
  rw [h]
  rfl
set_option maxRecDepth 100000 in
theorem wall_len (B : List UInt8) : (wall B).length = 64 := by simp [wall]

end Go.Proofs.YthkkllcpogagiaaDoor
