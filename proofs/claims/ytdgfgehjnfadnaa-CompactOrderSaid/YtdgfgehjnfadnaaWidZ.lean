/- The contract of wide.Quo. -/
import Derived.Test.YtdgfgehjnfadnaaWidS
import Derived.Test.YtdgfgehjnfadnaaWidA
import Derived.Test.YtdgfgehjnfadnaaWidQ
import Derived.Test.YtdgfgehjnfadnaaWidP
import Derived.Deep.RegionHeld3
import Derived.Deep.CutRange
import Derived.Deep.DeepCutAuto
namespace Go.Proofs.Ytdgfgehjnfadnaa
open Go.RowKit
set_option linter.unusedVariables false
set_option linter.unusedSimpArgs false

theorem Blk.step {w w' : World} {g : Nat} {cs : List Value} {t : TypeId} (h : Blk w g cs t) (hb : Below w.heap.size w w') : Blk w' g cs t := h.below hb h.lt
theorem Still.setN {w W W' : World} (h : Still w W) (h' : Still w W') (i : Nat) (v : Value) : Still w (W.setCell ⟨W'.heap.size, i, none⟩ v) := Below.setCell h h'.size v
/-- A whole array or struct is stored into its block: one operation. -/
theorem wp_store_blk {P : Program} {op : Oper} {a : Act} {w : World} {K : Act → World → Prop} {Q : Exit → Act → World → Prop} (ty : TypeId) (x y : Operand) (ho : op.op = .store ty x y)
    (g : Nat) (cs0 cells : List Value) (t : TypeId) (hx : a.eval x = .pointer (some ⟨g, 0, none⟩)) (hy : a.eval y = .agg cells.toArray) (hb : Blk w g cs0 t) (hl : cs0.length = cells.length)
    (hi : (P.info? ty).map (·.size) = some cells.length) (h1 : ∀ v ∈ cells, v.oneCell' = true)
    (h : ∀ w2, Blk w2 g cells t → Only g w w2 → K (a.put op.dst undef) w2) : op.wp P a w K Q := by
  refine wp_store_mid ty x y ho g 0 cells.toArray hx hy (hb.there 0 _ (by rw [List.size_toArray]; omega)) (by rw [List.size_toArray]; exact hi) (all_oneCell_toArray h1) ?_
  have hs := Blk.setCells cells w cs0 0 hb (by omega)
  rw [over_all _ _ hl] at hs
  exact h _ hs (Only.setCells _ _ _ _ (Only.refl g w))
/-- The six blocks of Quo. -/
structure QB (w wr : World) (x y : Nat) (f : Nat → Nat) (R : Nat) : Prop where
  a : Blk wr w.heap.size (cellsW (wd x)) 25
  b : Blk wr (w.heap.size + 1) (cellsW (wd y)) 25
  c : Blk wr (w.heap.size + 1 + 1) zerosW 25
  d : Blk wr (w.heap.size + 1 + 1 + 1) zerosW 25
  q : Blk wr (w.heap.size + 1 + 1 + 1 + 1) (cellsW f) 25
  r : Blk wr (w.heap.size + 1 + 1 + 1 + 1 + 1) (cellsW (wd R)) 25
  below : Below w.heap.size w wr
theorem QB.step {w wr w2 : World} {x y : Nat} {f : Nat → Nat} {R : Nat} (h : QB w wr x y f R) (s : Still wr w2) : QB w w2 x y f R :=
  ⟨h.a.step s, h.b.step s, h.c.step s, h.d.step s, h.q.step s, h.r.step s, Below.trans h.below (Below.mono s h.below.size)⟩
theorem QB.rest {w wr w2 : World} {x y : Nat} {f : Nat → Nat} {R R2 : Nat} (h : QB w wr x y f R) (hb : Blk w2 (w.heap.size + 1 + 1 + 1 + 1 + 1) (cellsW (wd R2)) 25) (ho : Only (w.heap.size + 1 + 1 + 1 + 1 + 1) wr w2) : QB w w2 x y f R2 :=
  ⟨ho.blk h.a (by omega), ho.blk h.b (by omega), ho.blk h.c (by omega), ho.blk h.d (by omega), ho.blk h.q (by omega), hb, h.below.trans (ho.below (by omega))⟩
theorem QB.quo2 {w wr : World} {x y : Nat} {f : Nat → Nat} {R : Nat} (h : QB w wr x y f R) (t v : Nat) (ht : t < 4) : QB w (wr.setCell ⟨w.heap.size + 1 + 1 + 1 + 1, t, none⟩ (.int .u64 (v : Int))) x y (upd f t v) R :=
  ⟨h.a.set_other _ _ (by simp <;> omega), h.b.set_other _ _ (by simp <;> omega), h.c.set_other _ _ (by simp <;> omega), h.d.set_other _ _ (by simp <;> omega), by rw [← cellsW_set f t v ht]; exact h.q.set t _, h.r.set_other _ _ (by simp <;> omega), h.below.setCell (by simp <;> omega) _⟩
theorem QB.quo {w wr : World} {x y : Nat} {f : Nat → Nat} {R : Nat} (h : QB w wr x y f R) (t v : Nat) (ht : t < 4) : QB w (wr.setCell ⟨w.heap.size + 1 + 1 + 1 + 1, t, none⟩ (.int .u64 (v : Int))).drew x y (upd f t v) R :=
  ⟨(h.a.set_other _ _ (by simp <;> omega)).drewN 1, (h.b.set_other _ _ (by simp <;> omega)).drewN 1, (h.c.set_other _ _ (by simp <;> omega)).drewN 1, (h.d.set_other _ _ (by simp <;> omega)).drewN 1, by rw [← cellsW_set f t v ht]; exact (h.q.set t _).drewN 1, (h.r.set_other _ _ (by simp <;> omega)).drewN 1, below_drewN (h.below.setCell (by simp <;> omega) _) 1⟩

set_option maxHeartbeats 16000000 in
theorem quo_calls (x y : Nat) (w : World) (hx : x < 2 ^ 256) (hy : y < 2 ^ 256) (hy0 : y ≠ 0) :
    Calls Try.prog 39 #[.agg (uA x), .agg (uA y)] w (Ret w (.tuple #[.agg (uA (x / y)), .agg (uA (x % y))])) := by
  obtain ⟨L1, hL1⟩ : ∃ L, L = bl x := ⟨_, rfl⟩
  obtain ⟨L2, hL2⟩ : ∃ L, L = bl y := ⟨_, rfl⟩
  have lL1 : L1 ≤ 256 := by rw [hL1]; exact (bl_le x 256).2 hx
  have lL2 : L2 ≤ 256 := by rw [hL2]; exact (bl_le y 256).2 hy
  obtain ⟨dl, hdl⟩ : ∃ dl : Int, dl = (L1 : Int) - (L2 : Int) := ⟨_, rfl⟩
  obtain ⟨pl, hpl⟩ : ∃ pl : Int, pl = dl + 1 := ⟨_, rfl⟩
  obtain ⟨P, hP⟩ : ∃ P, P = pl.toNat := ⟨_, rfl⟩
  have e1 : IntKind.i64.wrap ((L1 : Int) - (L2 : Int)) = dl := by rw [IntKind.wrap_i64]; omega
  have e2 : IntKind.i64.wrap (dl + 1) = pl := by rw [IntKind.wrap_i64]; omega
  have HS : Hid (QS x y 0 x P) := Lib.hid (QS.start x y P hy0 (by omega))
  have HF : Hid (∀ k, k < P → y * 2 ^ k < 2 ^ 256) := Lib.hid fun k hk => shl_fits x y k P hx hy0 hk (by omega)
  have gU := guardU
  have heq : ∀ W, (Op.equalIn 10000 25 (.agg (cellsW (wd y)).toArray) (.agg #[.int .u64 0, .int .u64 0, .int .u64 0, .int .u64 0])).run Try.prog W = .ok false W := fun W => by
    have h := u_equal y 0 hy (by decide) W
    rw [decide_eq_false hy0] at h
    exact h
  have CL1 : Hid (∀ W, Calls Try.prog 33 #[.agg #[.int .u64 (wd x 0 : Int), .int .u64 (wd x 1 : Int), .int .u64 (wd x 2 : Int), .int .u64 (wd x 3 : Int)]] W (Ret W (.int .i64 (L1 : Int)))) := Lib.hid fun W => by rw [hL1]; exact wlen_calls x W hx
  have CL2 : Hid (∀ W, Calls Try.prog 33 #[.agg #[.int .u64 (wd y 0 : Int), .int .u64 (wd y 1 : Int), .int .u64 (wd y 2 : Int), .int .u64 (wd y 3 : Int)]] W (Ret W (.int .i64 (L2 : Int)))) := Lib.hid fun W => by rw [hL2]; exact wlen_calls y W hy
  have CSH : Hid (∀ k W, k < P → Calls Try.prog 28 #[.agg #[.int .u64 (wd y 0 : Int), .int .u64 (wd y 1 : Int), .int .u64 (wd y 2 : Int), .int .u64 (wd y 3 : Int)], .int .i64 (k : Int)] W (Ret W (.agg (uA (y * 2 ^ k))))) := Lib.hid fun k W hk => shl_calls y (k : Int) k W hy (by omega) (by simp)
  have CSB : Hid (∀ R S W, R < 2 ^ 256 → S < 2 ^ 256 → Calls Try.prog 18 #[.agg #[.int .u64 (wd R 0 : Int), .int .u64 (wd R 1 : Int), .int .u64 (wd R 2 : Int), .int .u64 (wd R 3 : Int)], .agg (uA S)] W (Ret W (.tuple #[.agg (uA (dif R S)), .bool (decide (R < S))]))) := Lib.hid fun R S W hR hS => sub_calls R S W hR hS
  have HXL := Lib.hid hx
  have HY0 := Lib.hid hy0
  have HPP : Hid (P = pl.toNat ∧ pl ≤ 256 ∧ -256 ≤ pl) := Lib.hid ⟨hP, by have : 0 < L2 := (by rw [hL2]; exact bl_pos hy0); omega, by omega⟩
  obtain ⟨V1, hV1⟩ : ∃ V, V = uA (x / y) := ⟨_, rfl⟩
  obtain ⟨V2, hV2⟩ : ∃ V, V = uA (x % y) := ⟨_, rfl⟩
  rw [← hV1, ← hV2]
  have HV1 := Lib.hid hV1
  have HV2 := Lib.hid hV2
  have HA : Hid (∀ W, W = (((w.alloc (.cells (uA x) 25)).alloc (.cells (uA y) 25)).alloc (.cells #[.int .u64 0, .int .u64 0, .int .u64 0, .int .u64 0] 25)).alloc (.cells #[.int .u64 0, .int .u64 0, .int .u64 0, .int .u64 0] 25) → Blk W w.heap.size (cellsW (wd x)) 25 ∧ Blk W (w.heap.size + 1) (cellsW (wd y)) 25 ∧ Blk W (w.heap.size + 1 + 1) zerosW 25 ∧ Blk W (w.heap.size + 1 + 1 + 1) zerosW 25 ∧ Below w.heap.size w W ∧ W.heap.size = w.heap.size + 1 + 1 + 1 + 1) := Lib.hid fun W hW => by
    rw [hW]
    exact ⟨(((Blk.new w (uA x) _).alloc _).alloc _).alloc _, ((Blk.new' (w.alloc _) (uA y) _ _ (by simp)).alloc _).alloc _, (Blk.new' ((w.alloc _).alloc _) _ _ _ (by simp)).alloc _, Blk.new' (((w.alloc _).alloc _).alloc _) _ _ _ (by simp), ((((Below.refl _ w).alloc (Nat.le_refl _) _).alloc (by simp) _).alloc (by simp <;> omega) _).alloc (by simp <;> omega) _, by simp⟩
  have FQ : Hid (∀ W w1, W = (((w.alloc (.cells (uA x) 25)).alloc (.cells (uA y) 25)).alloc (.cells #[.int .u64 0, .int .u64 0, .int .u64 0, .int .u64 0] 25)).alloc (.cells #[.int .u64 0, .int .u64 0, .int .u64 0, .int .u64 0] 25) → Blk w1 (w.heap.size + 1 + 1 + 1 + 1 + 1) (cellsW (wd x)) 25 → Only (w.heap.size + 1 + 1 + 1 + 1 + 1) ((W.alloc (.cells #[.int .u64 0, .int .u64 0, .int .u64 0, .int .u64 0] 25)).alloc (.cells #[.int .u64 0, .int .u64 0, .int .u64 0, .int .u64 0] 25)) w1 → QB w w1 x y (fun _ => 0) x) := Lib.hid fun W w1 hW hb ho => by
    obtain ⟨h1, h2, h3, h4, h5, h6⟩ := HA.out W hW
    exact ⟨ho.blk ((h1.alloc _).alloc _) (by omega), ho.blk ((h2.alloc _).alloc _) (by omega), ho.blk ((h3.alloc _).alloc _) (by omega), ho.blk ((h4.alloc _).alloc _) (by omega), ho.blk ((Blk.new' W _ _ _ h6).alloc _) (by omega), hb, ((h5.alloc (by omega) _).alloc (by simp <;> omega) _).trans (ho.below (by omega))⟩
  clear hL1 hL2 hdl hpl hP hx hy hy0 hV1 hV2
  go_enter Try.func39, Try.ntmps39
  go_upto_region 5 with (first
    | (refine at_load 25 (.tmp 3) ?_; refine wpList_load_mid rfl 25 (.tmp 3) rfl (w.heap.size + 1) 0 rfl (cellsW (wd y)) _ (HA.out _ rfl).2.1.range Try.underlying25 rfl (sizeW _) ?_)
    | (refine at_load 25 (.tmp 2) ?_; refine wpList_load_mid rfl 25 (.tmp 2) rfl w.heap.size 0 rfl (cellsW (wd x)) _ ((HA.out _ rfl).1.alloc _).range Try.underlying25 rfl (sizeW _) ?_)
    | (refine at_store 25 (.tmp 7) (.tmp 18) ?_; refine wpList_store_blk rfl 25 (.tmp 7) (.tmp 18) rfl (w.heap.size + 1 + 1 + 1 + 1 + 1) zerosW (cellsW (wd x)) _ rfl rfl (Blk.new' _ _ _ _ (by simp)) rfl (sizeW _) (cellsW_one _) ?_; intro w1 hb1 ho1))
  have hqb := FQ.out _ w1 rfl hb1 ho1
  clear hb1 ho1
  simp only [Act.put]
  go_cut [8] (fun v wx => v = .int .i64 pl ∧ QB w wx x y (fun _ => 0) x)
  case first =>
    have K0 : Hid (∀ W, Still w1 W → W.cell? ⟨w.heap.size, 0, none⟩ = some (.int .u64 (wd x 0 : Int)) ∧ W.cell? ⟨w.heap.size, 1, none⟩ = some (.int .u64 (wd x 1 : Int)) ∧ W.cell? ⟨w.heap.size, 2, none⟩ = some (.int .u64 (wd x 2 : Int)) ∧ W.cell? ⟨w.heap.size, 3, none⟩ = some (.int .u64 (wd x 3 : Int)) ∧ W.cell? ⟨w.heap.size + 1, 0, none⟩ = some (.int .u64 (wd y 0 : Int)) ∧ W.cell? ⟨w.heap.size + 1, 1, none⟩ = some (.int .u64 (wd y 1 : Int)) ∧ W.cell? ⟨w.heap.size + 1, 2, none⟩ = some (.int .u64 (wd y 2 : Int)) ∧ W.cell? ⟨w.heap.size + 1, 3, none⟩ = some (.int .u64 (wd y 3 : Int)) ∧ Still w1 W) := Lib.hid fun W h => ⟨(hqb.a.below h hqb.a.lt).cell 0, (hqb.a.below h hqb.a.lt).cell 1, (hqb.a.below h hqb.a.lt).cell 2, (hqb.a.below h hqb.a.lt).cell 3, (hqb.b.below h hqb.b.lt).cell 0, (hqb.b.below h hqb.b.lt).cell 1, (hqb.b.below h hqb.b.lt).cell 2, (hqb.b.below h hqb.b.lt).cell 3, h⟩
    have HQB := Lib.hid hqb
    clear hqb
    go_region_held3 (fun W => W.cell? ⟨w.heap.size, 0, none⟩ = some (.int .u64 (wd x 0 : Int)) ∧ W.cell? ⟨w.heap.size, 1, none⟩ = some (.int .u64 (wd x 1 : Int)) ∧ W.cell? ⟨w.heap.size, 2, none⟩ = some (.int .u64 (wd x 2 : Int)) ∧ W.cell? ⟨w.heap.size, 3, none⟩ = some (.int .u64 (wd x 3 : Int)) ∧ W.cell? ⟨w.heap.size + 1, 0, none⟩ = some (.int .u64 (wd y 0 : Int)) ∧ W.cell? ⟨w.heap.size + 1, 1, none⟩ = some (.int .u64 (wd y 1 : Int)) ∧ W.cell? ⟨w.heap.size + 1, 2, none⟩ = some (.int .u64 (wd y 2 : Int)) ∧ W.cell? ⟨w.heap.size + 1, 3, none⟩ = some (.int .u64 (wd y 3 : Int)) ∧ Still w1 W)
      (exact K0.out _ (by ((repeat (first | exact Still.refl _ | apply Still.alloc | apply Still.drew | refine Still.step ?_ (by assumption) | refine Still.setN ?_ ?_ _ _)))))
      (first
      | (go_at_call_of 33 (wd x 0); refine (CL1.out _).mono ?_; rintro e' v1 ⟨rfl, d1⟩)
      | (go_at_call_of 33 (wd y 0); refine (CL2.out _).mono ?_; rintro e' v2 ⟨rfl, d2⟩))
    all_goals (go_wp2_with fail; go_meet; exact ⟨rfl, HQB.out.step (by ((repeat (first | exact Still.refl _ | apply Still.alloc | apply Still.drew | refine Still.step ?_ (by assumption) | refine Still.setN ?_ ?_ _ _))))⟩)
  case rest =>
    obtain ⟨rfl, hqb⟩ := hcut
    have HQ0 := Lib.hid hqb
    clear hqb
    go_wp2
    go_loopw [26] (fun i wr => ∃ (t : Nat) (f : Nat → Nat) (Q R : Nat), t ≤ P ∧ i = .int .i64 (t : Int) ∧ QB w wr x y f R ∧ Hid (QS x y Q R (P - t) ∧ ∀ j, j < 4 → f j = wd Q j)) (fun i _ => P - (intOf i).toNat)
    case atStart =>
      exact ⟨0, fun _ => 0, 0, x, by omega, rfl, HQ0.out, HS.out, fun j _ => by unfold wd; simp⟩
    case round =>
      obtain ⟨t, f, Q, R, ht, rfl, hqb, HQS⟩ := hrel
      obtain ⟨hqs, hfq⟩ := HQS.out
      obtain ⟨hP1, hP2, hP3⟩ := HPP.out
      by_cases hlt : t < P
      · obtain ⟨k, hk⟩ : ∃ k, k = P - 1 - t := ⟨_, rfl⟩
        have hkP : k < P := by omega
        have hPt : P - t = k + 1 := by omega
        rw [hPt] at hqs
        obtain ⟨S, hS⟩ : ∃ S, S = y * 2 ^ k := ⟨_, rfl⟩
        have hS256 : S < 2 ^ 256 := by rw [hS]; exact HF.out k hkP
        have hR256 : R < 2 ^ 256 := Nat.lt_of_le_of_lt hqs.le HXL.out
        obtain ⟨pl1, hpl1⟩ : ∃ pl1 : Int, pl1 = pl - 1 := ⟨_, rfl⟩
        have n1 : IntKind.i64.wrap (pl - 1) = pl1 := by rw [IntKind.wrap_i64]; omega
        have n2 : IntKind.i64.wrap (pl1 - (t : Int)) = (k : Int) := by rw [IntKind.wrap_i64]; omega
        have bt : (t : Int) < pl := by omega
        have C1 : Hid (∀ W, Calls Try.prog 28 #[.agg (cellsW (wd y)).toArray, .int .i64 (k : Int)] W (Ret W (.agg (uA S)))) := Lib.hid fun W => by rw [hS]; exact CSH.out k W hkP
        obtain ⟨D, hD⟩ : ∃ D, D = dif R S := ⟨_, rfl⟩
        obtain ⟨B, hB⟩ : ∃ B, B = decide (R < S) := ⟨_, rfl⟩
        have C2 : Hid (∀ W, Calls Try.prog 18 #[.agg (cellsW (wd R)).toArray, .agg (uA S)] W (Ret W (.tuple #[.agg (cellsW (wd D)).toArray, .bool B]))) := Lib.hid fun W => by rw [hB]; have h := CSB.out R S W hR256 hS256; rw [← hD] at h; exact h
        have K0 : Hid (∀ W, Still wr W → W.rangeAt (w.heap.size + 1 + 1 + 1 + 1 + 1) 0 (cellsW (wd R)) ∧ W.rangeAt (w.heap.size + 1) 0 (cellsW (wd y)) ∧ Still wr W) := Lib.hid fun W h => ⟨(hqb.r.below h hqb.r.lt).range, (hqb.b.below h hqb.b.lt).range, h⟩
        have HQB := Lib.hid hqb
        have HQ := Lib.hid (And.intro hqs hfq)
        have HK := Lib.hid (And.intro hk (And.intro hS (And.intro hD hB)))
        clear hqb hqs hfq HQS hPt hS hD hB hS256 hR256 hpl1 hk
        go_upto_region 10 with fail
        go_cut [11, 12] from 33 to 40 (fun p gr wx => ∃ gg : Nat, p = .pointer (some ⟨gg, 0, none⟩) ∧ gr = .bool B ∧ Blk wx gg (cellsW (wd D)) 25 ∧ wr.heap.size ≤ gg ∧ Still wr wx)
        case first =>
          refine wp_region_held_drew (S := fun W => W.rangeAt (w.heap.size + 1 + 1 + 1 + 1 + 1) 0 (cellsW (wd R)) ∧ W.rangeAt (w.heap.size + 1) 0 (cellsW (wd y)) ∧ Still wr W) (by kernel_rfl) ?_ (fun hHeld => ?_)
          · exact K0.out _ (by ((repeat (first | exact Still.refl _ | assumption | apply Still.alloc | apply Still.drew | refine Still.step ?_ (by assumption)))))
          refine wpAnyH_take (i := 0) rfl (by kernel_rfl) (by kernel_rfl) (by kernel_rfl) (fun _ _ _ h => h) (yieldsIf_load_mid (by rfl) _ _ rfl _ _ rfl (cellsW (wd R)) _ (fun w hSw => by (try dsimp only at hSw); go_split_ands; assumption) Try.underlying25 rfl (sizeW _)) (by assumption) ?_
          (try simp only [List.getElem_toArray, List.getElem_cons_succ, List.getElem_cons_zero, Act.put, List.setIfInBounds_toArray, List.set_cons_succ, List.set_cons_zero])
          refine wpAnyH_take (i := 1) rfl (by kernel_rfl) (by kernel_rfl) (by kernel_rfl) (fun _ _ _ h => h) (yieldsIf_load_mid (by rfl) _ _ rfl _ _ rfl (cellsW (wd y)) _ (fun w hSw => by (try dsimp only at hSw); go_split_ands; assumption) Try.underlying25 rfl (sizeW _)) (by assumption) ?_
          (try simp only [List.getElem_toArray, List.getElem_cons_succ, List.getElem_cons_zero, Act.put, List.setIfInBounds_toArray, List.set_cons_succ, List.set_cons_zero])
          refine wpAnyH_take (i := 2) (v := ?_) rfl (by kernel_rfl) (by kernel_rfl) (by kernel_rfl) (fun _ _ _ h => h) (Or.inl ⟨by rfl, ?_⟩) (by assumption) ?_
          rotate_left 1
          · intro w hSw; (try dsimp only at hSw); simp only [List.getElem_toArray, List.getElem_cons_succ, List.getElem_cons_zero]; go_simp; try (with_reducible rfl)
          (try simp only [List.getElem_toArray, List.getElem_cons_succ, List.getElem_cons_zero, Act.put, List.setIfInBounds_toArray, List.set_cons_succ, List.set_cons_zero])
          refine wpAnyH_ready (rs := [3, 8]) (by kernel_rfl) (by simp) ?_
          refine AllReadyH.cons rfl (fun K hK => ?_) ?_
          · (try simp only [List.getElem_toArray, List.getElem_cons_succ, List.getElem_cons_zero])
            go_simp
            go_at_call 28; refine (C1.out _).mono ?_; rintro e' v1 ⟨rfl, d1⟩
            (try (go_wp2_with fail))
            refine hK.out _ _ ?_ (fun hHeld => ?_)
            · exact K0.out _ (by ((repeat (first | exact Still.refl _ | assumption | apply Still.alloc | apply Still.drew | refine Still.step ?_ (by assumption)))))
            clear hK K
            (try simp only [Act.put, List.setIfInBounds_toArray, List.set_cons_succ, List.set_cons_zero])
            refine wpAnyH_ready (rs := [4, 8]) (by kernel_rfl) (by simp) ?_
            refine AllReadyH.cons rfl (fun K hK => ?_) ?_
            · (try simp only [List.getElem_toArray, List.getElem_cons_succ, List.getElem_cons_zero])
              go_simp
              go_at_call 18; refine (C2.out _).mono ?_; rintro e' v2 ⟨rfl, d2⟩
              (try (go_wp2_with fail))
              refine hK.out _ _ ?_ (fun hHeld => ?_)
              · exact K0.out _ (by ((repeat (first | exact Still.refl _ | assumption | apply Still.alloc | apply Still.drew | refine Still.step ?_ (by assumption)))))
              clear hK K
              (try simp only [Act.put, List.setIfInBounds_toArray, List.set_cons_succ, List.set_cons_zero])
              refine wpAnyH_take (i := 5) (v := ?_) rfl (by kernel_rfl) (by kernel_rfl) (by kernel_rfl) (fun _ _ _ h => h) (Or.inl ⟨by rfl, ?_⟩) (by assumption) ?_
              rotate_left 1
              · intro w hSw; (try dsimp only at hSw); simp only [List.getElem_toArray, List.getElem_cons_succ, List.getElem_cons_zero]; go_simp; try (with_reducible rfl)
              (try simp only [List.getElem_toArray, List.getElem_cons_succ, List.getElem_cons_zero, Act.put, List.setIfInBounds_toArray, List.set_cons_succ, List.set_cons_zero])
              refine wpAnyH_take (i := 6) (v := ?_) rfl (by kernel_rfl) (by kernel_rfl) (by kernel_rfl) (fun _ _ _ h => h) (Or.inl ⟨by rfl, ?_⟩) (by assumption) ?_
              rotate_left 1
              · intro w hSw; (try dsimp only at hSw); simp only [List.getElem_toArray, List.getElem_cons_succ, List.getElem_cons_zero]; go_simp; try (with_reducible rfl)
              (try simp only [List.getElem_toArray, List.getElem_cons_succ, List.getElem_cons_zero, Act.put, List.setIfInBounds_toArray, List.set_cons_succ, List.set_cons_zero])
              refine wpAnyH_take (i := 7) (v := ?_) rfl (by kernel_rfl) (by kernel_rfl) (by kernel_rfl) (fun _ _ _ h => h) (Or.inl ⟨by rfl, ?_⟩) (by assumption) ?_
              rotate_left 1
              · intro w hSw; (try dsimp only at hSw); simp only [List.getElem_toArray, List.getElem_cons_succ, List.getElem_cons_zero]; go_simp; try (with_reducible rfl)
              (try simp only [List.getElem_toArray, List.getElem_cons_succ, List.getElem_cons_zero, Act.put, List.setIfInBounds_toArray, List.set_cons_succ, List.set_cons_zero])
              refine wpAnyH_ready (rs := [8]) (by kernel_rfl) (by simp) ?_
              refine AllReadyH.cons rfl (fun K hK => ?_) AllReadyH.nil
              (try simp only [List.getElem_toArray, List.getElem_cons_succ, List.getElem_cons_zero])
              go_simp
              refine hK.out _ _ ?_ (fun hHeld => ?_)
              · exact K0.out _ (by ((repeat (first | exact Still.refl _ | assumption | apply Still.alloc | apply Still.drew | refine Still.step ?_ (by assumption)))))
              clear hK K
              (try simp only [Act.put, List.setIfInBounds_toArray, List.set_cons_succ, List.set_cons_zero])
              refine wpAnyH_ready (rs := [9]) (by kernel_rfl) (by simp) ?_
              refine AllReadyH.cons rfl (fun K hK => ?_) AllReadyH.nil
              (try simp only [List.getElem_toArray, List.getElem_cons_succ, List.getElem_cons_zero])
              refine Eq.mpr (if_pos (by rfl)) ?_
              refine wp_store_blk 25 (.tmp 11) (.tmp 39) rfl v2.heap.size zerosW (cellsW (wd D)) 25 rfl rfl (by ((repeat (first | exact Blk.new _ _ _ | apply Blk.alloc | refine Blk.step ?_ (by assumption))))) rfl (sizeW _) (cellsW_one _) ?_
              intro w2 hb2 ho2
              have hle : wr.heap.size ≤ v2.heap.size := (show Still wr v2 from by ((repeat (first | exact Still.refl _ | assumption | apply Still.alloc | apply Still.drew | refine Still.step ?_ (by assumption))))).size
              have hst : Still wr w2 := Below.trans (show Still wr _ from by ((repeat (first | exact Still.refl _ | assumption | apply Still.alloc | apply Still.drew | refine Still.step ?_ (by assumption))))) (ho2.below hle)
              refine hK.out _ _ ?_ (fun hHeld => ?_)
              · exact K0.out _ hst
              clear hK K
              (try simp only [Act.put, List.setIfInBounds_toArray, List.set_cons_succ, List.set_cons_zero])
              refine wpAnyH_take (i := 10) (v := ?_) rfl (by kernel_rfl) (by kernel_rfl) (by kernel_rfl) (fun _ _ _ h => h) (Or.inl ⟨by rfl, ?_⟩) (by assumption) ?_
              rotate_left 1
              · intro w hSw; (try dsimp only at hSw); simp only [List.getElem_toArray, List.getElem_cons_succ, List.getElem_cons_zero]; go_simp; try (with_reducible rfl)
              (try simp only [List.getElem_toArray, List.getElem_cons_succ, List.getElem_cons_zero, Act.put, List.setIfInBounds_toArray, List.set_cons_succ, List.set_cons_zero])
              refine wpAnyH_done (by kernel_rfl) ?_ _
              go_wp2_with fail
              go_meet
              exact ⟨_, rfl, rfl, hb2, hle, hst⟩
            refine AllReadyH.cons rfl (fun K hK => ?_) AllReadyH.nil
            (try simp only [List.getElem_toArray, List.getElem_cons_succ, List.getElem_cons_zero])
            go_simp
            refine hK.out _ _ ?_ (fun hHeld => ?_)
            · exact K0.out _ (by ((repeat (first | exact Still.refl _ | assumption | apply Still.alloc | apply Still.drew | refine Still.step ?_ (by assumption)))))
            clear hK K
            (try simp only [Act.put, List.setIfInBounds_toArray, List.set_cons_succ, List.set_cons_zero])
            refine wpAnyH_ready (rs := [4]) (by kernel_rfl) (by simp) ?_
            refine AllReadyH.cons rfl (fun K hK => ?_) AllReadyH.nil
            (try simp only [List.getElem_toArray, List.getElem_cons_succ, List.getElem_cons_zero])
            go_simp
            go_at_call 18; refine (C2.out _).mono ?_; rintro e' v2 ⟨rfl, d2⟩
            (try (go_wp2_with fail))
            refine hK.out _ _ ?_ (fun hHeld => ?_)
            · exact K0.out _ (by ((repeat (first | exact Still.refl _ | assumption | apply Still.alloc | apply Still.drew | refine Still.step ?_ (by assumption)))))
            clear hK K
            (try simp only [Act.put, List.setIfInBounds_toArray, List.set_cons_succ, List.set_cons_zero])
            refine wpAnyH_take (i := 5) (v := ?_) rfl (by kernel_rfl) (by kernel_rfl) (by kernel_rfl) (fun _ _ _ h => h) (Or.inl ⟨by rfl, ?_⟩) (by assumption) ?_
            rotate_left 1
            · intro w hSw; (try dsimp only at hSw); simp only [List.getElem_toArray, List.getElem_cons_succ, List.getElem_cons_zero]; go_simp; try (with_reducible rfl)
            (try simp only [List.getElem_toArray, List.getElem_cons_succ, List.getElem_cons_zero, Act.put, List.setIfInBounds_toArray, List.set_cons_succ, List.set_cons_zero])
            refine wpAnyH_take (i := 6) (v := ?_) rfl (by kernel_rfl) (by kernel_rfl) (by kernel_rfl) (fun _ _ _ h => h) (Or.inl ⟨by rfl, ?_⟩) (by assumption) ?_
            rotate_left 1
            · intro w hSw; (try dsimp only at hSw); simp only [List.getElem_toArray, List.getElem_cons_succ, List.getElem_cons_zero]; go_simp; try (with_reducible rfl)
            (try simp only [List.getElem_toArray, List.getElem_cons_succ, List.getElem_cons_zero, Act.put, List.setIfInBounds_toArray, List.set_cons_succ, List.set_cons_zero])
            refine wpAnyH_take (i := 7) (v := ?_) rfl (by kernel_rfl) (by kernel_rfl) (by kernel_rfl) (fun _ _ _ h => h) (Or.inl ⟨by rfl, ?_⟩) (by assumption) ?_
            rotate_left 1
            · intro w hSw; (try dsimp only at hSw); simp only [List.getElem_toArray, List.getElem_cons_succ, List.getElem_cons_zero]; go_simp; try (with_reducible rfl)
            (try simp only [List.getElem_toArray, List.getElem_cons_succ, List.getElem_cons_zero, Act.put, List.setIfInBounds_toArray, List.set_cons_succ, List.set_cons_zero])
            refine wpAnyH_ready (rs := [9]) (by kernel_rfl) (by simp) ?_
            refine AllReadyH.cons rfl (fun K hK => ?_) AllReadyH.nil
            (try simp only [List.getElem_toArray, List.getElem_cons_succ, List.getElem_cons_zero])
            refine Eq.mpr (if_pos (by rfl)) ?_
            refine wp_store_blk 25 (.tmp 11) (.tmp 39) rfl v1.heap.size zerosW (cellsW (wd D)) 25 rfl rfl (by ((repeat (first | exact Blk.new _ _ _ | apply Blk.alloc | refine Blk.step ?_ (by assumption))))) rfl (sizeW _) (cellsW_one _) ?_
            intro w2 hb2 ho2
            have hle : wr.heap.size ≤ v1.heap.size := (show Still wr v1 from by ((repeat (first | exact Still.refl _ | assumption | apply Still.alloc | apply Still.drew | refine Still.step ?_ (by assumption))))).size
            have hst : Still wr w2 := Below.trans (show Still wr _ from by ((repeat (first | exact Still.refl _ | assumption | apply Still.alloc | apply Still.drew | refine Still.step ?_ (by assumption))))) (ho2.below hle)
            refine hK.out _ _ ?_ (fun hHeld => ?_)
            · exact K0.out _ hst
            clear hK K
            (try simp only [Act.put, List.setIfInBounds_toArray, List.set_cons_succ, List.set_cons_zero])
            refine wpAnyH_take (i := 10) (v := ?_) rfl (by kernel_rfl) (by kernel_rfl) (by kernel_rfl) (fun _ _ _ h => h) (Or.inl ⟨by rfl, ?_⟩) (by assumption) ?_
            rotate_left 1
            · intro w hSw; (try dsimp only at hSw); simp only [List.getElem_toArray, List.getElem_cons_succ, List.getElem_cons_zero]; go_simp; try (with_reducible rfl)
            (try simp only [List.getElem_toArray, List.getElem_cons_succ, List.getElem_cons_zero, Act.put, List.setIfInBounds_toArray, List.set_cons_succ, List.set_cons_zero])
            refine wpAnyH_done (by kernel_rfl) ?_ _
            go_wp2_with fail
            go_meet
            exact ⟨_, rfl, rfl, hb2, hle, hst⟩
          refine AllReadyH.cons rfl (fun K hK => ?_) AllReadyH.nil
          (try simp only [List.getElem_toArray, List.getElem_cons_succ, List.getElem_cons_zero])
          go_simp
          refine hK.out _ _ ?_ (fun hHeld => ?_)
          · exact K0.out _ (by ((repeat (first | exact Still.refl _ | assumption | apply Still.alloc | apply Still.drew | refine Still.step ?_ (by assumption)))))
          clear hK K
          (try simp only [Act.put, List.setIfInBounds_toArray, List.set_cons_succ, List.set_cons_zero])
          refine wpAnyH_ready (rs := [3]) (by kernel_rfl) (by simp) ?_
          refine AllReadyH.cons rfl (fun K hK => ?_) AllReadyH.nil
          (try simp only [List.getElem_toArray, List.getElem_cons_succ, List.getElem_cons_zero])
          go_simp
          go_at_call 28; refine (C1.out _).mono ?_; rintro e' v1 ⟨rfl, d1⟩
          (try (go_wp2_with fail))
          refine hK.out _ _ ?_ (fun hHeld => ?_)
          · exact K0.out _ (by ((repeat (first | exact Still.refl _ | assumption | apply Still.alloc | apply Still.drew | refine Still.step ?_ (by assumption)))))
          clear hK K
          (try simp only [Act.put, List.setIfInBounds_toArray, List.set_cons_succ, List.set_cons_zero])
          refine wpAnyH_ready (rs := [4]) (by kernel_rfl) (by simp) ?_
          refine AllReadyH.cons rfl (fun K hK => ?_) AllReadyH.nil
          (try simp only [List.getElem_toArray, List.getElem_cons_succ, List.getElem_cons_zero])
          go_simp
          go_at_call 18; refine (C2.out _).mono ?_; rintro e' v2 ⟨rfl, d2⟩
          (try (go_wp2_with fail))
          refine hK.out _ _ ?_ (fun hHeld => ?_)
          · exact K0.out _ (by ((repeat (first | exact Still.refl _ | assumption | apply Still.alloc | apply Still.drew | refine Still.step ?_ (by assumption)))))
          clear hK K
          (try simp only [Act.put, List.setIfInBounds_toArray, List.set_cons_succ, List.set_cons_zero])
          refine wpAnyH_take (i := 5) (v := ?_) rfl (by kernel_rfl) (by kernel_rfl) (by kernel_rfl) (fun _ _ _ h => h) (Or.inl ⟨by rfl, ?_⟩) (by assumption) ?_
          rotate_left 1
          · intro w hSw; (try dsimp only at hSw); simp only [List.getElem_toArray, List.getElem_cons_succ, List.getElem_cons_zero]; go_simp; try (with_reducible rfl)
          (try simp only [List.getElem_toArray, List.getElem_cons_succ, List.getElem_cons_zero, Act.put, List.setIfInBounds_toArray, List.set_cons_succ, List.set_cons_zero])
          refine wpAnyH_take (i := 6) (v := ?_) rfl (by kernel_rfl) (by kernel_rfl) (by kernel_rfl) (fun _ _ _ h => h) (Or.inl ⟨by rfl, ?_⟩) (by assumption) ?_
          rotate_left 1
          · intro w hSw; (try dsimp only at hSw); simp only [List.getElem_toArray, List.getElem_cons_succ, List.getElem_cons_zero]; go_simp; try (with_reducible rfl)
          (try simp only [List.getElem_toArray, List.getElem_cons_succ, List.getElem_cons_zero, Act.put, List.setIfInBounds_toArray, List.set_cons_succ, List.set_cons_zero])
          refine wpAnyH_take (i := 7) (v := ?_) rfl (by kernel_rfl) (by kernel_rfl) (by kernel_rfl) (fun _ _ _ h => h) (Or.inl ⟨by rfl, ?_⟩) (by assumption) ?_
          rotate_left 1
          · intro w hSw; (try dsimp only at hSw); simp only [List.getElem_toArray, List.getElem_cons_succ, List.getElem_cons_zero]; go_simp; try (with_reducible rfl)
          (try simp only [List.getElem_toArray, List.getElem_cons_succ, List.getElem_cons_zero, Act.put, List.setIfInBounds_toArray, List.set_cons_succ, List.set_cons_zero])
          refine wpAnyH_ready (rs := [9]) (by kernel_rfl) (by simp) ?_
          refine AllReadyH.cons rfl (fun K hK => ?_) AllReadyH.nil
          (try simp only [List.getElem_toArray, List.getElem_cons_succ, List.getElem_cons_zero])
          refine Eq.mpr (if_pos (by rfl)) ?_
          refine wp_store_blk 25 (.tmp 11) (.tmp 39) rfl wr.drew.heap.size zerosW (cellsW (wd D)) 25 rfl rfl (by ((repeat (first | exact Blk.new _ _ _ | apply Blk.alloc | refine Blk.step ?_ (by assumption))))) rfl (sizeW _) (cellsW_one _) ?_
          intro w2 hb2 ho2
          have hle : wr.heap.size ≤ wr.drew.heap.size := (show Still wr wr.drew from by ((repeat (first | exact Still.refl _ | assumption | apply Still.alloc | apply Still.drew | refine Still.step ?_ (by assumption))))).size
          have hst : Still wr w2 := Below.trans (show Still wr _ from by ((repeat (first | exact Still.refl _ | assumption | apply Still.alloc | apply Still.drew | refine Still.step ?_ (by assumption))))) (ho2.below hle)
          refine hK.out _ _ ?_ (fun hHeld => ?_)
          · exact K0.out _ hst
          clear hK K
          (try simp only [Act.put, List.setIfInBounds_toArray, List.set_cons_succ, List.set_cons_zero])
          refine wpAnyH_take (i := 10) (v := ?_) rfl (by kernel_rfl) (by kernel_rfl) (by kernel_rfl) (fun _ _ _ h => h) (Or.inl ⟨by rfl, ?_⟩) (by assumption) ?_
          rotate_left 1
          · intro w hSw; (try dsimp only at hSw); simp only [List.getElem_toArray, List.getElem_cons_succ, List.getElem_cons_zero]; go_simp; try (with_reducible rfl)
          (try simp only [List.getElem_toArray, List.getElem_cons_succ, List.getElem_cons_zero, Act.put, List.setIfInBounds_toArray, List.set_cons_succ, List.set_cons_zero])
          refine wpAnyH_done (by kernel_rfl) ?_ _
          go_wp2_with fail
          go_meet
          exact ⟨_, rfl, rfl, hb2, hle, hst⟩
        case rest =>
          obtain ⟨gg, rfl, rfl, hbd, hgg, hst⟩ := hcut
          obtain ⟨hk, hS, hD, hB⟩ := HK.out
          by_cases hRS : R < S
          · have hBt : B = true := by rw [hB, decide_eq_true hRS]
            subst hBt
            have FIN : Hid (QB w wc x y f R ∧ QS x y Q R (P - (t + 1)) ∧ ∀ j, j < 4 → f j = wd Q j) := Lib.hid ⟨HQB.out.step hst, by rw [show P - (t + 1) = k from by omega]; exact HQ.out.1.less (by rw [← hS]; exact hRS), HQ.out.2⟩
            clear hk hS hD hB hbd hst hP1
            go_wp2
            exact ⟨⟨t + 1, f, Q, R, by omega, by go_num, FIN.out.1, FIN.out.2⟩, by simp [intOf]; omega⟩
          · have hBf : B = false := by rw [hB, decide_eq_false hRS]
            subst hBf
            have hR256 : R < 2 ^ 256 := Nat.lt_of_le_of_lt HQ.out.1.le HXL.out
            have hDe : D = R - S := by rw [hD]; unfold dif; omega
            have hq3 : Q % 2 ^ (k + 1) = 0 := HQ.out.1.2.2
            obtain ⟨kq, hkq⟩ : ∃ kq, kq = k / 64 := ⟨_, rfl⟩
            obtain ⟨kp, hkp⟩ : ∃ kp, kp = k % 64 := ⟨_, rfl⟩
            have hkq4 : kq < 4 := by omega
            have hkp64 : kp < 64 := by omega
            obtain ⟨F, hF⟩ : ∃ F, F = f kq := ⟨_, rfl⟩
            have hFQ : F = wd Q kq := by rw [hF]; exact HQ.out.2 kq hkq4
            obtain ⟨Bt, hBt⟩ : ∃ Bt, Bt = 2 ^ kp := ⟨_, rfl⟩
            obtain ⟨S2, hS2⟩ : ∃ S2, S2 = F + Bt := ⟨_, rfl⟩
            have lBt : Bt < 2 ^ 64 := by rw [hBt]; exact Nat.pow_lt_pow_right (by decide) hkp64
            have g1 : (k : Int).tdiv 64 = (kq : Int) := by rw [Int.tdiv_eq_ediv_of_nonneg (by omega)]; omega
            have g1b : (k : Int) / 64 = (kq : Int) := by omega
            have g2 : (k : Int).tmod 64 = (kp : Int) := by rw [Int.tmod_eq_emod_of_nonneg (by omega)]; omega
            have g2b : (k : Int) % 64 = (kp : Int) := by omega
            have m0 : (2 : Int) ^ kp = (Bt : Int) := by rw [hBt, Int.natCast_pow]; rfl
            have m1 : IntKind.u64.wrap ((2 : Int) ^ kp) = (Bt : Int) := by rw [m0, IntKind.wrap_u64]; omega
            have m1b : IntKind.u64.wrap ((1 : Int) * 2 ^ kp) = (Bt : Int) := by rw [Int.one_mul]; exact m1
            have m3 : bits .or .u64 (F : Int) (Bt : Int) = (S2 : Int) := by
              rw [or_join (kp + 1) F Bt (by rw [hFQ, hkq, hkp]; exact wd_low Q k hq3) (by rw [hBt]; exact Nat.pow_lt_pow_right (by decide) (by omega)) (by rw [hFQ]; exact wd_lt _ _) lBt, hS2]
            have hmin : min kp 64 = kp := Nat.min_eq_left (by omega)
            have HQC := Lib.hid (HQB.out.step hst)
            have HBD := Lib.hid hbd
            have FIN : Hid (∀ w4, QB w w4 x y f D → w4.cell? ⟨w.heap.size + 1 + 1 + 1 + 1, kq, none⟩ = some (.int .u64 (F : Int)) ∧ w4.frozen? ⟨w.heap.size + 1 + 1 + 1 + 1, kq, none⟩ = false ∧ ∀ W, W = w4.drew.setCell ⟨w.heap.size + 1 + 1 + 1 + 1, kq, none⟩ (.int .u64 (S2 : Int)) → QB w W x y (upd f kq S2) D ∧ QS x y (Q + 2 ^ k) D (P - (t + 1)) ∧ ∀ j, j < 4 → upd f kq S2 j = wd (Q + 2 ^ k) j) := Lib.hid fun w4 h => by
              refine ⟨by rw [h.q.cell kq, cellsW_at _ kq hkq4, hF], h.q.free kq, fun W hW => ?_⟩
              rw [hW]
              refine ⟨(h.step (Still.refl w4).drew).quo2 kq S2 hkq4, ?_, fun j hj => ?_⟩
              · rw [show P - (t + 1) = k from by omega, hDe, hS]; exact HQ.out.1.more (by rw [← hS]; omega)
              · rw [wd_bit Q k j hq3, ← hkq, ← hkp]
                by_cases h : j = kq
                · rw [if_pos h, h, upd_same, hS2, hFQ, hBt]
                · rw [if_neg h, upd_other _ _ _ _ h]; exact HQ.out.2 j hj
            have bk : (kq : Int) < 4 := by omega
            have bk0 : (0 : Int) ≤ (kq : Int) := by omega
            have bkw : IntKind.i64.wrap (kq : Int) = (kq : Int) := by rw [IntKind.wrap_i64]; omega
            have bpw : IntKind.i64.wrap (kp : Int) = (kp : Int) := by rw [IntKind.wrap_i64]; omega
            clear hk hS hD hB hbd hst hP1 hkq hkp hF hFQ hBt hS2 m0 hDe hq3 lBt hR256 hRS
            go_upto_region 13 with (first
              | (refine at_load 25 (.tmp 11) ?_; refine wpList_load_mid rfl 25 (.tmp 11) rfl gg 0 rfl (cellsW (wd D)) _ HBD.out.range Try.underlying25 rfl (sizeW _) ?_)
              | (refine at_store 25 (.tmp 7) (.tmp 43) ?_; refine wpList_store_blk rfl 25 (.tmp 7) (.tmp 43) rfl (w.heap.size + 1 + 1 + 1 + 1 + 1) (cellsW (wd R)) (cellsW (wd D)) _ rfl rfl HQC.out.r rfl (sizeW _) (cellsW_one _) ?_; intro w4 hb4 ho4))
            obtain ⟨c4, f4, R4⟩ := FIN.out w4 (HQC.out.rest hb4 ho4)
            have HR4 := Lib.hid R4
            clear hb4 ho4 R4
            simp only [Act.put]
            go_region
            all_goals go_wp2
            all_goals exact ⟨⟨t + 1, upd f kq S2, Q + 2 ^ k, D, by omega, by go_num, (HR4.out _ rfl).1, (HR4.out _ rfl).2⟩, by simp [intOf]; omega⟩
      · have hPt : P - t = 0 := by omega
        rw [hPt] at hqs
        obtain ⟨hQe, hRe⟩ := hqs.fin
        have hcells : cellsW f = cellsW (wd (x / y)) := by rw [← hQe]; exact cellsW_ext _ _ hfq
        have bt : ¬ (t : Int) < pl := by omega
        have HC : Hid (cellsW f = V1.toList ∧ cellsW (wd R) = V2.toList) := Lib.hid ⟨by rw [hcells, HV1.out]; rfl, by rw [hRe, HV2.out]; rfl⟩
        have HQE := Lib.hid (hqb.step (Still.refl wr).drew)
        clear hqb hqs hfq HQS hPt hQe hRe hcells hP1
        go_upto_region 15 with fail
        refine wp_region_held_drew (S := fun W => W.rangeAt (w.heap.size + 1 + 1 + 1 + 1) 0 (cellsW f) ∧ W.rangeAt (w.heap.size + 1 + 1 + 1 + 1 + 1) 0 (cellsW (wd R))) (by kernel_rfl) ?_ (fun hHeld => ?_)
        · exact ⟨HQE.out.q.range, HQE.out.r.range⟩
        refine wpAnyH_take (i := 0) rfl (by kernel_rfl) (by kernel_rfl) (by kernel_rfl) (fun _ _ _ h => h) (yieldsIf_load_mid (by rfl) _ _ rfl _ _ rfl (cellsW f) _ (fun w hSw => by (try dsimp only at hSw); go_split_ands; assumption) Try.underlying25 rfl (sizeW _)) (by assumption) ?_
        (try simp only [List.getElem_toArray, List.getElem_cons_succ, List.getElem_cons_zero, Act.put, List.setIfInBounds_toArray, List.set_cons_succ, List.set_cons_zero])
        refine wpAnyH_take (i := 1) rfl (by kernel_rfl) (by kernel_rfl) (by kernel_rfl) (fun _ _ _ h => h) (yieldsIf_load_mid (by rfl) _ _ rfl _ _ rfl (cellsW (wd R)) _ (fun w hSw => by (try dsimp only at hSw); go_split_ands; assumption) Try.underlying25 rfl (sizeW _)) (by assumption) ?_
        (try simp only [List.getElem_toArray, List.getElem_cons_succ, List.getElem_cons_zero, Act.put, List.setIfInBounds_toArray, List.set_cons_succ, List.set_cons_zero])
        refine wpAnyH_ready (rs := [2]) (by kernel_rfl) (by simp) ?_
        refine AllReadyH.cons rfl (fun K hK => ?_) AllReadyH.nil
        (try simp only [List.getElem_toArray, List.getElem_cons_succ, List.getElem_cons_zero])
        refine Eq.mpr (if_pos (by rfl)) ?_
        refine wp_store_blk 25 (.tmp 4) (.tmp 54) rfl (w.heap.size + 1 + 1) zerosW (cellsW f) 25 rfl rfl HQE.out.c rfl (sizeW _) (cellsW_one _) ?_
        intro w5 hb5 ho5
        refine hK.out _ _ ?_ (fun hHeld => ?_)
        · exact ⟨(ho5.blk HQE.out.q (by omega)).range, (ho5.blk HQE.out.r (by omega)).range⟩
        clear hK K
        (try simp only [Act.put, List.setIfInBounds_toArray, List.set_cons_succ, List.set_cons_zero])
        refine wpAnyH_ready (rs := [3]) (by kernel_rfl) (by simp) ?_
        refine AllReadyH.cons rfl (fun K hK => ?_) AllReadyH.nil
        (try simp only [List.getElem_toArray, List.getElem_cons_succ, List.getElem_cons_zero])
        refine Eq.mpr (if_pos (by rfl)) ?_
        refine wp_store_blk 25 (.tmp 5) (.tmp 55) rfl (w.heap.size + 1 + 1 + 1) zerosW (cellsW (wd R)) 25 rfl rfl (ho5.blk HQE.out.d (by omega)) rfl (sizeW _) (cellsW_one _) ?_
        intro w6 hb6 ho6
        refine hK.out _ _ ?_ (fun hHeld => ?_)
        · exact ⟨(ho6.blk (ho5.blk HQE.out.q (by omega)) (by omega)).range, (ho6.blk (ho5.blk HQE.out.r (by omega)) (by omega)).range⟩
        clear hK K
        (try simp only [Act.put, List.setIfInBounds_toArray, List.set_cons_succ, List.set_cons_zero])
        refine wpAnyH_done (by kernel_rfl) ?_ _
        go_wp2_with fail
        have hb7 := ho6.blk hb5 (by omega)
        have hbel := (HQE.out.below.trans (ho5.below (by omega))).trans (ho6.below (by omega))
        rw [HC.out.1] at hb7
        rw [HC.out.2] at hb6
        refine bodyPost_ret (v := .tuple #[.agg V1, .agg V2]) ?_ rfl ⟨rfl, hbel⟩
        exact results_row_row Try.results39 _ _ (w.heap.size + 1 + 1) (w.heap.size + 1 + 1 + 1) 25 _ _ (0, 0) _ (by rfl) (by rfl) hb7 hb6 Try.underlying25 rfl (by rw [HV1.out, uA_size]; exact sizeU) (by rw [HV2.out, uA_size]; exact sizeU)

end Go.Proofs.Ytdgfgehjnfadnaa
