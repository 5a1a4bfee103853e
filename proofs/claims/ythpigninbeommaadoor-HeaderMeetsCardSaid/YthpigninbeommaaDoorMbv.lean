/- Merged texts: HdrG. -/
import Derived.Test.YthpigninbeommaaDoorMbt
import Derived.Test.YthpigninbeommaaDoorMbu
import Derived.Test.YthpigninbeommaaDoorMbr
import Derived.Test.YthpigninbeommaaDoorMaw
import Derived.Deep.RegionHeld3
/- The contracts of the document's own Number and Meets of layer 7. -/
namespace Go.Proofs.YthpigninbeommaaDoor
open Go.RowKit
set_option linter.unusedVariables false
set_option linter.unusedSimpArgs false

set_option maxRecDepth 100000 in
theorem val4 (N : Nat) (h : N < 2 ^ 256) : valW [wd N 0, wd N 1, wd N 2, wd N 3] = N := by
  have h0 := div_succ N 0
  have h1 := div_succ N 1
  have h2 := div_succ N 2
  have h3 := div_succ N 3
  have h4 : N / 2 ^ (64 * (3 + 1)) = 0 := Nat.div_eq_of_lt h
  rw [show 64 * 0 = 0 from rfl, Nat.pow_zero, Nat.div_one] at h0
  simp only [valW]
  rw [h4] at h3
  rw [show 0 + 1 = 1 from rfl] at h0
  rw [show 1 + 1 = 2 from rfl] at h1
  rw [show 2 + 1 = 3 from rfl] at h2
  rw [h3] at h2
  rw [h2] at h1
  rw [h1] at h0
  omega
set_option maxRecDepth 100000 in
theorem rdu4 (W : World) (a b c d : Nat) (t : TypeId) : RdU (W.alloc (.cells #[.int .u64 (a : Int), .int .u64 (b : Int), .int .u64 (c : Int), .int .u64 (d : Int)] t)) (some ⟨W.heap.size, 0, none⟩) 4 [a, b, c, d] := by
  have hb := Blk.new W #[.int .u64 (a : Int), .int .u64 (b : Int), .int .u64 (c : Int), .int .u64 (d : Int)] t
  refine ⟨rfl, fun _ => ⟨W.heap.size, 0, rfl, hb.lt, fun j hj => ?_⟩⟩
  rw [hb.cell]
  rcases (show j = 0 ∨ j = 1 ∨ j = 2 ∨ j = 3 by omega) with rfl | rfl | rfl | rfl <;> rfl
set_option maxRecDepth 100000 in
set_option maxHeartbeats 4000000 in
theorem dnum_calls (l : List UInt8) (hl : l.length = 32) (w : World) : Calls Tryd.prog 33 #[.agg (l.map B8).toArray] w (MkB w (numL l)) := by
  obtain ⟨V, hV⟩ : ∃ V, V = l.map B8 := ⟨_, rfl⟩
  have HVc : Hid (∀ i (h : i < l.length), V[i]? = some (.int .u8 (l[i].toNat : Int))) := Lib.hid fun i h => by
    rw [hV, List.getElem?_map, List.getElem?_eq_getElem h]; rfl
  have H0 : Hid (cellsW (pw l 32) = zerosW) := Lib.hid (by
    unfold cellsW zerosW
    rw [pw_start l 32 0 (by omega), pw_start l 32 1 (by omega), pw_start l 32 2 (by omega), pw_start l 32 3 (by omega)]
    rfl)
  obtain ⟨p0, hp0⟩ : ∃ p, p = pw l 0 0 := ⟨_, rfl⟩
  obtain ⟨p1, hp1⟩ : ∃ p, p = pw l 0 1 := ⟨_, rfl⟩
  obtain ⟨p2, hp2⟩ : ∃ p, p = pw l 0 2 := ⟨_, rfl⟩
  obtain ⟨p3, hp3⟩ : ∃ p, p = pw l 0 3 := ⟨_, rfl⟩
  have HE : Hid (∀ W : World, Calls Tryd.prog 47 #[.slice (some ⟨W.heap.size, 0, none⟩) 4 4] (W.alloc (.cells #[.int .u64 (p0 : Int), .int .u64 (p1 : Int), .int .u64 (p2 : Int), .int .u64 (p3 : Int)] 50)) (MkB (W.alloc (.cells #[.int .u64 (p0 : Int), .int .u64 (p1 : Int), .int .u64 (p2 : Int), .int .u64 (p3 : Int)] 50)) (numL l))) := Lib.hid fun W => by
    rw [hp0, hp1, hp2, hp3]
    have := of_calls (some ⟨W.heap.size, 0, none⟩) 4 4 [pw l 0 0, pw l 0 1, pw l 0 2, pw l 0 3] _ (by omega) (fun x hx => by
      simp only [List.mem_cons, List.not_mem_nil, or_false] at hx
      rcases hx with rfl | rfl | rfl | rfl <;> exact pw_lt _ _ _) (rdu4 W (pw l 0 0) (pw l 0 1) (pw l 0 2) (pw l 0 3) 50)
    have hv : valW [pw l 0 0, pw l 0 1, pw l 0 2, pw l 0 3] = numL l := by
      rw [pw_end, pw_end, pw_end, pw_end]
      exact val4 _ (numL_32 hl)
    rw [hv] at this
    exact this
  have HP : Hid (cellsW (pw l 0) = [.int .u64 (p0 : Int), .int .u64 (p1 : Int), .int .u64 (p2 : Int), .int .u64 (p3 : Int)]) := Lib.hid (by rw [hp0, hp1, hp2, hp3]; rfl)
  rw [← hV]
  clear hV hp0 hp1 hp2 hp3
  have hb0 : Blk ((w.alloc (.cells V.toArray 23)).alloc (.cells zerosW.toArray 60)) w.heap.size V 23 := Blk.alloc (Blk.new w V.toArray _) _
  have hb1 : Blk ((w.alloc (.cells V.toArray 23)).alloc (.cells zerosW.toArray 60)) (w.heap.size + 1) zerosW 60 := Blk.new' _ _ _ _ (by simp)
  have HB := below2 w (.cells V.toArray 23) (.cells zerosW.toArray 60)
  have hw1 : (w.alloc (.cells V.toArray 23)).alloc (.cells #[.int .u64 0, .int .u64 0, .int .u64 0, .int .u64 0] 60) = (w.alloc (.cells V.toArray 23)).alloc (.cells zerosW.toArray 60) := rfl
  go_enter Tryd.func33, Tryd.ntmps33
  go_wp2
  go_loopw [4] (fun i wr => ∃ t : Nat, t ≤ 32 ∧ i = .int .i64 ((t : Int) - 1) ∧ Blk wr w.heap.size V 23 ∧ Blk wr (w.heap.size + 1) (cellsW (pw l t)) 60 ∧ Below w.heap.size w wr) (fun i _ => (intOf i + 1).toNat)
  case atStart =>
    exact ⟨32, by omega, by first | rfl | go_num, hb0, by rw [H0.out]; exact hb1, HB⟩
  case round =>
    obtain ⟨t, ht, rfl, hbv, hbw, hbel⟩ := hrel
    clear hb0 hb1 HB hw1
    rcases t with _ | i
    · rw [HP.out] at hbw
      have c0 : wr.cell? ⟨w.heap.size + 1, 0, none⟩ = some (.int .u64 (p0 : Int)) := hbw.cell 0
      have c1 : wr.cell? ⟨w.heap.size + 1, 1, none⟩ = some (.int .u64 (p1 : Int)) := hbw.cell 1
      have c2 : wr.cell? ⟨w.heap.size + 1, 2, none⟩ = some (.int .u64 (p2 : Int)) := hbw.cell 2
      have c3 : wr.cell? ⟨w.heap.size + 1, 3, none⟩ = some (.int .u64 (p3 : Int)) := hbw.cell 3
      have HL := Lib.hid hbel
      clear hbv hbw hbel
      have e0 : (((0 : Nat) : Int) - 1) = -1 := rfl
      rw [e0]
      go_wp2_with (go_at_call 47; refine (HE.out _).mono ?_; rintro e' v1 ⟨A1, n1, c1', rfl, hr1, hnc, hcm, d1⟩)
      go_ret
      exact ⟨A1, n1, c1', rfl, hr1, hnc, hcm, below_more (below_al HL.out _) d1⟩
    · have e1 : (((i + 1 : Nat) : Int) - 1) = (i : Int) := by omega
      rw [e1]
      have hi : i < l.length := by omega
      obtain ⟨j, hj⟩ : ∃ j, j = i / 8 := ⟨_, rfl⟩
      have hj4 : j < 4 := by omega
      obtain ⟨x, hx⟩ : ∃ x, x = pw l (i + 1) j := ⟨_, rfl⟩
      obtain ⟨y, hy⟩ : ∃ y, y = l[i].toNat := ⟨_, rfl⟩
      have hx56 : x < 72057594037927936 := by rw [hx, hj]; exact pw_small l i hi
      have hy8 : y < 256 := by rw [hy]; exact l[i].toNat_lt
      obtain ⟨m, hm⟩ : ∃ m, m = x * 256 := ⟨_, rfl⟩
      obtain ⟨S, hS⟩ : ∃ S, S = m + y := ⟨_, rfl⟩
      have hnew : cellsW (upd (pw l (i + 1)) j S) = cellsW (pw l i) := cellsW_ext _ _ fun k hk => by
        by_cases hkj : k = j
        · rw [hkj, upd_same, hS, hm, hx, hy, hj, pw_step l i hi]; omega
        · rw [upd_other _ _ _ _ hkj, pw_other l i k (by rw [← hj]; exact hkj)]
      have q1 : Int.tdiv (i : Int) 8 = (j : Int) := by rw [Int.tdiv_eq_ediv_of_nonneg (by omega)]; omega
      have q2 : (i : Int) / 8 = (j : Int) := by omega
      have q3 : IntKind.i64.wrap (j : Int) = (j : Int) := by rw [IntKind.wrap_i64]; omega
      have bj : (j : Int) < 4 := by omega
      have bi : (i : Int) < 32 := by omega
      have bge : (0 : Int) ≤ (i : Int) := by omega
      have wm : IntKind.u64.wrap ((x : Int) * 256) = (m : Int) := by rw [IntKind.wrap_u64]; omega
      have wy : IntKind.u64.wrap (y : Int) = (y : Int) := by rw [IntKind.wrap_u64]; omega
      have wS : IntKind.u64.wrap ((m : Int) + (y : Int)) = (S : Int) := by rw [IntKind.wrap_u64]; omega
      have wi : IntKind.i64.wrap ((i : Int) - 1) = (i : Int) - 1 := by rw [IntKind.wrap_i64]; omega
      have cw' : wr.cell? ⟨w.heap.size + 1, j, none⟩ = some (.int .u64 (x : Int)) := by rw [hbw.cell, cellsW_at _ j hj4, hx]
      have fw : wr.frozen? ⟨w.heap.size + 1, j, none⟩ = false := hbw.free j
      have cv : wr.cell? ⟨w.heap.size, i, none⟩ = some (.int .u8 (y : Int)) := by rw [hbv.cell, HVc.out i hi, hy]
      have R : Hid (Blk (wr.setCell ⟨w.heap.size + 1, j, none⟩ (.int .u64 (S : Int))).drew w.heap.size V 23 ∧ Blk (wr.setCell ⟨w.heap.size + 1, j, none⟩ (.int .u64 (S : Int))).drew (w.heap.size + 1) (cellsW (pw l i)) 60 ∧ Below w.heap.size w (wr.setCell ⟨w.heap.size + 1, j, none⟩ (.int .u64 (S : Int))).drew) := Lib.hid
        ⟨(hbv.set_other _ _ (by simp)).drewN 1, by rw [← hnew, ← cellsW_set _ j S hj4]; exact (hbw.set j _).drewN 1, below_drewN (hbel.setCell (by simp) _) 1⟩
      clear hbv hbw hbel hnew hj hx hy hm hS hi hx56 hy8 H0 HVc HE HP hl
      go_wp2
      go_region
      go_wp2
      exact ⟨⟨i, by omega, by first | rfl | go_num, R.out.1, R.out.2.1, R.out.2.2⟩, by simp [intOf]⟩
set_option maxRecDepth 100000 in
set_option maxHeartbeats 4000000 in
theorem dmeets_calls (h : Hd) (o : h.ok) (w : World) : Calls Tryd.prog 15 #[.agg h.cells.toArray] w (Ret w (.bool h.meets)) := by
  obtain ⟨X, hX⟩ : ∃ X, X = h.cells := ⟨_, rfl⟩
  obtain ⟨V, hV⟩ : ∃ V, V = h.hash.map B8 := ⟨_, rfl⟩
  obtain ⟨bb, hbb⟩ : ∃ bb, bb = h.b := ⟨_, rfl⟩
  have IX : Hid ((Tryd.prog.info? 34).map (·.size) = some X.length) := Lib.hid (by rw [hX]; exact Hd.size o)
  have hb0 : Blk (w.alloc (.cells X.toArray 34)) w.heap.size X 34 := Blk.new w X.toArray _
  have HB := Lib.hid (below_al (Below.refl _ w) (.cells X.toArray 34))
  obtain ⟨w0, hw0⟩ : ∃ w0, w0 = w.alloc (.cells X.toArray 34) := ⟨_, rfl⟩
  rw [← hw0] at hb0 HB
  have hc66 : w0.cell? ⟨w.heap.size, 66, none⟩ = some (.int .u32 (bb : Int)) := by rw [hb0.cell, hbb, hX]; exact (Hd.ct o).2.1
  by_cases ht : tgt h.b = true
  · obtain ⟨t, htv⟩ : ∃ t, t = valC h.b := ⟨_, rfl⟩
    obtain ⟨N, hN⟩ : ∃ N, N = numL h.hash := ⟨_, rfl⟩
    obtain ⟨B, hBB⟩ : ∃ B, B = decide (t < N) := ⟨_, rfl⟩
    have hv256 : t < 2 ^ 256 := by
      have := ht
      unfold tgt at this
      simp only [Bool.and_eq_true, decide_eq_true_eq] at this
      rw [htv]
      exact this.2
    have hN256 : N < 2 ^ 256 := by rw [hN]; exact numL_32 (Hd.hash_len h)
    have hm : h.meets = !B := by
      unfold Hd.meets
      rw [ht, Bool.true_and, hBB, ← htv, ← hN]
      by_cases hlt : t < N
      · rw [decide_eq_true hlt, decide_eq_false (by omega)]; rfl
      · rw [decide_eq_false hlt, decide_eq_true (by omega)]; rfl
    have CT : Hid (∀ W, Calls Tryd.prog 31 #[.int .u32 (bb : Int)] W (RetT W t)) := Lib.hid fun W => by rw [htv, hbb]; exact rtarget_yes h.b W o.b ht
    have CH : Hid (∀ W, Calls Tryd.prog 12 #[.agg X.toArray] W (Ret W (.agg V.toArray))) := Lib.hid fun W => by rw [hX, hV]; exact hhash_calls h o W
    have CN : Hid (∀ W, Calls Tryd.prog 33 #[.agg V.toArray] W (MkB W N)) := Lib.hid fun W => by rw [hV, hN]; exact dnum_calls _ (Hd.hash_len h) W
    have CL : Hid (∀ (W : World) (A1 : Option Addr) (n1 c1 : Nat) (A2 : Option Addr) (n2 c2 : Nat), RdI W A1 n1 (digs t) → RdI W A2 n2 (digs N) → Calls Tryd.prog 32 #[.slice A1 n1 c1, .slice A2 n2 c2] W (Ret W (.bool B))) := Lib.hid fun W A1 n1 c1 A2 n2 c2 h1 h2 => lessV (Few.wide hv256) (Few.wide hN256) W A1 n1 c1 A2 n2 c2 h1 h2 B hBB.symm
    rw [hm, ← hX]
    clear hX hV hbb htv hN hBB hm o ht hv256 hN256
    go_enter Tryd.func15, Tryd.ntmps15
    go_upto_region 1 with fail
    rw [← hw0]
    clear hw0
    go_wp2_with (first
      | (go_at_call 31; refine (CT.out _).mono ?_; rintro e' v1 ⟨A1, n1, c1, rfl, hr1, hnc1, d1⟩; have hb1 := hb0.up d1)
      | ((with_reducible refine at_loadG 34 (.tmp 1) ?_); refine load_midG ?_ 34 (.tmp 1) rfl w.heap.size 0 rfl X _ hb1.range Tryd.underlying34 rfl IX.out ?_; (focus (simp [Region.wanted, yielded, Act.put]; done)))
      | (go_at_call 12; refine (CH.out _).mono ?_; rintro e' v2 ⟨rfl, d2⟩)
      | (go_at_call 33; refine (CN.out _).mono ?_; rintro e' v3 ⟨A3, n3, c3, rfl, hr3, hnc3, hcm3, d3⟩; have hr1' := (hr1.below d2).below d3)
      | (go_at_call 32; refine (CL.out _ _ _ _ _ _ _ hr1' hr3).mono ?_; rintro e' v4 ⟨rfl, d4⟩))
    go_ret
    exact ⟨rfl, below_more (below_more (below_more (below_more HB.out d1) d2) d3) d4⟩
  · have ht : tgt h.b = false := by simpa using ht
    have hm : h.meets = false := by unfold Hd.meets; rw [ht, Bool.false_and]
    have CT : Hid (∀ W, Calls Tryd.prog 31 #[.int .u32 (bb : Int)] W (Ret W (.tuple #[.slice none 0 0, .bool false]))) := Lib.hid fun W => by rw [hbb]; exact rtarget_no h.b W o.b ht
    rw [hm, ← hX]
    clear hX hV hbb hm o ht
    go_enter Tryd.func15, Tryd.ntmps15
    go_upto_region 1 with fail
    rw [← hw0]
    clear hw0
    go_wp2_with (go_at_call 31; refine (CT.out _).mono ?_; rintro e' v1 ⟨rfl, d1⟩)
    go_ret
    exact ⟨rfl, below_more HB.out d1⟩
end Go.Proofs.YthpigninbeommaaDoor
