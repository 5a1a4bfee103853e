/- Merged texts: HdrE. -/
import Derived.Test.YthpigninbeommaaDoorMat
import Derived.Test.YthpigninbeommaaDoorMaq
/- The contract of package header's own Bytes. -/
namespace Go.Proofs.YthpigninbeommaaDoor
open Go.RowKit
set_option linter.unusedVariables false
set_option linter.unusedSimpArgs false

set_option maxRecDepth 100000 in
theorem Hd.sizeG {h : Hd} (o : h.ok) : (Tryd.prog.info? 26).map (·.size) = some h.cells.length := by
  rw [Hd.cells_len o]
  kernel_rfl
set_option maxRecDepth 100000 in
set_option maxHeartbeats 4000000 in
theorem gbytes_calls (h : Hd) (o : h.ok) (w : World) : Calls Tryd.prog 7 #[.agg h.cells.toArray] w (Mk w h.bytes) := by
  obtain ⟨X, hX⟩ : ∃ X, X = h.cells := ⟨_, rfl⟩
  obtain ⟨vv, hvv⟩ : ∃ vv, vv = h.v := ⟨_, rfl⟩
  obtain ⟨tt, htt⟩ : ∃ tt, tt = h.t := ⟨_, rfl⟩
  obtain ⟨bb, hbb⟩ : ∃ bb, bb = h.b := ⟨_, rfl⟩
  obtain ⟨nn, hnn⟩ : ∃ nn, nn = h.n := ⟨_, rfl⟩
  have bv : vv < 4294967296 := hvv ▸ o.v
  have bt : tt < 4294967296 := htt ▸ o.t
  have bb' : bb < 4294967296 := hbb ▸ o.b
  have bn : nn < 4294967296 := hnn ▸ o.n
  have wv : IntKind.u64.wrap (vv : Int) = (vv : Int) := by rw [IntKind.wrap_u64]; omega
  have wt : IntKind.u64.wrap (tt : Int) = (tt : Int) := by rw [IntKind.wrap_u64]; omega
  have wb : IntKind.u64.wrap (bb : Int) = (bb : Int) := by rw [IntKind.wrap_u64]; omega
  have wn : IntKind.u64.wrap (nn : Int) = (nn : Int) := by rw [IntKind.wrap_u64]; omega
  have hp := o.p
  have hr := o.r
  obtain ⟨mv, hmv⟩ : ∃ l, l = [] ++ little vv 4 := ⟨_, rfl⟩
  obtain ⟨m0, hm0⟩ : ∃ l, l = mv ++ (h.p ++ h.r) := ⟨_, rfl⟩
  obtain ⟨m1, hm1⟩ : ∃ l, l = m0 ++ little tt 4 := ⟨_, rfl⟩
  obtain ⟨m2, hm2⟩ : ∃ l, l = m1 ++ little bb 4 := ⟨_, rfl⟩
  obtain ⟨m3, hm3⟩ : ∃ l, l = m2 ++ little nn 4 := ⟨_, rfl⟩
  have MV : Hid (mv.length = 4) := Lib.hid (by rw [hmv]; simp)
  have M0 : Hid (m0.length = 68) := Lib.hid (by rw [hm0, List.length_append, MV.out, List.length_append, hp, hr])
  have M1 : Hid (m1.length = 72) := Lib.hid (by rw [hm1, List.length_append, M0.out, little_len])
  have M2 : Hid (m2.length = 76) := Lib.hid (by rw [hm2, List.length_append, M1.out, little_len])
  have M3 : Hid (m3.length = 80) := Lib.hid (by rw [hm3, List.length_append, M2.out, little_len])
  have EV := Lib.hid hmv
  have E0 : Hid (mv ++ [h.p, h.r].flatten = m0) := Lib.hid (by rw [hm0]; simp)
  have E1 := Lib.hid hm1
  have E2 := Lib.hid hm2
  have E3 := Lib.hid hm3
  have hfin : h.bytes = m3 := by
    rw [hm3, hm2, hm1, hm0, hmv, hvv, htt, hbb, hnn]
    unfold Hd.bytes
    simp only [List.append_assoc, List.nil_append]
  rw [hfin]
  have hb0 : Blk (w.alloc (.cells X.toArray 26)) w.heap.size X 26 := Blk.new w X.toArray 26
  have HB := Lib.hid (below_al (Below.refl _ w) (.cells X.toArray 26))
  obtain ⟨w0, hw0⟩ : ∃ w0, w0 = w.alloc (.cells X.toArray 26) := ⟨_, rfl⟩
  rw [← hw0] at hb0 HB
  have FIN : Hid (∀ (W' W : World) A n c, Own W' W.heap.size A n c m3 → w0.heap.size ≤ W.heap.size → Own W' w.heap.size A n c m3) := Lib.hid fun W' W A n c ho hle => ho.base (fun g hg => Nat.le_trans (Nat.le_trans HB.out.size hle) (ho.lt hg).2)
  have K0 : Hid (∀ W, Below w0.heap.size w0 W → W.cell? ⟨w.heap.size, 0, none⟩ = some (.int .u32 (vv : Int)) ∧ (W.cell? ⟨w.heap.size, 65, none⟩ = some (.int .u32 (tt : Int)) ∧ W.cell? ⟨w.heap.size, 66, none⟩ = some (.int .u32 (bb : Int)) ∧ W.cell? ⟨w.heap.size, 67, none⟩ = some (.int .u32 (nn : Int))) ∧ Rd W (some ⟨w.heap.size, 1, none⟩) 32 h.p ∧ Rd W (some ⟨w.heap.size, 33, none⟩) 32 h.r) := Lib.hid fun W hb => by
    have hk := hb0.up hb
    have hc := Hd.ct o
    rw [hX] at hk
    refine ⟨?_, ⟨?_, ?_, ?_⟩, ?_, ?_⟩
    · rw [hk.cell, hvv]; exact h.c0
    · rw [hk.cell, htt]; exact hc.1
    · rw [hk.cell, hbb]; exact hc.2.1
    · rw [hk.cell, hnn]; exact hc.2.2
    · exact hk.rd 1 32 h.p hp (fun j hj => Hd.cp o j hj)
    · exact hk.rd 33 32 h.r hr (fun j hj => Hd.cr o j hj)
  have hsa : ∀ (k : Nat) W, (Instr.sliceAt 24 (.pointer (some ⟨w.heap.size, k, none⟩)) none none none).run Tryd.prog W = .ok (.slice (some ⟨w.heap.size, k, none⟩) 32 32) W := fun k W => run_sl_all 24 5 32 Tryd.underlying24 size8 w.heap.size k (by omega) W
  have hix : ∀ (k : Nat) (v : Value), k < 3 → [Value.int .u32 (tt : Int), .int .u32 (bb : Int), .int .u32 (nn : Int)][k]? = some v → ∀ W, (Instr.index 52 (.agg #[.int .u32 (tt : Int), .int .u32 (bb : Int), .int .u32 (nn : Int)]) (.int .i64 (k : Int))).run Tryd.prog W = .ok v W := fun k v hk hv W => run_idx (P := Tryd.prog) 52 22 3 Tryd.underlying52 .u32 Tryd.underlying22 (by kernel_rfl) [.int .u32 (tt : Int), .int .u32 (bb : Int), .int .u32 (nn : Int)] k v hk hv W
  have hix0 := hix 0 _ (by omega) rfl
  have hix1 := hix 1 _ (by omega) rfl
  have hix2 := hix 2 _ (by omega) rfl
  clear hix
  have hix0 : ∀ W, (Instr.index 52 (.agg #[.int .u32 (tt : Int), .int .u32 (bb : Int), .int .u32 (nn : Int)]) (.int .i64 0)).run Tryd.prog W = .ok (.int .u32 (tt : Int)) W := hix0
  have hix1 : ∀ W, (Instr.index 52 (.agg #[.int .u32 (tt : Int), .int .u32 (bb : Int), .int .u32 (nn : Int)]) (.int .i64 1)).run Tryd.prog W = .ok (.int .u32 (bb : Int)) W := hix1
  have hix2 : ∀ W, (Instr.index 52 (.agg #[.int .u32 (tt : Int), .int .u32 (bb : Int), .int .u32 (nn : Int)]) (.int .i64 2)).run Tryd.prog W = .ok (.int .u32 (nn : Int)) W := hix2
  rw [← hX]
  clear hX hvv htt hbb hnn hmv hm0 hm1 hm2 hm3 hfin hb0 o hp hr bv bt bb' bn
  go_enter Tryd.func7, Tryd.ntmps7
  go_upto_region 2 with (go_at_call 18; refine (wnew_calls _).mono ?_; rintro e' w1 ⟨p, rfl, hp, hw1, hb1⟩)
  rw [← hw0] at hp hb1
  clear hw0
  have hS1 : ∀ i, WS p none i → w0.heap.size ≤ i := ws_new (Nat.le_of_eq hp)
  have hk1 := (K0.out _ hb1).1
  have HN1 : Hid (Calls Tryd.prog 19 #[.pointer (some ⟨p, 0, none⟩), .int .u64 (vv : Int), .int .i64 4] w1 fun e w' => e = .returned (.tuple #[]) ∧ Wto w1 p none mv w') := Lib.hid (by rw [EV.out]; exact wnum_calls w1 p none 0 [] hw1 vv 4 4 (by decide) (by simp))
  clear hw1
  go_upto_region 3 with (go_at_call 19; refine HN1.out.mono ?_; rintro e' w2 ⟨rfl, A2, c2, hw2, hf2, hn2⟩)
  have hb2 := below_frm hb1 hf2 hS1
  have hS2 := ws_on hS1 hn2 hb1.size
  clear hf2 hn2 HN1 hk1 hb1 hS1
  have hX2 := rdlf2 w2.drew (WS p A2) w2.heap.size rfl hw2.lt (some ⟨w.heap.size, 1, none⟩) (some ⟨w.heap.size, 33, none⟩) 32 32 32 32 h.p h.r (RdF.old (K0.out _ (Below.refl _ w0)).2.2.1 hb2.drew hS2) (RdF.old (K0.out _ (Below.refl _ w0)).2.2.2 hb2.drew hS2) 27
  have HP := Lib.hid (put_calls _ p A2 c2 _ (hw2.drew.below (below_al (Below.refl _ w2.drew) (.cells #[.slice (some ⟨w.heap.size, 1, none⟩) 32 32, .slice (some ⟨w.heap.size, 33, none⟩) 32 32] 27))) _ 2 2 _ hX2 (by omega) (by have := M0.out; rw [← List.length_append, E0.out]; omega))
  clear hX2 hw2
  refine wp_region_held_drew (S := fun W => True) (by kernel_rfl) ?_ (fun hHeld => ?_)
  · trivial
  refine wpAnyH_take (i := 0) (v := ?_) rfl (by kernel_rfl) (by kernel_rfl) (by kernel_rfl) (fun _ _ _ h => h) (Or.inl ⟨by rfl, ?_⟩) (by assumption) ?_
  rotate_left 1
  · intro w hSw; (try dsimp only at hSw); simp only [List.getElem_toArray, List.getElem_cons_succ, List.getElem_cons_zero]; go_simp; try (with_reducible rfl)
  (try simp only [List.getElem_toArray, List.getElem_cons_succ, List.getElem_cons_zero, Act.put, List.setIfInBounds_toArray, List.set_cons_succ, List.set_cons_zero])
  refine wpAnyH_take (i := 1) (v := ?_) rfl (by kernel_rfl) (by kernel_rfl) (by kernel_rfl) (fun _ _ _ h => h) (Or.inl ⟨by rfl, ?_⟩) (by assumption) ?_
  rotate_left 1
  · intro w hSw; (try dsimp only at hSw); simp only [List.getElem_toArray, List.getElem_cons_succ, List.getElem_cons_zero]; go_simp; try (with_reducible rfl)
  (try simp only [List.getElem_toArray, List.getElem_cons_succ, List.getElem_cons_zero, Act.put, List.setIfInBounds_toArray, List.set_cons_succ, List.set_cons_zero])
  refine wpAnyH_take (i := 2) (v := .slice (some ⟨w.heap.size, 1, none⟩) 32 32) rfl (by kernel_rfl) (by kernel_rfl) (by kernel_rfl) (fun _ _ _ h => h) (Or.inl ⟨by rfl, ?_⟩) (by assumption) ?_
  · intro w hSw; (try dsimp only at hSw); simp only [List.getElem_toArray, List.getElem_cons_succ, List.getElem_cons_zero]; first | (go_simp; done) | (simp [execOp, Act.eval, hsa]; done)
  (try simp only [List.getElem_toArray, List.getElem_cons_succ, List.getElem_cons_zero, Act.put, List.setIfInBounds_toArray, List.set_cons_succ, List.set_cons_zero])
  refine wpAnyH_take (i := 3) (v := ?_) rfl (by kernel_rfl) (by kernel_rfl) (by kernel_rfl) (fun _ _ _ h => h) (Or.inl ⟨by rfl, ?_⟩) (by assumption) ?_
  rotate_left 1
  · intro w hSw; (try dsimp only at hSw); simp only [List.getElem_toArray, List.getElem_cons_succ, List.getElem_cons_zero]; go_simp; try (with_reducible rfl)
  (try simp only [List.getElem_toArray, List.getElem_cons_succ, List.getElem_cons_zero, Act.put, List.setIfInBounds_toArray, List.set_cons_succ, List.set_cons_zero])
  refine wpAnyH_take (i := 4) (v := .slice (some ⟨w.heap.size, 33, none⟩) 32 32) rfl (by kernel_rfl) (by kernel_rfl) (by kernel_rfl) (fun _ _ _ h => h) (Or.inl ⟨by rfl, ?_⟩) (by assumption) ?_
  · intro w hSw; (try dsimp only at hSw); simp only [List.getElem_toArray, List.getElem_cons_succ, List.getElem_cons_zero]; first | (go_simp; done) | (simp [execOp, Act.eval, hsa]; done)
  (try simp only [List.getElem_toArray, List.getElem_cons_succ, List.getElem_cons_zero, Act.put, List.setIfInBounds_toArray, List.set_cons_succ, List.set_cons_zero])
  refine wpAnyH_ready (rs := [5]) (by kernel_rfl) (by simp) ?_
  refine AllReadyH.cons rfl (fun K hK => ?_) AllReadyH.nil
  (try simp only [List.getElem_toArray, List.getElem_cons_succ, List.getElem_cons_zero])
  go_simp
  refine hK.out _ _ ?_ (fun hHeld => ?_)
  · trivial
  clear hK K
  (try simp only [Act.put, List.setIfInBounds_toArray, List.set_cons_succ, List.set_cons_zero])
  refine wpAnyH_ready (rs := [6]) (by kernel_rfl) (by simp) ?_
  refine AllReadyH.cons rfl (fun K hK => ?_) AllReadyH.nil
  (try simp only [List.getElem_toArray, List.getElem_cons_succ, List.getElem_cons_zero])
  go_simp
  go_at_call 20; refine HP.out.mono ?_; rintro e' w3 ⟨rfl, A3, c3, hw3, hf3, hn3⟩
  (try (go_wp2_with fail))
  refine hK.out _ _ ?_ (fun hHeld => ?_)
  · trivial
  clear hK K
  (try simp only [Act.put, List.setIfInBounds_toArray, List.set_cons_succ, List.set_cons_zero])
  refine wpAnyH_done (by kernel_rfl) ?_ _
  have hb3 := below_frm (below_al hb2.drew (.cells #[.slice (some ⟨w.heap.size, 1, none⟩) 32 32, .slice (some ⟨w.heap.size, 33, none⟩) 32 32] 27)) hf3 hS2
  have hS3 := ws_on hS2 hn3 (below_al hb2.drew (.cells #[.slice (some ⟨w.heap.size, 1, none⟩) 32 32, .slice (some ⟨w.heap.size, 33, none⟩) 32 32] 27)).size
  rw [E0.out] at hw3
  clear hf3 hn3 HP hb2 hS2
  have hk3 := (K0.out _ hb3).2.1
  obtain ⟨hc65, hc66, hc67⟩ := hk3
  go_wp2
  go_loopw [26] (fun i wr => ∃ (A' : Option Addr) (c' : Nat) (l' : List UInt8), ((i = .int .i64 0 ∧ l' = m0) ∨ (i = .int .i64 1 ∧ l' = m1) ∨ (i = .int .i64 2 ∧ l' = m2) ∨ (i = .int .i64 3 ∧ l' = m3)) ∧ Wr wr p A' c' l' ∧ Below w0.heap.size w0 wr ∧ (∀ i, WS p A' i → w0.heap.size ≤ i)) (fun i _ => 3 - (intOf i).toNat)
  case atStart => exact ⟨A3, c3, m0, .inl ⟨rfl, rfl⟩, hw3, hb3, hS3⟩
  case round =>
    obtain ⟨A', c', l', hi, hWr, hbr, hSr⟩ := hrel
    clear hc65 hc66 hc67 hw3 hb3 hS3
    rcases hi with ⟨rfl, hl⟩ | ⟨rfl, hl⟩ | ⟨rfl, hl⟩ | ⟨rfl, hl⟩ <;> rw [hl] at hWr <;> clear hl
    · have HN : Hid (Calls Tryd.prog 19 #[.pointer (some ⟨p, 0, none⟩), .int .u64 (tt : Int), .int .i64 4] wr fun e w' => e = .returned (.tuple #[]) ∧ Wto wr p A' m1 w') := Lib.hid (by rw [E1.out]; exact wnum_calls wr p A' c' m0 hWr tt 4 4 (by decide) (by have := M0.out; omega))
      clear hWr
      go_wp2_with (go_at_call 19; refine HN.out.mono ?_; rintro e' w5 ⟨rfl, A5, c5, hw5, hf5, hn5⟩)
      go_roundw
      case rel => exact ⟨A5, c5, m1, .inr (.inl ⟨by first | rfl | go_num, rfl⟩), hw5, below_frm hbr hf5 hSr, ws_on hSr hn5 hbr.size⟩
      case measure => simp [intOf]
    · have HN : Hid (Calls Tryd.prog 19 #[.pointer (some ⟨p, 0, none⟩), .int .u64 (bb : Int), .int .i64 4] wr fun e w' => e = .returned (.tuple #[]) ∧ Wto wr p A' m2 w') := Lib.hid (by rw [E2.out]; exact wnum_calls wr p A' c' m1 hWr bb 4 4 (by decide) (by have := M1.out; omega))
      clear hWr
      go_wp2_with (go_at_call 19; refine HN.out.mono ?_; rintro e' w5 ⟨rfl, A5, c5, hw5, hf5, hn5⟩)
      go_roundw
      case rel => exact ⟨A5, c5, m2, .inr (.inr (.inl ⟨by first | rfl | go_num, rfl⟩)), hw5, below_frm hbr hf5 hSr, ws_on hSr hn5 hbr.size⟩
      case measure => simp [intOf]
    · have HN : Hid (Calls Tryd.prog 19 #[.pointer (some ⟨p, 0, none⟩), .int .u64 (nn : Int), .int .i64 4] wr fun e w' => e = .returned (.tuple #[]) ∧ Wto wr p A' m3 w') := Lib.hid (by rw [E3.out]; exact wnum_calls wr p A' c' m2 hWr nn 4 4 (by decide) (by have := M2.out; omega))
      clear hWr
      go_wp2_with (go_at_call 19; refine HN.out.mono ?_; rintro e' w5 ⟨rfl, A5, c5, hw5, hf5, hn5⟩)
      go_roundw
      case rel => exact ⟨A5, c5, m3, .inr (.inr (.inr ⟨by first | rfl | go_num, rfl⟩)), hw5, below_frm hbr hf5 hSr, ws_on hSr hn5 hbr.size⟩
      case measure => simp [intOf]
    · have HY := Lib.hid (wbytes_calls wr p A' c' m3 hWr (by have := M3.out; omega))
      clear hWr
      go_wp2_with (go_at_call 21; refine HY.out.mono ?_; rintro e' w6 ⟨A6, n6, c6, rfl, ho6, hb6⟩)
      go_ret
      exact ⟨A6, n6, c6, rfl, FIN.out _ _ _ _ _ ho6 hbr.size, below_more HB.out (below_more hbr hb6)⟩
end Go.Proofs.YthpigninbeommaaDoor
