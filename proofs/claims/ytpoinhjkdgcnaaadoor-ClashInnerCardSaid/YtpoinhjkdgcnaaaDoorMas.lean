/- Merged texts: MrkQ. -/
import Derived.Test.YtpoinhjkdgcnaaaDoorMar
import Derived.Test.YtpoinhjkdgcnaaaDoorMah
import Derived.Test.YtpoinhjkdgcnaaaDoorMab
/- The contract of package merkle's Above. -/
namespace Go.Proofs.YtpoinhjkdgcnaaaDoor
open Go.RowKit
set_option linter.unusedVariables false
set_option linter.unusedSimpArgs false

set_option maxRecDepth 100000 in
/-- A slice that is laid part by part, at a step of its own. -/
theorem wp_bsl {P : Program} {o : Oper} {a : Act} {w : World} {K : Act → World → Prop} {Q : Exit → Act → World → Prop} (t : TypeId) (k : Nat) (parts : Array (Nat × Operand)) (ho : o.op = .buildSlice t k parts) (vals : Array (Nat × Value)) (hv : (parts.map fun (i, x) => (i, a.eval x)) = vals) (f : World → Value × World)
    (hr : ∀ W, (Instr.buildSlice t k vals).run P W = .ok (f W).1 (f W).2) (h : K (a.put o.dst (f w).1) (f w).2) : o.wp P a w K Q := by
  unfold Oper.wp execOp
  simp only [ho, hv, Sem.run_bind, hr w, Result.andThen_ok]
  exact h
set_option maxRecDepth 100000 in
theorem run_mkH (c : Nat) (hn : c ≤ 1000) (w : World) :
    (Instr.makeSlice 24 (.int .i64 0) (.int .i64 (c : Int))).run Tryd.prog w = .ok (.slice (some ⟨w.heap.size, 0, none⟩) 0 c) (w.alloc (.cells (madeCells z32.toArray (c * 32)) 47)) := by
  obtain ⟨i, hi, hzz⟩ := Option.map_eq_some_iff.1 infoG
  simp only [Prod.mk.injEq] at hzz
  obtain ⟨hz, hs, hb⟩ := hzz
  have hr := run_make (P := Tryd.prog) w 24 47 i (.agg z32.toArray) Tryd.underlying24 hi hz .i64 .i64 0 c (by omega) (by omega) (by rw [hb]; omega) (by omega)
  simp only [Int.toNat_natCast, hs, Int.toNat_zero] at hr
  exact hr
set_option maxRecDepth 100000 in
theorem OwnH.room (w : World) (c : Nat) (hc : c ≤ maxLen) : OwnH (w.alloc (.cells (madeCells z32.toArray (c * 32)) 47)) w.heap.size 47 (some ⟨w.heap.size, 0, none⟩) 0 c [] :=
  ⟨rfl, fun _ h => by simp at h, rfl, .inr ⟨w.heap.size, c, _, rfl, Nat.le_refl _, heap_alloc_new w _, Nat.zero_le _, hc, by rw [size_madeCells], by simp⟩⟩
set_option maxRecDepth 100000 in
theorem OwnH.base {w : World} {b b' n c : Nat} {e : TypeId} {A : Option Addr} {L : List (List UInt8)} (h : OwnH w b e A n c L) (hb : b' ≤ b) : OwnH w b' e A n c L := by
  obtain ⟨h1, h2, h3, h4⟩ := h
  refine ⟨h1, h2, h3, ?_⟩
  rcases h4 with h | ⟨g, cap, cur, e1, e2, e3⟩
  · exact .inl h
  · exact .inr ⟨g, cap, cur, e1, by omega, e3⟩
set_option maxRecDepth 100000 in
theorem OwnH.up {w W : World} {b n c : Nat} {e : TypeId} {A : Option Addr} {L : List (List UInt8)} (h : OwnH w b e A n c L) (hb : Below w.heap.size w W) : OwnH W b e A n c L := by
  obtain ⟨h1, h2, h3, h4⟩ := h
  refine ⟨h1, h2, h3, ?_⟩
  rcases h4 with h | ⟨g, cap, cur, e1, e2, e3, e4⟩
  · exact .inl h
  · exact .inr ⟨g, cap, cur, e1, e2, (hb.block g (Array.getElem?_eq_some_iff.1 e3).1).trans e3, e4⟩
set_option maxRecDepth 100000 in
theorem OwnH.cap {w : World} {b n c : Nat} {e : TypeId} {A : Option Addr} {L : List (List UInt8)} (h : OwnH w b e A n c L) : n ≤ c ∧ c ≤ maxLen := by
  rcases h.2.2.2 with ⟨h, h0⟩ | ⟨g, cap, cur, e1, _, _, h2, h3, _⟩
  · injection h with _ _ e
    subst e
    exact ⟨by omega, by unfold maxLen; omega⟩
  · injection e1 with _ _ e
    subst e
    exact ⟨h2, h3⟩
set_option maxRecDepth 100000 in
/-- The bytes of a hash, anywhere. -/
theorem range_rd {w : World} {b o : Nat} {l : List UInt8} (h : w.rangeAt b o (l.map B8)) (hb : b < w.heap.size) (hl : l.length = 32) : Rd w (some ⟨b, o, none⟩) 32 l :=
  ⟨hl, fun _ => ⟨b, o, rfl, hb, fun j hj => h j _ (by rw [List.getElem?_map, List.getElem?_eq_getElem hj]; rfl)⟩⟩
set_option maxRecDepth 100000 in
/-- Two byte slices, laid out anew as a list of two. -/
theorem rdm_two (W : World) (g : Nat) (hg : W.heap.size = g) (A1 A2 : Option Addr) (n1 c1 n2 c2 : Nat) (l1 l2 : List UInt8) (t : TypeId) (h1 : Rd W A1 n1 l1) (h2 : Rd W A2 n2 l2) (hc1 : n1 ≤ c1) (hc2 : n2 ≤ c2) (hm1 : c1 ≤ maxLen) (hm2 : c2 ≤ maxLen) : RdM (W.alloc (.cells #[.slice A1 n1 c1, .slice A2 n2 c2] t)) (some ⟨g, 0, none⟩) 2 [l1, l2] := by
  have hb := Blk.new' W #[.slice A1 n1 c1, .slice A2 n2 c2] t g hg
  refine ⟨rfl, fun _ => ⟨g, 0, rfl, hb.lt, fun j hj => ?_⟩⟩
  rcases (show j = 0 ∨ j = 1 by simp at hj; omega) with rfl | rfl
  · exact ⟨A1, n1, c1, hb.cell 0, hc1, hm1, h1.below ((Below.refl _ W).alloc (Nat.le_refl _) _)⟩
  · exact ⟨A2, n2, c2, hb.cell 1, hc2, hm2, h2.below ((Below.refl _ W).alloc (Nat.le_refl _) _)⟩
set_option maxRecDepth 100000 in
theorem run_b2 (A1 A2 : Option Addr) (n1 c1 n2 c2 : Nat) (W : World) : (Instr.buildSlice 22 2 #[(0, .slice A1 n1 c1), (1, .slice A2 n2 c2)]).run Tryd.prog W = .ok (.slice (some ⟨W.heap.size, 0, none⟩) 2 2) (W.alloc (.cells #[.slice A1 n1 c1, .slice A2 n2 c2] 23)) := by
  obtain ⟨i, hi, hzz⟩ := Option.map_eq_some_iff.1 (show (Tryd.prog.info? 23).map (fun i => (i.zero, i.size)) = some (some (.slice none 0 0), 1) by kernel_rfl)
  simp only [Prod.mk.injEq] at hzz
  obtain ⟨hz, hsz⟩ := hzz
  refine run_buildSlice W 22 23 2 _ _ i (.slice none 0 0) Tryd.underlying22 hi hz (by rw [hsz]; decide) (by rw [hsz]; decide) ?_
  rw [hsz]
  have hz0 : (Array.range (2 * 1)).map ((Value.slice none 0 0).cells[· % (Value.slice none 0 0).cells.size]!) = [Value.slice none 0 0, .slice none 0 0].toArray := by kernel_rfl
  rw [hz0]
  show Instr.fill (fun i => some (i * 1, 1)) [Value.slice none 0 0, .slice none 0 0].toArray [(0, .slice A1 n1 c1), (1, .slice A2 n2 c2)] = some #[.slice A1 n1 c1, .slice A2 n2 c2]
  rw [fill_step _ _ [.slice A1 n1 c1] 0 0 _ _ (by rfl) rfl (by simp), over_one _ _ _ (by simp), List.set_cons_zero, fill_step _ _ [.slice A2 n2 c2] 1 1 _ _ (by rfl) rfl (by simp), over_one _ _ _ (by simp), List.set_cons_succ, List.set_cons_zero]
  rfl
set_option maxRecDepth 100000 in
set_option maxHeartbeats 4000000 in
theorem gaboveO_calls (A : Option Addr) (n c : Nat) (L : List (List UInt8)) (w : World) (hr : RdH w A n L) (hT : Tab w) (hn : n ≤ 64) (hc : n ≤ c) (hm : c ≤ maxLen) :
    Calls Tryd.prog 24 #[.slice A n c] w fun e w' => ∃ A' c', e = .returned (.slice A' ((n + 1) / 2) c') ∧ OwnH w' w.heap.size 47 A' ((n + 1) / 2) c' (abv L) ∧ Below w.heap.size w w' := by
  have hln := hr.len
  obtain ⟨m, hmm⟩ : ∃ m, m = (n + 1) / 2 := ⟨_, rfl⟩
  rw [← hmm]
  have CH : Hid (∀ W, Calls Tryd.prog 40 #[.int .i64 (n : Int)] W (Ret W (.int .i64 (m : Int)))) := Lib.hid fun W => by rw [hmm]; exact ghalf_calls n (by omega) W
  have hmk := fun W => run_mkH m (by omega) W
  have HR := Lib.hid hr
  have HT := Lib.hid hT
  have HM := Lib.hid hmm
  clear hr hT hmm hc hm
  go_enter Tryd.func24, Tryd.ntmps24
  go_wp2_with (go_at_call 40; refine (CH.out _).mono ?_; rintro e' v1 ⟨rfl, d1⟩)
  go_loopw [3, 4] (fun v i wr => ∃ (t : Nat) (A' : Option Addr) (c' : Nat), t ≤ m ∧ i = .int .i64 ((2 * t : Nat) : Int) ∧ v = .slice A' t c' ∧ OwnH wr w.heap.size 47 A' t c' ((abv L).take t) ∧ Below w.heap.size w wr) (fun _ i _ => 200 - (intOf i).toNat)
  case atStart => exact ⟨0, _, m, by omega, by first | rfl | go_num, rfl, by rw [List.take_zero]; exact (OwnH.room v1 m (by have := HM.out; unfold maxLen; omega)).base d1.size, below_al d1 _⟩
  case round =>
    obtain ⟨t, A', c', htm, rfl, rfl, hown, hbel⟩ := hrel
    have hmm := HM.out
    obtain ⟨a2, ha2⟩ : ∃ a, a = 2 * t := ⟨_, rfl⟩
    rw [← ha2]
    by_cases hlt : a2 < n
    · have hlt' : (a2 : Int) < (n : Int) := by omega
      have hrw := HR.out.below hbel
      obtain ⟨b, off, rfl, hb, hga⟩ := hrw.at_ (k := 2 * t) (by omega)
      obtain ⟨b', off', hAe, _, hgb⟩ := hrw.at_ (k := beside n t) (by unfold beside; split <;> omega)
      obtain ⟨rfl, rfl⟩ : b = b' ∧ off = off' := by injection hAe with e; injection e with e1 e2; exact ⟨e1, e2⟩
      obtain ⟨a3, ha3⟩ : ∃ a, a = beside n t := ⟨_, rfl⟩
      obtain ⟨b3, hb3⟩ : ∃ a, a = 2 * t + 1 := ⟨_, rfl⟩
      obtain ⟨a4, ha4⟩ : ∃ a, a = 2 * (t + 1) := ⟨_, rfl⟩
      obtain ⟨m1, hm1⟩ : ∃ a, a = n - 1 := ⟨_, rfl⟩
      obtain ⟨g, hg⟩ : ∃ g, g = wr.heap.size := ⟨_, rfl⟩
      obtain ⟨x, hx⟩ : ∃ x, x = hat L (2 * t) := ⟨_, rfl⟩
      obtain ⟨y, hy⟩ : ∃ y, y = hat L (beside n t) := ⟨_, rfl⟩
      obtain ⟨p, hp⟩ : ∃ p, p = pr x y := ⟨_, rfl⟩
      obtain ⟨Y, hY⟩ : ∃ V, V = y.map B8 := ⟨_, rfl⟩
      obtain ⟨V, hV⟩ : ∃ V, V = p.map B8 := ⟨_, rfl⟩
      have lx : x.length = 32 := by rw [hx]; exact hat_32 HR.out.all (by omega)
      have ly : y.length = 32 := by rw [hy]; exact hat_32 HR.out.all (by unfold beside; split <;> omega)
      have lp : p.length = 32 := by rw [hp]; exact pr_len _ _
      have hxp : hat (abv L) t = p := by have := abv_at L t (by rw [hln]; omega); rw [hln] at this; rw [this, hp, hx, hy]
      have hnext : (abv L).take (t + 1) = (abv L).take t ++ [p] := by
        have hal : t < (abv L).length := by rw [abv_len, hln]; omega
        rw [List.take_succ_eq_append_getElem hal, ← hxp]
        congr 1
        unfold hat
        rw [List.getD_eq_getElem?_getD, List.getElem?_eq_getElem hal]
        rfl
      obtain ⟨T, hT⟩ : ∃ T, T = (abv L).take t := ⟨_, rfl⟩
      rw [← hT] at hown hnext
      rw [← hx, ← ha2] at hga
      rw [← hy, ← hY, ← ha3] at hgb
      have IY : Hid ((Tryd.prog.info? 47).map (·.size) = some Y.length) := Lib.hid (by rw [hY, List.length_map, ly]; kernel_rfl)
      have LY : Hid (z32.length = Y.length) := Lib.hid (by rw [hY, List.length_map, ly]; rfl)
      have OY : Hid (∀ v ∈ Y, v.oneCell' = true) := Lib.hid (by rw [hY]; exact b8_one _)
      have v32 : V.length = 32 := by rw [hV, List.length_map, lp]
      have B1 : Hid (∀ W, (Instr.buildSlice 24 1 #[(0, .agg V.toArray)]).run Tryd.prog W = .ok (Value.slice (some ⟨W.heap.size, 0, none⟩) 1 1, W.alloc (.cells V.toArray 47)).1 (Value.slice (some ⟨W.heap.size, 0, none⟩) 1 1, W.alloc (.cells V.toArray 47)).2) := Lib.hid fun W => run_bs 24 47 Tryd.underlying24 infoG V v32 W
      have B2 : Hid (∀ W, (Instr.buildSlice 22 2 #[(0, .slice (some ⟨b, off + a2 * 32, none⟩) 32 32), (1, .slice (some ⟨g, 0, none⟩) 32 32)]).run Tryd.prog W = .ok (Value.slice (some ⟨W.heap.size, 0, none⟩) 2 2, W.alloc (.cells #[.slice (some ⟨b, off + a2 * 32, none⟩) 32 32, .slice (some ⟨g, 0, none⟩) 32 32] 23)).1 (Value.slice (some ⟨W.heap.size, 0, none⟩) 2 2, W.alloc (.cells #[.slice (some ⟨b, off + a2 * 32, none⟩) 32 32, .slice (some ⟨g, 0, none⟩) 32 32] 23)).2) := Lib.hid fun W => run_b2 _ _ _ _ _ _ W
      have CT : Hid (∀ (W : World) (k : Nat), W.heap.size = k → Below wr.heap.size wr W → Blk W g Y 47 → Calls Tryd.prog 19 #[.slice (some ⟨k, 0, none⟩) 2 2] (W.alloc (.cells #[.slice (some ⟨b, off + a2 * 32, none⟩) 32 32, .slice (some ⟨g, 0, none⟩) 32 32] 23)) (Ret (W.alloc (.cells #[.slice (some ⟨b, off + a2 * 32, none⟩) 32 32, .slice (some ⟨g, 0, none⟩) 32 32] 23)) (.agg V.toArray))) := Lib.hid fun W k hk h1 h2 => by
        have r1 : Rd W (some ⟨b, off + a2 * 32, none⟩) 32 x := (range_rd hga hb lx).below h1
        have r2 : Rd W (some ⟨g, 0, none⟩) 32 y := hash_rd h2 hY ly
        have := twice_calls _ (some ⟨k, 0, none⟩) 2 2 [x, y] (rdm_two W k hk _ _ 32 32 32 32 x y 23 r1 r2 (by omega) (by omega) (by unfold maxLen; omega) (by unfold maxLen; omega)) (HT.out.all (below_al (below_more hbel h1) _)) (by omega) (by simp [lx, ly])
        rw [hV, hp]
        unfold pr
        simpa using this
      have hsa : ∀ (q o : Nat) W, (Instr.sliceAt 47 (.pointer (some ⟨q, o, none⟩)) none none none).run Tryd.prog W = .ok (.slice (some ⟨q, o, none⟩) 32 32) W := fun q o W => run_sl_all 47 5 32 Tryd.underlying47 size8 q o (by omega) W
      have AP : Hid (∀ (x1 x2 : World), Below wr.heap.size wr x1 → x2 = x1.alloc (.cells V.toArray 47) → OwnH x2 w.heap.size 47 A' t c' T ∧ Blk x2 x1.heap.size V 47 ∧ w.heap.size ≤ x2.heap.size ∧ Below w.heap.size w x2) := Lib.hid fun x1 x2 h1 h2 => by
        have h3 := below_al h1 (.cells V.toArray 47)
        rw [← h2] at h3
        refine ⟨hown.up h3, ?_, Nat.le_trans hbel.size h3.size, below_more hbel h3⟩
        rw [h2]; exact Blk.new x1 _ _
      have HN := Lib.hid hnext
      have HV := Lib.hid hV
      have HP32 := Lib.hid lp
      have HG := Lib.hid hg.symm
      have HGE : wr.heap.size = g := hg.symm
      have HGI := Lib.hid HGE
      have u2 : IntKind.i64.wrap ((a2 : Int) + 1) = (b3 : Int) := by rw [IntKind.wrap_i64]; omega
      have u3 : IntKind.i64.wrap ((n : Int) - 1) = (m1 : Int) := by rw [IntKind.wrap_i64]; omega
      have u4 : IntKind.i64.wrap ((a2 : Int) + 2) = (a4 : Int) := by rw [IntKind.wrap_i64]; omega
      have h4i : ((2 * (t + 1) : Nat) : Int) = (a4 : Int) := by rw [ha4]
      have H4I := Lib.hid h4i
      have hms : 200 - a4 < 200 - a2 := by omega
      have ht64 : t ≤ 64 := by omega
      have ht1 : t + 1 ≤ m := by omega
      by_cases hbs : 2 * t + 1 < n
      · have e3 : a3 = b3 := by rw [ha3, hb3]; unfold beside; rw [if_pos hbs]
        rw [e3] at hgb
        have t3 : (b3 : Int) < (n : Int) := by omega
        have t4 : ¬ (m1 : Int) < (b3 : Int) := by omega
        have t5 : ¬ m1 < b3 := by omega
        clear hga hx hy hp hY hV hT hown hnext lx ly lp hxp hrw hmm ha2 ha3 hb3 ha4 hm1 hbs e3 v32 h4i hAe hg HM CH hmk
        go_upto_region 6 with (first
          | ((with_reducible refine at_load 47 (.tmp 23) ?_); refine wpList_load_mid rfl 47 (.tmp 23) rfl b (off + b3 * 32) (by first | rfl | simp [Act.eval]) Y _ hgb Tryd.underlying47 rfl IY.out ?_)
          | ((with_reducible refine at_store 47 (.tmp 5) (.tmp 24) ?_); refine wpList_store_blk rfl 47 (.tmp 5) (.tmp 24) rfl g z32 Y 47 rfl rfl (Blk.new' wr _ _ _ HG.out) LY.out IY.out OY.out ?_; intro x1 hb1 ho1; have hx1 := below_only (below_al (Below.refl _ wr) _) ho1 (Nat.le_of_eq HG.out)))
        refine wp_region_held_drew (S := fun _ => True) (by kernel_rfl) ?_ (fun hHeld => ?_)
        · trivial
        refine wpAnyH_take (i := 0) (v := ?_) rfl (by kernel_rfl) (by kernel_rfl) (by kernel_rfl) (fun _ _ _ h => h) (Or.inl ⟨by rfl, ?_⟩) (by assumption) ?_
        rotate_left 1
        · intro w hSw; (try dsimp only at hSw); simp only [List.getElem_toArray, List.getElem_cons_succ, List.getElem_cons_zero]; go_simp; try (with_reducible rfl)
        (try simp only [List.getElem_toArray, List.getElem_cons_succ, List.getElem_cons_zero, Act.put, List.setIfInBounds_toArray, List.set_cons_succ, List.set_cons_zero])
        refine wpAnyH_take (i := 1) (v := ?_) rfl (by kernel_rfl) (by kernel_rfl) (by kernel_rfl) (fun _ _ _ h => h) (Or.inl ⟨by rfl, ?_⟩) (by assumption) ?_
        rotate_left 1
        · intro w hSw; (try dsimp only at hSw); simp only [List.getElem_toArray, List.getElem_cons_succ, List.getElem_cons_zero]; go_simp; try (with_reducible rfl)
        (try simp only [List.getElem_toArray, List.getElem_cons_succ, List.getElem_cons_zero, Act.put, List.setIfInBounds_toArray, List.set_cons_succ, List.set_cons_zero])
        refine wpAnyH_take (i := 2) (v := ?_) rfl (by kernel_rfl) (by kernel_rfl) (by kernel_rfl) (fun _ _ _ h => h) (Or.inl ⟨by rfl, ?_⟩) (by assumption) ?_
        rotate_left 1
        · intro w hSw; (try dsimp only at hSw); simp only [List.getElem_toArray, List.getElem_cons_succ, List.getElem_cons_zero]; go_simp; try (with_reducible rfl)
        (try simp only [List.getElem_toArray, List.getElem_cons_succ, List.getElem_cons_zero, Act.put, List.setIfInBounds_toArray, List.set_cons_succ, List.set_cons_zero])
        refine wpAnyH_take (i := 3) (v := ?_) rfl (by kernel_rfl) (by kernel_rfl) (by kernel_rfl) (fun _ _ _ h => h) (Or.inl ⟨by rfl, ?_⟩) (by assumption) ?_
        rotate_left 1
        · intro w hSw; (try dsimp only at hSw); simp only [List.getElem_toArray, List.getElem_cons_succ, List.getElem_cons_zero]; go_simp; try (with_reducible rfl)
        (try simp only [List.getElem_toArray, List.getElem_cons_succ, List.getElem_cons_zero, Act.put, List.setIfInBounds_toArray, List.set_cons_succ, List.set_cons_zero])
        refine wpAnyH_take (i := 4) (v := .slice (some ⟨b, off + a2 * 32, none⟩) 32 32) rfl (by kernel_rfl) (by kernel_rfl) (by kernel_rfl) (fun _ _ _ h => h) (Or.inl ⟨by rfl, ?_⟩) (by assumption) ?_
        · intro w hSw; (try dsimp only at hSw); simp only [List.getElem_toArray, List.getElem_cons_succ, List.getElem_cons_zero]; first | (go_simp; done) | (simp [execOp, Act.eval, hsa]; done)
        (try simp only [List.getElem_toArray, List.getElem_cons_succ, List.getElem_cons_zero, Act.put, List.setIfInBounds_toArray, List.set_cons_succ, List.set_cons_zero])
        refine wpAnyH_take (i := 5) (v := .slice (some ⟨g, 0, none⟩) 32 32) rfl (by kernel_rfl) (by kernel_rfl) (by kernel_rfl) (fun _ _ _ h => h) (Or.inl ⟨by rfl, ?_⟩) (by assumption) ?_
        · intro w hSw; (try dsimp only at hSw); simp only [List.getElem_toArray, List.getElem_cons_succ, List.getElem_cons_zero]; first | (go_simp; done) | (simp [execOp, Act.eval, hsa]; done)
        (try simp only [List.getElem_toArray, List.getElem_cons_succ, List.getElem_cons_zero, Act.put, List.setIfInBounds_toArray, List.set_cons_succ, List.set_cons_zero])
        refine wpAnyH_ready (rs := [6]) (by kernel_rfl) (by simp) ?_
        refine AllReadyH.cons rfl (fun K hK => ?_) AllReadyH.nil
        (try simp only [List.getElem_toArray, List.getElem_cons_succ, List.getElem_cons_zero])
        refine Eq.mpr (if_pos (by first | rfl | simp [Region.wanted, yielded, Act.put])) ?_
        refine wp_bsl _ _ _ rfl #[(0, .slice (some ⟨b, off + a2 * 32, none⟩) 32 32), (1, .slice (some ⟨g, 0, none⟩) 32 32)] (by simp [Act.eval]) (fun W => (.slice (some ⟨W.heap.size, 0, none⟩) 2 2, W.alloc (.cells #[.slice (some ⟨b, off + a2 * 32, none⟩) 32 32, .slice (some ⟨g, 0, none⟩) 32 32] 23))) B2.out ?_
        (try dsimp only)
        refine hK.out _ _ ?_ (fun hHeld => ?_)
        · trivial
        clear hK K
        (try simp only [Act.put, List.setIfInBounds_toArray, List.set_cons_succ, List.set_cons_zero])
        refine wpAnyH_ready (rs := [7]) (by kernel_rfl) (by simp) ?_
        refine AllReadyH.cons rfl (fun K hK => ?_) AllReadyH.nil
        (try simp only [List.getElem_toArray, List.getElem_cons_succ, List.getElem_cons_zero])
        go_simp
        go_at_call 19; refine (CT.out x1.drew _ rfl (below_dr hx1) (Blk.dr hb1)).mono ?_; rintro e' x7 ⟨rfl, d7⟩
        (try (go_wp2_with fail))
        refine hK.out _ _ ?_ (fun hHeld => ?_)
        · trivial
        clear hK K
        (try simp only [Act.put, List.setIfInBounds_toArray, List.set_cons_succ, List.set_cons_zero])
        refine wpAnyH_ready (rs := [8]) (by kernel_rfl) (by simp) ?_
        refine AllReadyH.cons rfl (fun K hK => ?_) AllReadyH.nil
        (try simp only [List.getElem_toArray, List.getElem_cons_succ, List.getElem_cons_zero])
        refine Eq.mpr (if_pos (by first | rfl | simp [Region.wanted, yielded, Act.put])) ?_
        refine wp_bsl _ _ _ rfl #[(0, .agg V.toArray)] (by simp [Act.eval]) (fun W => (.slice (some ⟨W.heap.size, 0, none⟩) 1 1, W.alloc (.cells V.toArray 47))) B1.out ?_
        (try dsimp only)
        refine hK.out _ _ ?_ (fun hHeld => ?_)
        · trivial
        clear hK K
        (try simp only [Act.put, List.setIfInBounds_toArray, List.set_cons_succ, List.set_cons_zero])
        refine wpAnyH_ready (rs := [9]) (by kernel_rfl) (by simp) ?_
        refine AllReadyH.cons rfl (fun K hK => ?_) AllReadyH.nil
        (try simp only [List.getElem_toArray, List.getElem_cons_succ, List.getElem_cons_zero])
        refine Eq.mpr (if_pos (by first | rfl | simp [Region.wanted, yielded, Act.put])) ?_
        have hap := AP.out x7 _ (below_more (below_al (below_dr hx1) _) d7) rfl
        refine wp_appH (.tmp 25) (.tmp 33) 24 47 rfl Tryd.underlying24 infoG w.heap.size A' t c' T (by first | rfl | simp [Act.eval]) hap.1 p HP32.out x7.heap.size (by first | rfl | simp [Act.eval]) V HV.out hap.2.1 (by omega) hap.2.2.1 ?_
        intro A2 c2 w2 ho2 hb2
        refine hK.out _ _ ?_ (fun hHeld => ?_)
        · trivial
        clear hK K
        (try simp only [Act.put, List.setIfInBounds_toArray, List.set_cons_succ, List.set_cons_zero])
        refine wpAnyH_take (i := 10) (v := ?_) rfl (by kernel_rfl) (by kernel_rfl) (by kernel_rfl) (fun _ _ _ h => h) (Or.inl ⟨by rfl, ?_⟩) (by assumption) ?_
        rotate_left 1
        · intro w hSw; (try dsimp only at hSw); simp only [List.getElem_toArray, List.getElem_cons_succ, List.getElem_cons_zero]; go_simp; try (with_reducible rfl)
        (try simp only [List.getElem_toArray, List.getElem_cons_succ, List.getElem_cons_zero, Act.put, List.setIfInBounds_toArray, List.set_cons_succ, List.set_cons_zero])
        refine wpAnyH_done (by kernel_rfl) ?_ _
        have hb3 := hap.2.2.2.trans hb2
        go_wp2
        go_roundw
        case rel => exact ⟨t + 1, A2, c2, by omega, by rw [H4I.out], rfl, by rw [HN.out]; exact ho2, hb3⟩
        case measure => simp [intOf]; omega
      · have e3 : a3 = m1 := by rw [ha3, hm1]; unfold beside; rw [if_neg hbs]; omega
        rw [e3] at hgb
        have t3 : (m1 : Int) < (n : Int) := by omega
        have t4 : (m1 : Int) < (b3 : Int) := by omega
        have t5 : m1 < b3 := by omega
        clear hga hx hy hp hY hV hT hown hnext lx ly lp hxp hrw hmm ha2 ha3 hb3 ha4 hm1 hbs e3 v32 h4i hAe hg HM CH hmk
        go_upto_region 6 with (first
          | ((with_reducible refine at_load 47 (.tmp 23) ?_); refine wpList_load_mid rfl 47 (.tmp 23) rfl b (off + m1 * 32) (by first | rfl | simp [Act.eval]) Y _ hgb Tryd.underlying47 rfl IY.out ?_)
          | ((with_reducible refine at_store 47 (.tmp 5) (.tmp 24) ?_); refine wpList_store_blk rfl 47 (.tmp 5) (.tmp 24) rfl g z32 Y 47 rfl rfl (Blk.new' wr _ _ _ HG.out) LY.out IY.out OY.out ?_; intro x1 hb1 ho1; have hx1 := below_only (below_al (Below.refl _ wr) _) ho1 (Nat.le_of_eq HG.out)))
        refine wp_region_held_drew (S := fun _ => True) (by kernel_rfl) ?_ (fun hHeld => ?_)
        · trivial
        refine wpAnyH_take (i := 0) (v := ?_) rfl (by kernel_rfl) (by kernel_rfl) (by kernel_rfl) (fun _ _ _ h => h) (Or.inl ⟨by rfl, ?_⟩) (by assumption) ?_
        rotate_left 1
        · intro w hSw; (try dsimp only at hSw); simp only [List.getElem_toArray, List.getElem_cons_succ, List.getElem_cons_zero]; go_simp; try (with_reducible rfl)
        (try simp only [List.getElem_toArray, List.getElem_cons_succ, List.getElem_cons_zero, Act.put, List.setIfInBounds_toArray, List.set_cons_succ, List.set_cons_zero])
        refine wpAnyH_take (i := 1) (v := ?_) rfl (by kernel_rfl) (by kernel_rfl) (by kernel_rfl) (fun _ _ _ h => h) (Or.inl ⟨by rfl, ?_⟩) (by assumption) ?_
        rotate_left 1
        · intro w hSw; (try dsimp only at hSw); simp only [List.getElem_toArray, List.getElem_cons_succ, List.getElem_cons_zero]; go_simp; try (with_reducible rfl)
        (try simp only [List.getElem_toArray, List.getElem_cons_succ, List.getElem_cons_zero, Act.put, List.setIfInBounds_toArray, List.set_cons_succ, List.set_cons_zero])
        refine wpAnyH_take (i := 2) (v := ?_) rfl (by kernel_rfl) (by kernel_rfl) (by kernel_rfl) (fun _ _ _ h => h) (Or.inl ⟨by rfl, ?_⟩) (by assumption) ?_
        rotate_left 1
        · intro w hSw; (try dsimp only at hSw); simp only [List.getElem_toArray, List.getElem_cons_succ, List.getElem_cons_zero]; go_simp; try (with_reducible rfl)
        (try simp only [List.getElem_toArray, List.getElem_cons_succ, List.getElem_cons_zero, Act.put, List.setIfInBounds_toArray, List.set_cons_succ, List.set_cons_zero])
        refine wpAnyH_take (i := 3) (v := ?_) rfl (by kernel_rfl) (by kernel_rfl) (by kernel_rfl) (fun _ _ _ h => h) (Or.inl ⟨by rfl, ?_⟩) (by assumption) ?_
        rotate_left 1
        · intro w hSw; (try dsimp only at hSw); simp only [List.getElem_toArray, List.getElem_cons_succ, List.getElem_cons_zero]; go_simp; try (with_reducible rfl)
        (try simp only [List.getElem_toArray, List.getElem_cons_succ, List.getElem_cons_zero, Act.put, List.setIfInBounds_toArray, List.set_cons_succ, List.set_cons_zero])
        refine wpAnyH_take (i := 4) (v := .slice (some ⟨b, off + a2 * 32, none⟩) 32 32) rfl (by kernel_rfl) (by kernel_rfl) (by kernel_rfl) (fun _ _ _ h => h) (Or.inl ⟨by rfl, ?_⟩) (by assumption) ?_
        · intro w hSw; (try dsimp only at hSw); simp only [List.getElem_toArray, List.getElem_cons_succ, List.getElem_cons_zero]; first | (go_simp; done) | (simp [execOp, Act.eval, hsa]; done)
        (try simp only [List.getElem_toArray, List.getElem_cons_succ, List.getElem_cons_zero, Act.put, List.setIfInBounds_toArray, List.set_cons_succ, List.set_cons_zero])
        refine wpAnyH_take (i := 5) (v := .slice (some ⟨g, 0, none⟩) 32 32) rfl (by kernel_rfl) (by kernel_rfl) (by kernel_rfl) (fun _ _ _ h => h) (Or.inl ⟨by rfl, ?_⟩) (by assumption) ?_
        · intro w hSw; (try dsimp only at hSw); simp only [List.getElem_toArray, List.getElem_cons_succ, List.getElem_cons_zero]; first | (go_simp; done) | (simp [execOp, Act.eval, hsa]; done)
        (try simp only [List.getElem_toArray, List.getElem_cons_succ, List.getElem_cons_zero, Act.put, List.setIfInBounds_toArray, List.set_cons_succ, List.set_cons_zero])
        refine wpAnyH_ready (rs := [6]) (by kernel_rfl) (by simp) ?_
        refine AllReadyH.cons rfl (fun K hK => ?_) AllReadyH.nil
        (try simp only [List.getElem_toArray, List.getElem_cons_succ, List.getElem_cons_zero])
        refine Eq.mpr (if_pos (by first | rfl | simp [Region.wanted, yielded, Act.put])) ?_
        refine wp_bsl _ _ _ rfl #[(0, .slice (some ⟨b, off + a2 * 32, none⟩) 32 32), (1, .slice (some ⟨g, 0, none⟩) 32 32)] (by simp [Act.eval]) (fun W => (.slice (some ⟨W.heap.size, 0, none⟩) 2 2, W.alloc (.cells #[.slice (some ⟨b, off + a2 * 32, none⟩) 32 32, .slice (some ⟨g, 0, none⟩) 32 32] 23))) B2.out ?_
        (try dsimp only)
        refine hK.out _ _ ?_ (fun hHeld => ?_)
        · trivial
        clear hK K
        (try simp only [Act.put, List.setIfInBounds_toArray, List.set_cons_succ, List.set_cons_zero])
        refine wpAnyH_ready (rs := [7]) (by kernel_rfl) (by simp) ?_
        refine AllReadyH.cons rfl (fun K hK => ?_) AllReadyH.nil
        (try simp only [List.getElem_toArray, List.getElem_cons_succ, List.getElem_cons_zero])
        go_simp
        go_at_call 19; refine (CT.out x1.drew _ rfl (below_dr hx1) (Blk.dr hb1)).mono ?_; rintro e' x7 ⟨rfl, d7⟩
        (try (go_wp2_with fail))
        refine hK.out _ _ ?_ (fun hHeld => ?_)
        · trivial
        clear hK K
        (try simp only [Act.put, List.setIfInBounds_toArray, List.set_cons_succ, List.set_cons_zero])
        refine wpAnyH_ready (rs := [8]) (by kernel_rfl) (by simp) ?_
        refine AllReadyH.cons rfl (fun K hK => ?_) AllReadyH.nil
        (try simp only [List.getElem_toArray, List.getElem_cons_succ, List.getElem_cons_zero])
        refine Eq.mpr (if_pos (by first | rfl | simp [Region.wanted, yielded, Act.put])) ?_
        refine wp_bsl _ _ _ rfl #[(0, .agg V.toArray)] (by simp [Act.eval]) (fun W => (.slice (some ⟨W.heap.size, 0, none⟩) 1 1, W.alloc (.cells V.toArray 47))) B1.out ?_
        (try dsimp only)
        refine hK.out _ _ ?_ (fun hHeld => ?_)
        · trivial
        clear hK K
        (try simp only [Act.put, List.setIfInBounds_toArray, List.set_cons_succ, List.set_cons_zero])
        refine wpAnyH_ready (rs := [9]) (by kernel_rfl) (by simp) ?_
        refine AllReadyH.cons rfl (fun K hK => ?_) AllReadyH.nil
        (try simp only [List.getElem_toArray, List.getElem_cons_succ, List.getElem_cons_zero])
        refine Eq.mpr (if_pos (by first | rfl | simp [Region.wanted, yielded, Act.put])) ?_
        have hap := AP.out x7 _ (below_more (below_al (below_dr hx1) _) d7) rfl
        refine wp_appH (.tmp 25) (.tmp 33) 24 47 rfl Tryd.underlying24 infoG w.heap.size A' t c' T (by first | rfl | simp [Act.eval]) hap.1 p HP32.out x7.heap.size (by first | rfl | simp [Act.eval]) V HV.out hap.2.1 (by omega) hap.2.2.1 ?_
        intro A2 c2 w2 ho2 hb2
        refine hK.out _ _ ?_ (fun hHeld => ?_)
        · trivial
        clear hK K
        (try simp only [Act.put, List.setIfInBounds_toArray, List.set_cons_succ, List.set_cons_zero])
        refine wpAnyH_take (i := 10) (v := ?_) rfl (by kernel_rfl) (by kernel_rfl) (by kernel_rfl) (fun _ _ _ h => h) (Or.inl ⟨by rfl, ?_⟩) (by assumption) ?_
        rotate_left 1
        · intro w hSw; (try dsimp only at hSw); simp only [List.getElem_toArray, List.getElem_cons_succ, List.getElem_cons_zero]; go_simp; try (with_reducible rfl)
        (try simp only [List.getElem_toArray, List.getElem_cons_succ, List.getElem_cons_zero, Act.put, List.setIfInBounds_toArray, List.set_cons_succ, List.set_cons_zero])
        refine wpAnyH_done (by kernel_rfl) ?_ _
        have hb3 := hap.2.2.2.trans hb2
        go_wp2
        go_roundw
        case rel => exact ⟨t + 1, A2, c2, by omega, by rw [H4I.out], rfl, by rw [HN.out]; exact ho2, hb3⟩
        case measure => simp [intOf]; omega
    · have hlt' : ¬ (a2 : Int) < (n : Int) := by omega
      have e : t = m := by omega
      subst e
      rw [List.take_of_length_le (by rw [abv_len, hln]; omega)] at hown
      have HO := Lib.hid hown
      clear hown hmm ha2
      go_wp2
      go_ret
      exact ⟨A', c', rfl, HO.out, hbel⟩
set_option maxRecDepth 100000 in
theorem gabove_calls (A : Option Addr) (n c : Nat) (L : List (List UInt8)) (w : World) (hr : RdH w A n L) (hT : Tab w) (hn : n ≤ 64) (hc : n ≤ c) (hm : c ≤ maxLen) :
    Calls Tryd.prog 24 #[.slice A n c] w fun e w' => ∃ A' c', e = .returned (.slice A' ((n + 1) / 2) c') ∧ RdH w' A' ((n + 1) / 2) (abv L) ∧ (n + 1) / 2 ≤ c' ∧ c' ≤ maxLen ∧ Below w.heap.size w w' :=
  (gaboveO_calls A n c L w hr hT hn hc hm).mono fun e w' ⟨A', c', h1, h2, h3⟩ => ⟨A', c', h1, h2.rd, h2.cap.1, h2.cap.2, h3⟩
end Go.Proofs.YtpoinhjkdgcnaaaDoor
