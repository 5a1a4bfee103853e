/- Merged texts: ShaW. -/
import Derived.Test.YtnfcnjboeocnmaaDoorMai
import Derived.Deep.DrawnRows
/- The contract of Hasher.Write: the bytes are written behind those that were. -/
namespace Go.Proofs.YtnfcnjboeocnmaaDoor
open Go.RowKit
set_option linter.unusedVariables false

set_option maxRecDepth 100000 in
set_option maxHeartbeats 1000000 in
theorem write_calls (BLK : ∀ (s : St) (B : List UInt8) (w : World), s.ok → B.length = 64 → Tab w → Calls Tryd.prog 43 #[.agg s.arr, .agg (B.map B8).toArray] w (Ret w (.agg (comp s B).arr)))
    (w : World) (b : Nat) (l m : List UInt8) (A : Option Addr) (n c : Nat) (hH : Hs w b l) (hR : RdX w b A n m) (hT : Tab w) (hg0 : 1 ≠ b) (hg1 : 0 ≠ b) (hsz : l.length + n ≤ 1000000000000) (hnc : n ≤ c) :
    Calls Tryd.prog 39 #[.pointer (some ⟨b, 0, none⟩), .slice A n c] w fun e w' => e = .returned (.tuple #[]) ∧ Hs w' b (l ++ m) ∧ Beside b w w' := by
  have hB0 := Lib.hid BLK
  clear BLK
  have hl0 := Lib.hid hR.1
  go_enter Tryd.func39, Tryd.ntmps39
  go_wp2
  go_loopw [1] (fun v wr => ∃ (t : Nat) (A' : Option Addr) (c' : Nat), t ≤ n ∧ v = .slice A' (n - t) c' ∧ n - t ≤ c' ∧ Hs wr b (l ++ m.take t) ∧ RdX wr b A' (n - t) (m.drop t) ∧ Beside b w wr ∧ Tab wr) (fun v _ => match v with | .slice _ k _ => k | _ => 0)
  case atStart => exact ⟨0, A, c, Nat.zero_le _, rfl, hnc, by simpa using hH, by simpa using hR, Beside.refl _ _, hT⟩
  case round =>
    obtain ⟨t, A', c', ht, rfl, hc', hHs, hRd, hbes, hTab⟩ := hrel
    by_cases hlt : t < n
    · obtain ⟨g, off, rfl, hne, hg, hcs⟩ := hRd.2 (by omega)
      obtain ⟨B, hB, hd, hb⟩ := hHs
      obtain ⟨p, hp⟩ : ∃ p, p = (l ++ m.take t).length := ⟨_, rfl⟩
      obtain ⟨q, hq⟩ : ∃ q, q = p % 64 := ⟨_, rfl⟩
      obtain ⟨r, hr⟩ : ∃ r, r = n - t := ⟨_, rfl⟩
      have ct := hb.cell 72
      rw [hcells_total _ _ _ hB, ← hp] at ct
      have hsl := fun W => run_sl_l (P := Tryd.prog) 80 5 64 Tryd.underlying80 size8 b 8 q (q : Int) rfl (by omega) W
      have htm : (p : Int).tmod 64 = (q : Int) := by rw [Int.tmod_eq_emod_of_nonneg (by omega)]; omega
      rw [← hr]
      have hr0 : (0 : Int) < (r : Int) := by omega
      have X := Lib.hid (And.intro hp (And.intro hq (And.intro hr (And.intro hd (And.intro hb hRd)))))
      clear hp hq hr hd hb hRd
      obtain ⟨k, hk⟩ : ∃ k, k = Nat.min r (64 - q) := ⟨_, rfl⟩
      have hk1 : 0 < k ∧ k ≤ r ∧ q + k ≤ 64 := by rw [hk]; have := X.out.2.1; simp only [Nat.min_def]; split <;> omega
      obtain ⟨Z, hZ⟩ : ∃ Z, Z = (m.drop t).take k := ⟨_, rfl⟩
      have hZl : Z.length = k := by rw [hZ, List.length_take, List.length_drop, hl0.out]; have := X.out.2.2.1; omega
      have hcsl : (Z.map B8).length = Nat.min r (64 - q) := by rw [List.length_map, hZl, hk]
      have hsrc : ∀ j v, (Z.map B8)[j]? = some v → wr.drew.cell? ((⟨g, off, none⟩ : Addr).add j) = some v := by
        intro j v hv
        rw [Addr.add_mid]
        have hj : j < Z.length := by have := (List.getElem?_eq_some_iff.1 hv).1; simpa using this
        have hj2 : j < (m.drop t).length := by rw [hZ, List.length_take] at hj; omega
        have e : (Z.map B8)[j]? = some (.int .u8 ((m.drop t)[j].toNat : Int)) := by
          rw [List.getElem?_map, hZ, List.getElem?_take, if_pos (by omega), List.getElem?_eq_getElem hj2]
          rfl
        rw [e] at hv
        cases hv
        exact hcs j hj2
      have Y := Lib.hid (And.intro hk (And.intro hk1 (And.intro hZ hZl)))
      have Y1 := Lib.hid hcsl
      have Y2 := Lib.hid hsrc
      have Y3 : Hid (Blk wr.drew b (hcells (chain h0 (l ++ m.take t) (p / 64)) B p) 82) := Lib.hid (by have := X.out.2.2.2.2.1; rw [← X.out.1] at this; exact this)
      have Y4 : Hid (8 + q + (Z.map B8).length ≤ (hcells (chain h0 (l ++ m.take t) (p / 64)) B p).length) := Lib.hid (by rw [hcells_len _ _ _ hB, List.length_map, hZl]; omega)
      have hplen := X.out.1
      have hpb : p + k ≤ 1000000000000 := by rw [hplen, List.length_append, List.length_take]; have := hl0.out; have := X.out.2.2.1; omega
      obtain ⟨A2, hA2⟩ : ∃ A2 : Addr, A2 = (if c' = k then ⟨g, off, none⟩ else ⟨g, off + k, none⟩) := ⟨_, rfl⟩
      have hs2 := fun W => run_rs (P := Tryd.prog) 68 5 Tryd.underlying68 size8 g off r c' k hk1.2.1 W
      rw [← hA2] at hs2
      obtain ⟨st, hst⟩ : ∃ st, st = chain h0 (l ++ m.take t) (p / 64) := ⟨_, rfl⟩
      have hstok : st.ok := hst ▸ chain_ok _ _ _ h0_ok
      rw [← hst] at Y3 Y4
      -- what holds when the round is over
      have NEXT : ∀ (w9 : World) (s9 : St), Blk w9 b (hcells s9 (putB B q Z) (p + k)) 82 → (q + k < 64 → s9 = st) → (q + k = 64 → s9 = comp st (putB B q Z)) → Beside b wr w9 →
          ∃ (t_1 : Nat) (A_1 : Option Addr) (c_1 : Nat), t_1 ≤ n ∧ Value.slice (some A2) (r - k) (c' - k) = .slice A_1 (n - t_1) c_1 ∧ n - t_1 ≤ c_1 ∧ Hs w9 b (l ++ m.take t_1) ∧ RdX w9 b A_1 (n - t_1) (m.drop t_1) ∧ Beside b w w9 ∧ Tab w9 := by
        intro w9 s9 hb9 hpart hfull hbes9
        have hqe := X.out.2.1
        have hr := X.out.2.2.1
        have hd := X.out.2.2.2.1
        have hm := hl0.out
        have hT9 := hbes9.tab hTab hg0 hg1
        have hP : l ++ m.take (t + k) = (l ++ m.take t) ++ Z := by rw [hZ, List.append_assoc, List.take_add]
        have hpk : p + k = ((l ++ m.take t) ++ Z).length := by rw [List.length_append, ← hplen, hZl]
        rw [hplen] at hqe
        refine ⟨t + k, some A2, c' - k, by omega, by rw [show r - k = n - (t + k) from by omega], by omega, ?_, ?_, hbes.trans hbes9, hT9⟩
        · rw [hP]
          refine ⟨putB B q Z, putB_len _ _ _ hB (by omega), ?_⟩
          by_cases hf : q + k = 64
          · obtain ⟨f1, f2, f3, f4⟩ := step_full (l ++ m.take t) Z B hB hd (by omega)
            rw [f1, f2, f3, f4, ← hqe, ← hplen, ← hst, ← hfull hf, ← hpk]
            exact ⟨rfl, hb9⟩
          · obtain ⟨f1, f2, f3⟩ := step_part (l ++ m.take t) Z B hB hd (by omega)
            rw [f3, ← hplen, ← hst, ← hpart (by omega), ← hpk]
            refine ⟨?_, hb9⟩
            rw [hpk, hqe]
            exact f2
        · refine ⟨by rw [List.length_drop]; omega, fun h0n => ⟨g, off + k, by rw [hA2, if_neg (by omega)], hne, Nat.lt_of_lt_of_le hg hbes9.size, fun j hj => ?_⟩⟩
          have hj2 : k + j < (m.drop t).length := by rw [List.length_drop] at hj ⊢; omega
          have h := hcs (k + j) hj2
          have hblk := hbes9.block g hg hne
          have e1 : (m.drop (t + k))[j] = (m.drop t)[k + j] := by simp [Nat.add_assoc]
          rw [e1, Nat.add_assoc]
          simpa [World.cell?, hblk] using h
      have NX := Lib.hid NEXT
      have hkr := hk1.2.2
      have hk0 := hk1.1
      clear hk hk1 hZ hcsl hsrc NEXT hplen hA2 hst
      go_wp2
      go_region_law (refine step_copy_blk rfl _ _ 68 68 rfl 5 Tryd.underlying68 size8 b (8 + q) ⟨g, off, none⟩ (64 - q) (64 - q) r c' rfl rfl _ 82 Y3.out (Z.map B8) Y1.out Y2.out Y4.out (b8_one Z) ?_; intro w5 hb5 ho5)
      rw [over_hcells _ _ _ _ _ hB (by omega)] at hb5
      have hB' := putB_len B q Z hB (by omega)
      have ct5 := hb5.cell 72
      rw [hcells_total _ _ _ hB'] at ct5
      have cf5 := hb5.free 72
      have hb6 := hb5.set 72 (.int .i64 ((p + k : Nat) : Int))
      rw [set_hcells _ _ _ _ hB'] at hb6
      have hbe6 : Beside b wr (w5.setCell ⟨b, 72, none⟩ (.int .i64 ((p + k : Nat) : Int))) := (Beside.drew ho5.beside).trans (Only.set (Only.refl b w5) 72 _).beside
      have H6 := Lib.hid hb6
      have H7 := Lib.hid hbe6
      clear hb5 ho5 hb6 hbe6
      by_cases hf : q + k = 64
      · have htm2 : ((p : Int) + (k : Int)).tmod 64 = 0 := by have := X.out.2.1; rw [Int.tmod_eq_emod_of_nonneg (by omega)]; omega
        go_wp2
        obtain ⟨w6, hw6⟩ : ∃ w6, w6 = w5.setCell ⟨b, 72, none⟩ (.int .i64 ((p + k : Nat) : Int)) := ⟨_, rfl⟩
        rw [show (p : Int) + (k : Int) = ((p + k : Nat) : Int) from by omega, ← hw6]
        rw [← hw6] at H6 H7
        clear hw6 ct5 cf5 ct htm2 htm
        obtain ⟨a1, a2, a3, a4, a5, a6, a7, a8⟩ := st
        have hb6 := H6.out
        have c0 : w6.cell? ⟨b, 0, none⟩ = some (.int .u32 (a1 : Int)) := hb6.cell 0
        have c1 : w6.cell? ⟨b, 1, none⟩ = some (.int .u32 (a2 : Int)) := hb6.cell 1
        have c2 : w6.cell? ⟨b, 2, none⟩ = some (.int .u32 (a3 : Int)) := hb6.cell 2
        have c3 : w6.cell? ⟨b, 3, none⟩ = some (.int .u32 (a4 : Int)) := hb6.cell 3
        have c4 : w6.cell? ⟨b, 4, none⟩ = some (.int .u32 (a5 : Int)) := hb6.cell 4
        have c5 : w6.cell? ⟨b, 5, none⟩ = some (.int .u32 (a6 : Int)) := hb6.cell 5
        have c6 : w6.cell? ⟨b, 6, none⟩ = some (.int .u32 (a7 : Int)) := hb6.cell 6
        have c7 : w6.cell? ⟨b, 7, none⟩ = some (.int .u32 (a8 : Int)) := hb6.cell 7
        obtain ⟨B', hBe⟩ : ∃ B', B' = putB B q Z := ⟨_, rfl⟩
        rw [← hBe] at H6 NX hB' hb6
        have hu31 := Tryd.underlying80
        have hi31 : (Tryd.prog.info? 80).map (·.size) = some (B'.map B8).length := by rw [List.length_map, hB']; exact ib64
        have hl31 : (B'.map B8).length = 64 := by rw [List.length_map, hB']
        have ho31 := b8_one B'
        have hr31 : w6.rangeAt b 8 (B'.map B8) := block_range hb6
        have hT6 : Tab w6.drew := (show Tab w6 from H7.out.tab hTab hg0 hg1)
        obtain ⟨V, hV⟩ : ∃ V, V = (comp ⟨a1, a2, a3, a4, a5, a6, a7, a8⟩ B').vals := ⟨_, rfl⟩
        obtain ⟨V0, hV0⟩ : ∃ V, V = hcells ⟨a1, a2, a3, a4, a5, a6, a7, a8⟩ B' (p + k) := ⟨_, rfl⟩
        have hVl : V.length = 8 := by rw [hV]; exact vals_len _
        have hV0l : V0.length = 73 := by rw [hV0]; exact hcells_len _ _ _ hB'
        have hV1 : ∀ v ∈ V, v.oneCell' = true := by rw [hV]; exact vals_one _
        have hbc : Calls Tryd.prog 43 #[.agg #[.int .u32 (a1 : Int), .int .u32 (a2 : Int), .int .u32 (a3 : Int), .int .u32 (a4 : Int), .int .u32 (a5 : Int), .int .u32 (a6 : Int), .int .u32 (a7 : Int), .int .u32 (a8 : Int)], .agg (B'.map B8).toArray] w6.drew (Ret w6.drew (.agg V.toArray)) := by
          have := hB0.out ⟨a1, a2, a3, a4, a5, a6, a7, a8⟩ B' w6.drew hstok hB' hT6
          rw [St.arr_eq (comp _ _), ← hV] at this
          exact this
        have hr30 : w6.drew.rangeAt b 0 (St.vals ⟨a1, a2, a3, a4, a5, a6, a7, a8⟩) := state_range hb6
        rw [← hV0] at hb6
        have FIN : Hid (∀ w7 : World, Below w6.drew.heap.size w6.drew w7 → ∃ (t_1 : Nat) (A_1 : Option Addr) (c_1 : Nat), t_1 ≤ n ∧ Value.slice (some A2) (r - k) (c' - k) = .slice A_1 (n - t_1) c_1 ∧ n - t_1 ≤ c_1 ∧ Hs (w7.setCells b 0 V) b (l ++ m.take t_1) ∧ RdX (w7.setCells b 0 V) b A_1 (n - t_1) (m.drop t_1) ∧ Beside b w (w7.setCells b 0 V) ∧ Tab (w7.setCells b 0 V)) := Lib.hid (by
          intro w7 hb7
          have h7 := Blk.below (w := w6.drew) hb6 hb7 hb6.lt
          have ho := Only.setCells (g := b) V w7 w7 0 (Only.refl _ _)
          have hn := Blk.setCells V w7 _ 0 h7 (by omega)
          rw [hV0, hV, over_state, ← hV] at hn
          exact NX.out _ _ hn (fun h => absurd hf (by omega)) (fun _ => rfl) ((H7.out.trans (Beside.drew (Beside.of_below hb7))).trans ho.beside))
        have KP : Hid (∀ w7 : World, Below w6.drew.heap.size w6.drew w7 → w7.rangeAt b 8 (B'.map B8)) := Lib.hid fun w7 hb => block_range (s := ⟨a1, a2, a3, a4, a5, a6, a7, a8⟩) (n := p + k) (t := 82) (by rw [← hV0]; exact Blk.below (w := w6.drew) hb6 hb hb6.lt)
        have KQ : Hid (∀ w7 : World, Below w6.drew.heap.size w6.drew w7 → (w7.setCells b 0 V).rangeAt b 8 (B'.map B8)) := Lib.hid fun w7 hb => World.rangeAt_setCells_apart (KP.out w7 hb) _ _ _ (by omega)
        have hstc : Hid (∀ w7 : World, Below w6.drew.heap.size w6.drew w7 → (storeCells ⟨b, 0, none⟩ V).run Tryd.prog w7 = .ok () (w7.setCells b 0 V)) := Lib.hid fun w7 hb => run_stc2 (Blk.below (w := w6.drew) hb6 hb hb6.lt) V (by omega) hV1
        have HBC := Lib.hid hbc
        have hV8 := Lib.hid hVl
        clear hb6 hBe H6 hV hV0 hV1 hV0l hbc hT6 hVl
        have hr32 : w6.drew.rangeAt b 8 (B'.map B8) := hr31
        clear hr31
        refine wp_region_any (by kernel_rfl) ?_
        change wpAny _ _ _ _ _ _ _ (World.drew _)
        refine wpAny_take (i := 0) (v := .pointer (some ⟨b, 0, none⟩)) rfl (by kernel_rfl) (by kernel_rfl) (by kernel_rfl) (fun _ _ _ h => h) (Or.inl ⟨by rfl, by intro w; go_simp⟩) ?_
        refine wpAny_take (i := 1) (v := .pointer (some ⟨b, 0, none⟩)) rfl (by kernel_rfl) (by kernel_rfl) (by kernel_rfl) (fun _ _ _ h => h) (Or.inl ⟨by rfl, by intro w; go_simp⟩) ?_
        refine wpAny_take (i := 2) (v := .pointer (some ⟨b, 0, none⟩)) rfl (by kernel_rfl) (by kernel_rfl) (by kernel_rfl) (fun _ _ _ h => h) (Or.inl ⟨by rfl, by intro w; go_simp⟩) ?_
        refine wpAny_take (i := 3) (v := .pointer (some ⟨b, 0, none⟩)) rfl (by kernel_rfl) (by kernel_rfl) (by kernel_rfl) (fun _ _ _ h => h) (Or.inl ⟨by rfl, by intro w; go_simp⟩) ?_
        refine wpAny_take (i := 5) (v := .pointer (some ⟨b, 0, none⟩)) rfl (by kernel_rfl) (by kernel_rfl) (by kernel_rfl) (fun _ _ _ h => h) (Or.inl ⟨by rfl, by intro w; go_simp⟩) ?_
        refine wpAny_take (i := 6) (v := .pointer (some ⟨b, 0, none⟩)) rfl (by kernel_rfl) (by kernel_rfl) (by kernel_rfl) (fun _ _ _ h => h) (Or.inl ⟨by rfl, by intro w; go_simp⟩) ?_
        refine wpAny_take (i := 7) (v := .pointer (some ⟨b, 8, none⟩)) rfl (by kernel_rfl) (by kernel_rfl) (by kernel_rfl) (fun _ _ _ h => h) (Or.inl ⟨by rfl, by intro w; go_simp⟩) ?_
        simp only [List.getElem_toArray, List.getElem_cons_succ, List.getElem_cons_zero, Act.put, List.setIfInBounds_toArray, List.set_cons_succ, List.set_cons_zero]
        refine wpAny_ready (rs := [4, 8]) (by kernel_rfl) (by simp) ?_
        refine AllReady.cons rfl (fun K hK => ?_) (AllReady.cons rfl (fun K hK => ?_) AllReady.nil)
        · simp only [List.getElem_toArray, List.getElem_cons_succ, List.getElem_cons_zero]
          refine Eq.mpr (if_pos (by rfl)) ?_
          refine wp_load_mid 77 (.tmp 39) (by rfl) b 0 (by rfl) (St.vals ⟨a1, a2, a3, a4, a5, a6, a7, a8⟩) _ hr30 Tryd.underlying77 (by rfl) i8 ?_
          refine hK _ _ ?_
          clear hK K
          simp only [Act.put, List.setIfInBounds_toArray, List.set_cons_succ, List.set_cons_zero]
          refine wpAny_ready (rs := [8]) (by kernel_rfl) (by simp) ?_
          refine AllReady.cons rfl (fun K hK => ?_) AllReady.nil
          simp only [List.getElem_toArray, List.getElem_cons_succ, List.getElem_cons_zero]
          refine Eq.mpr (if_pos (by rfl)) ?_
          refine wp_load_mid 80 (.tmp 43) (by rfl) b 8 (by rfl) (B'.map B8) _ hr32 hu31 (by rfl) hi31 ?_
          refine hK _ _ ?_
          clear hK K
          simp only [Act.put, List.setIfInBounds_toArray, List.set_cons_succ, List.set_cons_zero]
          refine wpAny_rest 9 (by rfl) (by kernel_rfl) ?_
          simp only [List.drop_succ_cons, List.drop_zero]
          go_wp2_with (go_at_call 43; refine HBC.out.mono ?_; rintro e' w7 ⟨rfl, hbel7⟩; have hst := hstc.out w7 hbel7)
          clear hst
          go_roundw
          case rel => exact FIN.out w7 hbel7
          case measure => simp; omega
        · simp only [List.getElem_toArray, List.getElem_cons_succ, List.getElem_cons_zero]
          refine Eq.mpr (if_pos (by rfl)) ?_
          refine wp_load_mid 80 (.tmp 43) (by rfl) b 8 (by rfl) (B'.map B8) _ hr32 hu31 (by rfl) hi31 ?_
          refine hK _ _ ?_
          clear hK K
          simp only [Act.put, List.setIfInBounds_toArray, List.set_cons_succ, List.set_cons_zero]
          refine wpAny_ready (rs := [4]) (by kernel_rfl) (by simp) ?_
          refine AllReady.cons rfl (fun K hK => ?_) AllReady.nil
          simp only [List.getElem_toArray, List.getElem_cons_succ, List.getElem_cons_zero]
          refine Eq.mpr (if_pos (by rfl)) ?_
          refine wp_load_mid 77 (.tmp 39) (by rfl) b 0 (by rfl) (St.vals ⟨a1, a2, a3, a4, a5, a6, a7, a8⟩) _ hr30 Tryd.underlying77 (by rfl) i8 ?_
          refine hK _ _ ?_
          clear hK K
          simp only [Act.put, List.setIfInBounds_toArray, List.set_cons_succ, List.set_cons_zero]
          refine wpAny_rest 9 (by rfl) (by kernel_rfl) ?_
          simp only [List.drop_succ_cons, List.drop_zero]
          go_wp2_with (go_at_call 43; refine HBC.out.mono ?_; rintro e' w7 ⟨rfl, hbel7⟩; have hst := hstc.out w7 hbel7)
          clear hst
          go_roundw
          case rel => exact FIN.out w7 hbel7
          case measure => simp; omega
      · have htm2 : ¬ ((p : Int) + (k : Int)).tmod 64 = 0 := by have := X.out.2.1; rw [Int.tmod_eq_emod_of_nonneg (by omega)]; omega
        have htm3 : ¬ ((p : Int) + (k : Int)) % 64 = 0 := by have := X.out.2.1; omega
        go_wp2
        go_roundw
        case rel => exact NX.out _ st H6.out (fun _ => rfl) (fun h => absurd h hf) H7.out
        case measure => simp; omega
    · have e : t = n := by omega
      subst e
      rw [List.take_of_length_le (by rw [hl0.out]; exact Nat.le_refl _)] at hHs
      have HH := Lib.hid hHs
      clear hHs hRd
      rw [Nat.sub_self]
      go_wp2
      refine bodyPost_end (v := .tuple #[]) (by simp [results, Tryd.results39]) rfl ⟨rfl, HH.out, hbes⟩
end Go.Proofs.YtnfcnjboeocnmaaDoor
