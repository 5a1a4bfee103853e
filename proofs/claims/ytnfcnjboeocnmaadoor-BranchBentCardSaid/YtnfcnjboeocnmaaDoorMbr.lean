/- Merged texts: BrnF. -/
import Derived.Test.YtnfcnjboeocnmaaDoorMbq
/- The contract of the law's own meets of layer 9. -/
namespace Go.Proofs.YtnfcnjboeocnmaaDoor
open Go.RowKit
set_option linter.unusedVariables false
set_option linter.unusedSimpArgs false

set_option maxRecDepth 100000 in
theorem ix_le (i : Nat) : ∀ t, ix i t ≤ i
  | 0 => Nat.le_refl _
  | t + 1 => by
    have := ix_le i t
    show ix i t / 2 ≤ i
    omega
set_option maxRecDepth 100000 in
theorem ih32 {V : List Value} (h : V.length = 32) : (Tryd.prog.info? 34).map (·.size) = some V.length := by rw [h]; kernel_rfl
set_option maxRecDepth 100000 in
theorem ih64 {V : List Value} (h : V.length = 64) : (Tryd.prog.info? 66).map (·.size) = some V.length := by rw [h]; kernel_rfl
set_option maxRecDepth 100000 in
set_option maxHeartbeats 4000000 in
theorem meets_calls (ca cb ib : Int) (i : Nat) (A B : Option Addr) (m capA capB : Nat) (P Q : List (List UInt8)) (leaf : List UInt8) (w : World) (hrP : RdH w A m P) (hrQ : RdH w B m Q) (hl : leaf.length = 32) (hm : m ≤ 64) (hi : i ≤ 65536) :
    Calls Tryd.prog 21 #[.agg #[.int .i64 ca, .int .i64 (i : Int), .slice A m capA], .agg #[.int .i64 cb, .int .i64 ib, .slice B m capB], .agg (leaf.map B8).toArray] w (Ret w (.bool (meetB i leaf leaf P Q))) := by
  obtain ⟨LF, hLF⟩ : ∃ V, V = leaf.map B8 := ⟨_, rfl⟩
  have IL : Hid ((Tryd.prog.info? 35).map (·.size) = some LF.length) := Lib.hid (by rw [hLF, List.length_map, hl]; kernel_rfl)
  have LL : Hid (z32.length = LF.length) := Lib.hid (by rw [hLF, List.length_map, hl]; rfl)
  have OL : Hid (∀ v ∈ LF, v.oneCell' = true) := Lib.hid (by rw [hLF]; exact b8_one _)
  have HLF := Lib.hid hLF
  have HL := Lib.hid hl
  have HRP := Lib.hid hrP
  have HRQ := Lib.hid hrQ
  have hlP := hrP.len
  have hlQ := hrQ.len
  rw [← hLF]
  clear hLF hl hrP hrQ
  obtain ⟨w0, hw0⟩ : ∃ x, x = ((w.alloc (.cells #[.int .i64 ca, .int .i64 (i : Int), .slice A m capA] 31)).alloc (.cells #[.int .i64 cb, .int .i64 ib, .slice B m capB] 31)).alloc (.cells LF.toArray 35) := ⟨_, rfl⟩
  have hs0 : w0.heap.size = w.heap.size + 3 := by rw [hw0]; simp
  have hBc : Below w.heap.size w w0 := by rw [hw0]; exact below_al (below_al (below_al (Below.refl _ _) _) _) _
  have hk0 : Blk w0 w.heap.size [.int .i64 ca, .int .i64 (i : Int), .slice A m capA] 31 := by rw [hw0]; exact Blk.alloc (Blk.alloc (Blk.new w _ _) _) _
  have hk1 : Blk w0 (w.heap.size + 1) [.int .i64 cb, .int .i64 ib, .slice B m capB] 31 := by rw [hw0]; exact Blk.alloc (Blk.new' _ _ _ _ (by simp)) _
  have hk2 : Blk w0 (w.heap.size + 2) LF 35 := by rw [hw0]; exact Blk.new' _ _ _ _ (by simp)
  have hw1 : ((w.alloc (.cells #[.int .i64 ca, .int .i64 (i : Int), .slice A m capA] 31)).alloc (.cells #[.int .i64 cb, .int .i64 ib, .slice B m capB] 31)).alloc (.cells LF.toArray 35) = w0 := hw0.symm
  have sd0 : w0.drew.heap.size = w0.heap.size := rfl
  have K1 : Hid (∀ W : World, Blk W (w.heap.size + 2) LF 35 → Blk W w.heap.size [.int .i64 ca, .int .i64 (i : Int), .slice A m capA] 31 → W.rangeAt (w.heap.size + 2) 0 LF ∧ W.cell? ⟨w.heap.size, 1, none⟩ = some (.int .i64 (i : Int))) := Lib.hid fun W h h0 => ⟨h.range, h0.cell 1⟩
  clear hw0
  go_enter Tryd.func21, Tryd.ntmps21
  go_upto_region 1 with fail
  try rw [hw1]
  clear hw1
  go_cut [7, 8, 9] from 13 to 16 (fun px py at_ wx => ∃ gx gy : Nat, px = .pointer (some ⟨gx, 0, none⟩) ∧ py = .pointer (some ⟨gy, 0, none⟩) ∧ at_ = .int .i64 (i : Int) ∧ gx ≠ gy ∧ w.heap.size + 3 ≤ gx ∧ w.heap.size + 3 ≤ gy ∧ Blk wx w.heap.size [.int .i64 ca, .int .i64 (i : Int), .slice A m capA] 31 ∧ Blk wx (w.heap.size + 1) [.int .i64 cb, .int .i64 ib, .slice B m capB] 31 ∧ Blk wx gx LF 34 ∧ Blk wx gy LF 34 ∧ Below w.heap.size w wx)
  case first =>
    have hBc := hBc.drew
    refine wp_region_held_drew (S := fun W => W.rangeAt (w.heap.size + 2) 0 LF ∧ W.cell? ⟨w.heap.size, 1, none⟩ = some (.int .i64 (i : Int))) (by kernel_rfl) ?_ (fun hHeld => ?_)
    · exact K1.out _ hk2 hk0
    refine wpAnyH_take (i := 0) rfl (by kernel_rfl) (by kernel_rfl) (by kernel_rfl) (fun _ _ _ h => h) (yieldsIf_load_mid (by rfl) _ _ rfl _ _ rfl LF _ (fun w hSw => by (try dsimp only at hSw); go_split_ands; assumption) Tryd.underlying35 rfl IL.out) (by assumption) ?_
    (try simp only [List.getElem_toArray, List.getElem_cons_succ, List.getElem_cons_zero, Act.put, List.setIfInBounds_toArray, List.set_cons_succ, List.set_cons_zero])
    refine wpAnyH_take (i := 1) rfl (by kernel_rfl) (by kernel_rfl) (by kernel_rfl) (fun _ _ _ h => h) (yieldsIf_load_mid (by rfl) _ _ rfl _ _ rfl LF _ (fun w hSw => by (try dsimp only at hSw); go_split_ands; assumption) Tryd.underlying35 rfl IL.out) (by assumption) ?_
    (try simp only [List.getElem_toArray, List.getElem_cons_succ, List.getElem_cons_zero, Act.put, List.setIfInBounds_toArray, List.set_cons_succ, List.set_cons_zero])
    refine wpAnyH_take (i := 2) (v := ?_) rfl (by kernel_rfl) (by kernel_rfl) (by kernel_rfl) (fun _ _ _ h => h) (Or.inl ⟨by rfl, ?_⟩) (by assumption) ?_
    rotate_left 1
    · intro w hSw; (try dsimp only at hSw); simp only [List.getElem_toArray, List.getElem_cons_succ, List.getElem_cons_zero]; go_simp; try (with_reducible rfl)
    (try simp only [List.getElem_toArray, List.getElem_cons_succ, List.getElem_cons_zero, Act.put, List.setIfInBounds_toArray, List.set_cons_succ, List.set_cons_zero])
    refine wpAnyH_take (i := 3) (v := ?_) rfl (by kernel_rfl) (by kernel_rfl) (by kernel_rfl) (fun _ _ _ h => h) (Or.inl ⟨by rfl, ?_⟩) (by assumption) ?_
    rotate_left 1
    · intro w hSw; (try dsimp only at hSw); simp only [List.getElem_toArray, List.getElem_cons_succ, List.getElem_cons_zero]; go_simp; try (with_reducible rfl)
    (try simp only [List.getElem_toArray, List.getElem_cons_succ, List.getElem_cons_zero, Act.put, List.setIfInBounds_toArray, List.set_cons_succ, List.set_cons_zero])
    refine wpAnyH_ready (rs := [4, 5]) (by kernel_rfl) (by simp) ?_
    refine AllReadyH.cons rfl (fun K hK => ?_) ?_
    · (try simp only [List.getElem_toArray, List.getElem_cons_succ, List.getElem_cons_zero])
      refine Eq.mpr (if_pos (by first | rfl | simp [Region.wanted, yielded, Act.put])) ?_
      refine wp_allocT 34 z32 (by kernel_rfl) rfl w.heap.size w hBc (Nat.le_refl _) ?_
      intro gx xa hbx hgx hlx hfx hBc
      have hk0 := hfx.blk hk0 (fun h => h)
      have hk1 := hfx.blk hk1 (fun h => h)
      have hk2 := hfx.blk hk2 (fun h => h)
      refine hK.out _ _ ?_ (fun hHeld => ?_)
      · exact K1.out _ hk2 hk0
      clear hK K
      (try simp only [Act.put, List.setIfInBounds_toArray, List.set_cons_succ, List.set_cons_zero])
      refine wpAnyH_ready (rs := [5]) (by kernel_rfl) (by simp) ?_
      refine AllReadyH.cons rfl (fun K hK => ?_) AllReadyH.nil
      (try simp only [List.getElem_toArray, List.getElem_cons_succ, List.getElem_cons_zero])
      refine Eq.mpr (if_pos (by first | rfl | simp [Region.wanted, yielded, Act.put])) ?_
      refine wp_allocT 34 z32 (by kernel_rfl) rfl w.heap.size w hBc (Nat.le_refl _) ?_
      intro gy xb hby hgy hly hfy hBc
      have hk0 := hfy.blk hk0 (fun h => h)
      have hk1 := hfy.blk hk1 (fun h => h)
      have hk2 := hfy.blk hk2 (fun h => h)
      have hbx := hfy.blk hbx (fun h => h)
      refine hK.out _ _ ?_ (fun hHeld => ?_)
      · exact K1.out _ hk2 hk0
      clear hK K
      (try simp only [Act.put, List.setIfInBounds_toArray, List.set_cons_succ, List.set_cons_zero])
      refine wpAnyH_ready (rs := [6]) (by kernel_rfl) (by simp) ?_
      refine AllReadyH.cons rfl (fun K hK => ?_) AllReadyH.nil
      (try simp only [List.getElem_toArray, List.getElem_cons_succ, List.getElem_cons_zero])
      refine Eq.mpr (if_pos (by first | rfl | simp [Region.wanted, yielded, Act.put])) ?_
      refine wp_store_in 34 (.tmp 7) (.tmp 13) rfl gx z32 LF 34 rfl rfl hbx LL.out IL.out OL.out ?_
      intro x6 hbx ho6
      have hk0 := ho6.blk hk0 (by omega)
      have hk1 := ho6.blk hk1 (by omega)
      have hk2 := ho6.blk hk2 (by omega)
      have hby := ho6.blk hby (by omega)
      have hBc := hBc.trans (ho6.below (by omega))
      refine hK.out _ _ ?_ (fun hHeld => ?_)
      · exact K1.out _ hk2 hk0
      clear hK K
      (try simp only [Act.put, List.setIfInBounds_toArray, List.set_cons_succ, List.set_cons_zero])
      refine wpAnyH_ready (rs := [7]) (by kernel_rfl) (by simp) ?_
      refine AllReadyH.cons rfl (fun K hK => ?_) AllReadyH.nil
      (try simp only [List.getElem_toArray, List.getElem_cons_succ, List.getElem_cons_zero])
      refine Eq.mpr (if_pos (by first | rfl | simp [Region.wanted, yielded, Act.put])) ?_
      refine wp_store_in 34 (.tmp 8) (.tmp 14) rfl gy z32 LF 34 rfl rfl hby LL.out IL.out OL.out ?_
      intro x7 hby ho7
      have hk0 := ho7.blk hk0 (by omega)
      have hk1 := ho7.blk hk1 (by omega)
      have hk2 := ho7.blk hk2 (by omega)
      have hbx := ho7.blk hbx (by omega)
      have hBc := hBc.trans (ho7.below (by omega))
      refine hK.out _ _ ?_ (fun hHeld => ?_)
      · exact K1.out _ hk2 hk0
      clear hK K
      (try simp only [Act.put, List.setIfInBounds_toArray, List.set_cons_succ, List.set_cons_zero])
      refine wpAnyH_take (i := 8) (v := ?_) rfl (by kernel_rfl) (by kernel_rfl) (by kernel_rfl) (fun _ _ _ h => h) (Or.inl ⟨by rfl, ?_⟩) (by assumption) ?_
      rotate_left 1
      · intro w hSw; (try dsimp only at hSw); simp only [List.getElem_toArray, List.getElem_cons_succ, List.getElem_cons_zero]; go_simp; try (with_reducible rfl)
      (try simp only [List.getElem_toArray, List.getElem_cons_succ, List.getElem_cons_zero, Act.put, List.setIfInBounds_toArray, List.set_cons_succ, List.set_cons_zero])
      refine wpAnyH_done (by kernel_rfl) ?_ _
      go_wp2
      go_meet
      exact ⟨gx, gy, rfl, rfl, rfl, by omega, by omega, by omega, hk0, hk1, hbx, hby, hBc⟩
    refine AllReadyH.cons rfl (fun K hK => ?_) AllReadyH.nil
    (try simp only [List.getElem_toArray, List.getElem_cons_succ, List.getElem_cons_zero])
    refine Eq.mpr (if_pos (by first | rfl | simp [Region.wanted, yielded, Act.put])) ?_
    refine wp_allocT 34 z32 (by kernel_rfl) rfl w.heap.size w hBc (Nat.le_refl _) ?_
    intro gy xb hby hgy hly hfy hBc
    have hk0 := hfy.blk hk0 (fun h => h)
    have hk1 := hfy.blk hk1 (fun h => h)
    have hk2 := hfy.blk hk2 (fun h => h)
    refine hK.out _ _ ?_ (fun hHeld => ?_)
    · exact K1.out _ hk2 hk0
    clear hK K
    (try simp only [Act.put, List.setIfInBounds_toArray, List.set_cons_succ, List.set_cons_zero])
    refine wpAnyH_ready (rs := [4]) (by kernel_rfl) (by simp) ?_
    refine AllReadyH.cons rfl (fun K hK => ?_) AllReadyH.nil
    (try simp only [List.getElem_toArray, List.getElem_cons_succ, List.getElem_cons_zero])
    refine Eq.mpr (if_pos (by first | rfl | simp [Region.wanted, yielded, Act.put])) ?_
    refine wp_allocT 34 z32 (by kernel_rfl) rfl w.heap.size w hBc (Nat.le_refl _) ?_
    intro gx xa hbx hgx hlx hfx hBc
    have hk0 := hfx.blk hk0 (fun h => h)
    have hk1 := hfx.blk hk1 (fun h => h)
    have hk2 := hfx.blk hk2 (fun h => h)
    have hby := hfx.blk hby (fun h => h)
    refine hK.out _ _ ?_ (fun hHeld => ?_)
    · exact K1.out _ hk2 hk0
    clear hK K
    (try simp only [Act.put, List.setIfInBounds_toArray, List.set_cons_succ, List.set_cons_zero])
    refine wpAnyH_ready (rs := [6]) (by kernel_rfl) (by simp) ?_
    refine AllReadyH.cons rfl (fun K hK => ?_) AllReadyH.nil
    (try simp only [List.getElem_toArray, List.getElem_cons_succ, List.getElem_cons_zero])
    refine Eq.mpr (if_pos (by first | rfl | simp [Region.wanted, yielded, Act.put])) ?_
    refine wp_store_in 34 (.tmp 7) (.tmp 13) rfl gx z32 LF 34 rfl rfl hbx LL.out IL.out OL.out ?_
    intro x6 hbx ho6
    have hk0 := ho6.blk hk0 (by omega)
    have hk1 := ho6.blk hk1 (by omega)
    have hk2 := ho6.blk hk2 (by omega)
    have hby := ho6.blk hby (by omega)
    have hBc := hBc.trans (ho6.below (by omega))
    refine hK.out _ _ ?_ (fun hHeld => ?_)
    · exact K1.out _ hk2 hk0
    clear hK K
    (try simp only [Act.put, List.setIfInBounds_toArray, List.set_cons_succ, List.set_cons_zero])
    refine wpAnyH_ready (rs := [7]) (by kernel_rfl) (by simp) ?_
    refine AllReadyH.cons rfl (fun K hK => ?_) AllReadyH.nil
    (try simp only [List.getElem_toArray, List.getElem_cons_succ, List.getElem_cons_zero])
    refine Eq.mpr (if_pos (by first | rfl | simp [Region.wanted, yielded, Act.put])) ?_
    refine wp_store_in 34 (.tmp 8) (.tmp 14) rfl gy z32 LF 34 rfl rfl hby LL.out IL.out OL.out ?_
    intro x7 hby ho7
    have hk0 := ho7.blk hk0 (by omega)
    have hk1 := ho7.blk hk1 (by omega)
    have hk2 := ho7.blk hk2 (by omega)
    have hbx := ho7.blk hbx (by omega)
    have hBc := hBc.trans (ho7.below (by omega))
    refine hK.out _ _ ?_ (fun hHeld => ?_)
    · exact K1.out _ hk2 hk0
    clear hK K
    (try simp only [Act.put, List.setIfInBounds_toArray, List.set_cons_succ, List.set_cons_zero])
    refine wpAnyH_take (i := 8) (v := ?_) rfl (by kernel_rfl) (by kernel_rfl) (by kernel_rfl) (fun _ _ _ h => h) (Or.inl ⟨by rfl, ?_⟩) (by assumption) ?_
    rotate_left 1
    · intro w hSw; (try dsimp only at hSw); simp only [List.getElem_toArray, List.getElem_cons_succ, List.getElem_cons_zero]; go_simp; try (with_reducible rfl)
    (try simp only [List.getElem_toArray, List.getElem_cons_succ, List.getElem_cons_zero, Act.put, List.setIfInBounds_toArray, List.set_cons_succ, List.set_cons_zero])
    refine wpAnyH_done (by kernel_rfl) ?_ _
    go_wp2
    go_meet
    exact ⟨gx, gy, rfl, rfl, rfl, by omega, by omega, by omega, hk0, hk1, hbx, hby, hBc⟩
  case rest =>
  obtain ⟨gx, gy, rfl, rfl, rfl, hxy, hgx, hgy, kA, kB, kx, ky, kBel⟩ := hcut
  clear hk0 hk1 hk2 hBc K1 sd0
  go_wp2
  go_loopw [10, 9] (fun kv at_ wr => ∃ (t : Nat) (x y : List UInt8), kv = .int .i64 (t : Int) ∧ at_ = .int .i64 ((ix i t : Nat) : Int) ∧ t ≤ m ∧ Blk wr w.heap.size [.int .i64 ca, .int .i64 (i : Int), .slice A m capA] 31 ∧ Blk wr (w.heap.size + 1) [.int .i64 cb, .int .i64 ib, .slice B m capB] 31 ∧ Blk wr gx (x.map B8) 34 ∧ Blk wr gy (y.map B8) 34 ∧ x.length = 32 ∧ y.length = 32 ∧ meetB i leaf leaf P Q = meetB (ix i t) x y (P.drop t) (Q.drop t) ∧ Below w.heap.size w wr) (fun kv _ _ => m - (intOf kv).toNat)
  case atStart => exact ⟨0, leaf, leaf, by first | rfl | go_num, rfl, by omega, kA, kB, by rw [← HLF.out]; exact kx, by rw [← HLF.out]; exact ky, HL.out, HL.out, rfl, kBel⟩
  case round =>
    obtain ⟨t, x, y, rfl, rfl, htm, hk0, hk1, hbx, hby, hx32, hy32, hmt, hBc⟩ := hrel
    have sc0 : wr.cell? ⟨w.heap.size, 2, none⟩ = some (.slice A m capA) := hk0.cell 2
    have sc1 : wr.cell? ⟨w.heap.size + 1, 2, none⟩ = some (.slice B m capB) := hk1.cell 2
    by_cases hlt : t < m
    · have hlt' : (t : Int) < (m : Int) := by omega
      obtain ⟨wo, hwo⟩ : ∃ x, x = wr := ⟨_, rfl⟩
      rw [← hwo] at hk0 hk1 hbx hby hBc sc0 sc1 ⊢
      clear hwo kA kB kx ky kBel
      obtain ⟨a, ha⟩ : ∃ a, a = ix i t := ⟨_, rfl⟩
      obtain ⟨a', ha'⟩ : ∃ a', a' = a / 2 := ⟨_, rfl⟩
      obtain ⟨b, hb⟩ : ∃ b, b = hat P t := ⟨_, rfl⟩
      obtain ⟨c, hc⟩ : ∃ b, b = hat Q t := ⟨_, rfl⟩
      have b32 : b.length = 32 := by rw [hb]; exact hat_32 HRP.out.all (by omega)
      have c32 : c.length = 32 := by rw [hc]; exact hat_32 HRQ.out.all (by omega)
      have hai : a ≤ 65536 := by rw [ha]; exact Nat.le_trans (ix_le i t) hi
      obtain ⟨X, hX⟩ : ∃ V, V = x.map B8 := ⟨_, rfl⟩
      obtain ⟨Y, hY⟩ : ∃ V, V = y.map B8 := ⟨_, rfl⟩
      obtain ⟨U, hU⟩ : ∃ V, V = b.map B8 := ⟨_, rfl⟩
      obtain ⟨V, hV⟩ : ∃ V, V = c.map B8 := ⟨_, rfl⟩
      have lX : X.length = 32 := by rw [hX, List.length_map, hx32]
      have lY : Y.length = 32 := by rw [hY, List.length_map, hy32]
      have lU : U.length = 32 := by rw [hU, List.length_map, b32]
      have lV : V.length = 32 := by rw [hV, List.length_map, c32]
      obtain ⟨V1, hV1⟩ : ∃ V, V = (two a x b).map B8 := ⟨_, rfl⟩
      obtain ⟨V2, hV2⟩ : ∃ V, V = (two a y c).map B8 := ⟨_, rfl⟩
      have l1 : V1.length = 32 := by rw [hV1, List.length_map, two_len]
      have l2 : V2.length = 32 := by rw [hV2, List.length_map, two_len]
      have IX := Lib.hid (ih32 lX)
      have IY := Lib.hid (ih32 lY)
      have IU := Lib.hid (ih32 lU)
      have IV := Lib.hid (ih32 lV)
      have IV1 := Lib.hid (ih32 l1)
      have IV2 := Lib.hid (ih32 l2)
      have EV1 : Hid (X.length = V1.length) := Lib.hid (by rw [lX, l1])
      have EV2 : Hid (Y.length = V2.length) := Lib.hid (by rw [lY, l2])
      have OV1 : Hid (∀ v ∈ V1, v.oneCell' = true) := Lib.hid (by rw [hV1]; exact b8_one _)
      have OV2 : Hid (∀ v ∈ V2, v.oneCell' = true) := Lib.hid (by rw [hV2]; exact b8_one _)
      have oX : ∀ v ∈ X, v.oneCell' = true := by rw [hX]; exact b8_one _
      have oY : ∀ v ∈ Y, v.oneCell' = true := by rw [hY]; exact b8_one _
      have oU : ∀ v ∈ U, v.oneCell' = true := by rw [hU]; exact b8_one _
      have oV : ∀ v ∈ V, v.oneCell' = true := by rw [hV]; exact b8_one _
      obtain ⟨XU, hXU⟩ : ∃ V, V = X ++ U := ⟨_, rfl⟩
      obtain ⟨YV, hYV⟩ : ∃ Z, Z = Y ++ V := ⟨_, rfl⟩
      have IXU : Hid _ := Lib.hid (ih64 (show XU.length = 64 by rw [hXU, List.length_append, lX, lU]))
      have IYV : Hid _ := Lib.hid (ih64 (show YV.length = 64 by rw [hYV, List.length_append, lY, lV]))
      have LXU : Hid (z64.length = XU.length) := Lib.hid (by rw [hXU, List.length_append, lX, lU]; rfl)
      have LYV : Hid (z64.length = YV.length) := Lib.hid (by rw [hYV, List.length_append, lY, lV]; rfl)
      have OXU : Hid (∀ v ∈ XU, v.oneCell' = true) := Lib.hid (by rw [hXU]; intro v hv; exact (List.mem_append.1 hv).elim (oX v) (oU v))
      have OYV : Hid (∀ v ∈ YV, v.oneCell' = true) := Lib.hid (by rw [hYV]; intro v hv; exact (List.mem_append.1 hv).elim (oY v) (oV v))
      have b1 : ∀ W, (Instr.build 66 #[(0, .agg X.toArray), (1, .agg U.toArray)]).run Tryd.prog W = .ok (.agg XU.toArray) W := fun W => by rw [hXU]; exact bld64 X U lX lU W
      have b2 : ∀ W, (Instr.build 66 #[(0, .agg Y.toArray), (1, .agg V.toArray)]).run Tryd.prog W = .ok (.agg YV.toArray) W := fun W => by rw [hYV]; exact bld64 Y V lY lV W
      obtain ⟨ba, offa, rfl, hbal, KU⟩ := (HRP.out.below hBc).at_ hlt
      obtain ⟨bb, offb, rfl, hbbl, KV⟩ := (HRQ.out.below hBc).at_ hlt
      rw [← hb, ← hU] at KU
      rw [← hc, ← hV] at KV
      rw [← hX] at hbx
      rw [← hY] at hby
      have K5 : Hid (∀ W : World, Blk W gx X 34 → Blk W gy Y 34 → Blk W w.heap.size [.int .i64 ca, .int .i64 (i : Int), .slice (some ⟨ba, offa, none⟩) m capA] 31 → Blk W (w.heap.size + 1) [.int .i64 cb, .int .i64 ib, .slice (some ⟨bb, offb, none⟩) m capB] 31 → W.rangeAt ba (offa + t * 32) U → W.rangeAt bb (offb + t * 32) V → W.rangeAt gx 0 X ∧ W.rangeAt gy 0 Y ∧ W.cell? ⟨w.heap.size, 2, none⟩ = some (.slice (some ⟨ba, offa, none⟩) m capA) ∧ W.cell? ⟨w.heap.size + 1, 2, none⟩ = some (.slice (some ⟨bb, offb, none⟩) m capB) ∧ W.rangeAt ba (offa + t * 32) U ∧ W.rangeAt bb (offb + t * 32) V) := Lib.hid fun W h1 h2 h3 h4 h5 h6 => ⟨h1.range, h2.range, h3.cell 2, h4.cell 2, h5, h6⟩
      have sdo : wo.drew.heap.size = wo.heap.size := rfl
      have hxl := hbx.lt
      have hyl := hby.lt
      rw [← ha]
      go_upto_region 5 with fail
      go_cut [11, 12] from 31 to 44 (fun pp pq wx => ∃ gp gq : Nat, pp = .pointer (some ⟨gp, 0, none⟩) ∧ pq = .pointer (some ⟨gq, 0, none⟩) ∧ gp ≠ gq ∧ wo.heap.size ≤ gp ∧ wo.heap.size ≤ gq ∧ gp ≠ ba ∧ gq ≠ bb ∧ Blk wx w.heap.size [.int .i64 ca, .int .i64 (i : Int), .slice (some ⟨ba, offa, none⟩) m capA] 31 ∧ Blk wx (w.heap.size + 1) [.int .i64 cb, .int .i64 ib, .slice (some ⟨bb, offb, none⟩) m capB] 31 ∧ Blk wx gx X 34 ∧ Blk wx gy Y 34 ∧ Blk wx gp XU 66 ∧ Blk wx gq YV 66 ∧ wx.rangeAt ba (offa + t * 32) U ∧ wx.rangeAt bb (offb + t * 32) V ∧ Below w.heap.size w wx)
      case first =>
        have hBc := hBc.drew
        refine wp_region_held_drew (S := fun W => W.rangeAt gx 0 X ∧ W.rangeAt gy 0 Y ∧ W.cell? ⟨w.heap.size, 2, none⟩ = some (.slice (some ⟨ba, offa, none⟩) m capA) ∧ W.cell? ⟨w.heap.size + 1, 2, none⟩ = some (.slice (some ⟨bb, offb, none⟩) m capB) ∧ W.rangeAt ba (offa + t * 32) U ∧ W.rangeAt bb (offb + t * 32) V) (by kernel_rfl) ?_ (fun hHeld => ?_)
        · exact K5.out _ hbx hby hk0 hk1 KU KV
        refine wpAnyH_take (i := 0) rfl (by kernel_rfl) (by kernel_rfl) (by kernel_rfl) (fun _ _ _ h => h) (yieldsIf_load_mid (by rfl) _ _ rfl _ _ rfl X _ (fun w hSw => by (try dsimp only at hSw); go_split_ands; assumption) Tryd.underlying34 rfl IX.out) (by assumption) ?_
        (try simp only [List.getElem_toArray, List.getElem_cons_succ, List.getElem_cons_zero, Act.put, List.setIfInBounds_toArray, List.set_cons_succ, List.set_cons_zero])
        refine wpAnyH_take (i := 1) (v := ?_) rfl (by kernel_rfl) (by kernel_rfl) (by kernel_rfl) (fun _ _ _ h => h) (Or.inl ⟨by rfl, ?_⟩) (by assumption) ?_
        rotate_left 1
        · intro w hSw; (try dsimp only at hSw); simp only [List.getElem_toArray, List.getElem_cons_succ, List.getElem_cons_zero]; go_simp; try (with_reducible rfl)
        (try simp only [List.getElem_toArray, List.getElem_cons_succ, List.getElem_cons_zero, Act.put, List.setIfInBounds_toArray, List.set_cons_succ, List.set_cons_zero])
        refine wpAnyH_take (i := 2) (v := ?_) rfl (by kernel_rfl) (by kernel_rfl) (by kernel_rfl) (fun _ _ _ h => h) (Or.inl ⟨by rfl, ?_⟩) (by assumption) ?_
        rotate_left 1
        · intro w hSw; (try dsimp only at hSw); simp only [List.getElem_toArray, List.getElem_cons_succ, List.getElem_cons_zero]; go_simp; try (with_reducible rfl)
        (try simp only [List.getElem_toArray, List.getElem_cons_succ, List.getElem_cons_zero, Act.put, List.setIfInBounds_toArray, List.set_cons_succ, List.set_cons_zero])
        refine wpAnyH_take (i := 3) (v := ?_) rfl (by kernel_rfl) (by kernel_rfl) (by kernel_rfl) (fun _ _ _ h => h) (Or.inl ⟨by rfl, ?_⟩) (by assumption) ?_
        rotate_left 1
        · intro w hSw; (try dsimp only at hSw); simp only [List.getElem_toArray, List.getElem_cons_succ, List.getElem_cons_zero]; go_simp; try (with_reducible rfl)
        (try simp only [List.getElem_toArray, List.getElem_cons_succ, List.getElem_cons_zero, Act.put, List.setIfInBounds_toArray, List.set_cons_succ, List.set_cons_zero])
        refine wpAnyH_take (i := 4) (v := ?_) rfl (by kernel_rfl) (by kernel_rfl) (by kernel_rfl) (fun _ _ _ h => h) (Or.inl ⟨by rfl, ?_⟩) (by assumption) ?_
        rotate_left 1
        · intro w hSw; (try dsimp only at hSw); simp only [List.getElem_toArray, List.getElem_cons_succ, List.getElem_cons_zero]; go_simp; try (with_reducible rfl)
        (try simp only [List.getElem_toArray, List.getElem_cons_succ, List.getElem_cons_zero, Act.put, List.setIfInBounds_toArray, List.set_cons_succ, List.set_cons_zero])
        refine wpAnyH_take (i := 5) rfl (by kernel_rfl) (by kernel_rfl) (by kernel_rfl) (fun _ _ _ h => h) (yieldsIf_load_mid (by rfl) _ _ rfl _ _ rfl U _ (fun w hSw => by (try dsimp only at hSw); go_split_ands; assumption) Tryd.underlying34 rfl IU.out) (by assumption) ?_
        (try simp only [List.getElem_toArray, List.getElem_cons_succ, List.getElem_cons_zero, Act.put, List.setIfInBounds_toArray, List.set_cons_succ, List.set_cons_zero])
        refine wpAnyH_take (i := 6) (v := .agg XU.toArray) rfl (by kernel_rfl) (by kernel_rfl) (by kernel_rfl) (fun _ _ _ h => h) (Or.inl ⟨by rfl, ?_⟩) (by assumption) ?_
        · intro w hSw; (try dsimp only at hSw); simp only [List.getElem_toArray, List.getElem_cons_succ, List.getElem_cons_zero]; first | (simp [execOp, Act.eval, b1]; done) | (go_simp; done)
        (try simp only [List.getElem_toArray, List.getElem_cons_succ, List.getElem_cons_zero, Act.put, List.setIfInBounds_toArray, List.set_cons_succ, List.set_cons_zero])
        refine wpAnyH_take (i := 7) rfl (by kernel_rfl) (by kernel_rfl) (by kernel_rfl) (fun _ _ _ h => h) (yieldsIf_load_mid (by rfl) _ _ rfl _ _ rfl Y _ (fun w hSw => by (try dsimp only at hSw); go_split_ands; assumption) Tryd.underlying34 rfl IY.out) (by assumption) ?_
        (try simp only [List.getElem_toArray, List.getElem_cons_succ, List.getElem_cons_zero, Act.put, List.setIfInBounds_toArray, List.set_cons_succ, List.set_cons_zero])
        refine wpAnyH_take (i := 8) (v := ?_) rfl (by kernel_rfl) (by kernel_rfl) (by kernel_rfl) (fun _ _ _ h => h) (Or.inl ⟨by rfl, ?_⟩) (by assumption) ?_
        rotate_left 1
        · intro w hSw; (try dsimp only at hSw); simp only [List.getElem_toArray, List.getElem_cons_succ, List.getElem_cons_zero]; go_simp; try (with_reducible rfl)
        (try simp only [List.getElem_toArray, List.getElem_cons_succ, List.getElem_cons_zero, Act.put, List.setIfInBounds_toArray, List.set_cons_succ, List.set_cons_zero])
        refine wpAnyH_take (i := 9) (v := ?_) rfl (by kernel_rfl) (by kernel_rfl) (by kernel_rfl) (fun _ _ _ h => h) (Or.inl ⟨by rfl, ?_⟩) (by assumption) ?_
        rotate_left 1
        · intro w hSw; (try dsimp only at hSw); simp only [List.getElem_toArray, List.getElem_cons_succ, List.getElem_cons_zero]; go_simp; try (with_reducible rfl)
        (try simp only [List.getElem_toArray, List.getElem_cons_succ, List.getElem_cons_zero, Act.put, List.setIfInBounds_toArray, List.set_cons_succ, List.set_cons_zero])
        refine wpAnyH_take (i := 10) (v := ?_) rfl (by kernel_rfl) (by kernel_rfl) (by kernel_rfl) (fun _ _ _ h => h) (Or.inl ⟨by rfl, ?_⟩) (by assumption) ?_
        rotate_left 1
        · intro w hSw; (try dsimp only at hSw); simp only [List.getElem_toArray, List.getElem_cons_succ, List.getElem_cons_zero]; go_simp; try (with_reducible rfl)
        (try simp only [List.getElem_toArray, List.getElem_cons_succ, List.getElem_cons_zero, Act.put, List.setIfInBounds_toArray, List.set_cons_succ, List.set_cons_zero])
        refine wpAnyH_take (i := 11) (v := ?_) rfl (by kernel_rfl) (by kernel_rfl) (by kernel_rfl) (fun _ _ _ h => h) (Or.inl ⟨by rfl, ?_⟩) (by assumption) ?_
        rotate_left 1
        · intro w hSw; (try dsimp only at hSw); simp only [List.getElem_toArray, List.getElem_cons_succ, List.getElem_cons_zero]; go_simp; try (with_reducible rfl)
        (try simp only [List.getElem_toArray, List.getElem_cons_succ, List.getElem_cons_zero, Act.put, List.setIfInBounds_toArray, List.set_cons_succ, List.set_cons_zero])
        refine wpAnyH_take (i := 12) rfl (by kernel_rfl) (by kernel_rfl) (by kernel_rfl) (fun _ _ _ h => h) (yieldsIf_load_mid (by rfl) _ _ rfl _ _ rfl V _ (fun w hSw => by (try dsimp only at hSw); go_split_ands; assumption) Tryd.underlying34 rfl IV.out) (by assumption) ?_
        (try simp only [List.getElem_toArray, List.getElem_cons_succ, List.getElem_cons_zero, Act.put, List.setIfInBounds_toArray, List.set_cons_succ, List.set_cons_zero])
        refine wpAnyH_take (i := 13) (v := .agg YV.toArray) rfl (by kernel_rfl) (by kernel_rfl) (by kernel_rfl) (fun _ _ _ h => h) (Or.inl ⟨by rfl, ?_⟩) (by assumption) ?_
        · intro w hSw; (try dsimp only at hSw); simp only [List.getElem_toArray, List.getElem_cons_succ, List.getElem_cons_zero]; first | (simp [execOp, Act.eval, b2]; done) | (go_simp; done)
        (try simp only [List.getElem_toArray, List.getElem_cons_succ, List.getElem_cons_zero, Act.put, List.setIfInBounds_toArray, List.set_cons_succ, List.set_cons_zero])
        refine wpAnyH_ready (rs := [14, 15]) (by kernel_rfl) (by simp) ?_
        refine AllReadyH.cons rfl (fun K hK => ?_) ?_
        · (try simp only [List.getElem_toArray, List.getElem_cons_succ, List.getElem_cons_zero])
          refine Eq.mpr (if_pos (by first | rfl | simp [Region.wanted, yielded, Act.put])) ?_
          refine wp_allocT 66 z64 Z64 rfl w.heap.size w hBc (Nat.le_refl _) ?_
          intro gp xa hbp hgpg hgpl hgpf hBc
          have hk0 := hgpf.blk hk0 (fun h => h)
          have hk1 := hgpf.blk hk1 (fun h => h)
          have hbx := hgpf.blk hbx (fun h => h)
          have hby := hgpf.blk hby (fun h => h)
          have KU := fun j v hv => (hgpf.cell (p := ⟨ba, offa + t * 32 + j, none⟩) hbal (fun h => h)).trans (KU j v hv)
          have KV := fun j v hv => (hgpf.cell (p := ⟨bb, offb + t * 32 + j, none⟩) hbbl (fun h => h)).trans (KV j v hv)
          have hbal := Nat.lt_of_lt_of_le hbal hgpf.size
          have hbbl := Nat.lt_of_lt_of_le hbbl hgpf.size
          refine hK.out _ _ ?_ (fun hHeld => ?_)
          · exact K5.out _ hbx hby hk0 hk1 KU KV
          clear hK K
          (try simp only [Act.put, List.setIfInBounds_toArray, List.set_cons_succ, List.set_cons_zero])
          refine wpAnyH_ready (rs := [15]) (by kernel_rfl) (by simp) ?_
          refine AllReadyH.cons rfl (fun K hK => ?_) AllReadyH.nil
          (try simp only [List.getElem_toArray, List.getElem_cons_succ, List.getElem_cons_zero])
          refine Eq.mpr (if_pos (by first | rfl | simp [Region.wanted, yielded, Act.put])) ?_
          refine wp_allocT 66 z64 Z64 rfl w.heap.size w hBc (Nat.le_refl _) ?_
          intro gq xb hbq hgqg hgql hgqf hBc
          have hk0 := hgqf.blk hk0 (fun h => h)
          have hk1 := hgqf.blk hk1 (fun h => h)
          have hbx := hgqf.blk hbx (fun h => h)
          have hby := hgqf.blk hby (fun h => h)
          have hbp := hgqf.blk hbp (fun h => h)
          have KU := fun j v hv => (hgqf.cell (p := ⟨ba, offa + t * 32 + j, none⟩) hbal (fun h => h)).trans (KU j v hv)
          have KV := fun j v hv => (hgqf.cell (p := ⟨bb, offb + t * 32 + j, none⟩) hbbl (fun h => h)).trans (KV j v hv)
          have hbal := Nat.lt_of_lt_of_le hbal hgqf.size
          have hbbl := Nat.lt_of_lt_of_le hbbl hgqf.size
          refine hK.out _ _ ?_ (fun hHeld => ?_)
          · exact K5.out _ hbx hby hk0 hk1 KU KV
          clear hK K
          (try simp only [Act.put, List.setIfInBounds_toArray, List.set_cons_succ, List.set_cons_zero])
          refine wpAnyH_ready (rs := [16]) (by kernel_rfl) (by simp) ?_
          refine AllReadyH.cons rfl (fun K hK => ?_) AllReadyH.nil
          (try simp only [List.getElem_toArray, List.getElem_cons_succ, List.getElem_cons_zero])
          refine Eq.mpr (if_pos (by first | rfl | simp [Region.wanted, yielded, Act.put])) ?_
          refine wp_store_in 66 (.tmp 11) (.tmp 37) rfl gp z64 XU 66 (by first | rfl | simp [Act.eval]) (by first | rfl | simp [Act.eval]) hbp LXU.out IXU.out OXU.out ?_
          intro x16 hbp ho16
          have hk0 := ho16.blk hk0 (by omega)
          have hk1 := ho16.blk hk1 (by omega)
          have hbx := ho16.blk hbx (by omega)
          have hby := ho16.blk hby (by omega)
          have hbq := ho16.blk hbq (by omega)
          have KU := fun j v hv => (World.cell?_of_block (a := ⟨ba, offa + t * 32 + j, none⟩) (ho16.block ba (by omega))).trans (KU j v hv)
          have KV := fun j v hv => (World.cell?_of_block (a := ⟨bb, offb + t * 32 + j, none⟩) (ho16.block bb (by omega))).trans (KV j v hv)
          have hBc := hBc.trans (ho16.below (by omega))
          refine hK.out _ _ ?_ (fun hHeld => ?_)
          · exact K5.out _ hbx hby hk0 hk1 KU KV
          clear hK K
          (try simp only [Act.put, List.setIfInBounds_toArray, List.set_cons_succ, List.set_cons_zero])
          refine wpAnyH_ready (rs := [17]) (by kernel_rfl) (by simp) ?_
          refine AllReadyH.cons rfl (fun K hK => ?_) AllReadyH.nil
          (try simp only [List.getElem_toArray, List.getElem_cons_succ, List.getElem_cons_zero])
          refine Eq.mpr (if_pos (by first | rfl | simp [Region.wanted, yielded, Act.put])) ?_
          refine wp_store_in 66 (.tmp 12) (.tmp 44) rfl gq z64 YV 66 (by first | rfl | simp [Act.eval]) (by first | rfl | simp [Act.eval]) hbq LYV.out IYV.out OYV.out ?_
          intro x17 hbq ho17
          have hk0 := ho17.blk hk0 (by omega)
          have hk1 := ho17.blk hk1 (by omega)
          have hbx := ho17.blk hbx (by omega)
          have hby := ho17.blk hby (by omega)
          have hbp := ho17.blk hbp (by omega)
          have KU := fun j v hv => (World.cell?_of_block (a := ⟨ba, offa + t * 32 + j, none⟩) (ho17.block ba (by omega))).trans (KU j v hv)
          have KV := fun j v hv => (World.cell?_of_block (a := ⟨bb, offb + t * 32 + j, none⟩) (ho17.block bb (by omega))).trans (KV j v hv)
          have hBc := hBc.trans (ho17.below (by omega))
          refine hK.out _ _ ?_ (fun hHeld => ?_)
          · exact K5.out _ hbx hby hk0 hk1 KU KV
          clear hK K
          (try simp only [Act.put, List.setIfInBounds_toArray, List.set_cons_succ, List.set_cons_zero])
          refine wpAnyH_done (by kernel_rfl) ?_ _
          go_wp2
          go_meet
          exact ⟨gp, gq, rfl, rfl, by omega, by omega, by omega, by omega, by omega, hk0, hk1, hbx, hby, hbp, hbq, KU, KV, hBc⟩
        refine AllReadyH.cons rfl (fun K hK => ?_) AllReadyH.nil
        (try simp only [List.getElem_toArray, List.getElem_cons_succ, List.getElem_cons_zero])
        refine Eq.mpr (if_pos (by first | rfl | simp [Region.wanted, yielded, Act.put])) ?_
        refine wp_allocT 66 z64 Z64 rfl w.heap.size w hBc (Nat.le_refl _) ?_
        intro gq xb hbq hgqg hgql hgqf hBc
        have hk0 := hgqf.blk hk0 (fun h => h)
        have hk1 := hgqf.blk hk1 (fun h => h)
        have hbx := hgqf.blk hbx (fun h => h)
        have hby := hgqf.blk hby (fun h => h)
        have KU := fun j v hv => (hgqf.cell (p := ⟨ba, offa + t * 32 + j, none⟩) hbal (fun h => h)).trans (KU j v hv)
        have KV := fun j v hv => (hgqf.cell (p := ⟨bb, offb + t * 32 + j, none⟩) hbbl (fun h => h)).trans (KV j v hv)
        have hbal := Nat.lt_of_lt_of_le hbal hgqf.size
        have hbbl := Nat.lt_of_lt_of_le hbbl hgqf.size
        refine hK.out _ _ ?_ (fun hHeld => ?_)
        · exact K5.out _ hbx hby hk0 hk1 KU KV
        clear hK K
        (try simp only [Act.put, List.setIfInBounds_toArray, List.set_cons_succ, List.set_cons_zero])
        refine wpAnyH_ready (rs := [14]) (by kernel_rfl) (by simp) ?_
        refine AllReadyH.cons rfl (fun K hK => ?_) AllReadyH.nil
        (try simp only [List.getElem_toArray, List.getElem_cons_succ, List.getElem_cons_zero])
        refine Eq.mpr (if_pos (by first | rfl | simp [Region.wanted, yielded, Act.put])) ?_
        refine wp_allocT 66 z64 Z64 rfl w.heap.size w hBc (Nat.le_refl _) ?_
        intro gp xa hbp hgpg hgpl hgpf hBc
        have hk0 := hgpf.blk hk0 (fun h => h)
        have hk1 := hgpf.blk hk1 (fun h => h)
        have hbx := hgpf.blk hbx (fun h => h)
        have hby := hgpf.blk hby (fun h => h)
        have hbq := hgpf.blk hbq (fun h => h)
        have KU := fun j v hv => (hgpf.cell (p := ⟨ba, offa + t * 32 + j, none⟩) hbal (fun h => h)).trans (KU j v hv)
        have KV := fun j v hv => (hgpf.cell (p := ⟨bb, offb + t * 32 + j, none⟩) hbbl (fun h => h)).trans (KV j v hv)
        have hbal := Nat.lt_of_lt_of_le hbal hgpf.size
        have hbbl := Nat.lt_of_lt_of_le hbbl hgpf.size
        refine hK.out _ _ ?_ (fun hHeld => ?_)
        · exact K5.out _ hbx hby hk0 hk1 KU KV
        clear hK K
        (try simp only [Act.put, List.setIfInBounds_toArray, List.set_cons_succ, List.set_cons_zero])
        refine wpAnyH_ready (rs := [16]) (by kernel_rfl) (by simp) ?_
        refine AllReadyH.cons rfl (fun K hK => ?_) AllReadyH.nil
        (try simp only [List.getElem_toArray, List.getElem_cons_succ, List.getElem_cons_zero])
        refine Eq.mpr (if_pos (by first | rfl | simp [Region.wanted, yielded, Act.put])) ?_
        refine wp_store_in 66 (.tmp 11) (.tmp 37) rfl gp z64 XU 66 (by first | rfl | simp [Act.eval]) (by first | rfl | simp [Act.eval]) hbp LXU.out IXU.out OXU.out ?_
        intro x16 hbp ho16
        have hk0 := ho16.blk hk0 (by omega)
        have hk1 := ho16.blk hk1 (by omega)
        have hbx := ho16.blk hbx (by omega)
        have hby := ho16.blk hby (by omega)
        have hbq := ho16.blk hbq (by omega)
        have KU := fun j v hv => (World.cell?_of_block (a := ⟨ba, offa + t * 32 + j, none⟩) (ho16.block ba (by omega))).trans (KU j v hv)
        have KV := fun j v hv => (World.cell?_of_block (a := ⟨bb, offb + t * 32 + j, none⟩) (ho16.block bb (by omega))).trans (KV j v hv)
        have hBc := hBc.trans (ho16.below (by omega))
        refine hK.out _ _ ?_ (fun hHeld => ?_)
        · exact K5.out _ hbx hby hk0 hk1 KU KV
        clear hK K
        (try simp only [Act.put, List.setIfInBounds_toArray, List.set_cons_succ, List.set_cons_zero])
        refine wpAnyH_ready (rs := [17]) (by kernel_rfl) (by simp) ?_
        refine AllReadyH.cons rfl (fun K hK => ?_) AllReadyH.nil
        (try simp only [List.getElem_toArray, List.getElem_cons_succ, List.getElem_cons_zero])
        refine Eq.mpr (if_pos (by first | rfl | simp [Region.wanted, yielded, Act.put])) ?_
        refine wp_store_in 66 (.tmp 12) (.tmp 44) rfl gq z64 YV 66 (by first | rfl | simp [Act.eval]) (by first | rfl | simp [Act.eval]) hbq LYV.out IYV.out OYV.out ?_
        intro x17 hbq ho17
        have hk0 := ho17.blk hk0 (by omega)
        have hk1 := ho17.blk hk1 (by omega)
        have hbx := ho17.blk hbx (by omega)
        have hby := ho17.blk hby (by omega)
        have hbp := ho17.blk hbp (by omega)
        have KU := fun j v hv => (World.cell?_of_block (a := ⟨ba, offa + t * 32 + j, none⟩) (ho17.block ba (by omega))).trans (KU j v hv)
        have KV := fun j v hv => (World.cell?_of_block (a := ⟨bb, offb + t * 32 + j, none⟩) (ho17.block bb (by omega))).trans (KV j v hv)
        have hBc := hBc.trans (ho17.below (by omega))
        refine hK.out _ _ ?_ (fun hHeld => ?_)
        · exact K5.out _ hbx hby hk0 hk1 KU KV
        clear hK K
        (try simp only [Act.put, List.setIfInBounds_toArray, List.set_cons_succ, List.set_cons_zero])
        refine wpAnyH_done (by kernel_rfl) ?_ _
        go_wp2
        go_meet
        exact ⟨gp, gq, rfl, rfl, by omega, by omega, by omega, by omega, by omega, hk0, hk1, hbx, hby, hbp, hbq, KU, KV, hBc⟩
      case rest =>
      obtain ⟨gp, gq, rfl, rfl, hpq, hgp, hgq, hpa, hqb, hk0, hk1, hbx, hby, hbp, hbq, KU, KV, hBc⟩ := hcut
      obtain ⟨B1, hB1'⟩ : ∃ B, B = decide (two a x b = two a y c) := ⟨_, rfl⟩
      obtain ⟨B2, hB2'⟩ : ∃ B, B = (decide (x = y) && decide (b = c)) := ⟨_, rfl⟩
      have q1 : ∀ W, (Op.equalIn 10000 34 (.agg V1.toArray) (.agg V2.toArray)).run Tryd.prog W = .ok B1 W := fun W => by rw [hV1, hV2]; exact eqR32 _ _ (two_len _ _ _) (two_len _ _ _) B1 hB1'.symm W
      have HBB : Hid (B1 = decide (two a x b = two a y c) ∧ B2 = (decide (x = y) && decide (b = c))) := Lib.hid ⟨hB1', hB2'⟩
      have HV1 := Lib.hid hV1
      have HV2 := Lib.hid hV2
      have hdP : P.drop t = b :: P.drop (t + 1) := by rw [List.drop_eq_getElem_cons (show t < P.length by omega), hb]; congr 1; unfold hat; rw [List.getD_eq_getElem?_getD, List.getElem?_eq_getElem (show t < P.length by omega)]; rfl
      have hdQ : Q.drop t = c :: Q.drop (t + 1) := by rw [List.drop_eq_getElem_cons (show t < Q.length by omega), hc]; congr 1; unfold hat; rw [List.getD_eq_getElem?_getD, List.getElem?_eq_getElem (show t < Q.length by omega)]; rfl
      have HIX : Hid (ix i (t + 1) = a') := Lib.hid (by rw [ha', ha]; rfl)
      have hstep : meetB i leaf leaf P Q = ((decide (two a x b = two a y c) && !(decide (x = y) && decide (b = c))) || meetB (ix i (t + 1)) (two a x b) (two a y c) (P.drop (t + 1)) (Q.drop (t + 1))) := by
        rw [hmt, hdP, hdQ, ← ha]
        show _ = (_ || meetB (ix i t / 2) _ _ _ _)
        rw [← ha]
        rfl
      have HF : Hid ((two a x b ≠ two a y c) ∨ (decide (x = y) && decide (b = c)) = true → meetB i leaf leaf P Q = meetB (ix i (t + 1)) (two a x b) (two a y c) (P.drop (t + 1)) (Q.drop (t + 1))) := Lib.hid fun h => by
        rw [hstep]
        rcases h with h | h
        · rw [decide_eq_false h]; rfl
        · rw [h, Bool.not_true, Bool.and_false]; rfl
      have HT : Hid (two a x b = two a y c → (decide (x = y) && decide (b = c)) = false → meetB i leaf leaf P Q = true) := Lib.hid fun h1 h2 => by
        rw [hstep, decide_eq_true h1, h2]
        rfl
      have q3 : Int.tdiv (a : Int) 2 = (a' : Int) := by rw [Int.tdiv_eq_ediv_of_nonneg (by omega)]; omega
      have q4 : (a : Int) / 2 = (a' : Int) := by omega
      have q5 : IntKind.i64.wrap (a' : Int) = (a' : Int) := by rw [IntKind.wrap_i64]; omega
      clear ha hb hc hB1' hstep hdP hdQ
      by_cases hev : a % 2 = 0
      · have r1 : Int.tmod (a : Int) 2 = 0 := by rw [Int.tmod_eq_emod_of_nonneg (by omega)]; omega
        have r2 : (a : Int) % 2 = 0 := by omega
        have r3 : IntKind.i64.wrap 0 = 0 := by rw [IntKind.wrap_i64]; omega
        have htw1 : two a x b = pr x b := by unfold two; rw [if_pos hev]
        have htw2 : two a y c = pr y c := by unfold two; rw [if_pos hev]
        have CP1 : Hid (∀ W : World, Calls Tryd.prog 29 #[.agg X.toArray, .agg U.toArray] W (Ret W (.agg V1.toArray))) := Lib.hid fun W => by rw [hV1, htw1, hX, hU]; exact dpair_calls _ _ hx32 b32 W
        have CP2 : Hid (∀ W : World, Calls Tryd.prog 29 #[.agg Y.toArray, .agg V.toArray] W (Ret W (.agg V2.toArray))) := Lib.hid fun W => by rw [hV2, htw2, hY, hV]; exact dpair_calls _ _ hy32 c32 W
        have K8 : Hid (∀ W : World, Blk W gp XU 66 → Blk W gq YV 66 → W.rangeAt gp 0 X ∧ W.rangeAt gp (0 + 1 * 32) U ∧ W.rangeAt gq 0 Y ∧ W.rangeAt gq (0 + 1 * 32) V) := Lib.hid fun W h1 h2 => by
          rw [hXU] at h1
          rw [hYV] at h2
          exact ⟨(two_ranges h1 lX).1, (two_ranges h1 lX).2, (two_ranges h2 lY).1, (two_ranges h2 lY).2⟩
        have q2 : ∀ W, (Op.equalIn 10000 66 (.agg XU.toArray) (.agg YV.toArray)).run Tryd.prog W = .ok B2 W := fun W => by rw [hXU, hYV, hX, hU, hY, hV]; exact eq64 _ _ _ _ hx32 b32 hy32 c32 B2 (by rw [hB2']) W
        clear hV1 hV2 htw1 htw2 hXU hYV hX hY hU hV hx32 hy32 b32 c32 lX lY lU lV l1 l2 oX oY oU oV hB2' hmt ha' sc0 sc1
        go_upto_region 8 with fail
        refine wp_region_held_drew (S := fun W => W.rangeAt gp 0 X ∧ W.rangeAt gp (0 + 1 * 32) U ∧ W.rangeAt gq 0 Y ∧ W.rangeAt gq (0 + 1 * 32) V) (by kernel_rfl) ?_ (fun hHeld => ?_)
        · exact K8.out _ hbp hbq
        refine wpAnyH_take (i := 0) (v := ?_) rfl (by kernel_rfl) (by kernel_rfl) (by kernel_rfl) (fun _ _ _ h => h) (Or.inl ⟨by rfl, ?_⟩) (by assumption) ?_
        rotate_left 1
        · intro w hSw; (try dsimp only at hSw); simp only [List.getElem_toArray, List.getElem_cons_succ, List.getElem_cons_zero]; go_simp; try (with_reducible rfl)
        (try simp only [List.getElem_toArray, List.getElem_cons_succ, List.getElem_cons_zero, Act.put, List.setIfInBounds_toArray, List.set_cons_succ, List.set_cons_zero])
        refine wpAnyH_take (i := 1) rfl (by kernel_rfl) (by kernel_rfl) (by kernel_rfl) (fun _ _ _ h => h) (yieldsIf_load_mid (by rfl) _ _ rfl _ _ rfl X _ (fun w hSw => by (try dsimp only at hSw); go_split_ands; assumption) Tryd.underlying34 rfl IX.out) (by assumption) ?_
        (try simp only [List.getElem_toArray, List.getElem_cons_succ, List.getElem_cons_zero, Act.put, List.setIfInBounds_toArray, List.set_cons_succ, List.set_cons_zero])
        refine wpAnyH_take (i := 2) (v := ?_) rfl (by kernel_rfl) (by kernel_rfl) (by kernel_rfl) (fun _ _ _ h => h) (Or.inl ⟨by rfl, ?_⟩) (by assumption) ?_
        rotate_left 1
        · intro w hSw; (try dsimp only at hSw); simp only [List.getElem_toArray, List.getElem_cons_succ, List.getElem_cons_zero]; go_simp; try (with_reducible rfl)
        (try simp only [List.getElem_toArray, List.getElem_cons_succ, List.getElem_cons_zero, Act.put, List.setIfInBounds_toArray, List.set_cons_succ, List.set_cons_zero])
        refine wpAnyH_take (i := 3) rfl (by kernel_rfl) (by kernel_rfl) (by kernel_rfl) (fun _ _ _ h => h) (yieldsIf_load_mid (by rfl) _ _ rfl _ _ rfl U _ (fun w hSw => by (try dsimp only at hSw); go_split_ands; assumption) Tryd.underlying34 rfl IU.out) (by assumption) ?_
        (try simp only [List.getElem_toArray, List.getElem_cons_succ, List.getElem_cons_zero, Act.put, List.setIfInBounds_toArray, List.set_cons_succ, List.set_cons_zero])
        refine wpAnyH_take (i := 5) (v := ?_) rfl (by kernel_rfl) (by kernel_rfl) (by kernel_rfl) (fun _ _ _ h => h) (Or.inl ⟨by rfl, ?_⟩) (by assumption) ?_
        rotate_left 1
        · intro w hSw; (try dsimp only at hSw); simp only [List.getElem_toArray, List.getElem_cons_succ, List.getElem_cons_zero]; go_simp; try (with_reducible rfl)
        (try simp only [List.getElem_toArray, List.getElem_cons_succ, List.getElem_cons_zero, Act.put, List.setIfInBounds_toArray, List.set_cons_succ, List.set_cons_zero])
        refine wpAnyH_take (i := 6) rfl (by kernel_rfl) (by kernel_rfl) (by kernel_rfl) (fun _ _ _ h => h) (yieldsIf_load_mid (by rfl) _ _ rfl _ _ rfl Y _ (fun w hSw => by (try dsimp only at hSw); go_split_ands; assumption) Tryd.underlying34 rfl IY.out) (by assumption) ?_
        (try simp only [List.getElem_toArray, List.getElem_cons_succ, List.getElem_cons_zero, Act.put, List.setIfInBounds_toArray, List.set_cons_succ, List.set_cons_zero])
        refine wpAnyH_take (i := 7) (v := ?_) rfl (by kernel_rfl) (by kernel_rfl) (by kernel_rfl) (fun _ _ _ h => h) (Or.inl ⟨by rfl, ?_⟩) (by assumption) ?_
        rotate_left 1
        · intro w hSw; (try dsimp only at hSw); simp only [List.getElem_toArray, List.getElem_cons_succ, List.getElem_cons_zero]; go_simp; try (with_reducible rfl)
        (try simp only [List.getElem_toArray, List.getElem_cons_succ, List.getElem_cons_zero, Act.put, List.setIfInBounds_toArray, List.set_cons_succ, List.set_cons_zero])
        refine wpAnyH_take (i := 8) rfl (by kernel_rfl) (by kernel_rfl) (by kernel_rfl) (fun _ _ _ h => h) (yieldsIf_load_mid (by rfl) _ _ rfl _ _ rfl V _ (fun w hSw => by (try dsimp only at hSw); go_split_ands; assumption) Tryd.underlying34 rfl IV.out) (by assumption) ?_
        (try simp only [List.getElem_toArray, List.getElem_cons_succ, List.getElem_cons_zero, Act.put, List.setIfInBounds_toArray, List.set_cons_succ, List.set_cons_zero])
        refine wpAnyH_take (i := 10) (v := ?_) rfl (by kernel_rfl) (by kernel_rfl) (by kernel_rfl) (fun _ _ _ h => h) (Or.inl ⟨by rfl, ?_⟩) (by assumption) ?_
        rotate_left 1
        · intro w hSw; (try dsimp only at hSw); simp only [List.getElem_toArray, List.getElem_cons_succ, List.getElem_cons_zero]; go_simp; try (with_reducible rfl)
        (try simp only [List.getElem_toArray, List.getElem_cons_succ, List.getElem_cons_zero, Act.put, List.setIfInBounds_toArray, List.set_cons_succ, List.set_cons_zero])
        refine wpAnyH_take (i := 11) (v := ?_) rfl (by kernel_rfl) (by kernel_rfl) (by kernel_rfl) (fun _ _ _ h => h) (Or.inl ⟨by rfl, ?_⟩) (by assumption) ?_
        rotate_left 1
        · intro w hSw; (try dsimp only at hSw); simp only [List.getElem_toArray, List.getElem_cons_succ, List.getElem_cons_zero]; go_simp; try (with_reducible rfl)
        (try simp only [List.getElem_toArray, List.getElem_cons_succ, List.getElem_cons_zero, Act.put, List.setIfInBounds_toArray, List.set_cons_succ, List.set_cons_zero])
        refine wpAnyH_ready (rs := [4]) (by kernel_rfl) (by simp) ?_
        refine AllReadyH.cons rfl (fun K hK => ?_) AllReadyH.nil
        (try simp only [List.getElem_toArray, List.getElem_cons_succ, List.getElem_cons_zero])
        go_simp
        go_at_call 29; refine (CP1.out _).mono ?_; rintro e' z4 ⟨rfl, e4⟩
        (try (go_wp2_with fail))
        have hk0 := hk0.drew.up e4
        have hk1 := hk1.drew.up e4
        have hbx := hbx.drew.up e4
        have hby := hby.drew.up e4
        have hbp := hbp.drew.up e4
        have hbq := hbq.drew.up e4
        have hBc := (below_dr hBc).trans (e4.mono (below_dr hBc).size)
        refine hK.out _ _ ?_ (fun hHeld => ?_)
        · exact K8.out _ hbp hbq
        clear hK K
        (try simp only [Act.put, List.setIfInBounds_toArray, List.set_cons_succ, List.set_cons_zero])
        refine wpAnyH_ready (rs := [9]) (by kernel_rfl) (by simp) ?_
        refine AllReadyH.cons rfl (fun K hK => ?_) AllReadyH.nil
        (try simp only [List.getElem_toArray, List.getElem_cons_succ, List.getElem_cons_zero])
        go_simp
        go_at_call 29; refine (CP2.out _).mono ?_; rintro e' z9 ⟨rfl, e9⟩
        (try (go_wp2_with fail))
        have hk0 := hk0.up e9
        have hk1 := hk1.up e9
        have hbx := hbx.up e9
        have hby := hby.up e9
        have hbp := hbp.up e9
        have hbq := hbq.up e9
        have hBc := hBc.trans (e9.mono hBc.size)
        refine hK.out _ _ ?_ (fun hHeld => ?_)
        · exact K8.out _ hbp hbq
        clear hK K
        (try simp only [Act.put, List.setIfInBounds_toArray, List.set_cons_succ, List.set_cons_zero])
        refine wpAnyH_ready (rs := [12]) (by kernel_rfl) (by simp) ?_
        refine AllReadyH.cons rfl (fun K hK => ?_) AllReadyH.nil
        (try simp only [List.getElem_toArray, List.getElem_cons_succ, List.getElem_cons_zero])
        refine Eq.mpr (if_pos (by first | rfl | simp [Region.wanted, yielded, Act.put])) ?_
        refine wp_store_in 34 (.tmp 7) (.tmp 66) rfl gx X V1 34 (by first | rfl | simp [Act.eval]) (by first | rfl | simp [Act.eval]) hbx EV1.out IV1.out OV1.out ?_
        intro q12 hbx ho12
        have hk0 := ho12.blk hk0 (by omega)
        have hk1 := ho12.blk hk1 (by omega)
        have hbp := ho12.blk hbp (by omega)
        have hbq := ho12.blk hbq (by omega)
        have hby := ho12.blk hby (by omega)
        have hBc := hBc.trans (ho12.below (by omega))
        refine hK.out _ _ ?_ (fun hHeld => ?_)
        · exact K8.out _ hbp hbq
        clear hK K
        (try simp only [Act.put, List.setIfInBounds_toArray, List.set_cons_succ, List.set_cons_zero])
        refine wpAnyH_ready (rs := [13]) (by kernel_rfl) (by simp) ?_
        refine AllReadyH.cons rfl (fun K hK => ?_) AllReadyH.nil
        (try simp only [List.getElem_toArray, List.getElem_cons_succ, List.getElem_cons_zero])
        refine Eq.mpr (if_pos (by first | rfl | simp [Region.wanted, yielded, Act.put])) ?_
        refine wp_store_in 34 (.tmp 8) (.tmp 71) rfl gy Y V2 34 (by first | rfl | simp [Act.eval]) (by first | rfl | simp [Act.eval]) hby EV2.out IV2.out OV2.out ?_
        intro q13 hby ho13
        have hk0 := ho13.blk hk0 (by omega)
        have hk1 := ho13.blk hk1 (by omega)
        have hbp := ho13.blk hbp (by omega)
        have hbq := ho13.blk hbq (by omega)
        have hbx := ho13.blk hbx (by omega)
        have hBc := hBc.trans (ho13.below (by omega))
        refine hK.out _ _ ?_ (fun hHeld => ?_)
        · exact K8.out _ hbp hbq
        clear hK K
        (try simp only [Act.put, List.setIfInBounds_toArray, List.set_cons_succ, List.set_cons_zero])
        refine wpAnyH_take (i := 14) (v := ?_) rfl (by kernel_rfl) (by kernel_rfl) (by kernel_rfl) (fun _ _ _ h => h) (Or.inl ⟨by rfl, ?_⟩) (by assumption) ?_
        rotate_left 1
        · intro w hSw; (try dsimp only at hSw); simp only [List.getElem_toArray, List.getElem_cons_succ, List.getElem_cons_zero]; go_simp; try (with_reducible rfl)
        (try simp only [List.getElem_toArray, List.getElem_cons_succ, List.getElem_cons_zero, Act.put, List.setIfInBounds_toArray, List.set_cons_succ, List.set_cons_zero])
        refine wpAnyH_done (by kernel_rfl) ?_ _
        cases hB1 : B1
        · rw [hB1] at q1 HBB
          have HNX := Lib.hid (HF.out (.inl (of_decide_eq_false HBB.out.1.symm)))
          clear HF HT HBB
          go_wp2_with (first | ((with_reducible refine at_load 34 (.tmp 7) ?_); refine wpList_load_mid rfl 34 (.tmp 7) rfl gx 0 (by first | rfl | simp [Act.eval]) V1 _ (Blk.range hbx) Tryd.underlying34 rfl IV1.out ?_) | ((with_reducible refine at_load 34 (.tmp 8) ?_); refine wpList_load_mid rfl 34 (.tmp 8) rfl gy 0 (by first | rfl | simp [Act.eval]) V2 _ (Blk.range hby) Tryd.underlying34 rfl IV2.out ?_) | ((with_reducible refine at_loadgS 66 (.tmp 11) ?_); refine wpList_load_midgS ?_ 66 (.tmp 11) rfl gp 0 (by first | rfl | simp [Act.eval]) XU _ (Blk.range hbp) Tryd.underlying66 rfl IXU.out ?_; (focus (simp [Region.wanted, yielded, Act.put]; done))) | ((with_reducible refine at_loadgS 66 (.tmp 12) ?_); refine wpList_load_midgS ?_ 66 (.tmp 12) rfl gq 0 (by first | rfl | simp [Act.eval]) YV _ (Blk.range hbq) Tryd.underlying66 rfl IYV.out ?_; (focus (simp [Region.wanted, yielded, Act.put]; done))))
          go_roundw
          case rel => exact ⟨t + 1, two a x b, two a y c, by go_num, by rw [HIX.out], by omega, hk0, hk1, by rw [← HV1.out]; exact hbx, by rw [← HV2.out]; exact hby, two_len _ _ _, two_len _ _ _, HNX.out, hBc⟩
          case measure => simp [intOf]; omega
        · rw [hB1] at q1 HBB
          cases hB2 : B2
          · rw [hB2] at q2 HBB
            have HNX := Lib.hid (HT.out (of_decide_eq_true HBB.out.1.symm) HBB.out.2.symm)
            clear HF HT HBB
            go_wp2_with (first | ((with_reducible refine at_load 34 (.tmp 7) ?_); refine wpList_load_mid rfl 34 (.tmp 7) rfl gx 0 (by first | rfl | simp [Act.eval]) V1 _ (Blk.range hbx) Tryd.underlying34 rfl IV1.out ?_) | ((with_reducible refine at_load 34 (.tmp 8) ?_); refine wpList_load_mid rfl 34 (.tmp 8) rfl gy 0 (by first | rfl | simp [Act.eval]) V2 _ (Blk.range hby) Tryd.underlying34 rfl IV2.out ?_) | ((with_reducible refine at_loadgS 66 (.tmp 11) ?_); refine wpList_load_midgS ?_ 66 (.tmp 11) rfl gp 0 (by first | rfl | simp [Act.eval]) XU _ (Blk.range hbp) Tryd.underlying66 rfl IXU.out ?_; (focus (simp [Region.wanted, yielded, Act.put]; done))) | ((with_reducible refine at_loadgS 66 (.tmp 12) ?_); refine wpList_load_midgS ?_ 66 (.tmp 12) rfl gq 0 (by first | rfl | simp [Act.eval]) YV _ (Blk.range hbq) Tryd.underlying66 rfl IYV.out ?_; (focus (simp [Region.wanted, yielded, Act.put]; done))))
            go_ret
            exact ⟨by rw [HNX.out]; rfl, hBc⟩
          · rw [hB2] at q2 HBB
            have HNX := Lib.hid (HF.out (.inr HBB.out.2.symm))
            clear HF HT HBB
            go_wp2_with (first | ((with_reducible refine at_load 34 (.tmp 7) ?_); refine wpList_load_mid rfl 34 (.tmp 7) rfl gx 0 (by first | rfl | simp [Act.eval]) V1 _ (Blk.range hbx) Tryd.underlying34 rfl IV1.out ?_) | ((with_reducible refine at_load 34 (.tmp 8) ?_); refine wpList_load_mid rfl 34 (.tmp 8) rfl gy 0 (by first | rfl | simp [Act.eval]) V2 _ (Blk.range hby) Tryd.underlying34 rfl IV2.out ?_) | ((with_reducible refine at_loadgS 66 (.tmp 11) ?_); refine wpList_load_midgS ?_ 66 (.tmp 11) rfl gp 0 (by first | rfl | simp [Act.eval]) XU _ (Blk.range hbp) Tryd.underlying66 rfl IXU.out ?_; (focus (simp [Region.wanted, yielded, Act.put]; done))) | ((with_reducible refine at_loadgS 66 (.tmp 12) ?_); refine wpList_load_midgS ?_ 66 (.tmp 12) rfl gq 0 (by first | rfl | simp [Act.eval]) YV _ (Blk.range hbq) Tryd.underlying66 rfl IYV.out ?_; (focus (simp [Region.wanted, yielded, Act.put]; done))))
            go_roundw
            case rel => exact ⟨t + 1, two a x b, two a y c, by go_num, by rw [HIX.out], by omega, hk0, hk1, by rw [← HV1.out]; exact hbx, by rw [← HV2.out]; exact hby, two_len _ _ _, two_len _ _ _, HNX.out, hBc⟩
            case measure => simp [intOf]; omega
      · have r1 : Int.tmod (a : Int) 2 = 1 := by rw [Int.tmod_eq_emod_of_nonneg (by omega)]; omega
        have r2 : (a : Int) % 2 = 1 := by omega
        have r3 : IntKind.i64.wrap 1 = 1 := by rw [IntKind.wrap_i64]; omega
        obtain ⟨UX, hUX⟩ : ∃ Z, Z = U ++ X := ⟨_, rfl⟩
        obtain ⟨VY, hVY⟩ : ∃ Z, Z = V ++ Y := ⟨_, rfl⟩
        have IUX : Hid _ := Lib.hid (ih64 (show UX.length = 64 by rw [hUX, List.length_append, lX, lU]))
        have IVY : Hid _ := Lib.hid (ih64 (show VY.length = 64 by rw [hVY, List.length_append, lY, lV]))
        have EUX : Hid (XU.length = UX.length) := Lib.hid (by rw [hUX, hXU, List.length_append, List.length_append, lX, lU])
        have EVY : Hid (YV.length = VY.length) := Lib.hid (by rw [hVY, hYV, List.length_append, List.length_append, lY, lV])
        have OUX : Hid (∀ v ∈ UX, v.oneCell' = true) := Lib.hid (by rw [hUX]; intro v hv; exact (List.mem_append.1 hv).elim (oU v) (oX v))
        have OVY : Hid (∀ v ∈ VY, v.oneCell' = true) := Lib.hid (by rw [hVY]; intro v hv; exact (List.mem_append.1 hv).elim (oV v) (oY v))
        have b3 : ∀ W, (Instr.build 66 #[(0, .agg U.toArray), (1, .agg X.toArray)]).run Tryd.prog W = .ok (.agg UX.toArray) W := fun W => by rw [hUX]; exact bld64 U X lU lX W
        have b4 : ∀ W, (Instr.build 66 #[(0, .agg V.toArray), (1, .agg Y.toArray)]).run Tryd.prog W = .ok (.agg VY.toArray) W := fun W => by rw [hVY]; exact bld64 V Y lV lY W
        have htw1 : two a x b = pr b x := by unfold two; rw [if_neg hev]
        have htw2 : two a y c = pr c y := by unfold two; rw [if_neg hev]
        have CP1 : Hid (∀ W : World, Calls Tryd.prog 29 #[.agg U.toArray, .agg X.toArray] W (Ret W (.agg V1.toArray))) := Lib.hid fun W => by rw [hV1, htw1, hU, hX]; exact dpair_calls _ _ b32 hx32 W
        have CP2 : Hid (∀ W : World, Calls Tryd.prog 29 #[.agg V.toArray, .agg Y.toArray] W (Ret W (.agg V2.toArray))) := Lib.hid fun W => by rw [hV2, htw2, hV, hY]; exact dpair_calls _ _ c32 hy32 W
        have K8 : Hid (∀ W : World, Blk W gp UX 66 → Blk W gq VY 66 → W.rangeAt gp 0 U ∧ W.rangeAt gp (0 + 1 * 32) X ∧ W.rangeAt gq 0 V ∧ W.rangeAt gq (0 + 1 * 32) Y) := Lib.hid fun W h1 h2 => by
          rw [hUX] at h1
          rw [hVY] at h2
          exact ⟨(two_ranges h1 lU).1, (two_ranges h1 lU).2, (two_ranges h2 lV).1, (two_ranges h2 lV).2⟩
        have q2 : ∀ W, (Op.equalIn 10000 66 (.agg UX.toArray) (.agg VY.toArray)).run Tryd.prog W = .ok B2 W := fun W => by rw [hUX, hVY, hU, hX, hV, hY]; exact eq64 _ _ _ _ b32 hx32 c32 hy32 B2 (by rw [hB2', Bool.and_comm]) W
        clear hV1 hV2 htw1 htw2 hXU hYV hUX hVY hX hY hU hV hx32 hy32 b32 c32 lX lY lU lV l1 l2 oX oY oU oV hB2' hmt ha' sc0 sc1
        go_upto_region 7 with fail
        have hBc := hBc.drew
        refine wp_region_held_drew (S := fun W => W.rangeAt gx 0 X ∧ W.rangeAt gy 0 Y ∧ W.cell? ⟨w.heap.size, 2, none⟩ = some (.slice (some ⟨ba, offa, none⟩) m capA) ∧ W.cell? ⟨w.heap.size + 1, 2, none⟩ = some (.slice (some ⟨bb, offb, none⟩) m capB) ∧ W.rangeAt ba (offa + t * 32) U ∧ W.rangeAt bb (offb + t * 32) V) (by kernel_rfl) ?_ (fun hHeld => ?_)
        · exact K5.out _ hbx hby hk0 hk1 KU KV
        refine wpAnyH_take (i := 0) (v := ?_) rfl (by kernel_rfl) (by kernel_rfl) (by kernel_rfl) (fun _ _ _ h => h) (Or.inl ⟨by rfl, ?_⟩) (by assumption) ?_
        rotate_left 1
        · intro w hSw; (try dsimp only at hSw); simp only [List.getElem_toArray, List.getElem_cons_succ, List.getElem_cons_zero]; go_simp; try (with_reducible rfl)
        (try simp only [List.getElem_toArray, List.getElem_cons_succ, List.getElem_cons_zero, Act.put, List.setIfInBounds_toArray, List.set_cons_succ, List.set_cons_zero])
        refine wpAnyH_take (i := 1) (v := ?_) rfl (by kernel_rfl) (by kernel_rfl) (by kernel_rfl) (fun _ _ _ h => h) (Or.inl ⟨by rfl, ?_⟩) (by assumption) ?_
        rotate_left 1
        · intro w hSw; (try dsimp only at hSw); simp only [List.getElem_toArray, List.getElem_cons_succ, List.getElem_cons_zero]; go_simp; try (with_reducible rfl)
        (try simp only [List.getElem_toArray, List.getElem_cons_succ, List.getElem_cons_zero, Act.put, List.setIfInBounds_toArray, List.set_cons_succ, List.set_cons_zero])
        refine wpAnyH_take (i := 2) (v := ?_) rfl (by kernel_rfl) (by kernel_rfl) (by kernel_rfl) (fun _ _ _ h => h) (Or.inl ⟨by rfl, ?_⟩) (by assumption) ?_
        rotate_left 1
        · intro w hSw; (try dsimp only at hSw); simp only [List.getElem_toArray, List.getElem_cons_succ, List.getElem_cons_zero]; go_simp; try (with_reducible rfl)
        (try simp only [List.getElem_toArray, List.getElem_cons_succ, List.getElem_cons_zero, Act.put, List.setIfInBounds_toArray, List.set_cons_succ, List.set_cons_zero])
        refine wpAnyH_take (i := 3) (v := ?_) rfl (by kernel_rfl) (by kernel_rfl) (by kernel_rfl) (fun _ _ _ h => h) (Or.inl ⟨by rfl, ?_⟩) (by assumption) ?_
        rotate_left 1
        · intro w hSw; (try dsimp only at hSw); simp only [List.getElem_toArray, List.getElem_cons_succ, List.getElem_cons_zero]; go_simp; try (with_reducible rfl)
        (try simp only [List.getElem_toArray, List.getElem_cons_succ, List.getElem_cons_zero, Act.put, List.setIfInBounds_toArray, List.set_cons_succ, List.set_cons_zero])
        refine wpAnyH_take (i := 4) rfl (by kernel_rfl) (by kernel_rfl) (by kernel_rfl) (fun _ _ _ h => h) (yieldsIf_load_mid (by rfl) _ _ rfl _ _ rfl U _ (fun w hSw => by (try dsimp only at hSw); go_split_ands; assumption) Tryd.underlying34 rfl IU.out) (by assumption) ?_
        (try simp only [List.getElem_toArray, List.getElem_cons_succ, List.getElem_cons_zero, Act.put, List.setIfInBounds_toArray, List.set_cons_succ, List.set_cons_zero])
        refine wpAnyH_take (i := 5) rfl (by kernel_rfl) (by kernel_rfl) (by kernel_rfl) (fun _ _ _ h => h) (yieldsIf_load_mid (by rfl) _ _ rfl _ _ rfl X _ (fun w hSw => by (try dsimp only at hSw); go_split_ands; assumption) Tryd.underlying34 rfl IX.out) (by assumption) ?_
        (try simp only [List.getElem_toArray, List.getElem_cons_succ, List.getElem_cons_zero, Act.put, List.setIfInBounds_toArray, List.set_cons_succ, List.set_cons_zero])
        refine wpAnyH_take (i := 6) (v := .agg UX.toArray) rfl (by kernel_rfl) (by kernel_rfl) (by kernel_rfl) (fun _ _ _ h => h) (Or.inl ⟨by rfl, ?_⟩) (by assumption) ?_
        · intro w hSw; (try dsimp only at hSw); simp only [List.getElem_toArray, List.getElem_cons_succ, List.getElem_cons_zero]; first | (simp [execOp, Act.eval, b3]; done) | (go_simp; done)
        (try simp only [List.getElem_toArray, List.getElem_cons_succ, List.getElem_cons_zero, Act.put, List.setIfInBounds_toArray, List.set_cons_succ, List.set_cons_zero])
        refine wpAnyH_take (i := 7) (v := ?_) rfl (by kernel_rfl) (by kernel_rfl) (by kernel_rfl) (fun _ _ _ h => h) (Or.inl ⟨by rfl, ?_⟩) (by assumption) ?_
        rotate_left 1
        · intro w hSw; (try dsimp only at hSw); simp only [List.getElem_toArray, List.getElem_cons_succ, List.getElem_cons_zero]; go_simp; try (with_reducible rfl)
        (try simp only [List.getElem_toArray, List.getElem_cons_succ, List.getElem_cons_zero, Act.put, List.setIfInBounds_toArray, List.set_cons_succ, List.set_cons_zero])
        refine wpAnyH_take (i := 8) (v := ?_) rfl (by kernel_rfl) (by kernel_rfl) (by kernel_rfl) (fun _ _ _ h => h) (Or.inl ⟨by rfl, ?_⟩) (by assumption) ?_
        rotate_left 1
        · intro w hSw; (try dsimp only at hSw); simp only [List.getElem_toArray, List.getElem_cons_succ, List.getElem_cons_zero]; go_simp; try (with_reducible rfl)
        (try simp only [List.getElem_toArray, List.getElem_cons_succ, List.getElem_cons_zero, Act.put, List.setIfInBounds_toArray, List.set_cons_succ, List.set_cons_zero])
        refine wpAnyH_take (i := 9) (v := ?_) rfl (by kernel_rfl) (by kernel_rfl) (by kernel_rfl) (fun _ _ _ h => h) (Or.inl ⟨by rfl, ?_⟩) (by assumption) ?_
        rotate_left 1
        · intro w hSw; (try dsimp only at hSw); simp only [List.getElem_toArray, List.getElem_cons_succ, List.getElem_cons_zero]; go_simp; try (with_reducible rfl)
        (try simp only [List.getElem_toArray, List.getElem_cons_succ, List.getElem_cons_zero, Act.put, List.setIfInBounds_toArray, List.set_cons_succ, List.set_cons_zero])
        refine wpAnyH_take (i := 10) (v := ?_) rfl (by kernel_rfl) (by kernel_rfl) (by kernel_rfl) (fun _ _ _ h => h) (Or.inl ⟨by rfl, ?_⟩) (by assumption) ?_
        rotate_left 1
        · intro w hSw; (try dsimp only at hSw); simp only [List.getElem_toArray, List.getElem_cons_succ, List.getElem_cons_zero]; go_simp; try (with_reducible rfl)
        (try simp only [List.getElem_toArray, List.getElem_cons_succ, List.getElem_cons_zero, Act.put, List.setIfInBounds_toArray, List.set_cons_succ, List.set_cons_zero])
        refine wpAnyH_take (i := 11) rfl (by kernel_rfl) (by kernel_rfl) (by kernel_rfl) (fun _ _ _ h => h) (yieldsIf_load_mid (by rfl) _ _ rfl _ _ rfl V _ (fun w hSw => by (try dsimp only at hSw); go_split_ands; assumption) Tryd.underlying34 rfl IV.out) (by assumption) ?_
        (try simp only [List.getElem_toArray, List.getElem_cons_succ, List.getElem_cons_zero, Act.put, List.setIfInBounds_toArray, List.set_cons_succ, List.set_cons_zero])
        refine wpAnyH_take (i := 12) rfl (by kernel_rfl) (by kernel_rfl) (by kernel_rfl) (fun _ _ _ h => h) (yieldsIf_load_mid (by rfl) _ _ rfl _ _ rfl Y _ (fun w hSw => by (try dsimp only at hSw); go_split_ands; assumption) Tryd.underlying34 rfl IY.out) (by assumption) ?_
        (try simp only [List.getElem_toArray, List.getElem_cons_succ, List.getElem_cons_zero, Act.put, List.setIfInBounds_toArray, List.set_cons_succ, List.set_cons_zero])
        refine wpAnyH_take (i := 13) (v := .agg VY.toArray) rfl (by kernel_rfl) (by kernel_rfl) (by kernel_rfl) (fun _ _ _ h => h) (Or.inl ⟨by rfl, ?_⟩) (by assumption) ?_
        · intro w hSw; (try dsimp only at hSw); simp only [List.getElem_toArray, List.getElem_cons_succ, List.getElem_cons_zero]; first | (simp [execOp, Act.eval, b4]; done) | (go_simp; done)
        (try simp only [List.getElem_toArray, List.getElem_cons_succ, List.getElem_cons_zero, Act.put, List.setIfInBounds_toArray, List.set_cons_succ, List.set_cons_zero])
        refine wpAnyH_ready (rs := [14]) (by kernel_rfl) (by simp) ?_
        refine AllReadyH.cons rfl (fun K hK => ?_) AllReadyH.nil
        (try simp only [List.getElem_toArray, List.getElem_cons_succ, List.getElem_cons_zero])
        refine Eq.mpr (if_pos (by first | rfl | simp [Region.wanted, yielded, Act.put])) ?_
        refine wp_store_in 66 (.tmp 11) (.tmp 54) rfl gp XU UX 66 (by first | rfl | simp [Act.eval]) (by first | rfl | simp [Act.eval]) hbp EUX.out IUX.out OUX.out ?_
        intro y14 hbp ho14
        have hk0 := ho14.blk hk0 (by omega)
        have hk1 := ho14.blk hk1 (by omega)
        have hbx := ho14.blk hbx (by omega)
        have hby := ho14.blk hby (by omega)
        have hbq := ho14.blk hbq (by omega)
        have KU := fun j v hv => (World.cell?_of_block (a := ⟨ba, offa + t * 32 + j, none⟩) (ho14.block ba (by omega))).trans (KU j v hv)
        have KV := fun j v hv => (World.cell?_of_block (a := ⟨bb, offb + t * 32 + j, none⟩) (ho14.block bb (by omega))).trans (KV j v hv)
        have hBc := hBc.trans (ho14.below (by omega))
        refine hK.out _ _ ?_ (fun hHeld => ?_)
        · exact K5.out _ hbx hby hk0 hk1 KU KV
        clear hK K
        (try simp only [Act.put, List.setIfInBounds_toArray, List.set_cons_succ, List.set_cons_zero])
        refine wpAnyH_ready (rs := [15]) (by kernel_rfl) (by simp) ?_
        refine AllReadyH.cons rfl (fun K hK => ?_) AllReadyH.nil
        (try simp only [List.getElem_toArray, List.getElem_cons_succ, List.getElem_cons_zero])
        refine Eq.mpr (if_pos (by first | rfl | simp [Region.wanted, yielded, Act.put])) ?_
        refine wp_store_in 66 (.tmp 12) (.tmp 61) rfl gq YV VY 66 (by first | rfl | simp [Act.eval]) (by first | rfl | simp [Act.eval]) hbq EVY.out IVY.out OVY.out ?_
        intro y15 hbq ho15
        have hk0 := ho15.blk hk0 (by omega)
        have hk1 := ho15.blk hk1 (by omega)
        have hbx := ho15.blk hbx (by omega)
        have hby := ho15.blk hby (by omega)
        have hbp := ho15.blk hbp (by omega)
        have KU := fun j v hv => (World.cell?_of_block (a := ⟨ba, offa + t * 32 + j, none⟩) (ho15.block ba (by omega))).trans (KU j v hv)
        have KV := fun j v hv => (World.cell?_of_block (a := ⟨bb, offb + t * 32 + j, none⟩) (ho15.block bb (by omega))).trans (KV j v hv)
        have hBc := hBc.trans (ho15.below (by omega))
        refine hK.out _ _ ?_ (fun hHeld => ?_)
        · exact K5.out _ hbx hby hk0 hk1 KU KV
        clear hK K
        (try simp only [Act.put, List.setIfInBounds_toArray, List.set_cons_succ, List.set_cons_zero])
        refine wpAnyH_done (by kernel_rfl) ?_ _
        go_upto_region 8 with fail
        refine wp_region_held_drew (S := fun W => W.rangeAt gp 0 U ∧ W.rangeAt gp (0 + 1 * 32) X ∧ W.rangeAt gq 0 V ∧ W.rangeAt gq (0 + 1 * 32) Y) (by kernel_rfl) ?_ (fun hHeld => ?_)
        · exact K8.out _ hbp hbq
        refine wpAnyH_take (i := 0) (v := ?_) rfl (by kernel_rfl) (by kernel_rfl) (by kernel_rfl) (fun _ _ _ h => h) (Or.inl ⟨by rfl, ?_⟩) (by assumption) ?_
        rotate_left 1
        · intro w hSw; (try dsimp only at hSw); simp only [List.getElem_toArray, List.getElem_cons_succ, List.getElem_cons_zero]; go_simp; try (with_reducible rfl)
        (try simp only [List.getElem_toArray, List.getElem_cons_succ, List.getElem_cons_zero, Act.put, List.setIfInBounds_toArray, List.set_cons_succ, List.set_cons_zero])
        refine wpAnyH_take (i := 1) rfl (by kernel_rfl) (by kernel_rfl) (by kernel_rfl) (fun _ _ _ h => h) (yieldsIf_load_mid (by rfl) _ _ rfl _ _ rfl U _ (fun w hSw => by (try dsimp only at hSw); go_split_ands; assumption) Tryd.underlying34 rfl IU.out) (by assumption) ?_
        (try simp only [List.getElem_toArray, List.getElem_cons_succ, List.getElem_cons_zero, Act.put, List.setIfInBounds_toArray, List.set_cons_succ, List.set_cons_zero])
        refine wpAnyH_take (i := 2) (v := ?_) rfl (by kernel_rfl) (by kernel_rfl) (by kernel_rfl) (fun _ _ _ h => h) (Or.inl ⟨by rfl, ?_⟩) (by assumption) ?_
        rotate_left 1
        · intro w hSw; (try dsimp only at hSw); simp only [List.getElem_toArray, List.getElem_cons_succ, List.getElem_cons_zero]; go_simp; try (with_reducible rfl)
        (try simp only [List.getElem_toArray, List.getElem_cons_succ, List.getElem_cons_zero, Act.put, List.setIfInBounds_toArray, List.set_cons_succ, List.set_cons_zero])
        refine wpAnyH_take (i := 3) rfl (by kernel_rfl) (by kernel_rfl) (by kernel_rfl) (fun _ _ _ h => h) (yieldsIf_load_mid (by rfl) _ _ rfl _ _ rfl X _ (fun w hSw => by (try dsimp only at hSw); go_split_ands; assumption) Tryd.underlying34 rfl IX.out) (by assumption) ?_
        (try simp only [List.getElem_toArray, List.getElem_cons_succ, List.getElem_cons_zero, Act.put, List.setIfInBounds_toArray, List.set_cons_succ, List.set_cons_zero])
        refine wpAnyH_take (i := 5) (v := ?_) rfl (by kernel_rfl) (by kernel_rfl) (by kernel_rfl) (fun _ _ _ h => h) (Or.inl ⟨by rfl, ?_⟩) (by assumption) ?_
        rotate_left 1
        · intro w hSw; (try dsimp only at hSw); simp only [List.getElem_toArray, List.getElem_cons_succ, List.getElem_cons_zero]; go_simp; try (with_reducible rfl)
        (try simp only [List.getElem_toArray, List.getElem_cons_succ, List.getElem_cons_zero, Act.put, List.setIfInBounds_toArray, List.set_cons_succ, List.set_cons_zero])
        refine wpAnyH_take (i := 6) rfl (by kernel_rfl) (by kernel_rfl) (by kernel_rfl) (fun _ _ _ h => h) (yieldsIf_load_mid (by rfl) _ _ rfl _ _ rfl V _ (fun w hSw => by (try dsimp only at hSw); go_split_ands; assumption) Tryd.underlying34 rfl IV.out) (by assumption) ?_
        (try simp only [List.getElem_toArray, List.getElem_cons_succ, List.getElem_cons_zero, Act.put, List.setIfInBounds_toArray, List.set_cons_succ, List.set_cons_zero])
        refine wpAnyH_take (i := 7) (v := ?_) rfl (by kernel_rfl) (by kernel_rfl) (by kernel_rfl) (fun _ _ _ h => h) (Or.inl ⟨by rfl, ?_⟩) (by assumption) ?_
        rotate_left 1
        · intro w hSw; (try dsimp only at hSw); simp only [List.getElem_toArray, List.getElem_cons_succ, List.getElem_cons_zero]; go_simp; try (with_reducible rfl)
        (try simp only [List.getElem_toArray, List.getElem_cons_succ, List.getElem_cons_zero, Act.put, List.setIfInBounds_toArray, List.set_cons_succ, List.set_cons_zero])
        refine wpAnyH_take (i := 8) rfl (by kernel_rfl) (by kernel_rfl) (by kernel_rfl) (fun _ _ _ h => h) (yieldsIf_load_mid (by rfl) _ _ rfl _ _ rfl Y _ (fun w hSw => by (try dsimp only at hSw); go_split_ands; assumption) Tryd.underlying34 rfl IY.out) (by assumption) ?_
        (try simp only [List.getElem_toArray, List.getElem_cons_succ, List.getElem_cons_zero, Act.put, List.setIfInBounds_toArray, List.set_cons_succ, List.set_cons_zero])
        refine wpAnyH_take (i := 10) (v := ?_) rfl (by kernel_rfl) (by kernel_rfl) (by kernel_rfl) (fun _ _ _ h => h) (Or.inl ⟨by rfl, ?_⟩) (by assumption) ?_
        rotate_left 1
        · intro w hSw; (try dsimp only at hSw); simp only [List.getElem_toArray, List.getElem_cons_succ, List.getElem_cons_zero]; go_simp; try (with_reducible rfl)
        (try simp only [List.getElem_toArray, List.getElem_cons_succ, List.getElem_cons_zero, Act.put, List.setIfInBounds_toArray, List.set_cons_succ, List.set_cons_zero])
        refine wpAnyH_take (i := 11) (v := ?_) rfl (by kernel_rfl) (by kernel_rfl) (by kernel_rfl) (fun _ _ _ h => h) (Or.inl ⟨by rfl, ?_⟩) (by assumption) ?_
        rotate_left 1
        · intro w hSw; (try dsimp only at hSw); simp only [List.getElem_toArray, List.getElem_cons_succ, List.getElem_cons_zero]; go_simp; try (with_reducible rfl)
        (try simp only [List.getElem_toArray, List.getElem_cons_succ, List.getElem_cons_zero, Act.put, List.setIfInBounds_toArray, List.set_cons_succ, List.set_cons_zero])
        refine wpAnyH_ready (rs := [4]) (by kernel_rfl) (by simp) ?_
        refine AllReadyH.cons rfl (fun K hK => ?_) AllReadyH.nil
        (try simp only [List.getElem_toArray, List.getElem_cons_succ, List.getElem_cons_zero])
        go_simp
        go_at_call 29; refine (CP1.out _).mono ?_; rintro e' z4 ⟨rfl, e4⟩
        (try (go_wp2_with fail))
        have hk0 := hk0.drew.up e4
        have hk1 := hk1.drew.up e4
        have hbx := hbx.drew.up e4
        have hby := hby.drew.up e4
        have hbp := hbp.drew.up e4
        have hbq := hbq.drew.up e4
        have hBc := (below_dr hBc).trans (e4.mono (below_dr hBc).size)
        refine hK.out _ _ ?_ (fun hHeld => ?_)
        · exact K8.out _ hbp hbq
        clear hK K
        (try simp only [Act.put, List.setIfInBounds_toArray, List.set_cons_succ, List.set_cons_zero])
        refine wpAnyH_ready (rs := [9]) (by kernel_rfl) (by simp) ?_
        refine AllReadyH.cons rfl (fun K hK => ?_) AllReadyH.nil
        (try simp only [List.getElem_toArray, List.getElem_cons_succ, List.getElem_cons_zero])
        go_simp
        go_at_call 29; refine (CP2.out _).mono ?_; rintro e' z9 ⟨rfl, e9⟩
        (try (go_wp2_with fail))
        have hk0 := hk0.up e9
        have hk1 := hk1.up e9
        have hbx := hbx.up e9
        have hby := hby.up e9
        have hbp := hbp.up e9
        have hbq := hbq.up e9
        have hBc := hBc.trans (e9.mono hBc.size)
        refine hK.out _ _ ?_ (fun hHeld => ?_)
        · exact K8.out _ hbp hbq
        clear hK K
        (try simp only [Act.put, List.setIfInBounds_toArray, List.set_cons_succ, List.set_cons_zero])
        refine wpAnyH_ready (rs := [12]) (by kernel_rfl) (by simp) ?_
        refine AllReadyH.cons rfl (fun K hK => ?_) AllReadyH.nil
        (try simp only [List.getElem_toArray, List.getElem_cons_succ, List.getElem_cons_zero])
        refine Eq.mpr (if_pos (by first | rfl | simp [Region.wanted, yielded, Act.put])) ?_
        refine wp_store_in 34 (.tmp 7) (.tmp 66) rfl gx X V1 34 (by first | rfl | simp [Act.eval]) (by first | rfl | simp [Act.eval]) hbx EV1.out IV1.out OV1.out ?_
        intro q12 hbx ho12
        have hk0 := ho12.blk hk0 (by omega)
        have hk1 := ho12.blk hk1 (by omega)
        have hbp := ho12.blk hbp (by omega)
        have hbq := ho12.blk hbq (by omega)
        have hby := ho12.blk hby (by omega)
        have hBc := hBc.trans (ho12.below (by omega))
        refine hK.out _ _ ?_ (fun hHeld => ?_)
        · exact K8.out _ hbp hbq
        clear hK K
        (try simp only [Act.put, List.setIfInBounds_toArray, List.set_cons_succ, List.set_cons_zero])
        refine wpAnyH_ready (rs := [13]) (by kernel_rfl) (by simp) ?_
        refine AllReadyH.cons rfl (fun K hK => ?_) AllReadyH.nil
        (try simp only [List.getElem_toArray, List.getElem_cons_succ, List.getElem_cons_zero])
        refine Eq.mpr (if_pos (by first | rfl | simp [Region.wanted, yielded, Act.put])) ?_
        refine wp_store_in 34 (.tmp 8) (.tmp 71) rfl gy Y V2 34 (by first | rfl | simp [Act.eval]) (by first | rfl | simp [Act.eval]) hby EV2.out IV2.out OV2.out ?_
        intro q13 hby ho13
        have hk0 := ho13.blk hk0 (by omega)
        have hk1 := ho13.blk hk1 (by omega)
        have hbp := ho13.blk hbp (by omega)
        have hbq := ho13.blk hbq (by omega)
        have hbx := ho13.blk hbx (by omega)
        have hBc := hBc.trans (ho13.below (by omega))
        refine hK.out _ _ ?_ (fun hHeld => ?_)
        · exact K8.out _ hbp hbq
        clear hK K
        (try simp only [Act.put, List.setIfInBounds_toArray, List.set_cons_succ, List.set_cons_zero])
        refine wpAnyH_take (i := 14) (v := ?_) rfl (by kernel_rfl) (by kernel_rfl) (by kernel_rfl) (fun _ _ _ h => h) (Or.inl ⟨by rfl, ?_⟩) (by assumption) ?_
        rotate_left 1
        · intro w hSw; (try dsimp only at hSw); simp only [List.getElem_toArray, List.getElem_cons_succ, List.getElem_cons_zero]; go_simp; try (with_reducible rfl)
        (try simp only [List.getElem_toArray, List.getElem_cons_succ, List.getElem_cons_zero, Act.put, List.setIfInBounds_toArray, List.set_cons_succ, List.set_cons_zero])
        refine wpAnyH_done (by kernel_rfl) ?_ _
        cases hB1 : B1
        · rw [hB1] at q1 HBB
          have HNX := Lib.hid (HF.out (.inl (of_decide_eq_false HBB.out.1.symm)))
          clear HF HT HBB
          go_wp2_with (first | ((with_reducible refine at_load 34 (.tmp 7) ?_); refine wpList_load_mid rfl 34 (.tmp 7) rfl gx 0 (by first | rfl | simp [Act.eval]) V1 _ (Blk.range hbx) Tryd.underlying34 rfl IV1.out ?_) | ((with_reducible refine at_load 34 (.tmp 8) ?_); refine wpList_load_mid rfl 34 (.tmp 8) rfl gy 0 (by first | rfl | simp [Act.eval]) V2 _ (Blk.range hby) Tryd.underlying34 rfl IV2.out ?_) | ((with_reducible refine at_loadgS 66 (.tmp 11) ?_); refine wpList_load_midgS ?_ 66 (.tmp 11) rfl gp 0 (by first | rfl | simp [Act.eval]) UX _ (Blk.range hbp) Tryd.underlying66 rfl IUX.out ?_; (focus (simp [Region.wanted, yielded, Act.put]; done))) | ((with_reducible refine at_loadgS 66 (.tmp 12) ?_); refine wpList_load_midgS ?_ 66 (.tmp 12) rfl gq 0 (by first | rfl | simp [Act.eval]) VY _ (Blk.range hbq) Tryd.underlying66 rfl IVY.out ?_; (focus (simp [Region.wanted, yielded, Act.put]; done))))
          go_roundw
          case rel => exact ⟨t + 1, two a x b, two a y c, by go_num, by rw [HIX.out], by omega, hk0, hk1, by rw [← HV1.out]; exact hbx, by rw [← HV2.out]; exact hby, two_len _ _ _, two_len _ _ _, HNX.out, hBc⟩
          case measure => simp [intOf]; omega
        · rw [hB1] at q1 HBB
          cases hB2 : B2
          · rw [hB2] at q2 HBB
            have HNX := Lib.hid (HT.out (of_decide_eq_true HBB.out.1.symm) HBB.out.2.symm)
            clear HF HT HBB
            go_wp2_with (first | ((with_reducible refine at_load 34 (.tmp 7) ?_); refine wpList_load_mid rfl 34 (.tmp 7) rfl gx 0 (by first | rfl | simp [Act.eval]) V1 _ (Blk.range hbx) Tryd.underlying34 rfl IV1.out ?_) | ((with_reducible refine at_load 34 (.tmp 8) ?_); refine wpList_load_mid rfl 34 (.tmp 8) rfl gy 0 (by first | rfl | simp [Act.eval]) V2 _ (Blk.range hby) Tryd.underlying34 rfl IV2.out ?_) | ((with_reducible refine at_loadgS 66 (.tmp 11) ?_); refine wpList_load_midgS ?_ 66 (.tmp 11) rfl gp 0 (by first | rfl | simp [Act.eval]) UX _ (Blk.range hbp) Tryd.underlying66 rfl IUX.out ?_; (focus (simp [Region.wanted, yielded, Act.put]; done))) | ((with_reducible refine at_loadgS 66 (.tmp 12) ?_); refine wpList_load_midgS ?_ 66 (.tmp 12) rfl gq 0 (by first | rfl | simp [Act.eval]) VY _ (Blk.range hbq) Tryd.underlying66 rfl IVY.out ?_; (focus (simp [Region.wanted, yielded, Act.put]; done))))
            go_ret
            exact ⟨by rw [HNX.out]; rfl, hBc⟩
          · rw [hB2] at q2 HBB
            have HNX := Lib.hid (HF.out (.inr HBB.out.2.symm))
            clear HF HT HBB
            go_wp2_with (first | ((with_reducible refine at_load 34 (.tmp 7) ?_); refine wpList_load_mid rfl 34 (.tmp 7) rfl gx 0 (by first | rfl | simp [Act.eval]) V1 _ (Blk.range hbx) Tryd.underlying34 rfl IV1.out ?_) | ((with_reducible refine at_load 34 (.tmp 8) ?_); refine wpList_load_mid rfl 34 (.tmp 8) rfl gy 0 (by first | rfl | simp [Act.eval]) V2 _ (Blk.range hby) Tryd.underlying34 rfl IV2.out ?_) | ((with_reducible refine at_loadgS 66 (.tmp 11) ?_); refine wpList_load_midgS ?_ 66 (.tmp 11) rfl gp 0 (by first | rfl | simp [Act.eval]) UX _ (Blk.range hbp) Tryd.underlying66 rfl IUX.out ?_; (focus (simp [Region.wanted, yielded, Act.put]; done))) | ((with_reducible refine at_loadgS 66 (.tmp 12) ?_); refine wpList_load_midgS ?_ 66 (.tmp 12) rfl gq 0 (by first | rfl | simp [Act.eval]) VY _ (Blk.range hbq) Tryd.underlying66 rfl IVY.out ?_; (focus (simp [Region.wanted, yielded, Act.put]; done))))
            go_roundw
            case rel => exact ⟨t + 1, two a x b, two a y c, by go_num, by rw [HIX.out], by omega, hk0, hk1, by rw [← HV1.out]; exact hbx, by rw [← HV2.out]; exact hby, two_len _ _ _, two_len _ _ _, HNX.out, hBc⟩
            case measure => simp [intOf]; omega
    · have hlt' : ¬ (t : Int) < (m : Int) := by omega
      have hfin : meetB i leaf leaf P Q = false := by
        rw [hmt, List.drop_of_length_le (by omega), List.drop_of_length_le (by omega)]
        unfold meetB
        rfl
      have HFN := Lib.hid hfin
      clear hmt hfin
      go_wp2
      go_ret
      exact ⟨by rw [HFN.out]; rfl, hBc⟩
end Go.Proofs.YtnfcnjboeocnmaaDoor
