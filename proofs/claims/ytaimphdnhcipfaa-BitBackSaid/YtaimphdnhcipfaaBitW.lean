/- The walk of BitWrites, over what package bit is to answer. -/
import Derived.Test.YtaimphdnhcipfaaBitC
import Derived.Deep.RegionHeld3
namespace Go.Proofs.Ytaimphdnhcipfaa
open Go.RowKit
set_option linter.unusedVariables false
set_option linter.unusedSimpArgs false

set_option maxRecDepth 100000 in
theorem wp_cv {o : Oper} {a : Act} {W : World} {K : Act → World → Prop} {Q : Exit → Act → World → Prop} {s d : TypeId} {v u : Value} (x : Operand) (ho : o.op = .convert s d x) (hx : a.eval x = v) (h : (convert s d v).run Try.prog W = .ok u W) (hK : K (a.put o.dst u) W) : o.wp Try.prog a W K Q := by
  unfold Oper.wp execOp
  simp only [ho, hx, Sem.run_bind, h, Result.andThen_ok]
  exact hK
set_option maxRecDepth 100000 in
theorem infoO3 : (Try.prog.info? 27).map (fun i => i.zero) = some (some (.agg zerosP.toArray)) := by kernel_rfl
set_option maxRecDepth 100000 in
set_option maxHeartbeats 2000000 in
theorem bitWrites_walk {BW : World → Nat → (Nat → Prop) → List Bool → Prop} {BR : World → Nat → Nat → (Nat → Prop) → List Bool → Prop} (K : BitOk BW BR) (A : Option Addr) (m k : Nat) (P : List Op3) (w : World) (w1 : RdP w A m P ∧ m ≤ k ∧ k ≤ maxLen) : Calls Try.prog 3 #[.slice A m k] w (Ret w (.bool true)) := by
  obtain ⟨hP, hmk, hkm⟩ := w1
  unfold maxLen at hkm
  have HP := Lib.hid hP
  have HK := Lib.hid K
  clear hP K
  go_enter Try.func3, Try.ntmps3
  go_upto_region 2 with (first
    | (go_at_call 7; refine (HK.out.new _).mono ?_; rintro e' w1 ⟨p, S0, rfl, hW0, hB0, hS0⟩))
  go_wp2
  go_loopw [4, 13] (fun sv kv wr => ∃ (t : Nat) (s : ByteArray) (S : Nat → Prop) (V : List Bool), kv = .int .i64 (t : Int) ∧ sv = .string s ∧ t ≤ m ∧ t ≤ 30 ∧ s = tx V ∧ V.length ≤ 100 * t ∧ BW wr p S V ∧ (∀ i, S i → w.heap.size ≤ i) ∧ Below w.heap.size w wr) (fun _ kv _ => m - (intOf kv).toNat)
  case atStart => exact ⟨0, _, S0, [], by first | rfl | go_num, rfl, by omega, by omega, rfl, by simp, hW0, hS0, hB0⟩
  case round =>
    obtain ⟨t, s, S, V, rfl, rfl, htm, ht30, hs, hVl, hW, hSn, hBr⟩ := hrel
    obtain ⟨wo, hwo⟩ : ∃ x, x = wr := ⟨_, rfl⟩
    rw [← hwo] at hW hBr ⊢
    clear hwo hW0 hB0 hS0
    have HS := Lib.hid hs
    clear hs
    have hB := hBr
    by_cases hlt : t < m
    · have hlt' : (t : Int) < (m : Int) := by omega
      obtain ⟨bb, off, hl, rfl, hrg, hok⟩ := HP.out.at_ hB hlt
      obtain ⟨o, ho⟩ : ∃ z, z = P[t] := ⟨_, rfl⟩
      rw [← ho] at hrg hok
      clear ho
      obtain ⟨X, hX⟩ : ∃ z, z = o.cells := ⟨_, rfl⟩
      have IX : Hid ((Try.prog.info? 27).map (·.size) = some X.length) := Lib.hid (by rw [hX]; exact op3_size o)
      have LX : Hid (zerosP.length = X.length) := Lib.hid (by rw [hX]; rfl)
      have OX : Hid (∀ v ∈ X, v.oneCell' = true) := Lib.hid (by rw [hX]; exact op3_one o)
      rw [← hX] at hrg
      have HRG := Lib.hid hrg
      have n1 := hok.n1
      have m0 := hok.m0
      have m1 := hok.m1
      have HX := Lib.hid hX
      have hSL := HK.out.wlt hW
      have szB := hB.size
      clear hrg hX hok hBr
      go_upto_region 8 with (first
        | ((with_reducible refine at_load 27 (.tmp 16) ?_); refine wpList_load_mid rfl 27 (.tmp 16) rfl bb (off + t * 3) (by first | rfl | (simp [Act.eval]; done)) X _ HRG.out Try.underlying27 rfl IX.out ?_)
        | ((with_reducible refine at_alloc 27 ?_); refine wpList_allocT rfl 27 zerosP (by kernel_rfl) rfl w.heap.size w hB (Nat.le_refl _) ?_; intro g6 z6 hb6 hg6 hl6 hf6 hB; have hng : ¬ S g6 := fun h => (by have := hSL g6 h; omega); have hW := HK.out.wfrm hW hf6 (fun _ h => h.elim))
        | ((with_reducible refine at_store 27 (.tmp 6) (.tmp 17) ?_); refine wpList_store_blk rfl 27 (.tmp 6) (.tmp 17) rfl g6 zerosP X 27 rfl rfl hb6 LX.out IX.out OX.out ?_; intro s6 hk6 ho6; have hB := hB.trans (ho6.below (by omega)); have hW := HK.out.wfrm hW (Frm.only ho6 (S := fun i => i = g6) rfl) (fun i hi h => hng (hi ▸ h))))
      obtain ⟨oo, on, om⟩ := o
      have hk7 : Blk s6 g6 [.bool oo, .int .u64 (on : Int), .int .i64 om] 27 := by have := hk6; rw [HX.out] at this; exact this
      clear HX hk6 hb6 ho6 hf6
      have hk6 := hk7
      have d0 := hk6.cell 0
      have d1 := hk6.cell 1
      have d2 := hk6.cell 2
      simp only [List.length_cons, List.length_nil, List.getElem?_cons_zero, List.getElem?_cons_succ] at d0 d1 d2
      replace n1 : on < 18446744073709551616 := n1
      replace m0 : -9223372036854775808 ≤ om := m0
      replace m1 : om ≤ 9223372036854775807 := m1
      clear hk7
      by_cases h29 : 29 < t
      · have hd29 : (29 : Int) < (t : Int) := by omega
        clear hk6 d0 d1 d2
        go_upto_region 18 with fail
        have hWd := HK.out.wfrm hW (X := fun _ => False) (Frm.of_below (Below.refl _ _).drew) (fun _ h => h.elim)
        have hBd := hB.drew
        have RB : Hid (∀ W, Calls Try.prog 15 #[.string s] W (Ret W (.string ⟨(pack V).toArray⟩))) := Lib.hid fun W => by rw [HS.out]; exact zbytes_calls V (by omega) W
        refine wp_region_held_drew (S := fun _ => True) (by kernel_rfl) ?_ (fun hHeld => ?_)
        · trivial
        refine wpAnyH_take (i := 0) (v := ?_) rfl (by kernel_rfl) (by kernel_rfl) (by kernel_rfl) (fun _ _ _ h => h) (Or.inl ⟨by rfl, ?_⟩) (by assumption) ?_
        rotate_left 1
        · intro w hSw; (try dsimp only at hSw); simp only [List.getElem_toArray, List.getElem_cons_succ, List.getElem_cons_zero]; go_simp; try (with_reducible rfl)
        (try simp only [List.getElem_toArray, List.getElem_cons_succ, List.getElem_cons_zero, Act.put, List.setIfInBounds_toArray, List.set_cons_succ, List.set_cons_zero])
        refine wpAnyH_take (i := 3) (v := ?_) rfl (by kernel_rfl) (by kernel_rfl) (by kernel_rfl) (fun _ _ _ h => h) (Or.inl ⟨by rfl, ?_⟩) (by assumption) ?_
        rotate_left 1
        · intro w hSw; (try dsimp only at hSw); simp only [List.getElem_toArray, List.getElem_cons_succ, List.getElem_cons_zero]; go_simp; try (with_reducible rfl)
        (try simp only [List.getElem_toArray, List.getElem_cons_succ, List.getElem_cons_zero, Act.put, List.setIfInBounds_toArray, List.set_cons_succ, List.set_cons_zero])
        refine wpAnyH_ready (rs := [1]) (by kernel_rfl) (by simp) ?_
        refine AllReadyH.cons rfl (fun K hK => ?_) AllReadyH.nil
        (try simp only [List.getElem_toArray, List.getElem_cons_succ, List.getElem_cons_zero])
        go_simp
        go_at_call 14; refine (HK.out.bytes _ p S V hWd (by omega)).mono ?_; rintro e' x1 ⟨A8, n8, c8, rfl, hR8, _, _, hB8⟩
        (try (go_wp2_with fail))
        refine hK.out _ _ ?_ (fun hHeld => ?_)
        · trivial
        clear hK K
        (try simp only [Act.put, List.setIfInBounds_toArray, List.set_cons_succ, List.set_cons_zero])
        have hB := below_more hBd hB8
        refine wpAnyH_ready (rs := [2, 4]) (by kernel_rfl) (by simp) ?_
        refine AllReadyH.cons rfl (fun K hK => ?_) ?_
        · (try simp only [List.getElem_toArray, List.getElem_cons_succ, List.getElem_cons_zero])
          refine Eq.mpr (if_pos (by first | rfl | simp [Region.wanted, yielded, Act.put])) ?_
          refine wp_cv _ rfl (by first | rfl | (simp [Act.eval]; done)) (conv8 _ A8 n8 c8 _ hR8) ?_
          refine hK.out _ _ ?_ (fun hHeld => ?_)
          · trivial
          clear hK K
          (try simp only [Act.put, List.setIfInBounds_toArray, List.set_cons_succ, List.set_cons_zero])
          refine wpAnyH_ready (rs := [4]) (by kernel_rfl) (by simp) ?_
          refine AllReadyH.cons rfl (fun K hK => ?_) AllReadyH.nil
          (try simp only [List.getElem_toArray, List.getElem_cons_succ, List.getElem_cons_zero])
          go_simp
          go_at_call 15; refine (RB.out _).mono ?_; rintro e' x2 ⟨rfl, hB9⟩
          (try (go_wp2_with fail))
          refine hK.out _ _ ?_ (fun hHeld => ?_)
          · trivial
          clear hK K
          (try simp only [Act.put, List.setIfInBounds_toArray, List.set_cons_succ, List.set_cons_zero])
          have hB := below_more hB hB9
          have hR8 := hR8.below hB9
          refine wpAnyH_take (i := 5) (v := .bool true) rfl (by kernel_rfl) (by kernel_rfl) (by kernel_rfl) (fun _ _ _ h => h) (Or.inl ⟨by rfl, ?_⟩) (by assumption) ?_
          · intro w hSw; (try dsimp only at hSw); simp only [List.getElem_toArray, List.getElem_cons_succ, List.getElem_cons_zero]; first | (go_simp; done) | (simp [execOp, Act.eval]; done)
          (try simp only [List.getElem_toArray, List.getElem_cons_succ, List.getElem_cons_zero, Act.put, List.setIfInBounds_toArray, List.set_cons_succ, List.set_cons_zero])
          refine wpAnyH_take (i := 6) (v := ?_) rfl (by kernel_rfl) (by kernel_rfl) (by kernel_rfl) (fun _ _ _ h => h) (Or.inl ⟨by rfl, ?_⟩) (by assumption) ?_
          rotate_left 1
          · intro w hSw; (try dsimp only at hSw); simp only [List.getElem_toArray, List.getElem_cons_succ, List.getElem_cons_zero]; go_simp; try (with_reducible rfl)
          (try simp only [List.getElem_toArray, List.getElem_cons_succ, List.getElem_cons_zero, Act.put, List.setIfInBounds_toArray, List.set_cons_succ, List.set_cons_zero])
          refine wpAnyH_ready (rs := [7]) (by kernel_rfl) (by simp) ?_
          refine AllReadyH.cons rfl (fun K hK => ?_) AllReadyH.nil
          (try simp only [List.getElem_toArray, List.getElem_cons_succ, List.getElem_cons_zero])
          go_simp
          go_at_call 16; refine (awake11_calls HK.out _).mono ?_; rintro e' x3 ⟨rfl, hBA⟩
          (try (go_wp2_with fail))
          refine hK.out _ _ ?_ (fun hHeld => ?_)
          · trivial
          clear hK K
          (try simp only [Act.put, List.setIfInBounds_toArray, List.set_cons_succ, List.set_cons_zero])
          refine wpAnyH_take (i := 8) (v := ?_) rfl (by kernel_rfl) (by kernel_rfl) (by kernel_rfl) (fun _ _ _ h => h) (Or.inl ⟨by rfl, ?_⟩) (by assumption) ?_
          rotate_left 1
          · intro w hSw; (try dsimp only at hSw); simp only [List.getElem_toArray, List.getElem_cons_succ, List.getElem_cons_zero]; go_simp; try (with_reducible rfl)
          (try simp only [List.getElem_toArray, List.getElem_cons_succ, List.getElem_cons_zero, Act.put, List.setIfInBounds_toArray, List.set_cons_succ, List.set_cons_zero])
          refine wpAnyH_take (i := 9) (v := ?_) rfl (by kernel_rfl) (by kernel_rfl) (by kernel_rfl) (fun _ _ _ h => h) (Or.inl ⟨by rfl, ?_⟩) (by assumption) ?_
          rotate_left 1
          · intro w hSw; (try dsimp only at hSw); simp only [List.getElem_toArray, List.getElem_cons_succ, List.getElem_cons_zero]; go_simp; try (with_reducible rfl)
          (try simp only [List.getElem_toArray, List.getElem_cons_succ, List.getElem_cons_zero, Act.put, List.setIfInBounds_toArray, List.set_cons_succ, List.set_cons_zero])
          refine wpAnyH_done (by kernel_rfl) ?_ _
          go_wp2
          go_ret
          exact ⟨rfl, below_more hB hBA⟩
        refine AllReadyH.cons rfl (fun K hK => ?_) AllReadyH.nil
        (try simp only [List.getElem_toArray, List.getElem_cons_succ, List.getElem_cons_zero])
        go_simp
        go_at_call 15; refine (RB.out _).mono ?_; rintro e' x2 ⟨rfl, hB9⟩
        (try (go_wp2_with fail))
        refine hK.out _ _ ?_ (fun hHeld => ?_)
        · trivial
        clear hK K
        (try simp only [Act.put, List.setIfInBounds_toArray, List.set_cons_succ, List.set_cons_zero])
        have hB := below_more hB hB9
        have hR8 := hR8.below hB9
        refine wpAnyH_ready (rs := [2]) (by kernel_rfl) (by simp) ?_
        refine AllReadyH.cons rfl (fun K hK => ?_) AllReadyH.nil
        (try simp only [List.getElem_toArray, List.getElem_cons_succ, List.getElem_cons_zero])
        refine Eq.mpr (if_pos (by first | rfl | simp [Region.wanted, yielded, Act.put])) ?_
        refine wp_cv _ rfl (by first | rfl | (simp [Act.eval]; done)) (conv8 _ A8 n8 c8 _ hR8) ?_
        refine hK.out _ _ ?_ (fun hHeld => ?_)
        · trivial
        clear hK K
        (try simp only [Act.put, List.setIfInBounds_toArray, List.set_cons_succ, List.set_cons_zero])
        refine wpAnyH_take (i := 5) (v := .bool true) rfl (by kernel_rfl) (by kernel_rfl) (by kernel_rfl) (fun _ _ _ h => h) (Or.inl ⟨by rfl, ?_⟩) (by assumption) ?_
        · intro w hSw; (try dsimp only at hSw); simp only [List.getElem_toArray, List.getElem_cons_succ, List.getElem_cons_zero]; first | (go_simp; done) | (simp [execOp, Act.eval]; done)
        (try simp only [List.getElem_toArray, List.getElem_cons_succ, List.getElem_cons_zero, Act.put, List.setIfInBounds_toArray, List.set_cons_succ, List.set_cons_zero])
        refine wpAnyH_take (i := 6) (v := ?_) rfl (by kernel_rfl) (by kernel_rfl) (by kernel_rfl) (fun _ _ _ h => h) (Or.inl ⟨by rfl, ?_⟩) (by assumption) ?_
        rotate_left 1
        · intro w hSw; (try dsimp only at hSw); simp only [List.getElem_toArray, List.getElem_cons_succ, List.getElem_cons_zero]; go_simp; try (with_reducible rfl)
        (try simp only [List.getElem_toArray, List.getElem_cons_succ, List.getElem_cons_zero, Act.put, List.setIfInBounds_toArray, List.set_cons_succ, List.set_cons_zero])
        refine wpAnyH_ready (rs := [7]) (by kernel_rfl) (by simp) ?_
        refine AllReadyH.cons rfl (fun K hK => ?_) AllReadyH.nil
        (try simp only [List.getElem_toArray, List.getElem_cons_succ, List.getElem_cons_zero])
        go_simp
        go_at_call 16; refine (awake11_calls HK.out _).mono ?_; rintro e' x3 ⟨rfl, hBA⟩
        (try (go_wp2_with fail))
        refine hK.out _ _ ?_ (fun hHeld => ?_)
        · trivial
        clear hK K
        (try simp only [Act.put, List.setIfInBounds_toArray, List.set_cons_succ, List.set_cons_zero])
        refine wpAnyH_take (i := 8) (v := ?_) rfl (by kernel_rfl) (by kernel_rfl) (by kernel_rfl) (fun _ _ _ h => h) (Or.inl ⟨by rfl, ?_⟩) (by assumption) ?_
        rotate_left 1
        · intro w hSw; (try dsimp only at hSw); simp only [List.getElem_toArray, List.getElem_cons_succ, List.getElem_cons_zero]; go_simp; try (with_reducible rfl)
        (try simp only [List.getElem_toArray, List.getElem_cons_succ, List.getElem_cons_zero, Act.put, List.setIfInBounds_toArray, List.set_cons_succ, List.set_cons_zero])
        refine wpAnyH_take (i := 9) (v := ?_) rfl (by kernel_rfl) (by kernel_rfl) (by kernel_rfl) (fun _ _ _ h => h) (Or.inl ⟨by rfl, ?_⟩) (by assumption) ?_
        rotate_left 1
        · intro w hSw; (try dsimp only at hSw); simp only [List.getElem_toArray, List.getElem_cons_succ, List.getElem_cons_zero]; go_simp; try (with_reducible rfl)
        (try simp only [List.getElem_toArray, List.getElem_cons_succ, List.getElem_cons_zero, Act.put, List.setIfInBounds_toArray, List.set_cons_succ, List.set_cons_zero])
        refine wpAnyH_done (by kernel_rfl) ?_ _
        go_wp2
        go_ret
        exact ⟨rfl, below_more hB hBA⟩
      · have hd29 : ¬ (29 : Int) < (t : Int) := by omega
        cases oo
        · skip
          obtain ⟨Y, hY⟩ : ∃ Y, Y = bN on (hld om 64) := ⟨_, rfl⟩
          obtain ⟨V2, hV2⟩ : ∃ z, z = V ++ Y := ⟨_, rfl⟩
          obtain ⟨s2, hs2⟩ : ∃ z, z = tx V2 := ⟨_, rfl⟩
          obtain ⟨y, hy⟩ : ∃ z, z = tx Y := ⟨_, rfl⟩
          have hYl : Y.length ≤ 100 := by rw [hY]; rw [bN_len]; have := hld_le om 64; omega
          have hV2l : V2.length ≤ 100 * (t + 1) := by rw [hV2, List.length_append]; omega
          have HVL := Lib.hid hV2l
          have HS2 := Lib.hid hs2
          obtain ⟨N2, hN2⟩ : ∃ z, z = V2.length := ⟨_, rfl⟩
          have hsz2 : s2.size = N2 := by rw [hs2, tx_size, hN2]
          have CL : Hid (∀ (W : World) S', BW W p S' V2 → Calls Try.prog 13 #[.pointer (some ⟨p, 0, none⟩)] W (Ret W (.int .i64 (N2 : Int)))) := Lib.hid fun W S' h => by rw [hN2]; exact HK.out.len W p S' V2 h (by omega)
          have hadd : ∀ W, (Op.stringOp .add s y).run Try.prog W = .ok (.string s2) W := fun W => by
            rw [hs2, hV2, HS.out, hy]
            exact tx_add V Y (by omega) (by omega) W
          have CP : Hid (∀ (W : World), BW W p S V → Calls Try.prog 10 #[.pointer (some ⟨p, 0, none⟩), .int .u64 (on : Int), .int .i64 om] W fun e w' => ∃ S', e = .returned (.tuple #[]) ∧ BW w' p S' V2 ∧ Frm S W w' ∧ ∀ i, S' i → S i ∨ W.heap.size ≤ i) := Lib.hid fun W h => by
            have := HK.out.put W p S V on om h (by omega) n1 m0 m1
            rw [← hY, ← hV2] at this
            exact this
          obtain ⟨wd, hwd⟩ : ∃ z, z = hld om 64 := ⟨_, rfl⟩
          have CH : Hid (∀ W, Calls Try.prog 12 #[.int .i64 om, .int .i64 0, .int .i64 64] W (Ret W (.int .i64 (wd : Int)))) := Lib.hid fun W => by rw [hwd]; exact bheld_calls om 64 (by omega) W
          have CBI : Hid (∀ W, Calls Try.prog 11 #[.int .u64 (on : Int), .int .i64 (wd : Int)] W (Ret W (.string y))) := Lib.hid fun W => by rw [hy, hY, hwd]; exact zbits_calls on _ n1 (hld_le _ _) W
          clear hY hV2 hs2 hy hYl hV2l hN2 hwd
          go_upto_region 14 with (first
            | (go_at_call 10; refine (CP.out _ hW).mono ?_; rintro e' x5 ⟨S2, rfl, hW, hF5, hS5⟩; have hS2 : ∀ i, S2 i → w.heap.size ≤ i := fun i hi => (hS5 i hi).elim (hSn i) (fun h => Nat.le_trans hB.size h); have hB := below_frmB hB hF5 hB.size hSn; have hk6 := hF5.blk hk6 hng))
          have K14 : Hid (∀ W : World, Blk W g6 [.bool false, .int .u64 (on : Int), .int .i64 om] 27 → W.cell? ⟨g6, 1, none⟩ = some (.int .u64 (on : Int)) ∧ W.cell? ⟨g6, 2, none⟩ = some (.int .i64 om)) := Lib.hid fun W h => ⟨h.cell 1, h.cell 2⟩
          have hWd := HK.out.wfrm hW (X := fun _ => False) (Frm.of_below (Below.refl _ _).drew) (fun _ h => h.elim)
          have hBd := hB.drew
          have hkd := hk6.drew
          refine wp_region_held_drew (S := fun W => W.cell? ⟨g6, 1, none⟩ = some (.int .u64 (on : Int)) ∧ W.cell? ⟨g6, 2, none⟩ = some (.int .i64 om)) (by kernel_rfl) ?_ (fun hHeld => ?_)
          · exact K14.out _ (by first | exact hkd | exact blk_up hkd hB5)
          refine wpAnyH_take (i := 0) (v := ?_) rfl (by kernel_rfl) (by kernel_rfl) (by kernel_rfl) (fun _ _ _ h => h) (Or.inl ⟨by rfl, ?_⟩) (by assumption) ?_
          rotate_left 1
          · intro w hSw; (try dsimp only at hSw); simp only [List.getElem_toArray, List.getElem_cons_succ, List.getElem_cons_zero]; go_simp; try (with_reducible rfl)
          (try simp only [List.getElem_toArray, List.getElem_cons_succ, List.getElem_cons_zero, Act.put, List.setIfInBounds_toArray, List.set_cons_succ, List.set_cons_zero])
          refine wpAnyH_take (i := 1) (v := ?_) rfl (by kernel_rfl) (by kernel_rfl) (by kernel_rfl) (fun _ _ _ h => h) (Or.inl ⟨by rfl, ?_⟩) (by assumption) ?_
          rotate_left 1
          · intro w hSw; (try dsimp only at hSw); simp only [List.getElem_toArray, List.getElem_cons_succ, List.getElem_cons_zero]; go_simp; try (with_reducible rfl)
          (try simp only [List.getElem_toArray, List.getElem_cons_succ, List.getElem_cons_zero, Act.put, List.setIfInBounds_toArray, List.set_cons_succ, List.set_cons_zero])
          refine wpAnyH_take (i := 2) (v := .int .u64 (on : Int)) rfl (by kernel_rfl) (by kernel_rfl) (by kernel_rfl) (fun _ _ _ h => h) (Or.inl ⟨by rfl, ?_⟩) (by assumption) ?_
          · intro w hSw; (try dsimp only at hSw); simp only [List.getElem_toArray, List.getElem_cons_succ, List.getElem_cons_zero]; first | (go_simp; done) | (simp [execOp, Act.eval, hSw.1]; done)
          (try simp only [List.getElem_toArray, List.getElem_cons_succ, List.getElem_cons_zero, Act.put, List.setIfInBounds_toArray, List.set_cons_succ, List.set_cons_zero])
          refine wpAnyH_take (i := 3) (v := ?_) rfl (by kernel_rfl) (by kernel_rfl) (by kernel_rfl) (fun _ _ _ h => h) (Or.inl ⟨by rfl, ?_⟩) (by assumption) ?_
          rotate_left 1
          · intro w hSw; (try dsimp only at hSw); simp only [List.getElem_toArray, List.getElem_cons_succ, List.getElem_cons_zero]; go_simp; try (with_reducible rfl)
          (try simp only [List.getElem_toArray, List.getElem_cons_succ, List.getElem_cons_zero, Act.put, List.setIfInBounds_toArray, List.set_cons_succ, List.set_cons_zero])
          refine wpAnyH_take (i := 4) (v := .int .i64 om) rfl (by kernel_rfl) (by kernel_rfl) (by kernel_rfl) (fun _ _ _ h => h) (Or.inl ⟨by rfl, ?_⟩) (by assumption) ?_
          · intro w hSw; (try dsimp only at hSw); simp only [List.getElem_toArray, List.getElem_cons_succ, List.getElem_cons_zero]; first | (go_simp; done) | (simp [execOp, Act.eval, hSw.2]; done)
          (try simp only [List.getElem_toArray, List.getElem_cons_succ, List.getElem_cons_zero, Act.put, List.setIfInBounds_toArray, List.set_cons_succ, List.set_cons_zero])
          refine wpAnyH_ready (rs := [5]) (by kernel_rfl) (by simp) ?_
          refine AllReadyH.cons rfl (fun K hK => ?_) AllReadyH.nil
          (try simp only [List.getElem_toArray, List.getElem_cons_succ, List.getElem_cons_zero])
          go_simp
          go_at_call 12; refine (CH.out _).mono ?_; rintro e' x5 ⟨rfl, hB5⟩
          (try (go_wp2_with fail))
          refine hK.out _ _ ?_ (fun hHeld => ?_)
          · exact K14.out _ (by first | exact hkd | exact blk_up hkd hB5)
          clear hK K
          (try simp only [Act.put, List.setIfInBounds_toArray, List.set_cons_succ, List.set_cons_zero])
          have hB := below_more hBd hB5
          have hk6 := blk_up hkd hB5
          have hW := HK.out.wfrm hWd (X := fun _ => False) (Frm.of_below hB5) (fun _ h => h.elim)
          refine wpAnyH_ready (rs := [6]) (by kernel_rfl) (by simp) ?_
          refine AllReadyH.cons rfl (fun K hK => ?_) AllReadyH.nil
          (try simp only [List.getElem_toArray, List.getElem_cons_succ, List.getElem_cons_zero])
          go_simp
          go_at_call 11; refine (CBI.out _).mono ?_; rintro e' x6 ⟨rfl, hB6⟩
          (try (go_wp2_with fail))
          refine hK.out _ _ ?_ (fun hHeld => ?_)
          · exact K14.out _ (blk_up hk6 hB6)
          clear hK K
          (try simp only [Act.put, List.setIfInBounds_toArray, List.set_cons_succ, List.set_cons_zero])
          have hB := below_more hB hB6
          have hW := HK.out.wfrm hW (X := fun _ => False) (Frm.of_below hB6) (fun _ h => h.elim)
          refine wpAnyH_take (i := 7) (v := ?_) rfl (by kernel_rfl) (by kernel_rfl) (by kernel_rfl) (fun _ _ _ h => h) (Or.inl ⟨by rfl, ?_⟩) (by assumption) ?_
          rotate_left 1
          · intro w hSw; (try dsimp only at hSw); simp only [List.getElem_toArray, List.getElem_cons_succ, List.getElem_cons_zero]; go_simp; try (with_reducible rfl)
          (try simp only [List.getElem_toArray, List.getElem_cons_succ, List.getElem_cons_zero, Act.put, List.setIfInBounds_toArray, List.set_cons_succ, List.set_cons_zero])
          refine wpAnyH_take (i := 8) (v := ?_) rfl (by kernel_rfl) (by kernel_rfl) (by kernel_rfl) (fun _ _ _ h => h) (Or.inl ⟨by rfl, ?_⟩) (by assumption) ?_
          rotate_left 1
          · intro w hSw; (try dsimp only at hSw); simp only [List.getElem_toArray, List.getElem_cons_succ, List.getElem_cons_zero]; go_simp; try (with_reducible rfl)
          (try simp only [List.getElem_toArray, List.getElem_cons_succ, List.getElem_cons_zero, Act.put, List.setIfInBounds_toArray, List.set_cons_succ, List.set_cons_zero])
          refine wpAnyH_done (by kernel_rfl) ?_ _
          go_wp2_with (first
            | (go_at_call 13; refine (CL.out _ _ hW).mono ?_; rintro e' x9 ⟨rfl, hB9⟩))
          go_roundw
          case rel => exact ⟨t + 1, s2, S2, V2, by go_num, rfl, by omega, by omega, HS2.out, HVL.out, HK.out.wfrm hW (X := fun _ => False) (Frm.of_below hB9) (fun _ h => h.elim), hS2, below_more hB hB9⟩
          case measure => simp [intOf]; omega
        · by_cases hneg : om < 0
          · have h1 : om < 100 := by omega
            have h2 : om ≤ 100 := by omega
            have h3 : ¬ 100 < om := by omega
            have h4 : ¬ 100 ≤ om := by omega
            have h5 : ¬ 0 < om := by omega
            have h6 : om ≤ 0 := by omega
            have h7 : ¬ 0 ≤ om := by omega
            have hhl : hld om 65536 = 0 := by unfold hld; rw [if_pos hneg]
            obtain ⟨Y, hY⟩ : ∃ Y, Y = List.replicate 0 true := ⟨_, rfl⟩
            obtain ⟨V2, hV2⟩ : ∃ z, z = V ++ Y := ⟨_, rfl⟩
            obtain ⟨s2, hs2⟩ : ∃ z, z = tx V2 := ⟨_, rfl⟩
            obtain ⟨y, hy⟩ : ∃ z, z = tx Y := ⟨_, rfl⟩
            have hYl : Y.length ≤ 100 := by rw [hY]; rw [List.length_replicate]; omega
            have hV2l : V2.length ≤ 100 * (t + 1) := by rw [hV2, List.length_append]; omega
            have HVL := Lib.hid hV2l
            have HS2 := Lib.hid hs2
            obtain ⟨N2, hN2⟩ : ∃ z, z = V2.length := ⟨_, rfl⟩
            have hsz2 : s2.size = N2 := by rw [hs2, tx_size, hN2]
            have CL : Hid (∀ (W : World) S', BW W p S' V2 → Calls Try.prog 13 #[.pointer (some ⟨p, 0, none⟩)] W (Ret W (.int .i64 (N2 : Int)))) := Lib.hid fun W S' h => by rw [hN2]; exact HK.out.len W p S' V2 h (by omega)
            have hadd : ∀ W, (Op.stringOp .add s y).run Try.prog W = .ok (.string s2) W := fun W => by
              rw [hs2, hV2, HS.out, hy]
              exact tx_add V Y (by omega) (by omega) W
            have CO : Hid (∀ (W : World), BW W p S V → Calls Try.prog 8 #[.pointer (some ⟨p, 0, none⟩), .int .i64 om] W fun e w' => ∃ S', e = .returned (.tuple #[]) ∧ BW w' p S' V2 ∧ Frm S W w' ∧ ∀ i, S' i → S i ∨ W.heap.size ≤ i) := Lib.hid fun W h => by
              have := HK.out.ones W p S V (om) h (by omega) (by omega) (by omega)
              rw [hhl, ← hY, ← hV2] at this
              exact this
            have CR : Hid (∀ W, Calls Try.prog 9 #[.int .i64 0] W (Ret W (.string y))) := Lib.hid fun W => by rw [hy, hY]; exact zones_calls 0 (by omega) W
            clear hY hV2 hs2 hy hYl hV2l hN2 hhl
            go_wp2_with (first
              | (go_at_call 8; refine (CO.out _ hW).mono ?_; rintro e' x5 ⟨S2, rfl, hW, hF5, hS5⟩; have hS2 : ∀ i, S2 i → w.heap.size ≤ i := fun i hi => (hS5 i hi).elim (hSn i) (fun h => Nat.le_trans hB.size h); have hB := below_frmB hB hF5 hB.size hSn)
              | (go_at_call 9; refine (CR.out _).mono ?_; rintro e' x6 ⟨rfl, hB6⟩; have hB := below_more hB hB6; have hW := HK.out.wfrm hW (X := fun _ => False) (Frm.of_below hB6) (fun _ h => h.elim))
              | (go_at_call 13; refine (CL.out _ _ hW).mono ?_; rintro e' x9 ⟨rfl, hB9⟩))
            go_roundw
            case rel => exact ⟨t + 1, s2, S2, V2, by go_num, rfl, by omega, by omega, HS2.out, HVL.out, HK.out.wfrm hW (X := fun _ => False) (Frm.of_below hB9) (fun _ h => h.elim), hS2, below_more hB hB9⟩
            case measure => simp [intOf]; omega
          · by_cases hbig : 100 < om
            · have h1 : ¬ om < 100 := by omega
              have h2 : ¬ om ≤ 100 := by omega
              have h4 : 100 ≤ om := by omega
              have hhl : hld 100 65536 = 100 := by decide
              obtain ⟨Y, hY⟩ : ∃ Y, Y = List.replicate 100 true := ⟨_, rfl⟩
              obtain ⟨V2, hV2⟩ : ∃ z, z = V ++ Y := ⟨_, rfl⟩
              obtain ⟨s2, hs2⟩ : ∃ z, z = tx V2 := ⟨_, rfl⟩
              obtain ⟨y, hy⟩ : ∃ z, z = tx Y := ⟨_, rfl⟩
              have hYl : Y.length ≤ 100 := by rw [hY]; rw [List.length_replicate]; omega
              have hV2l : V2.length ≤ 100 * (t + 1) := by rw [hV2, List.length_append]; omega
              have HVL := Lib.hid hV2l
              have HS2 := Lib.hid hs2
              obtain ⟨N2, hN2⟩ : ∃ z, z = V2.length := ⟨_, rfl⟩
              have hsz2 : s2.size = N2 := by rw [hs2, tx_size, hN2]
              have CL : Hid (∀ (W : World) S', BW W p S' V2 → Calls Try.prog 13 #[.pointer (some ⟨p, 0, none⟩)] W (Ret W (.int .i64 (N2 : Int)))) := Lib.hid fun W S' h => by rw [hN2]; exact HK.out.len W p S' V2 h (by omega)
              have hadd : ∀ W, (Op.stringOp .add s y).run Try.prog W = .ok (.string s2) W := fun W => by
                rw [hs2, hV2, HS.out, hy]
                exact tx_add V Y (by omega) (by omega) W
              have CO : Hid (∀ (W : World), BW W p S V → Calls Try.prog 8 #[.pointer (some ⟨p, 0, none⟩), .int .i64 100] W fun e w' => ∃ S', e = .returned (.tuple #[]) ∧ BW w' p S' V2 ∧ Frm S W w' ∧ ∀ i, S' i → S i ∨ W.heap.size ≤ i) := Lib.hid fun W h => by
                have := HK.out.ones W p S V (100) h (by omega) (by omega) (by omega)
                rw [hhl, ← hY, ← hV2] at this
                exact this
              have CR : Hid (∀ W, Calls Try.prog 9 #[.int .i64 100] W (Ret W (.string y))) := Lib.hid fun W => by rw [hy, hY]; exact zones_calls 100 (by omega) W
              clear hY hV2 hs2 hy hYl hV2l hN2 hhl
              go_wp2_with (first
                | (go_at_call 8; refine (CO.out _ hW).mono ?_; rintro e' x5 ⟨S2, rfl, hW, hF5, hS5⟩; have hS2 : ∀ i, S2 i → w.heap.size ≤ i := fun i hi => (hS5 i hi).elim (hSn i) (fun h => Nat.le_trans hB.size h); have hB := below_frmB hB hF5 hB.size hSn)
                | (go_at_call 9; refine (CR.out _).mono ?_; rintro e' x6 ⟨rfl, hB6⟩; have hB := below_more hB hB6; have hW := HK.out.wfrm hW (X := fun _ => False) (Frm.of_below hB6) (fun _ h => h.elim))
                | (go_at_call 13; refine (CL.out _ _ hW).mono ?_; rintro e' x9 ⟨rfl, hB9⟩))
              go_roundw
              case rel => exact ⟨t + 1, s2, S2, V2, by go_num, rfl, by omega, by omega, HS2.out, HVL.out, HK.out.wfrm hW (X := fun _ => False) (Frm.of_below hB9) (fun _ h => h.elim), hS2, below_more hB hB9⟩
              case measure => simp [intOf]; omega
            · obtain ⟨nn, hnn⟩ : ∃ z : Nat, om = (z : Int) := ⟨om.toNat, by omega⟩
              subst hnn
              have h2 : (nn : Int) ≤ 100 := by omega
              have h20 : nn ≤ 100 := by omega
              have h5 : ¬ (nn : Int) < 0 := by omega
              have h7 : 0 ≤ (nn : Int) := by omega
              have hhl : hld (nn : Int) 65536 = nn := by unfold hld; rw [if_neg hneg, if_neg (by omega)]; omega
              obtain ⟨Y, hY⟩ : ∃ Y, Y = List.replicate nn true := ⟨_, rfl⟩
              obtain ⟨V2, hV2⟩ : ∃ z, z = V ++ Y := ⟨_, rfl⟩
              obtain ⟨s2, hs2⟩ : ∃ z, z = tx V2 := ⟨_, rfl⟩
              obtain ⟨y, hy⟩ : ∃ z, z = tx Y := ⟨_, rfl⟩
              have hYl : Y.length ≤ 100 := by rw [hY]; rw [List.length_replicate]; omega
              have hV2l : V2.length ≤ 100 * (t + 1) := by rw [hV2, List.length_append]; omega
              have HVL := Lib.hid hV2l
              have HS2 := Lib.hid hs2
              obtain ⟨N2, hN2⟩ : ∃ z, z = V2.length := ⟨_, rfl⟩
              have hsz2 : s2.size = N2 := by rw [hs2, tx_size, hN2]
              have CL : Hid (∀ (W : World) S', BW W p S' V2 → Calls Try.prog 13 #[.pointer (some ⟨p, 0, none⟩)] W (Ret W (.int .i64 (N2 : Int)))) := Lib.hid fun W S' h => by rw [hN2]; exact HK.out.len W p S' V2 h (by omega)
              have hadd : ∀ W, (Op.stringOp .add s y).run Try.prog W = .ok (.string s2) W := fun W => by
                rw [hs2, hV2, HS.out, hy]
                exact tx_add V Y (by omega) (by omega) W
              have CO : Hid (∀ (W : World), BW W p S V → Calls Try.prog 8 #[.pointer (some ⟨p, 0, none⟩), .int .i64 (nn : Int)] W fun e w' => ∃ S', e = .returned (.tuple #[]) ∧ BW w' p S' V2 ∧ Frm S W w' ∧ ∀ i, S' i → S i ∨ W.heap.size ≤ i) := Lib.hid fun W h => by
                have := HK.out.ones W p S V ((nn : Int)) h (by omega) (by omega) (by omega)
                rw [hhl, ← hY, ← hV2] at this
                exact this
              have CR : Hid (∀ W, Calls Try.prog 9 #[.int .i64 (nn : Int)] W (Ret W (.string y))) := Lib.hid fun W => by rw [hy, hY]; exact zones_calls nn (by omega) W
              clear hY hV2 hs2 hy hYl hV2l hN2 hhl
              go_wp2_with (first
                | (go_at_call 8; refine (CO.out _ hW).mono ?_; rintro e' x5 ⟨S2, rfl, hW, hF5, hS5⟩; have hS2 : ∀ i, S2 i → w.heap.size ≤ i := fun i hi => (hS5 i hi).elim (hSn i) (fun h => Nat.le_trans hB.size h); have hB := below_frmB hB hF5 hB.size hSn)
                | (go_at_call 9; refine (CR.out _).mono ?_; rintro e' x6 ⟨rfl, hB6⟩; have hB := below_more hB hB6; have hW := HK.out.wfrm hW (X := fun _ => False) (Frm.of_below hB6) (fun _ h => h.elim))
                | (go_at_call 13; refine (CL.out _ _ hW).mono ?_; rintro e' x9 ⟨rfl, hB9⟩))
              go_roundw
              case rel => exact ⟨t + 1, s2, S2, V2, by go_num, rfl, by omega, by omega, HS2.out, HVL.out, HK.out.wfrm hW (X := fun _ => False) (Frm.of_below hB9) (fun _ h => h.elim), hS2, below_more hB hB9⟩
              case measure => simp [intOf]; omega
    · have hlt' : ¬ (t : Int) < (m : Int) := by omega
      go_upto_region 18 with fail
      have hWd := HK.out.wfrm hW (X := fun _ => False) (Frm.of_below (Below.refl _ _).drew) (fun _ h => h.elim)
      have hBd := hB.drew
      have RB : Hid (∀ W, Calls Try.prog 15 #[.string s] W (Ret W (.string ⟨(pack V).toArray⟩))) := Lib.hid fun W => by rw [HS.out]; exact zbytes_calls V (by omega) W
      refine wp_region_held_drew (S := fun _ => True) (by kernel_rfl) ?_ (fun hHeld => ?_)
      · trivial
      refine wpAnyH_take (i := 0) (v := ?_) rfl (by kernel_rfl) (by kernel_rfl) (by kernel_rfl) (fun _ _ _ h => h) (Or.inl ⟨by rfl, ?_⟩) (by assumption) ?_
      rotate_left 1
      · intro w hSw; (try dsimp only at hSw); simp only [List.getElem_toArray, List.getElem_cons_succ, List.getElem_cons_zero]; go_simp; try (with_reducible rfl)
      (try simp only [List.getElem_toArray, List.getElem_cons_succ, List.getElem_cons_zero, Act.put, List.setIfInBounds_toArray, List.set_cons_succ, List.set_cons_zero])
      refine wpAnyH_take (i := 3) (v := ?_) rfl (by kernel_rfl) (by kernel_rfl) (by kernel_rfl) (fun _ _ _ h => h) (Or.inl ⟨by rfl, ?_⟩) (by assumption) ?_
      rotate_left 1
      · intro w hSw; (try dsimp only at hSw); simp only [List.getElem_toArray, List.getElem_cons_succ, List.getElem_cons_zero]; go_simp; try (with_reducible rfl)
      (try simp only [List.getElem_toArray, List.getElem_cons_succ, List.getElem_cons_zero, Act.put, List.setIfInBounds_toArray, List.set_cons_succ, List.set_cons_zero])
      refine wpAnyH_ready (rs := [1]) (by kernel_rfl) (by simp) ?_
      refine AllReadyH.cons rfl (fun K hK => ?_) AllReadyH.nil
      (try simp only [List.getElem_toArray, List.getElem_cons_succ, List.getElem_cons_zero])
      go_simp
      go_at_call 14; refine (HK.out.bytes _ p S V hWd (by omega)).mono ?_; rintro e' x1 ⟨A8, n8, c8, rfl, hR8, _, _, hB8⟩
      (try (go_wp2_with fail))
      refine hK.out _ _ ?_ (fun hHeld => ?_)
      · trivial
      clear hK K
      (try simp only [Act.put, List.setIfInBounds_toArray, List.set_cons_succ, List.set_cons_zero])
      have hB := below_more hBd hB8
      refine wpAnyH_ready (rs := [2, 4]) (by kernel_rfl) (by simp) ?_
      refine AllReadyH.cons rfl (fun K hK => ?_) ?_
      · (try simp only [List.getElem_toArray, List.getElem_cons_succ, List.getElem_cons_zero])
        refine Eq.mpr (if_pos (by first | rfl | simp [Region.wanted, yielded, Act.put])) ?_
        refine wp_cv _ rfl (by first | rfl | (simp [Act.eval]; done)) (conv8 _ A8 n8 c8 _ hR8) ?_
        refine hK.out _ _ ?_ (fun hHeld => ?_)
        · trivial
        clear hK K
        (try simp only [Act.put, List.setIfInBounds_toArray, List.set_cons_succ, List.set_cons_zero])
        refine wpAnyH_ready (rs := [4]) (by kernel_rfl) (by simp) ?_
        refine AllReadyH.cons rfl (fun K hK => ?_) AllReadyH.nil
        (try simp only [List.getElem_toArray, List.getElem_cons_succ, List.getElem_cons_zero])
        go_simp
        go_at_call 15; refine (RB.out _).mono ?_; rintro e' x2 ⟨rfl, hB9⟩
        (try (go_wp2_with fail))
        refine hK.out _ _ ?_ (fun hHeld => ?_)
        · trivial
        clear hK K
        (try simp only [Act.put, List.setIfInBounds_toArray, List.set_cons_succ, List.set_cons_zero])
        have hB := below_more hB hB9
        have hR8 := hR8.below hB9
        refine wpAnyH_take (i := 5) (v := .bool true) rfl (by kernel_rfl) (by kernel_rfl) (by kernel_rfl) (fun _ _ _ h => h) (Or.inl ⟨by rfl, ?_⟩) (by assumption) ?_
        · intro w hSw; (try dsimp only at hSw); simp only [List.getElem_toArray, List.getElem_cons_succ, List.getElem_cons_zero]; first | (go_simp; done) | (simp [execOp, Act.eval]; done)
        (try simp only [List.getElem_toArray, List.getElem_cons_succ, List.getElem_cons_zero, Act.put, List.setIfInBounds_toArray, List.set_cons_succ, List.set_cons_zero])
        refine wpAnyH_take (i := 6) (v := ?_) rfl (by kernel_rfl) (by kernel_rfl) (by kernel_rfl) (fun _ _ _ h => h) (Or.inl ⟨by rfl, ?_⟩) (by assumption) ?_
        rotate_left 1
        · intro w hSw; (try dsimp only at hSw); simp only [List.getElem_toArray, List.getElem_cons_succ, List.getElem_cons_zero]; go_simp; try (with_reducible rfl)
        (try simp only [List.getElem_toArray, List.getElem_cons_succ, List.getElem_cons_zero, Act.put, List.setIfInBounds_toArray, List.set_cons_succ, List.set_cons_zero])
        refine wpAnyH_ready (rs := [7]) (by kernel_rfl) (by simp) ?_
        refine AllReadyH.cons rfl (fun K hK => ?_) AllReadyH.nil
        (try simp only [List.getElem_toArray, List.getElem_cons_succ, List.getElem_cons_zero])
        go_simp
        go_at_call 16; refine (awake11_calls HK.out _).mono ?_; rintro e' x3 ⟨rfl, hBA⟩
        (try (go_wp2_with fail))
        refine hK.out _ _ ?_ (fun hHeld => ?_)
        · trivial
        clear hK K
        (try simp only [Act.put, List.setIfInBounds_toArray, List.set_cons_succ, List.set_cons_zero])
        refine wpAnyH_take (i := 8) (v := ?_) rfl (by kernel_rfl) (by kernel_rfl) (by kernel_rfl) (fun _ _ _ h => h) (Or.inl ⟨by rfl, ?_⟩) (by assumption) ?_
        rotate_left 1
        · intro w hSw; (try dsimp only at hSw); simp only [List.getElem_toArray, List.getElem_cons_succ, List.getElem_cons_zero]; go_simp; try (with_reducible rfl)
        (try simp only [List.getElem_toArray, List.getElem_cons_succ, List.getElem_cons_zero, Act.put, List.setIfInBounds_toArray, List.set_cons_succ, List.set_cons_zero])
        refine wpAnyH_take (i := 9) (v := ?_) rfl (by kernel_rfl) (by kernel_rfl) (by kernel_rfl) (fun _ _ _ h => h) (Or.inl ⟨by rfl, ?_⟩) (by assumption) ?_
        rotate_left 1
        · intro w hSw; (try dsimp only at hSw); simp only [List.getElem_toArray, List.getElem_cons_succ, List.getElem_cons_zero]; go_simp; try (with_reducible rfl)
        (try simp only [List.getElem_toArray, List.getElem_cons_succ, List.getElem_cons_zero, Act.put, List.setIfInBounds_toArray, List.set_cons_succ, List.set_cons_zero])
        refine wpAnyH_done (by kernel_rfl) ?_ _
        go_wp2
        go_ret
        exact ⟨rfl, below_more hB hBA⟩
      refine AllReadyH.cons rfl (fun K hK => ?_) AllReadyH.nil
      (try simp only [List.getElem_toArray, List.getElem_cons_succ, List.getElem_cons_zero])
      go_simp
      go_at_call 15; refine (RB.out _).mono ?_; rintro e' x2 ⟨rfl, hB9⟩
      (try (go_wp2_with fail))
      refine hK.out _ _ ?_ (fun hHeld => ?_)
      · trivial
      clear hK K
      (try simp only [Act.put, List.setIfInBounds_toArray, List.set_cons_succ, List.set_cons_zero])
      have hB := below_more hB hB9
      have hR8 := hR8.below hB9
      refine wpAnyH_ready (rs := [2]) (by kernel_rfl) (by simp) ?_
      refine AllReadyH.cons rfl (fun K hK => ?_) AllReadyH.nil
      (try simp only [List.getElem_toArray, List.getElem_cons_succ, List.getElem_cons_zero])
      refine Eq.mpr (if_pos (by first | rfl | simp [Region.wanted, yielded, Act.put])) ?_
      refine wp_cv _ rfl (by first | rfl | (simp [Act.eval]; done)) (conv8 _ A8 n8 c8 _ hR8) ?_
      refine hK.out _ _ ?_ (fun hHeld => ?_)
      · trivial
      clear hK K
      (try simp only [Act.put, List.setIfInBounds_toArray, List.set_cons_succ, List.set_cons_zero])
      refine wpAnyH_take (i := 5) (v := .bool true) rfl (by kernel_rfl) (by kernel_rfl) (by kernel_rfl) (fun _ _ _ h => h) (Or.inl ⟨by rfl, ?_⟩) (by assumption) ?_
      · intro w hSw; (try dsimp only at hSw); simp only [List.getElem_toArray, List.getElem_cons_succ, List.getElem_cons_zero]; first | (go_simp; done) | (simp [execOp, Act.eval]; done)
      (try simp only [List.getElem_toArray, List.getElem_cons_succ, List.getElem_cons_zero, Act.put, List.setIfInBounds_toArray, List.set_cons_succ, List.set_cons_zero])
      refine wpAnyH_take (i := 6) (v := ?_) rfl (by kernel_rfl) (by kernel_rfl) (by kernel_rfl) (fun _ _ _ h => h) (Or.inl ⟨by rfl, ?_⟩) (by assumption) ?_
      rotate_left 1
      · intro w hSw; (try dsimp only at hSw); simp only [List.getElem_toArray, List.getElem_cons_succ, List.getElem_cons_zero]; go_simp; try (with_reducible rfl)
      (try simp only [List.getElem_toArray, List.getElem_cons_succ, List.getElem_cons_zero, Act.put, List.setIfInBounds_toArray, List.set_cons_succ, List.set_cons_zero])
      refine wpAnyH_ready (rs := [7]) (by kernel_rfl) (by simp) ?_
      refine AllReadyH.cons rfl (fun K hK => ?_) AllReadyH.nil
      (try simp only [List.getElem_toArray, List.getElem_cons_succ, List.getElem_cons_zero])
      go_simp
      go_at_call 16; refine (awake11_calls HK.out _).mono ?_; rintro e' x3 ⟨rfl, hBA⟩
      (try (go_wp2_with fail))
      refine hK.out _ _ ?_ (fun hHeld => ?_)
      · trivial
      clear hK K
      (try simp only [Act.put, List.setIfInBounds_toArray, List.set_cons_succ, List.set_cons_zero])
      refine wpAnyH_take (i := 8) (v := ?_) rfl (by kernel_rfl) (by kernel_rfl) (by kernel_rfl) (fun _ _ _ h => h) (Or.inl ⟨by rfl, ?_⟩) (by assumption) ?_
      rotate_left 1
      · intro w hSw; (try dsimp only at hSw); simp only [List.getElem_toArray, List.getElem_cons_succ, List.getElem_cons_zero]; go_simp; try (with_reducible rfl)
      (try simp only [List.getElem_toArray, List.getElem_cons_succ, List.getElem_cons_zero, Act.put, List.setIfInBounds_toArray, List.set_cons_succ, List.set_cons_zero])
      refine wpAnyH_take (i := 9) (v := ?_) rfl (by kernel_rfl) (by kernel_rfl) (by kernel_rfl) (fun _ _ _ h => h) (Or.inl ⟨by rfl, ?_⟩) (by assumption) ?_
      rotate_left 1
      · intro w hSw; (try dsimp only at hSw); simp only [List.getElem_toArray, List.getElem_cons_succ, List.getElem_cons_zero]; go_simp; try (with_reducible rfl)
      (try simp only [List.getElem_toArray, List.getElem_cons_succ, List.getElem_cons_zero, Act.put, List.setIfInBounds_toArray, List.set_cons_succ, List.set_cons_zero])
      refine wpAnyH_done (by kernel_rfl) ?_ _
      go_wp2
      go_ret
      exact ⟨rfl, below_more hB hBA⟩
end Go.Proofs.Ytaimphdnhcipfaa
