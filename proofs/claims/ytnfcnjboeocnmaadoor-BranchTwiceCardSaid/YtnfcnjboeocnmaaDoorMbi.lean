/- Merged texts: BrnC. -/
import Derived.Test.YtnfcnjboeocnmaaDoorMbh
import Derived.Test.YtnfcnjboeocnmaaDoorMaw
import Derived.Test.YtnfcnjboeocnmaaDoorMbc
/- The contracts of the document's own Make of layer 9. -/
namespace Go.Proofs.YtnfcnjboeocnmaaDoor
open Go.RowKit
set_option linter.unusedVariables false
set_option linter.unusedSimpArgs false

set_option maxRecDepth 100000 in
theorem wp_bs1R {o : Oper} {a : Act} {W : World} {K : Act → World → Prop} {Q : Exit → Act → World → Prop} (x : Operand) (ho : o.op = .buildSlice 29 1 #[(0, x)]) (V : List Value) (hx : a.eval x = .agg V.toArray) (hV : V.length = 32)
    (h : ∀ g w', Blk w' g V 34 → W.heap.size ≤ g → g < w'.heap.size → Frm (fun _ => False) W w' → Below W.heap.size W w' → K (a.put o.dst (.slice (some ⟨g, 0, none⟩) 1 1)) w') : o.wp Tryd.prog a W K Q := by
  unfold Oper.wp execOp
  simp only [ho, List.map_toArray, List.map_cons, List.map_nil, hx, Sem.run_bind, run_bs 29 34 Tryd.underlying29 infoR V hV W, Result.andThen_ok]
  exact h W.heap.size _ (Blk.new W _ _) (Nat.le_refl _) (by simp) (Frm.of_below ((Below.refl _ W).alloc (Nat.le_refl _) _)) ((Below.refl _ W).alloc (Nat.le_refl _) _)
set_option maxRecDepth 100000 in
/-- append of one hash, with all that stays. -/
theorem wp_appHF {P : Program} {o : Oper} {a : Act} {w : World} {K : Act → World → Prop} {Q : Exit → Act → World → Prop} (s x : Operand) (t e : TypeId) (ho : o.op = .call { callee := .builtin .append, args := #[s, x], argTypes := #[t, t] })
    (ht : P.underlying t = some (.slice e)) (hinfo : (P.info? e).map (fun i => (i.zero, i.size, i.bytes)) = some (some (.agg z32.toArray), 32, 32))
    (base : Nat) (A : Option Addr) (n c : Nat) (L : List (List UInt8)) (hs : a.eval s = .slice A n c) (hown : OwnH w base e A n c L) (l : List UInt8) (V : List Value) (hV : V = l.map B8) (g : Nat) (hx : a.eval x = .slice (some ⟨g, 0, none⟩) 1 1) (hl : l.length = 32) (hb : Blk w g V e)
    (hn : n ≤ 1000000) (hbase : base ≤ w.heap.size) (h : ∀ A' c' w', OwnH w' base e A' (n + 1) c' (L ++ [l]) → True → Below base w w' → K (a.put o.dst (.slice A' (n + 1) c')) w') : o.wp P a w K Q :=
  wp_appH s x t e ho ht hinfo base A n c L hs hown l hl g hx V hV hb hn hbase (fun A' c' w' h1 h2 => h A' c' w' h1 trivial h2)
set_option maxRecDepth 100000 in
theorem OwnH.only {w w2 : World} {b n c g : Nat} {e : TypeId} {A : Option Addr} {L : List (List UInt8)} (h : OwnH w b e A n c L) (ho : Only g w w2) (hg : g < b) : OwnH w2 b e A n c L := by
  obtain ⟨h1, h2, h3, h4⟩ := h
  refine ⟨h1, h2, h3, ?_⟩
  rcases h4 with h | ⟨g', cap, cur, e1, e2, e3, e4⟩
  · exact .inl h
  · exact .inr ⟨g', cap, cur, e1, e2, (ho.block g' (by omega)).trans e3, e4⟩
set_option maxRecDepth 100000 in
theorem OwnH.blkge {w : World} {b n c g : Nat} {e : TypeId} {A : Option Addr} {L : List (List UInt8)} (h : OwnH w b e A n c L) (hg : blkOf A = some g) : b ≤ g := by
  rcases h.2.2.2 with ⟨hv, _⟩ | ⟨g', cap, cur, hv, hb, _⟩
  · injection hv with e1; rw [e1] at hg; simp [blkOf] at hg
  · injection hv with e1
    rw [e1] at hg
    have : g' = g := by simpa [blkOf] using hg
    omega
set_option maxRecDepth 100000 in
theorem Z3o : (Tryd.prog.info? 31).map (·.zero) = some (some (.agg #[.int .i64 0, .int .i64 0, .slice none 0 0])) := by kernel_rfl
set_option maxRecDepth 100000 in
theorem I3o : (Tryd.prog.info? 31).map (·.size) = some 3 := by kernel_rfl
set_option maxRecDepth 100000 in
set_option maxHeartbeats 4000000 in
theorem dmake_calls (A : Option Addr) (n c i : Nat) (L : List (List UInt8)) (w : World) (hr : RdH w A n L) (hn : n ≤ 64) (hi : i < n) :
    Calls Tryd.prog 10 #[.slice A n c, .int .i64 (i : Int)] w fun e w' => ∃ A' c', e = .returned (.agg #[.int .i64 (n : Int), .int .i64 (i : Int), .slice A' (depth n) c']) ∧ RdH w' A' (depth n) (pth L i (depth n)) ∧ depth n ≤ c' ∧ c' ≤ maxLen ∧ Below w.heap.size w w' := by
  have hln := hr.len
  obtain ⟨D, hD⟩ : ∃ D, D = depth n := ⟨_, rfl⟩
  have hD6 : D ≤ 6 := by rw [hD]; exact depth_le6 n hn
  have CD : Hid (∀ W : World, Calls Tryd.prog 24 #[.int .i64 (n : Int)] W (Ret W (.int .i64 (D : Int)))) := Lib.hid fun W => by rw [hD]; exact ddepth16_calls n (by omega) W
  have CW : Hid (∀ (W : World) (t : Nat), t ≤ 16 → Calls Tryd.prog 25 #[.int .i64 (n : Int), .int .i64 (t : Int)] W (Ret W (.int .i64 (wide n t : Int)))) := Lib.hid fun W t ht => dwide16_calls n t (by omega) (Nat.le_trans ht (by decide)) W
  have CN0 : Hid (∀ (W : World) (t a : Nat), Below w.heap.size w W → t ≤ 16 → a < wide n t → Calls Tryd.prog 26 #[.slice A n c, .int .i64 (t : Int), .int .i64 (a : Int)] W (Ret W (.agg ((hat (lev t L) a).map B8).toArray))) := Lib.hid fun W t a h1 h2 h3 => dnode_calls A n c L w hr hn t a W h1 (Nat.le_trans h2 (by decide)) h3
  have H32 : Hid (∀ (t a : Nat), a < wide n t → (hat (lev t L) a).length = 32) := Lib.hid fun t a h => hat_32 (lev_32 L hr.all t) (by rw [lev_len, hln]; exact h)
  have HP : Hid (∀ t, pth L i (t + 1) = pth L i t ++ [hat (lev t L) (sib (wide n t) (ix i t))]) := Lib.hid fun t => by have := pth_succ L i t; rw [hln] at this; exact this
  have HIX : Hid (∀ t, ix i t < wide n t) := Lib.hid fun t => ix_lt n i hi t
  have hwl := fun t => wide_64 n hn t
  have HWL := Lib.hid hwl
  have BM : ∀ W, (Instr.build 31 #[(0, .int .i64 (n : Int)), (1, .int .i64 (i : Int))]).run Tryd.prog W = .ok (.agg #[.int .i64 (n : Int), .int .i64 (i : Int), .slice none 0 0]) W := fun W => run_build W _ _ _ (by kernel_rfl)
  rw [← hD]
  clear hr hD hwl
  go_enter Tryd.func10, Tryd.ntmps10
  go_upto_region 1 with ((with_reducible refine at_alloc 31 ?_); refine wpList_allocT rfl 31 [.int .i64 0, .int .i64 0, .slice none 0 0] Z3o rfl w.heap.size w (Below.refl _ _) (Nat.le_refl _) ?_; intro g0 x0 hb0 hg0 hl0 hf0 hB0)
  go_upto_region 2 with (first
    | ((with_reducible refine at_bldZ 31 #[(0, .tmp 9), (1, .tmp 10)] ?_); refine wpList_bld rfl 31 #[(0, .tmp 9), (1, .tmp 10)] rfl #[(0, .int .i64 (n : Int)), (1, .int .i64 (i : Int))] (.agg #[.int .i64 (n : Int), .int .i64 (i : Int), .slice none 0 0]) (by first | rfl | simp [Act.eval]) BM ?_)
    | ((with_reducible refine at_alloc 31 ?_); refine wpList_allocT rfl 31 [.int .i64 0, .int .i64 0, .slice none 0 0] Z3o rfl w.heap.size w hB0 (Nat.le_refl _) ?_; intro g1 x1 hb1 hg1 hl1 hf1 hB1)
    | ((with_reducible refine at_store 31 (.tmp 5) (.tmp 11) ?_); refine wpList_store_blk rfl 31 (.tmp 5) (.tmp 11) rfl g1 [.int .i64 0, .int .i64 0, .slice none 0 0] [.int .i64 (n : Int), .int .i64 (i : Int), .slice none 0 0] 31 rfl rfl hb1 rfl I3o (by simp [Value.oneCell']) ?_; intro x2 hb2 ho2))
  have hz0 := ho2.blk (hb0.stepF hf1) (by omega)
  have hB2 : Below w.heap.size w x2 := hB1.trans (ho2.below (by omega))
  have hs2 := ho2.size
  clear hb0 hf0 hB0 hb1 hf1 hB1 ho2
  go_wp2
  go_loopw [1, 6] (fun at_ lv wr => ∃ (t : Nat) (A' : Option Addr) (c' : Nat), lv = .int .i64 (t : Int) ∧ at_ = .int .i64 ((ix i t : Nat) : Int) ∧ t ≤ D ∧ Blk wr g1 [.int .i64 (n : Int), .int .i64 (i : Int), .slice A' t c'] 31 ∧ OwnH wr (g1 + 1) 34 A' t c' (pth L i t) ∧ Blk wr g0 [.int .i64 0, .int .i64 0, .slice none 0 0] 31 ∧ Below w.heap.size w wr) (fun _ lv _ => D - (intOf lv).toNat)
  case atStart => exact ⟨0, none, 0, by first | rfl | go_num, rfl, by omega, hb2, OwnH.nil _ _ _, hz0, hB2⟩
  case round =>
    obtain ⟨t, A', c', rfl, rfl, htD, hsb, hown, hzb, hbel⟩ := hrel
    obtain ⟨wo, hwo⟩ : ∃ x, x = wr := ⟨_, rfl⟩
    rw [← hwo] at hsb hown hzb hbel ⊢
    clear hwo hb2 hz0 hB2
    obtain ⟨a, ha⟩ : ∃ a, a = ix i t := ⟨_, rfl⟩
    rw [← ha]
    by_cases hlt : t < D
    · have hlt' : (t : Int) < (D : Int) := by omega
      obtain ⟨wt, hwt⟩ : ∃ x, x = wide n t := ⟨_, rfl⟩
      obtain ⟨s, hs⟩ : ∃ s, s = sib wt a := ⟨_, rfl⟩
      obtain ⟨a', ha'⟩ : ∃ x, x = a / 2 := ⟨_, rfl⟩
      obtain ⟨v, hv⟩ : ∃ v, v = hat (lev t L) s := ⟨_, rfl⟩
      obtain ⟨V, hV⟩ : ∃ V, V = v.map B8 := ⟨_, rfl⟩
      obtain ⟨T, hT⟩ : ∃ T, T = pth L i t := ⟨_, rfl⟩
      have hawt : a < wt := by rw [ha, hwt]; exact HIX.out t
      have hw64 : wt ≤ 64 := by rw [hwt]; exact HWL.out t
      have hsw : s < wt := by rw [hs]; exact sib_lt _ _ hawt
      have hv32 : v.length = 32 := by rw [hv]; exact H32.out t s (by rw [← hwt]; exact hsw)
      have HV := Lib.hid hv32
      have HVV := Lib.hid hV
      have LV : Hid (V.length = 32) := Lib.hid (by rw [hV, List.length_map, hv32])
      have hnx : pth L i (t + 1) = T ++ [v] := by rw [HP.out t, hT, hv, hs, hwt, ha]
      have HNX := Lib.hid hnx
      have HA' : Hid (ix i (t + 1) = a') := Lib.hid (by rw [ha', ha]; rfl)
      have CWt : Hid (∀ W : World, Calls Tryd.prog 25 #[.int .i64 (n : Int), .int .i64 (t : Int)] W (Ret W (.int .i64 (wt : Int)))) := Lib.hid fun W => by rw [hwt]; exact CW.out W t (by omega)
      have CN : Hid (∀ W : World, Below wo.heap.size wo W → Calls Tryd.prog 26 #[.slice A n c, .int .i64 (t : Int), .int .i64 (s : Int)] W (Ret W (.agg V.toArray))) := Lib.hid fun W h => by rw [hV, hv]; exact CN0.out W t s (below_more hbel h) (by omega) (by rw [← hwt]; exact hsw)
      rw [← hT] at hown
      have K1 : Hid (∀ W : World, Blk W g1 [.int .i64 (n : Int), .int .i64 (i : Int), .slice A' t c'] 31 → W.cell? ⟨g1, 2, none⟩ = some (.slice A' t c')) := Lib.hid fun W h => h.cell 2
      have u1 : IntKind.i64.wrap ((a : Int) + 1) = (a : Int) + 1 := by rw [IntKind.wrap_i64]; omega
      have q1 : Int.tdiv (a : Int) 2 = (a' : Int) := by rw [Int.tdiv_eq_ediv_of_nonneg (by omega)]; omega
      have q2 : (a : Int) / 2 = (a' : Int) := by omega
      have q3 : IntKind.i64.wrap (a' : Int) = (a' : Int) := by rw [IntKind.wrap_i64]; omega
      clear ha hwt ha' hv hV hT hv32 hnx CN0 CW HP H32
      obtain ⟨b1, hb1⟩ : ∃ x, x = a + 1 := ⟨_, rfl⟩
      have u1' : IntKind.i64.wrap ((a : Int) + 1) = (b1 : Int) := by rw [IntKind.wrap_i64]; omega
      clear u1
      by_cases hev : a % 2 = 0
      · have r1 : Int.tmod (a : Int) 2 = 0 := by rw [Int.tmod_eq_emod_of_nonneg (by omega)]; omega
        have r2 : (a : Int) % 2 = 0 := by omega
        have r3 : IntKind.i64.wrap 0 = 0 := by rw [IntKind.wrap_i64]; omega
        by_cases hin : a + 1 < wt
        · have hse : s = b1 := by rw [hs]; unfold sib; rw [if_neg (by omega), if_pos hin]; exact hb1.symm
          subst hse
          have e2 : ¬ (wt : Int) ≤ (s : Int) := Int.not_le.2 (Int.ofNat_lt.2 hsw)
          clear hs hb1
          go_upto_region 10 with (first | (go_at_call 24; refine (CD.out _).mono ?_; rintro e' z0 ⟨rfl, f0⟩) | (go_at_call 25; refine (CWt.out _).mono ?_; rintro e' z1 ⟨rfl, f1⟩))
          have hsb := (hsb.up f0).up f1
          have hown := (hown.up f0).up f1
          have hzb := (hzb.up f0).up f1
          have hbel := below_more (below_more hbel f0) f1
          have hsl := hsb.lt
          have hzl := hzb.lt
          have CN : Hid (∀ W : World, Below z1.heap.size z1 W → Calls Tryd.prog 26 #[.slice A n c, .int .i64 (t : Int), .int .i64 (s : Int)] W (Ret W (.agg V.toArray))) := Lib.hid fun W h => CN.out W (below_more (below_more f0 f1) h)
          have sdz : z1.drew.heap.size = z1.heap.size := rfl
          refine wp_region_held_drew (S := fun _ => True) (by kernel_rfl) ?_ (fun hHeld => ?_)
          · trivial
          refine wpAnyH_take (i := 0) (v := ?_) rfl (by kernel_rfl) (by kernel_rfl) (by kernel_rfl) (fun _ _ _ h => h) (Or.inl ⟨by rfl, ?_⟩) (by assumption) ?_
          rotate_left 1
          · intro w hSw; (try dsimp only at hSw); simp only [List.getElem_toArray, List.getElem_cons_succ, List.getElem_cons_zero]; go_simp; try (with_reducible rfl)
          (try simp only [List.getElem_toArray, List.getElem_cons_succ, List.getElem_cons_zero, Act.put, List.setIfInBounds_toArray, List.set_cons_succ, List.set_cons_zero])
          refine wpAnyH_take (i := 2) (v := ?_) rfl (by kernel_rfl) (by kernel_rfl) (by kernel_rfl) (fun _ _ _ h => h) (Or.inl ⟨by rfl, ?_⟩) (by assumption) ?_
          rotate_left 1
          · intro w hSw; (try dsimp only at hSw); simp only [List.getElem_toArray, List.getElem_cons_succ, List.getElem_cons_zero]; go_simp; try (with_reducible rfl)
          (try simp only [List.getElem_toArray, List.getElem_cons_succ, List.getElem_cons_zero, Act.put, List.setIfInBounds_toArray, List.set_cons_succ, List.set_cons_zero])
          refine wpAnyH_take (i := 3) (v := ?_) rfl (by kernel_rfl) (by kernel_rfl) (by kernel_rfl) (fun _ _ _ h => h) (Or.inl ⟨by rfl, ?_⟩) (by assumption) ?_
          rotate_left 1
          · intro w hSw; (try dsimp only at hSw); simp only [List.getElem_toArray, List.getElem_cons_succ, List.getElem_cons_zero]; go_simp; try (with_reducible rfl)
          (try simp only [List.getElem_toArray, List.getElem_cons_succ, List.getElem_cons_zero, Act.put, List.setIfInBounds_toArray, List.set_cons_succ, List.set_cons_zero])
          refine wpAnyH_take (i := 4) (v := ?_) rfl (by kernel_rfl) (by kernel_rfl) (by kernel_rfl) (fun _ _ _ h => h) (Or.inl ⟨by rfl, ?_⟩) (by assumption) ?_
          rotate_left 1
          · intro w hSw; (try dsimp only at hSw); simp only [List.getElem_toArray, List.getElem_cons_succ, List.getElem_cons_zero]; go_simp; try (with_reducible rfl)
          (try simp only [List.getElem_toArray, List.getElem_cons_succ, List.getElem_cons_zero, Act.put, List.setIfInBounds_toArray, List.set_cons_succ, List.set_cons_zero])
          refine wpAnyH_ready (rs := [1, 5]) (by kernel_rfl) (by simp) ?_
          refine AllReadyH.cons rfl (fun K hK => ?_) ?_
          · (try simp only [List.getElem_toArray, List.getElem_cons_succ, List.getElem_cons_zero])
            have cl2 := hsb.drew.cell 2
            simp only [List.getElem?_cons_succ, List.getElem?_cons_zero] at cl2
            go_simp
            refine hK.out _ _ ?_ (fun hHeld => ?_)
            · trivial
            clear hK K
            (try simp only [Act.put, List.setIfInBounds_toArray, List.set_cons_succ, List.set_cons_zero])
            refine wpAnyH_ready (rs := [5]) (by kernel_rfl) (by simp) ?_
            refine AllReadyH.cons rfl (fun K hK => ?_) AllReadyH.nil
            (try simp only [List.getElem_toArray, List.getElem_cons_succ, List.getElem_cons_zero])
            go_simp
            go_at_call 26; refine (CN.out _ (by ((repeat (first | with_reducible assumption | with_reducible exact Below.refl _ _ | with_reducible apply below_al | with_reducible apply below_dr | with_reducible refine below_more ?_ (by assumption)))))).mono ?_; rintro e' x5 ⟨rfl, d5⟩
            (try (go_wp2_with fail))
            refine hK.out _ _ ?_ (fun hHeld => ?_)
            · trivial
            clear hK K
            (try simp only [Act.put, List.setIfInBounds_toArray, List.set_cons_succ, List.set_cons_zero])
            refine wpAnyH_ready (rs := [6]) (by kernel_rfl) (by simp) ?_
            refine AllReadyH.cons rfl (fun K hK => ?_) AllReadyH.nil
            (try simp only [List.getElem_toArray, List.getElem_cons_succ, List.getElem_cons_zero])
            refine Eq.mpr (if_pos (by first | rfl | simp [Region.wanted, yielded, Act.put])) ?_
            refine wp_bs1R _ rfl V (by first | rfl | simp [Act.eval]) LV.out ?_
            intro g6 x6 hb6 hg6 hl6 hf6 hB6
            refine hK.out _ _ ?_ (fun hHeld => ?_)
            · trivial
            clear hK K
            (try simp only [Act.put, List.setIfInBounds_toArray, List.set_cons_succ, List.set_cons_zero])
            refine wpAnyH_ready (rs := [7]) (by kernel_rfl) (by simp) ?_
            refine AllReadyH.cons rfl (fun K hK => ?_) AllReadyH.nil
            (try simp only [List.getElem_toArray, List.getElem_cons_succ, List.getElem_cons_zero])
            refine Eq.mpr (if_pos (by first | rfl | simp [Region.wanted, yielded, Act.put])) ?_
            refine wp_appHF (.tmp 34) (.tmp 39) 29 34 rfl Tryd.underlying29 infoR (g1 + 1) A' t c' T (by first | rfl | simp [Act.eval]) (((hown.up (below_dr (Below.refl _ _))).up d5).up hB6) v V HVV.out g6 (by first | rfl | simp [Act.eval]) HV.out hb6 (by omega) (by have h6 := hB6.size; have h5 := d5.size; omega) ?_
            intro A7 c7 x7 ho7 hf7 hB7
            have h5s := d5.size
            have h6s := hB6.size
            have hs7 := ((hsb.drew.up d5).stepF hf6).below hB7 (by omega)
            refine hK.out _ _ ?_ (fun hHeld => ?_)
            · trivial
            clear hK K
            (try simp only [Act.put, List.setIfInBounds_toArray, List.set_cons_succ, List.set_cons_zero])
            refine wpAnyH_take (i := 8) (v := ?_) rfl (by kernel_rfl) (by kernel_rfl) (by kernel_rfl) (fun _ _ _ h => h) (Or.inl ⟨by rfl, ?_⟩) (by assumption) ?_
            rotate_left 1
            · intro w hSw; (try dsimp only at hSw); simp only [List.getElem_toArray, List.getElem_cons_succ, List.getElem_cons_zero]; go_simp; try (with_reducible rfl)
            (try simp only [List.getElem_toArray, List.getElem_cons_succ, List.getElem_cons_zero, Act.put, List.setIfInBounds_toArray, List.set_cons_succ, List.set_cons_zero])
            refine wpAnyH_ready (rs := [9]) (by kernel_rfl) (by simp) ?_
            refine AllReadyH.cons rfl (fun K hK => ?_) AllReadyH.nil
            (try simp only [List.getElem_toArray, List.getElem_cons_succ, List.getElem_cons_zero])
            refine Eq.mpr (if_pos (by first | rfl | simp [Region.wanted, yielded, Act.put])) ?_
            refine wp_storeC 29 (.tmp 41) (.tmp 40) rfl g1 2 (.slice A7 (t + 1) c7) _ _ (by first | rfl | simp [Act.eval]) (by first | rfl | simp [Act.eval]) hs7 (by simp) (by kernel_rfl) rfl rfl ?_
            intro x9 hs9 ho9
            refine hK.out _ _ ?_ (fun hHeld => ?_)
            · trivial
            clear hK K
            (try simp only [Act.put, List.setIfInBounds_toArray, List.set_cons_succ, List.set_cons_zero])
            refine wpAnyH_done (by kernel_rfl) ?_ _
            have hB9 : Below w.heap.size w x9 := ((((below_dr hbel).trans (d5.mono (below_dr hbel).size)).trans (hB6.mono (by omega))).trans (hB7.mono (by omega))).trans (ho9.below (by omega))
            have ho9b := ho7.only ho9 (by omega)
            have hz9 := ho9.blk ((((hzb.drew.up d5).stepF hf6)).below hB7 (by omega)) (by omega)
            have HO9 := Lib.hid ho9b
            clear ho7 ho9b
            go_wp2
            go_roundw
            case rel => exact ⟨t + 1, A7, c7, by go_num, by rw [HA'.out], by omega, hs9, by rw [HNX.out]; exact HO9.out, hz9, hB9⟩
            case measure => simp [intOf]; omega
          refine AllReadyH.cons rfl (fun K hK => ?_) AllReadyH.nil
          (try simp only [List.getElem_toArray, List.getElem_cons_succ, List.getElem_cons_zero])
          go_simp
          go_at_call 26; refine (CN.out _ (by ((repeat (first | with_reducible assumption | with_reducible exact Below.refl _ _ | with_reducible apply below_al | with_reducible apply below_dr | with_reducible refine below_more ?_ (by assumption)))))).mono ?_; rintro e' x5 ⟨rfl, d5⟩
          (try (go_wp2_with fail))
          refine hK.out _ _ ?_ (fun hHeld => ?_)
          · trivial
          clear hK K
          (try simp only [Act.put, List.setIfInBounds_toArray, List.set_cons_succ, List.set_cons_zero])
          refine wpAnyH_ready (rs := [1, 6]) (by kernel_rfl) (by simp) ?_
          refine AllReadyH.cons rfl (fun K hK => ?_) ?_
          · (try simp only [List.getElem_toArray, List.getElem_cons_succ, List.getElem_cons_zero])
            have cl2 := (hsb.drew.up d5).cell 2
            simp only [List.getElem?_cons_succ, List.getElem?_cons_zero] at cl2
            go_simp
            refine hK.out _ _ ?_ (fun hHeld => ?_)
            · trivial
            clear hK K
            (try simp only [Act.put, List.setIfInBounds_toArray, List.set_cons_succ, List.set_cons_zero])
            refine wpAnyH_ready (rs := [6]) (by kernel_rfl) (by simp) ?_
            refine AllReadyH.cons rfl (fun K hK => ?_) AllReadyH.nil
            (try simp only [List.getElem_toArray, List.getElem_cons_succ, List.getElem_cons_zero])
            refine Eq.mpr (if_pos (by first | rfl | simp [Region.wanted, yielded, Act.put])) ?_
            refine wp_bs1R _ rfl V (by first | rfl | simp [Act.eval]) LV.out ?_
            intro g6 x6 hb6 hg6 hl6 hf6 hB6
            refine hK.out _ _ ?_ (fun hHeld => ?_)
            · trivial
            clear hK K
            (try simp only [Act.put, List.setIfInBounds_toArray, List.set_cons_succ, List.set_cons_zero])
            refine wpAnyH_ready (rs := [7]) (by kernel_rfl) (by simp) ?_
            refine AllReadyH.cons rfl (fun K hK => ?_) AllReadyH.nil
            (try simp only [List.getElem_toArray, List.getElem_cons_succ, List.getElem_cons_zero])
            refine Eq.mpr (if_pos (by first | rfl | simp [Region.wanted, yielded, Act.put])) ?_
            refine wp_appHF (.tmp 34) (.tmp 39) 29 34 rfl Tryd.underlying29 infoR (g1 + 1) A' t c' T (by first | rfl | simp [Act.eval]) (((hown.up (below_dr (Below.refl _ _))).up d5).up hB6) v V HVV.out g6 (by first | rfl | simp [Act.eval]) HV.out hb6 (by omega) (by have h6 := hB6.size; have h5 := d5.size; omega) ?_
            intro A7 c7 x7 ho7 hf7 hB7
            have h5s := d5.size
            have h6s := hB6.size
            have hs7 := ((hsb.drew.up d5).stepF hf6).below hB7 (by omega)
            refine hK.out _ _ ?_ (fun hHeld => ?_)
            · trivial
            clear hK K
            (try simp only [Act.put, List.setIfInBounds_toArray, List.set_cons_succ, List.set_cons_zero])
            refine wpAnyH_take (i := 8) (v := ?_) rfl (by kernel_rfl) (by kernel_rfl) (by kernel_rfl) (fun _ _ _ h => h) (Or.inl ⟨by rfl, ?_⟩) (by assumption) ?_
            rotate_left 1
            · intro w hSw; (try dsimp only at hSw); simp only [List.getElem_toArray, List.getElem_cons_succ, List.getElem_cons_zero]; go_simp; try (with_reducible rfl)
            (try simp only [List.getElem_toArray, List.getElem_cons_succ, List.getElem_cons_zero, Act.put, List.setIfInBounds_toArray, List.set_cons_succ, List.set_cons_zero])
            refine wpAnyH_ready (rs := [9]) (by kernel_rfl) (by simp) ?_
            refine AllReadyH.cons rfl (fun K hK => ?_) AllReadyH.nil
            (try simp only [List.getElem_toArray, List.getElem_cons_succ, List.getElem_cons_zero])
            refine Eq.mpr (if_pos (by first | rfl | simp [Region.wanted, yielded, Act.put])) ?_
            refine wp_storeC 29 (.tmp 41) (.tmp 40) rfl g1 2 (.slice A7 (t + 1) c7) _ _ (by first | rfl | simp [Act.eval]) (by first | rfl | simp [Act.eval]) hs7 (by simp) (by kernel_rfl) rfl rfl ?_
            intro x9 hs9 ho9
            refine hK.out _ _ ?_ (fun hHeld => ?_)
            · trivial
            clear hK K
            (try simp only [Act.put, List.setIfInBounds_toArray, List.set_cons_succ, List.set_cons_zero])
            refine wpAnyH_done (by kernel_rfl) ?_ _
            have hB9 : Below w.heap.size w x9 := ((((below_dr hbel).trans (d5.mono (below_dr hbel).size)).trans (hB6.mono (by omega))).trans (hB7.mono (by omega))).trans (ho9.below (by omega))
            have ho9b := ho7.only ho9 (by omega)
            have hz9 := ho9.blk ((((hzb.drew.up d5).stepF hf6)).below hB7 (by omega)) (by omega)
            have HO9 := Lib.hid ho9b
            clear ho7 ho9b
            go_wp2
            go_roundw
            case rel => exact ⟨t + 1, A7, c7, by go_num, by rw [HA'.out], by omega, hs9, by rw [HNX.out]; exact HO9.out, hz9, hB9⟩
            case measure => simp [intOf]; omega
          refine AllReadyH.cons rfl (fun K hK => ?_) AllReadyH.nil
          (try simp only [List.getElem_toArray, List.getElem_cons_succ, List.getElem_cons_zero])
          refine Eq.mpr (if_pos (by first | rfl | simp [Region.wanted, yielded, Act.put])) ?_
          refine wp_bs1R _ rfl V (by first | rfl | simp [Act.eval]) LV.out ?_
          intro g6 x6 hb6 hg6 hl6 hf6 hB6
          refine hK.out _ _ ?_ (fun hHeld => ?_)
          · trivial
          clear hK K
          (try simp only [Act.put, List.setIfInBounds_toArray, List.set_cons_succ, List.set_cons_zero])
          refine wpAnyH_ready (rs := [1]) (by kernel_rfl) (by simp) ?_
          refine AllReadyH.cons rfl (fun K hK => ?_) AllReadyH.nil
          (try simp only [List.getElem_toArray, List.getElem_cons_succ, List.getElem_cons_zero])
          have cl2 := ((hsb.drew.up d5).stepF hf6).cell 2
          simp only [List.getElem?_cons_succ, List.getElem?_cons_zero] at cl2
          go_simp
          refine hK.out _ _ ?_ (fun hHeld => ?_)
          · trivial
          clear hK K
          (try simp only [Act.put, List.setIfInBounds_toArray, List.set_cons_succ, List.set_cons_zero])
          refine wpAnyH_ready (rs := [7]) (by kernel_rfl) (by simp) ?_
          refine AllReadyH.cons rfl (fun K hK => ?_) AllReadyH.nil
          (try simp only [List.getElem_toArray, List.getElem_cons_succ, List.getElem_cons_zero])
          refine Eq.mpr (if_pos (by first | rfl | simp [Region.wanted, yielded, Act.put])) ?_
          refine wp_appHF (.tmp 34) (.tmp 39) 29 34 rfl Tryd.underlying29 infoR (g1 + 1) A' t c' T (by first | rfl | simp [Act.eval]) (((hown.up (below_dr (Below.refl _ _))).up d5).up hB6) v V HVV.out g6 (by first | rfl | simp [Act.eval]) HV.out hb6 (by omega) (by have h6 := hB6.size; have h5 := d5.size; omega) ?_
          intro A7 c7 x7 ho7 hf7 hB7
          have h5s := d5.size
          have h6s := hB6.size
          have hs7 := ((hsb.drew.up d5).stepF hf6).below hB7 (by omega)
          refine hK.out _ _ ?_ (fun hHeld => ?_)
          · trivial
          clear hK K
          (try simp only [Act.put, List.setIfInBounds_toArray, List.set_cons_succ, List.set_cons_zero])
          refine wpAnyH_take (i := 8) (v := ?_) rfl (by kernel_rfl) (by kernel_rfl) (by kernel_rfl) (fun _ _ _ h => h) (Or.inl ⟨by rfl, ?_⟩) (by assumption) ?_
          rotate_left 1
          · intro w hSw; (try dsimp only at hSw); simp only [List.getElem_toArray, List.getElem_cons_succ, List.getElem_cons_zero]; go_simp; try (with_reducible rfl)
          (try simp only [List.getElem_toArray, List.getElem_cons_succ, List.getElem_cons_zero, Act.put, List.setIfInBounds_toArray, List.set_cons_succ, List.set_cons_zero])
          refine wpAnyH_ready (rs := [9]) (by kernel_rfl) (by simp) ?_
          refine AllReadyH.cons rfl (fun K hK => ?_) AllReadyH.nil
          (try simp only [List.getElem_toArray, List.getElem_cons_succ, List.getElem_cons_zero])
          refine Eq.mpr (if_pos (by first | rfl | simp [Region.wanted, yielded, Act.put])) ?_
          refine wp_storeC 29 (.tmp 41) (.tmp 40) rfl g1 2 (.slice A7 (t + 1) c7) _ _ (by first | rfl | simp [Act.eval]) (by first | rfl | simp [Act.eval]) hs7 (by simp) (by kernel_rfl) rfl rfl ?_
          intro x9 hs9 ho9
          refine hK.out _ _ ?_ (fun hHeld => ?_)
          · trivial
          clear hK K
          (try simp only [Act.put, List.setIfInBounds_toArray, List.set_cons_succ, List.set_cons_zero])
          refine wpAnyH_done (by kernel_rfl) ?_ _
          have hB9 : Below w.heap.size w x9 := ((((below_dr hbel).trans (d5.mono (below_dr hbel).size)).trans (hB6.mono (by omega))).trans (hB7.mono (by omega))).trans (ho9.below (by omega))
          have ho9b := ho7.only ho9 (by omega)
          have hz9 := ho9.blk ((((hzb.drew.up d5).stepF hf6)).below hB7 (by omega)) (by omega)
          have HO9 := Lib.hid ho9b
          clear ho7 ho9b
          go_wp2
          go_roundw
          case rel => exact ⟨t + 1, A7, c7, by go_num, by rw [HA'.out], by omega, hs9, by rw [HNX.out]; exact HO9.out, hz9, hB9⟩
          case measure => simp [intOf]; omega
        · have hse : s = a := by rw [hs]; unfold sib; rw [if_neg (by omega), if_neg hin]
          subst hse
          have e2 : (wt : Int) ≤ (b1 : Int) := by omega
          clear hs hb1
          go_upto_region 10 with (first | (go_at_call 24; refine (CD.out _).mono ?_; rintro e' z0 ⟨rfl, f0⟩) | (go_at_call 25; refine (CWt.out _).mono ?_; rintro e' z1 ⟨rfl, f1⟩))
          have hsb := (hsb.up f0).up f1
          have hown := (hown.up f0).up f1
          have hzb := (hzb.up f0).up f1
          have hbel := below_more (below_more hbel f0) f1
          have hsl := hsb.lt
          have hzl := hzb.lt
          have CN : Hid (∀ W : World, Below z1.heap.size z1 W → Calls Tryd.prog 26 #[.slice A n c, .int .i64 (t : Int), .int .i64 (s : Int)] W (Ret W (.agg V.toArray))) := Lib.hid fun W h => CN.out W (below_more (below_more f0 f1) h)
          have sdz : z1.drew.heap.size = z1.heap.size := rfl
          refine wp_region_held_drew (S := fun _ => True) (by kernel_rfl) ?_ (fun hHeld => ?_)
          · trivial
          refine wpAnyH_take (i := 0) (v := ?_) rfl (by kernel_rfl) (by kernel_rfl) (by kernel_rfl) (fun _ _ _ h => h) (Or.inl ⟨by rfl, ?_⟩) (by assumption) ?_
          rotate_left 1
          · intro w hSw; (try dsimp only at hSw); simp only [List.getElem_toArray, List.getElem_cons_succ, List.getElem_cons_zero]; go_simp; try (with_reducible rfl)
          (try simp only [List.getElem_toArray, List.getElem_cons_succ, List.getElem_cons_zero, Act.put, List.setIfInBounds_toArray, List.set_cons_succ, List.set_cons_zero])
          refine wpAnyH_take (i := 2) (v := ?_) rfl (by kernel_rfl) (by kernel_rfl) (by kernel_rfl) (fun _ _ _ h => h) (Or.inl ⟨by rfl, ?_⟩) (by assumption) ?_
          rotate_left 1
          · intro w hSw; (try dsimp only at hSw); simp only [List.getElem_toArray, List.getElem_cons_succ, List.getElem_cons_zero]; go_simp; try (with_reducible rfl)
          (try simp only [List.getElem_toArray, List.getElem_cons_succ, List.getElem_cons_zero, Act.put, List.setIfInBounds_toArray, List.set_cons_succ, List.set_cons_zero])
          refine wpAnyH_take (i := 3) (v := ?_) rfl (by kernel_rfl) (by kernel_rfl) (by kernel_rfl) (fun _ _ _ h => h) (Or.inl ⟨by rfl, ?_⟩) (by assumption) ?_
          rotate_left 1
          · intro w hSw; (try dsimp only at hSw); simp only [List.getElem_toArray, List.getElem_cons_succ, List.getElem_cons_zero]; go_simp; try (with_reducible rfl)
          (try simp only [List.getElem_toArray, List.getElem_cons_succ, List.getElem_cons_zero, Act.put, List.setIfInBounds_toArray, List.set_cons_succ, List.set_cons_zero])
          refine wpAnyH_take (i := 4) (v := ?_) rfl (by kernel_rfl) (by kernel_rfl) (by kernel_rfl) (fun _ _ _ h => h) (Or.inl ⟨by rfl, ?_⟩) (by assumption) ?_
          rotate_left 1
          · intro w hSw; (try dsimp only at hSw); simp only [List.getElem_toArray, List.getElem_cons_succ, List.getElem_cons_zero]; go_simp; try (with_reducible rfl)
          (try simp only [List.getElem_toArray, List.getElem_cons_succ, List.getElem_cons_zero, Act.put, List.setIfInBounds_toArray, List.set_cons_succ, List.set_cons_zero])
          refine wpAnyH_ready (rs := [1, 5]) (by kernel_rfl) (by simp) ?_
          refine AllReadyH.cons rfl (fun K hK => ?_) ?_
          · (try simp only [List.getElem_toArray, List.getElem_cons_succ, List.getElem_cons_zero])
            have cl2 := hsb.drew.cell 2
            simp only [List.getElem?_cons_succ, List.getElem?_cons_zero] at cl2
            go_simp
            refine hK.out _ _ ?_ (fun hHeld => ?_)
            · trivial
            clear hK K
            (try simp only [Act.put, List.setIfInBounds_toArray, List.set_cons_succ, List.set_cons_zero])
            refine wpAnyH_ready (rs := [5]) (by kernel_rfl) (by simp) ?_
            refine AllReadyH.cons rfl (fun K hK => ?_) AllReadyH.nil
            (try simp only [List.getElem_toArray, List.getElem_cons_succ, List.getElem_cons_zero])
            go_simp
            go_at_call 26; refine (CN.out _ (by ((repeat (first | with_reducible assumption | with_reducible exact Below.refl _ _ | with_reducible apply below_al | with_reducible apply below_dr | with_reducible refine below_more ?_ (by assumption)))))).mono ?_; rintro e' x5 ⟨rfl, d5⟩
            (try (go_wp2_with fail))
            refine hK.out _ _ ?_ (fun hHeld => ?_)
            · trivial
            clear hK K
            (try simp only [Act.put, List.setIfInBounds_toArray, List.set_cons_succ, List.set_cons_zero])
            refine wpAnyH_ready (rs := [6]) (by kernel_rfl) (by simp) ?_
            refine AllReadyH.cons rfl (fun K hK => ?_) AllReadyH.nil
            (try simp only [List.getElem_toArray, List.getElem_cons_succ, List.getElem_cons_zero])
            refine Eq.mpr (if_pos (by first | rfl | simp [Region.wanted, yielded, Act.put])) ?_
            refine wp_bs1R _ rfl V (by first | rfl | simp [Act.eval]) LV.out ?_
            intro g6 x6 hb6 hg6 hl6 hf6 hB6
            refine hK.out _ _ ?_ (fun hHeld => ?_)
            · trivial
            clear hK K
            (try simp only [Act.put, List.setIfInBounds_toArray, List.set_cons_succ, List.set_cons_zero])
            refine wpAnyH_ready (rs := [7]) (by kernel_rfl) (by simp) ?_
            refine AllReadyH.cons rfl (fun K hK => ?_) AllReadyH.nil
            (try simp only [List.getElem_toArray, List.getElem_cons_succ, List.getElem_cons_zero])
            refine Eq.mpr (if_pos (by first | rfl | simp [Region.wanted, yielded, Act.put])) ?_
            refine wp_appHF (.tmp 34) (.tmp 39) 29 34 rfl Tryd.underlying29 infoR (g1 + 1) A' t c' T (by first | rfl | simp [Act.eval]) (((hown.up (below_dr (Below.refl _ _))).up d5).up hB6) v V HVV.out g6 (by first | rfl | simp [Act.eval]) HV.out hb6 (by omega) (by have h6 := hB6.size; have h5 := d5.size; omega) ?_
            intro A7 c7 x7 ho7 hf7 hB7
            have h5s := d5.size
            have h6s := hB6.size
            have hs7 := ((hsb.drew.up d5).stepF hf6).below hB7 (by omega)
            refine hK.out _ _ ?_ (fun hHeld => ?_)
            · trivial
            clear hK K
            (try simp only [Act.put, List.setIfInBounds_toArray, List.set_cons_succ, List.set_cons_zero])
            refine wpAnyH_take (i := 8) (v := ?_) rfl (by kernel_rfl) (by kernel_rfl) (by kernel_rfl) (fun _ _ _ h => h) (Or.inl ⟨by rfl, ?_⟩) (by assumption) ?_
            rotate_left 1
            · intro w hSw; (try dsimp only at hSw); simp only [List.getElem_toArray, List.getElem_cons_succ, List.getElem_cons_zero]; go_simp; try (with_reducible rfl)
            (try simp only [List.getElem_toArray, List.getElem_cons_succ, List.getElem_cons_zero, Act.put, List.setIfInBounds_toArray, List.set_cons_succ, List.set_cons_zero])
            refine wpAnyH_ready (rs := [9]) (by kernel_rfl) (by simp) ?_
            refine AllReadyH.cons rfl (fun K hK => ?_) AllReadyH.nil
            (try simp only [List.getElem_toArray, List.getElem_cons_succ, List.getElem_cons_zero])
            refine Eq.mpr (if_pos (by first | rfl | simp [Region.wanted, yielded, Act.put])) ?_
            refine wp_storeC 29 (.tmp 41) (.tmp 40) rfl g1 2 (.slice A7 (t + 1) c7) _ _ (by first | rfl | simp [Act.eval]) (by first | rfl | simp [Act.eval]) hs7 (by simp) (by kernel_rfl) rfl rfl ?_
            intro x9 hs9 ho9
            refine hK.out _ _ ?_ (fun hHeld => ?_)
            · trivial
            clear hK K
            (try simp only [Act.put, List.setIfInBounds_toArray, List.set_cons_succ, List.set_cons_zero])
            refine wpAnyH_done (by kernel_rfl) ?_ _
            have hB9 : Below w.heap.size w x9 := ((((below_dr hbel).trans (d5.mono (below_dr hbel).size)).trans (hB6.mono (by omega))).trans (hB7.mono (by omega))).trans (ho9.below (by omega))
            have ho9b := ho7.only ho9 (by omega)
            have hz9 := ho9.blk ((((hzb.drew.up d5).stepF hf6)).below hB7 (by omega)) (by omega)
            have HO9 := Lib.hid ho9b
            clear ho7 ho9b
            go_wp2
            go_roundw
            case rel => exact ⟨t + 1, A7, c7, by go_num, by rw [HA'.out], by omega, hs9, by rw [HNX.out]; exact HO9.out, hz9, hB9⟩
            case measure => simp [intOf]; omega
          refine AllReadyH.cons rfl (fun K hK => ?_) AllReadyH.nil
          (try simp only [List.getElem_toArray, List.getElem_cons_succ, List.getElem_cons_zero])
          go_simp
          go_at_call 26; refine (CN.out _ (by ((repeat (first | with_reducible assumption | with_reducible exact Below.refl _ _ | with_reducible apply below_al | with_reducible apply below_dr | with_reducible refine below_more ?_ (by assumption)))))).mono ?_; rintro e' x5 ⟨rfl, d5⟩
          (try (go_wp2_with fail))
          refine hK.out _ _ ?_ (fun hHeld => ?_)
          · trivial
          clear hK K
          (try simp only [Act.put, List.setIfInBounds_toArray, List.set_cons_succ, List.set_cons_zero])
          refine wpAnyH_ready (rs := [1, 6]) (by kernel_rfl) (by simp) ?_
          refine AllReadyH.cons rfl (fun K hK => ?_) ?_
          · (try simp only [List.getElem_toArray, List.getElem_cons_succ, List.getElem_cons_zero])
            have cl2 := (hsb.drew.up d5).cell 2
            simp only [List.getElem?_cons_succ, List.getElem?_cons_zero] at cl2
            go_simp
            refine hK.out _ _ ?_ (fun hHeld => ?_)
            · trivial
            clear hK K
            (try simp only [Act.put, List.setIfInBounds_toArray, List.set_cons_succ, List.set_cons_zero])
            refine wpAnyH_ready (rs := [6]) (by kernel_rfl) (by simp) ?_
            refine AllReadyH.cons rfl (fun K hK => ?_) AllReadyH.nil
            (try simp only [List.getElem_toArray, List.getElem_cons_succ, List.getElem_cons_zero])
            refine Eq.mpr (if_pos (by first | rfl | simp [Region.wanted, yielded, Act.put])) ?_
            refine wp_bs1R _ rfl V (by first | rfl | simp [Act.eval]) LV.out ?_
            intro g6 x6 hb6 hg6 hl6 hf6 hB6
            refine hK.out _ _ ?_ (fun hHeld => ?_)
            · trivial
            clear hK K
            (try simp only [Act.put, List.setIfInBounds_toArray, List.set_cons_succ, List.set_cons_zero])
            refine wpAnyH_ready (rs := [7]) (by kernel_rfl) (by simp) ?_
            refine AllReadyH.cons rfl (fun K hK => ?_) AllReadyH.nil
            (try simp only [List.getElem_toArray, List.getElem_cons_succ, List.getElem_cons_zero])
            refine Eq.mpr (if_pos (by first | rfl | simp [Region.wanted, yielded, Act.put])) ?_
            refine wp_appHF (.tmp 34) (.tmp 39) 29 34 rfl Tryd.underlying29 infoR (g1 + 1) A' t c' T (by first | rfl | simp [Act.eval]) (((hown.up (below_dr (Below.refl _ _))).up d5).up hB6) v V HVV.out g6 (by first | rfl | simp [Act.eval]) HV.out hb6 (by omega) (by have h6 := hB6.size; have h5 := d5.size; omega) ?_
            intro A7 c7 x7 ho7 hf7 hB7
            have h5s := d5.size
            have h6s := hB6.size
            have hs7 := ((hsb.drew.up d5).stepF hf6).below hB7 (by omega)
            refine hK.out _ _ ?_ (fun hHeld => ?_)
            · trivial
            clear hK K
            (try simp only [Act.put, List.setIfInBounds_toArray, List.set_cons_succ, List.set_cons_zero])
            refine wpAnyH_take (i := 8) (v := ?_) rfl (by kernel_rfl) (by kernel_rfl) (by kernel_rfl) (fun _ _ _ h => h) (Or.inl ⟨by rfl, ?_⟩) (by assumption) ?_
            rotate_left 1
            · intro w hSw; (try dsimp only at hSw); simp only [List.getElem_toArray, List.getElem_cons_succ, List.getElem_cons_zero]; go_simp; try (with_reducible rfl)
            (try simp only [List.getElem_toArray, List.getElem_cons_succ, List.getElem_cons_zero, Act.put, List.setIfInBounds_toArray, List.set_cons_succ, List.set_cons_zero])
            refine wpAnyH_ready (rs := [9]) (by kernel_rfl) (by simp) ?_
            refine AllReadyH.cons rfl (fun K hK => ?_) AllReadyH.nil
            (try simp only [List.getElem_toArray, List.getElem_cons_succ, List.getElem_cons_zero])
            refine Eq.mpr (if_pos (by first | rfl | simp [Region.wanted, yielded, Act.put])) ?_
            refine wp_storeC 29 (.tmp 41) (.tmp 40) rfl g1 2 (.slice A7 (t + 1) c7) _ _ (by first | rfl | simp [Act.eval]) (by first | rfl | simp [Act.eval]) hs7 (by simp) (by kernel_rfl) rfl rfl ?_
            intro x9 hs9 ho9
            refine hK.out _ _ ?_ (fun hHeld => ?_)
            · trivial
            clear hK K
            (try simp only [Act.put, List.setIfInBounds_toArray, List.set_cons_succ, List.set_cons_zero])
            refine wpAnyH_done (by kernel_rfl) ?_ _
            have hB9 : Below w.heap.size w x9 := ((((below_dr hbel).trans (d5.mono (below_dr hbel).size)).trans (hB6.mono (by omega))).trans (hB7.mono (by omega))).trans (ho9.below (by omega))
            have ho9b := ho7.only ho9 (by omega)
            have hz9 := ho9.blk ((((hzb.drew.up d5).stepF hf6)).below hB7 (by omega)) (by omega)
            have HO9 := Lib.hid ho9b
            clear ho7 ho9b
            go_wp2
            go_roundw
            case rel => exact ⟨t + 1, A7, c7, by go_num, by rw [HA'.out], by omega, hs9, by rw [HNX.out]; exact HO9.out, hz9, hB9⟩
            case measure => simp [intOf]; omega
          refine AllReadyH.cons rfl (fun K hK => ?_) AllReadyH.nil
          (try simp only [List.getElem_toArray, List.getElem_cons_succ, List.getElem_cons_zero])
          refine Eq.mpr (if_pos (by first | rfl | simp [Region.wanted, yielded, Act.put])) ?_
          refine wp_bs1R _ rfl V (by first | rfl | simp [Act.eval]) LV.out ?_
          intro g6 x6 hb6 hg6 hl6 hf6 hB6
          refine hK.out _ _ ?_ (fun hHeld => ?_)
          · trivial
          clear hK K
          (try simp only [Act.put, List.setIfInBounds_toArray, List.set_cons_succ, List.set_cons_zero])
          refine wpAnyH_ready (rs := [1]) (by kernel_rfl) (by simp) ?_
          refine AllReadyH.cons rfl (fun K hK => ?_) AllReadyH.nil
          (try simp only [List.getElem_toArray, List.getElem_cons_succ, List.getElem_cons_zero])
          have cl2 := ((hsb.drew.up d5).stepF hf6).cell 2
          simp only [List.getElem?_cons_succ, List.getElem?_cons_zero] at cl2
          go_simp
          refine hK.out _ _ ?_ (fun hHeld => ?_)
          · trivial
          clear hK K
          (try simp only [Act.put, List.setIfInBounds_toArray, List.set_cons_succ, List.set_cons_zero])
          refine wpAnyH_ready (rs := [7]) (by kernel_rfl) (by simp) ?_
          refine AllReadyH.cons rfl (fun K hK => ?_) AllReadyH.nil
          (try simp only [List.getElem_toArray, List.getElem_cons_succ, List.getElem_cons_zero])
          refine Eq.mpr (if_pos (by first | rfl | simp [Region.wanted, yielded, Act.put])) ?_
          refine wp_appHF (.tmp 34) (.tmp 39) 29 34 rfl Tryd.underlying29 infoR (g1 + 1) A' t c' T (by first | rfl | simp [Act.eval]) (((hown.up (below_dr (Below.refl _ _))).up d5).up hB6) v V HVV.out g6 (by first | rfl | simp [Act.eval]) HV.out hb6 (by omega) (by have h6 := hB6.size; have h5 := d5.size; omega) ?_
          intro A7 c7 x7 ho7 hf7 hB7
          have h5s := d5.size
          have h6s := hB6.size
          have hs7 := ((hsb.drew.up d5).stepF hf6).below hB7 (by omega)
          refine hK.out _ _ ?_ (fun hHeld => ?_)
          · trivial
          clear hK K
          (try simp only [Act.put, List.setIfInBounds_toArray, List.set_cons_succ, List.set_cons_zero])
          refine wpAnyH_take (i := 8) (v := ?_) rfl (by kernel_rfl) (by kernel_rfl) (by kernel_rfl) (fun _ _ _ h => h) (Or.inl ⟨by rfl, ?_⟩) (by assumption) ?_
          rotate_left 1
          · intro w hSw; (try dsimp only at hSw); simp only [List.getElem_toArray, List.getElem_cons_succ, List.getElem_cons_zero]; go_simp; try (with_reducible rfl)
          (try simp only [List.getElem_toArray, List.getElem_cons_succ, List.getElem_cons_zero, Act.put, List.setIfInBounds_toArray, List.set_cons_succ, List.set_cons_zero])
          refine wpAnyH_ready (rs := [9]) (by kernel_rfl) (by simp) ?_
          refine AllReadyH.cons rfl (fun K hK => ?_) AllReadyH.nil
          (try simp only [List.getElem_toArray, List.getElem_cons_succ, List.getElem_cons_zero])
          refine Eq.mpr (if_pos (by first | rfl | simp [Region.wanted, yielded, Act.put])) ?_
          refine wp_storeC 29 (.tmp 41) (.tmp 40) rfl g1 2 (.slice A7 (t + 1) c7) _ _ (by first | rfl | simp [Act.eval]) (by first | rfl | simp [Act.eval]) hs7 (by simp) (by kernel_rfl) rfl rfl ?_
          intro x9 hs9 ho9
          refine hK.out _ _ ?_ (fun hHeld => ?_)
          · trivial
          clear hK K
          (try simp only [Act.put, List.setIfInBounds_toArray, List.set_cons_succ, List.set_cons_zero])
          refine wpAnyH_done (by kernel_rfl) ?_ _
          have hB9 : Below w.heap.size w x9 := ((((below_dr hbel).trans (d5.mono (below_dr hbel).size)).trans (hB6.mono (by omega))).trans (hB7.mono (by omega))).trans (ho9.below (by omega))
          have ho9b := ho7.only ho9 (by omega)
          have hz9 := ho9.blk ((((hzb.drew.up d5).stepF hf6)).below hB7 (by omega)) (by omega)
          have HO9 := Lib.hid ho9b
          clear ho7 ho9b
          go_wp2
          go_roundw
          case rel => exact ⟨t + 1, A7, c7, by go_num, by rw [HA'.out], by omega, hs9, by rw [HNX.out]; exact HO9.out, hz9, hB9⟩
          case measure => simp [intOf]; omega
      · have r1 : Int.tmod (a : Int) 2 = 1 := by rw [Int.tmod_eq_emod_of_nonneg (by omega)]; omega
        have r2 : (a : Int) % 2 = 1 := by omega
        have r3 : IntKind.i64.wrap 1 = 1 := by rw [IntKind.wrap_i64]; omega
        have hse : s = a - 1 := by rw [hs]; unfold sib; rw [if_pos (by omega)]
        have u4 : IntKind.i64.wrap ((a : Int) - 1) = (s : Int) := by rw [IntKind.wrap_i64]; omega
        have e2 : ¬ (wt : Int) ≤ (s : Int) := by omega
        clear hs hse hb1
        go_upto_region 10 with (first | (go_at_call 24; refine (CD.out _).mono ?_; rintro e' z0 ⟨rfl, f0⟩) | (go_at_call 25; refine (CWt.out _).mono ?_; rintro e' z1 ⟨rfl, f1⟩))
        have hsb := (hsb.up f0).up f1
        have hown := (hown.up f0).up f1
        have hzb := (hzb.up f0).up f1
        have hbel := below_more (below_more hbel f0) f1
        have hsl := hsb.lt
        have hzl := hzb.lt
        have CN : Hid (∀ W : World, Below z1.heap.size z1 W → Calls Tryd.prog 26 #[.slice A n c, .int .i64 (t : Int), .int .i64 (s : Int)] W (Ret W (.agg V.toArray))) := Lib.hid fun W h => CN.out W (below_more (below_more f0 f1) h)
        have sdz : z1.drew.heap.size = z1.heap.size := rfl
        refine wp_region_held_drew (S := fun _ => True) (by kernel_rfl) ?_ (fun hHeld => ?_)
        · trivial
        refine wpAnyH_take (i := 0) (v := ?_) rfl (by kernel_rfl) (by kernel_rfl) (by kernel_rfl) (fun _ _ _ h => h) (Or.inl ⟨by rfl, ?_⟩) (by assumption) ?_
        rotate_left 1
        · intro w hSw; (try dsimp only at hSw); simp only [List.getElem_toArray, List.getElem_cons_succ, List.getElem_cons_zero]; go_simp; try (with_reducible rfl)
        (try simp only [List.getElem_toArray, List.getElem_cons_succ, List.getElem_cons_zero, Act.put, List.setIfInBounds_toArray, List.set_cons_succ, List.set_cons_zero])
        refine wpAnyH_take (i := 2) (v := ?_) rfl (by kernel_rfl) (by kernel_rfl) (by kernel_rfl) (fun _ _ _ h => h) (Or.inl ⟨by rfl, ?_⟩) (by assumption) ?_
        rotate_left 1
        · intro w hSw; (try dsimp only at hSw); simp only [List.getElem_toArray, List.getElem_cons_succ, List.getElem_cons_zero]; go_simp; try (with_reducible rfl)
        (try simp only [List.getElem_toArray, List.getElem_cons_succ, List.getElem_cons_zero, Act.put, List.setIfInBounds_toArray, List.set_cons_succ, List.set_cons_zero])
        refine wpAnyH_take (i := 3) (v := ?_) rfl (by kernel_rfl) (by kernel_rfl) (by kernel_rfl) (fun _ _ _ h => h) (Or.inl ⟨by rfl, ?_⟩) (by assumption) ?_
        rotate_left 1
        · intro w hSw; (try dsimp only at hSw); simp only [List.getElem_toArray, List.getElem_cons_succ, List.getElem_cons_zero]; go_simp; try (with_reducible rfl)
        (try simp only [List.getElem_toArray, List.getElem_cons_succ, List.getElem_cons_zero, Act.put, List.setIfInBounds_toArray, List.set_cons_succ, List.set_cons_zero])
        refine wpAnyH_take (i := 4) (v := ?_) rfl (by kernel_rfl) (by kernel_rfl) (by kernel_rfl) (fun _ _ _ h => h) (Or.inl ⟨by rfl, ?_⟩) (by assumption) ?_
        rotate_left 1
        · intro w hSw; (try dsimp only at hSw); simp only [List.getElem_toArray, List.getElem_cons_succ, List.getElem_cons_zero]; go_simp; try (with_reducible rfl)
        (try simp only [List.getElem_toArray, List.getElem_cons_succ, List.getElem_cons_zero, Act.put, List.setIfInBounds_toArray, List.set_cons_succ, List.set_cons_zero])
        refine wpAnyH_ready (rs := [1, 5]) (by kernel_rfl) (by simp) ?_
        refine AllReadyH.cons rfl (fun K hK => ?_) ?_
        · (try simp only [List.getElem_toArray, List.getElem_cons_succ, List.getElem_cons_zero])
          have cl2 := hsb.drew.cell 2
          simp only [List.getElem?_cons_succ, List.getElem?_cons_zero] at cl2
          go_simp
          refine hK.out _ _ ?_ (fun hHeld => ?_)
          · trivial
          clear hK K
          (try simp only [Act.put, List.setIfInBounds_toArray, List.set_cons_succ, List.set_cons_zero])
          refine wpAnyH_ready (rs := [5]) (by kernel_rfl) (by simp) ?_
          refine AllReadyH.cons rfl (fun K hK => ?_) AllReadyH.nil
          (try simp only [List.getElem_toArray, List.getElem_cons_succ, List.getElem_cons_zero])
          go_simp
          go_at_call 26; refine (CN.out _ (by ((repeat (first | with_reducible assumption | with_reducible exact Below.refl _ _ | with_reducible apply below_al | with_reducible apply below_dr | with_reducible refine below_more ?_ (by assumption)))))).mono ?_; rintro e' x5 ⟨rfl, d5⟩
          (try (go_wp2_with fail))
          refine hK.out _ _ ?_ (fun hHeld => ?_)
          · trivial
          clear hK K
          (try simp only [Act.put, List.setIfInBounds_toArray, List.set_cons_succ, List.set_cons_zero])
          refine wpAnyH_ready (rs := [6]) (by kernel_rfl) (by simp) ?_
          refine AllReadyH.cons rfl (fun K hK => ?_) AllReadyH.nil
          (try simp only [List.getElem_toArray, List.getElem_cons_succ, List.getElem_cons_zero])
          refine Eq.mpr (if_pos (by first | rfl | simp [Region.wanted, yielded, Act.put])) ?_
          refine wp_bs1R _ rfl V (by first | rfl | simp [Act.eval]) LV.out ?_
          intro g6 x6 hb6 hg6 hl6 hf6 hB6
          refine hK.out _ _ ?_ (fun hHeld => ?_)
          · trivial
          clear hK K
          (try simp only [Act.put, List.setIfInBounds_toArray, List.set_cons_succ, List.set_cons_zero])
          refine wpAnyH_ready (rs := [7]) (by kernel_rfl) (by simp) ?_
          refine AllReadyH.cons rfl (fun K hK => ?_) AllReadyH.nil
          (try simp only [List.getElem_toArray, List.getElem_cons_succ, List.getElem_cons_zero])
          refine Eq.mpr (if_pos (by first | rfl | simp [Region.wanted, yielded, Act.put])) ?_
          refine wp_appHF (.tmp 34) (.tmp 39) 29 34 rfl Tryd.underlying29 infoR (g1 + 1) A' t c' T (by first | rfl | simp [Act.eval]) (((hown.up (below_dr (Below.refl _ _))).up d5).up hB6) v V HVV.out g6 (by first | rfl | simp [Act.eval]) HV.out hb6 (by omega) (by have h6 := hB6.size; have h5 := d5.size; omega) ?_
          intro A7 c7 x7 ho7 hf7 hB7
          have h5s := d5.size
          have h6s := hB6.size
          have hs7 := ((hsb.drew.up d5).stepF hf6).below hB7 (by omega)
          refine hK.out _ _ ?_ (fun hHeld => ?_)
          · trivial
          clear hK K
          (try simp only [Act.put, List.setIfInBounds_toArray, List.set_cons_succ, List.set_cons_zero])
          refine wpAnyH_take (i := 8) (v := ?_) rfl (by kernel_rfl) (by kernel_rfl) (by kernel_rfl) (fun _ _ _ h => h) (Or.inl ⟨by rfl, ?_⟩) (by assumption) ?_
          rotate_left 1
          · intro w hSw; (try dsimp only at hSw); simp only [List.getElem_toArray, List.getElem_cons_succ, List.getElem_cons_zero]; go_simp; try (with_reducible rfl)
          (try simp only [List.getElem_toArray, List.getElem_cons_succ, List.getElem_cons_zero, Act.put, List.setIfInBounds_toArray, List.set_cons_succ, List.set_cons_zero])
          refine wpAnyH_ready (rs := [9]) (by kernel_rfl) (by simp) ?_
          refine AllReadyH.cons rfl (fun K hK => ?_) AllReadyH.nil
          (try simp only [List.getElem_toArray, List.getElem_cons_succ, List.getElem_cons_zero])
          refine Eq.mpr (if_pos (by first | rfl | simp [Region.wanted, yielded, Act.put])) ?_
          refine wp_storeC 29 (.tmp 41) (.tmp 40) rfl g1 2 (.slice A7 (t + 1) c7) _ _ (by first | rfl | simp [Act.eval]) (by first | rfl | simp [Act.eval]) hs7 (by simp) (by kernel_rfl) rfl rfl ?_
          intro x9 hs9 ho9
          refine hK.out _ _ ?_ (fun hHeld => ?_)
          · trivial
          clear hK K
          (try simp only [Act.put, List.setIfInBounds_toArray, List.set_cons_succ, List.set_cons_zero])
          refine wpAnyH_done (by kernel_rfl) ?_ _
          have hB9 : Below w.heap.size w x9 := ((((below_dr hbel).trans (d5.mono (below_dr hbel).size)).trans (hB6.mono (by omega))).trans (hB7.mono (by omega))).trans (ho9.below (by omega))
          have ho9b := ho7.only ho9 (by omega)
          have hz9 := ho9.blk ((((hzb.drew.up d5).stepF hf6)).below hB7 (by omega)) (by omega)
          have HO9 := Lib.hid ho9b
          clear ho7 ho9b
          go_wp2
          go_roundw
          case rel => exact ⟨t + 1, A7, c7, by go_num, by rw [HA'.out], by omega, hs9, by rw [HNX.out]; exact HO9.out, hz9, hB9⟩
          case measure => simp [intOf]; omega
        refine AllReadyH.cons rfl (fun K hK => ?_) AllReadyH.nil
        (try simp only [List.getElem_toArray, List.getElem_cons_succ, List.getElem_cons_zero])
        go_simp
        go_at_call 26; refine (CN.out _ (by ((repeat (first | with_reducible assumption | with_reducible exact Below.refl _ _ | with_reducible apply below_al | with_reducible apply below_dr | with_reducible refine below_more ?_ (by assumption)))))).mono ?_; rintro e' x5 ⟨rfl, d5⟩
        (try (go_wp2_with fail))
        refine hK.out _ _ ?_ (fun hHeld => ?_)
        · trivial
        clear hK K
        (try simp only [Act.put, List.setIfInBounds_toArray, List.set_cons_succ, List.set_cons_zero])
        refine wpAnyH_ready (rs := [1, 6]) (by kernel_rfl) (by simp) ?_
        refine AllReadyH.cons rfl (fun K hK => ?_) ?_
        · (try simp only [List.getElem_toArray, List.getElem_cons_succ, List.getElem_cons_zero])
          have cl2 := (hsb.drew.up d5).cell 2
          simp only [List.getElem?_cons_succ, List.getElem?_cons_zero] at cl2
          go_simp
          refine hK.out _ _ ?_ (fun hHeld => ?_)
          · trivial
          clear hK K
          (try simp only [Act.put, List.setIfInBounds_toArray, List.set_cons_succ, List.set_cons_zero])
          refine wpAnyH_ready (rs := [6]) (by kernel_rfl) (by simp) ?_
          refine AllReadyH.cons rfl (fun K hK => ?_) AllReadyH.nil
          (try simp only [List.getElem_toArray, List.getElem_cons_succ, List.getElem_cons_zero])
          refine Eq.mpr (if_pos (by first | rfl | simp [Region.wanted, yielded, Act.put])) ?_
          refine wp_bs1R _ rfl V (by first | rfl | simp [Act.eval]) LV.out ?_
          intro g6 x6 hb6 hg6 hl6 hf6 hB6
          refine hK.out _ _ ?_ (fun hHeld => ?_)
          · trivial
          clear hK K
          (try simp only [Act.put, List.setIfInBounds_toArray, List.set_cons_succ, List.set_cons_zero])
          refine wpAnyH_ready (rs := [7]) (by kernel_rfl) (by simp) ?_
          refine AllReadyH.cons rfl (fun K hK => ?_) AllReadyH.nil
          (try simp only [List.getElem_toArray, List.getElem_cons_succ, List.getElem_cons_zero])
          refine Eq.mpr (if_pos (by first | rfl | simp [Region.wanted, yielded, Act.put])) ?_
          refine wp_appHF (.tmp 34) (.tmp 39) 29 34 rfl Tryd.underlying29 infoR (g1 + 1) A' t c' T (by first | rfl | simp [Act.eval]) (((hown.up (below_dr (Below.refl _ _))).up d5).up hB6) v V HVV.out g6 (by first | rfl | simp [Act.eval]) HV.out hb6 (by omega) (by have h6 := hB6.size; have h5 := d5.size; omega) ?_
          intro A7 c7 x7 ho7 hf7 hB7
          have h5s := d5.size
          have h6s := hB6.size
          have hs7 := ((hsb.drew.up d5).stepF hf6).below hB7 (by omega)
          refine hK.out _ _ ?_ (fun hHeld => ?_)
          · trivial
          clear hK K
          (try simp only [Act.put, List.setIfInBounds_toArray, List.set_cons_succ, List.set_cons_zero])
          refine wpAnyH_take (i := 8) (v := ?_) rfl (by kernel_rfl) (by kernel_rfl) (by kernel_rfl) (fun _ _ _ h => h) (Or.inl ⟨by rfl, ?_⟩) (by assumption) ?_
          rotate_left 1
          · intro w hSw; (try dsimp only at hSw); simp only [List.getElem_toArray, List.getElem_cons_succ, List.getElem_cons_zero]; go_simp; try (with_reducible rfl)
          (try simp only [List.getElem_toArray, List.getElem_cons_succ, List.getElem_cons_zero, Act.put, List.setIfInBounds_toArray, List.set_cons_succ, List.set_cons_zero])
          refine wpAnyH_ready (rs := [9]) (by kernel_rfl) (by simp) ?_
          refine AllReadyH.cons rfl (fun K hK => ?_) AllReadyH.nil
          (try simp only [List.getElem_toArray, List.getElem_cons_succ, List.getElem_cons_zero])
          refine Eq.mpr (if_pos (by first | rfl | simp [Region.wanted, yielded, Act.put])) ?_
          refine wp_storeC 29 (.tmp 41) (.tmp 40) rfl g1 2 (.slice A7 (t + 1) c7) _ _ (by first | rfl | simp [Act.eval]) (by first | rfl | simp [Act.eval]) hs7 (by simp) (by kernel_rfl) rfl rfl ?_
          intro x9 hs9 ho9
          refine hK.out _ _ ?_ (fun hHeld => ?_)
          · trivial
          clear hK K
          (try simp only [Act.put, List.setIfInBounds_toArray, List.set_cons_succ, List.set_cons_zero])
          refine wpAnyH_done (by kernel_rfl) ?_ _
          have hB9 : Below w.heap.size w x9 := ((((below_dr hbel).trans (d5.mono (below_dr hbel).size)).trans (hB6.mono (by omega))).trans (hB7.mono (by omega))).trans (ho9.below (by omega))
          have ho9b := ho7.only ho9 (by omega)
          have hz9 := ho9.blk ((((hzb.drew.up d5).stepF hf6)).below hB7 (by omega)) (by omega)
          have HO9 := Lib.hid ho9b
          clear ho7 ho9b
          go_wp2
          go_roundw
          case rel => exact ⟨t + 1, A7, c7, by go_num, by rw [HA'.out], by omega, hs9, by rw [HNX.out]; exact HO9.out, hz9, hB9⟩
          case measure => simp [intOf]; omega
        refine AllReadyH.cons rfl (fun K hK => ?_) AllReadyH.nil
        (try simp only [List.getElem_toArray, List.getElem_cons_succ, List.getElem_cons_zero])
        refine Eq.mpr (if_pos (by first | rfl | simp [Region.wanted, yielded, Act.put])) ?_
        refine wp_bs1R _ rfl V (by first | rfl | simp [Act.eval]) LV.out ?_
        intro g6 x6 hb6 hg6 hl6 hf6 hB6
        refine hK.out _ _ ?_ (fun hHeld => ?_)
        · trivial
        clear hK K
        (try simp only [Act.put, List.setIfInBounds_toArray, List.set_cons_succ, List.set_cons_zero])
        refine wpAnyH_ready (rs := [1]) (by kernel_rfl) (by simp) ?_
        refine AllReadyH.cons rfl (fun K hK => ?_) AllReadyH.nil
        (try simp only [List.getElem_toArray, List.getElem_cons_succ, List.getElem_cons_zero])
        have cl2 := ((hsb.drew.up d5).stepF hf6).cell 2
        simp only [List.getElem?_cons_succ, List.getElem?_cons_zero] at cl2
        go_simp
        refine hK.out _ _ ?_ (fun hHeld => ?_)
        · trivial
        clear hK K
        (try simp only [Act.put, List.setIfInBounds_toArray, List.set_cons_succ, List.set_cons_zero])
        refine wpAnyH_ready (rs := [7]) (by kernel_rfl) (by simp) ?_
        refine AllReadyH.cons rfl (fun K hK => ?_) AllReadyH.nil
        (try simp only [List.getElem_toArray, List.getElem_cons_succ, List.getElem_cons_zero])
        refine Eq.mpr (if_pos (by first | rfl | simp [Region.wanted, yielded, Act.put])) ?_
        refine wp_appHF (.tmp 34) (.tmp 39) 29 34 rfl Tryd.underlying29 infoR (g1 + 1) A' t c' T (by first | rfl | simp [Act.eval]) (((hown.up (below_dr (Below.refl _ _))).up d5).up hB6) v V HVV.out g6 (by first | rfl | simp [Act.eval]) HV.out hb6 (by omega) (by have h6 := hB6.size; have h5 := d5.size; omega) ?_
        intro A7 c7 x7 ho7 hf7 hB7
        have h5s := d5.size
        have h6s := hB6.size
        have hs7 := ((hsb.drew.up d5).stepF hf6).below hB7 (by omega)
        refine hK.out _ _ ?_ (fun hHeld => ?_)
        · trivial
        clear hK K
        (try simp only [Act.put, List.setIfInBounds_toArray, List.set_cons_succ, List.set_cons_zero])
        refine wpAnyH_take (i := 8) (v := ?_) rfl (by kernel_rfl) (by kernel_rfl) (by kernel_rfl) (fun _ _ _ h => h) (Or.inl ⟨by rfl, ?_⟩) (by assumption) ?_
        rotate_left 1
        · intro w hSw; (try dsimp only at hSw); simp only [List.getElem_toArray, List.getElem_cons_succ, List.getElem_cons_zero]; go_simp; try (with_reducible rfl)
        (try simp only [List.getElem_toArray, List.getElem_cons_succ, List.getElem_cons_zero, Act.put, List.setIfInBounds_toArray, List.set_cons_succ, List.set_cons_zero])
        refine wpAnyH_ready (rs := [9]) (by kernel_rfl) (by simp) ?_
        refine AllReadyH.cons rfl (fun K hK => ?_) AllReadyH.nil
        (try simp only [List.getElem_toArray, List.getElem_cons_succ, List.getElem_cons_zero])
        refine Eq.mpr (if_pos (by first | rfl | simp [Region.wanted, yielded, Act.put])) ?_
        refine wp_storeC 29 (.tmp 41) (.tmp 40) rfl g1 2 (.slice A7 (t + 1) c7) _ _ (by first | rfl | simp [Act.eval]) (by first | rfl | simp [Act.eval]) hs7 (by simp) (by kernel_rfl) rfl rfl ?_
        intro x9 hs9 ho9
        refine hK.out _ _ ?_ (fun hHeld => ?_)
        · trivial
        clear hK K
        (try simp only [Act.put, List.setIfInBounds_toArray, List.set_cons_succ, List.set_cons_zero])
        refine wpAnyH_done (by kernel_rfl) ?_ _
        have hB9 : Below w.heap.size w x9 := ((((below_dr hbel).trans (d5.mono (below_dr hbel).size)).trans (hB6.mono (by omega))).trans (hB7.mono (by omega))).trans (ho9.below (by omega))
        have ho9b := ho7.only ho9 (by omega)
        have hz9 := ho9.blk ((((hzb.drew.up d5).stepF hf6)).below hB7 (by omega)) (by omega)
        have HO9 := Lib.hid ho9b
        clear ho7 ho9b
        go_wp2
        go_roundw
        case rel => exact ⟨t + 1, A7, c7, by go_num, by rw [HA'.out], by omega, hs9, by rw [HNX.out]; exact HO9.out, hz9, hB9⟩
        case measure => simp [intOf]; omega
    · have hlt' : ¬ (t : Int) < (D : Int) := by omega
      have e : t = D := by omega
      subst e
      have HO := Lib.hid hown
      clear ha hown
      go_wp2_with (first
        | (go_at_call 24; refine (CD.out _).mono ?_; rintro e' z0 ⟨rfl, f0⟩)
        | ((with_reducible refine at_load 31 (.tmp 5) ?_); refine wpList_load_mid rfl 31 (.tmp 5) rfl g1 0 (by first | rfl | simp [Act.eval]) [.int .i64 (n : Int), .int .i64 (i : Int), .slice A' t c'] _ (Blk.range (hsb.up f0)) Tryd.underlying31 rfl I3o ?_)
        | ((with_reducible refine at_store 31 (.tmp 4) (.tmp 44) ?_); refine wpList_store_blk rfl 31 (.tmp 4) (.tmp 44) rfl g0 [.int .i64 0, .int .i64 0, .slice none 0 0] [.int .i64 (n : Int), .int .i64 (i : Int), .slice A' t c'] 31 rfl rfl (hzb.up f0) rfl I3o (by simp [Value.oneCell']) ?_; intro y9 hy9 hoy9))
      refine bodyPost_ret (v := .agg #[.int .i64 (n : Int), .int .i64 (i : Int), .slice A' t c']) ?_ rfl ?_
      · exact results_one Tryd.results10 _ _ g0 31 _ (0, 0) _ (by rfl) hy9 Tryd.underlying31 rfl I3o
      · have ho1 := (HO.out.up f0).frm (Frm.only hoy9 (S := fun i => i = g0) rfl) (fun g hg hgg => by
          have := (HO.out.up f0).blkge hg
          omega)
        exact ⟨A', c', rfl, ho1.rd, ho1.cap.1, ho1.cap.2, (below_more hbel f0).trans (hoy9.below (by omega))⟩
end Go.Proofs.YtnfcnjboeocnmaaDoor
