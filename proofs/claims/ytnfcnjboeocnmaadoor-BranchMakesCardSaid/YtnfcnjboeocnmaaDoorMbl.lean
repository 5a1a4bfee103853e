/- Merged texts: BrnR. -/
import Derived.Test.YtnfcnjboeocnmaaDoorMbj
import Derived.Test.YtnfcnjboeocnmaaDoorMbi
/- The contract of package branch's Make. -/
namespace Go.Proofs.YtnfcnjboeocnmaaDoor
open Go.RowKit
set_option linter.unusedVariables false
set_option linter.unusedSimpArgs false

set_option maxRecDepth 100000 in
theorem Z3b : (Tryd.prog.info? 25).map (·.zero) = some (some (.agg #[.int .i64 0, .int .i64 0, .slice none 0 0])) := by kernel_rfl
set_option maxRecDepth 100000 in
theorem I3b : (Tryd.prog.info? 25).map (·.size) = some 3 := by kernel_rfl
set_option maxRecDepth 100000 in
theorem OwnH.blklt {w : World} {b n c g : Nat} {e : TypeId} {A : Option Addr} {L : List (List UInt8)} (h : OwnH w b e A n c L) (hg : blkOf A = some g) : g < w.heap.size := by
  rcases h.2.2.2 with ⟨hv, _⟩ | ⟨g', cap, cur, hv, hb, hr, _⟩
  · injection hv with e1; rw [e1] at hg; simp [blkOf] at hg
  · injection hv with e1
    rw [e1] at hg
    have : g' = g := by simpa [blkOf] using hg
    have := (Array.getElem?_eq_some_iff.1 hr).1
    omega
set_option maxRecDepth 100000 in
theorem wide_less (n k : Nat) (h : 1 < wide n k) : k < depth n := by
  rcases Nat.lt_or_ge k (depth n) with h1 | h1
  · exact h1
  · exfalso
    have h2 : ∀ d, wide n (depth n + d) ≤ 1 := fun d => by
      induction d with
      | zero => exact wide_end n
      | succ d ih =>
        show (wide n (depth n + d) + 1) / 2 ≤ 1
        omega
    have := h2 (k - depth n)
    rw [show depth n + (k - depth n) = k by omega] at this
    omega
set_option maxRecDepth 100000 in
set_option maxHeartbeats 4000000 in
theorem bmake_low (A : Option Addr) (n c : Nat) (i : Int) (w : World) (hn : n ≤ 64) (hi : i < 0) : Calls Tryd.prog 9 #[.slice A n c, .int .i64 i] w (Ret w (.tuple #[.agg #[.int .i64 0, .int .i64 0, .slice none 0 0], .int .i64 5])) := by
  have BM : ∀ W, (Instr.build 25 #[]).run Tryd.prog W = .ok (.agg #[.int .i64 0, .int .i64 0, .slice none 0 0]) W := fun W => run_build W _ _ _ (by kernel_rfl)
  have hnm : ¬ (65536 : Int) < (n : Int) := by omega
  go_enter Tryd.func9, Tryd.ntmps9
  go_upto_region 1 with ((with_reducible refine at_alloc 25 ?_); refine wpList_allocT rfl 25 [.int .i64 0, .int .i64 0, .slice none 0 0] Z3b rfl w.heap.size w (Below.refl _ _) (Nat.le_refl _) ?_; intro g0 x0 hb0 hg0 hl0 hf0 hB0)
  go_wp2_with (first
    | ((with_reducible refine at_bldZ 25 #[] ?_); refine wpList_bld rfl 25 #[] rfl #[] (.agg #[.int .i64 0, .int .i64 0, .slice none 0 0]) (by rfl) BM ?_)
    | ((with_reducible refine at_store 25 (.tmp 4) (.tmp 21) ?_); refine wpList_store_blk rfl 25 (.tmp 4) (.tmp 21) rfl g0 [.int .i64 0, .int .i64 0, .slice none 0 0] [.int .i64 0, .int .i64 0, .slice none 0 0] 25 rfl rfl hb0 rfl I3b (by simp [Value.oneCell']) ?_; intro x2 hx2 ho2))
  refine bodyPost_ret (v := .tuple #[.agg #[.int .i64 0, .int .i64 0, .slice none 0 0], .int .i64 5]) ?_ rfl ?_
  · exact results_in Tryd.results9 _ _ g0 25 _ (0, 0) _ _ (by rfl) (by rfl) hx2 Tryd.underlying25 rfl I3b
  · exact ⟨rfl, hB0.trans (ho2.below (by omega))⟩
set_option maxRecDepth 100000 in
set_option maxHeartbeats 4000000 in
theorem bmake_high (A : Option Addr) (n c : Nat) (i : Int) (w : World) (hn : n ≤ 64) (hi0 : ¬ i < 0) (hi : (n : Int) ≤ i) : Calls Tryd.prog 9 #[.slice A n c, .int .i64 i] w (Ret w (.tuple #[.agg #[.int .i64 0, .int .i64 0, .slice none 0 0], .int .i64 5])) := by
  have BM : ∀ W, (Instr.build 25 #[]).run Tryd.prog W = .ok (.agg #[.int .i64 0, .int .i64 0, .slice none 0 0]) W := fun W => run_build W _ _ _ (by kernel_rfl)
  have hnm : ¬ (65536 : Int) < (n : Int) := by omega
  go_enter Tryd.func9, Tryd.ntmps9
  go_upto_region 1 with ((with_reducible refine at_alloc 25 ?_); refine wpList_allocT rfl 25 [.int .i64 0, .int .i64 0, .slice none 0 0] Z3b rfl w.heap.size w (Below.refl _ _) (Nat.le_refl _) ?_; intro g0 x0 hb0 hg0 hl0 hf0 hB0)
  go_wp2_with (first
    | ((with_reducible refine at_bldZ 25 #[] ?_); refine wpList_bld rfl 25 #[] rfl #[] (.agg #[.int .i64 0, .int .i64 0, .slice none 0 0]) (by rfl) BM ?_)
    | ((with_reducible refine at_store 25 (.tmp 4) (.tmp 21) ?_); refine wpList_store_blk rfl 25 (.tmp 4) (.tmp 21) rfl g0 [.int .i64 0, .int .i64 0, .slice none 0 0] [.int .i64 0, .int .i64 0, .slice none 0 0] 25 rfl rfl hb0 rfl I3b (by simp [Value.oneCell']) ?_; intro x2 hx2 ho2))
  refine bodyPost_ret (v := .tuple #[.agg #[.int .i64 0, .int .i64 0, .slice none 0 0], .int .i64 5]) ?_ rfl ?_
  · exact results_in Tryd.results9 _ _ g0 25 _ (0, 0) _ _ (by rfl) (by rfl) hx2 Tryd.underlying25 rfl I3b
  · exact ⟨rfl, hB0.trans (ho2.below (by omega))⟩
set_option maxRecDepth 100000 in
set_option maxHeartbeats 4000000 in
theorem bmake_calls (A : Option Addr) (n c i : Nat) (L : List (List UInt8)) (w : World) (hr : RdH w A n L) (hT : Tab w) (hn : n ≤ 64) (hi : i < n) (hc : n ≤ c) (hm : c ≤ maxLen) :
    Calls Tryd.prog 9 #[.slice A n c, .int .i64 (i : Int)] w fun e w' => ∃ A' c', e = .returned (.tuple #[.agg #[.int .i64 (n : Int), .int .i64 (i : Int), .slice A' (depth n) c'], .int .i64 0]) ∧ RdH w' A' (depth n) (pth L i (depth n)) ∧ depth n ≤ c' ∧ c' ≤ maxLen ∧ Below w.heap.size w w' := by
  have hln := hr.len
  obtain ⟨D, hD⟩ : ∃ D, D = depth n := ⟨_, rfl⟩
  have hD6 : D ≤ 6 := by rw [hD]; exact depth_le6 n hn
  have CS0 : Hid (∀ (W : World) (Bv : Option Addr) (wt cB a : Nat) (M : List (List UInt8)), RdH W Bv wt M → a < wt → wt ≤ 65536 → Calls Tryd.prog 23 #[.slice Bv wt cB, .int .i64 (a : Int)] W (Ret W (.agg ((hat M (sib wt a)).map B8).toArray))) := Lib.hid fun W Bv wt cB a M h1 h2 h3 => sibling_calls Bv wt cB a M W h1 h2 h3
  have CA0 : Hid (∀ (W : World) (Bv : Option Addr) (wt cB : Nat) (M : List (List UInt8)), RdH W Bv wt M → Tab W → wt ≤ 64 → wt ≤ cB → cB ≤ maxLen → Calls Tryd.prog 22 #[.slice Bv wt cB] W fun e w' => ∃ A' c', e = .returned (.slice A' ((wt + 1) / 2) c') ∧ OwnH w' W.heap.size 35 A' ((wt + 1) / 2) c' (abv M) ∧ Below W.heap.size W w') := Lib.hid fun W Bv wt cB M h1 h2 h3 h4 h5 => gaboveO_calls Bv wt cB M W h1 h2 h3 h4 h5
  have H32 : Hid (∀ (t a : Nat), a < wide n t → (hat (lev t L) a).length = 32) := Lib.hid fun t a h => hat_32 (lev_32 L hr.all t) (by rw [lev_len, hln]; exact h)
  have HP : Hid (∀ t, pth L i (t + 1) = pth L i t ++ [hat (lev t L) (sib (wide n t) (ix i t))]) := Lib.hid fun t => by have := pth_succ L i t; rw [hln] at this; exact this
  have HIX : Hid (∀ t, ix i t < wide n t) := Lib.hid fun t => ix_lt n i hi t
  have hwl := fun t => wide_64 n hn t
  have HWL := Lib.hid hwl
  have HMO : Hid (∀ t, t < D → 1 < wide n t) := Lib.hid fun t h => wide_more n t (by rw [← hD]; exact h)
  have HLE : Hid (∀ t, 1 < wide n t → t < D) := Lib.hid fun t h => by rw [hD]; exact wide_less n t h
  have HT := Lib.hid hT
  have HR := Lib.hid hr
  have BM : ∀ W, (Instr.build 25 #[(0, .int .i64 (n : Int)), (1, .int .i64 (i : Int))]).run Tryd.prog W = .ok (.agg #[.int .i64 (n : Int), .int .i64 (i : Int), .slice none 0 0]) W := fun W => run_build W _ _ _ (by kernel_rfl)
  have hnm : ¬ (65536 : Int) < (n : Int) := by omega
  have hi0 : ¬ (i : Int) < 0 := by omega
  have hi1 : ¬ (n : Int) ≤ (i : Int) := by omega
  rw [← hD]
  clear hr hD hwl hT
  go_enter Tryd.func9, Tryd.ntmps9
  go_upto_region 1 with ((with_reducible refine at_alloc 25 ?_); refine wpList_allocT rfl 25 [.int .i64 0, .int .i64 0, .slice none 0 0] Z3b rfl w.heap.size w (Below.refl _ _) (Nat.le_refl _) ?_; intro g0 x0 hb0 hg0 hl0 hf0 hB0)
  go_upto_region 6 with (first
    | ((with_reducible refine at_bldZ 25 #[(0, .tmp 23), (1, .tmp 24)] ?_); refine wpList_bld rfl 25 #[(0, .tmp 23), (1, .tmp 24)] rfl #[(0, .int .i64 (n : Int)), (1, .int .i64 (i : Int))] (.agg #[.int .i64 (n : Int), .int .i64 (i : Int), .slice none 0 0]) (by first | rfl | simp [Act.eval]) BM ?_)
    | ((with_reducible refine at_alloc 25 ?_); refine wpList_allocT rfl 25 [.int .i64 0, .int .i64 0, .slice none 0 0] Z3b rfl w.heap.size w hB0 (Nat.le_refl _) ?_; intro g1 x1 hb1 hg1 hl1 hf1 hB1)
    | ((with_reducible refine at_store 25 (.tmp 6) (.tmp 25) ?_); refine wpList_store_blk rfl 25 (.tmp 6) (.tmp 25) rfl g1 [.int .i64 0, .int .i64 0, .slice none 0 0] [.int .i64 (n : Int), .int .i64 (i : Int), .slice none 0 0] 25 rfl rfl hb1 rfl I3b (by simp [Value.oneCell']) ?_; intro x2 hb2 ho2))
  have hz0 := ho2.blk (hb0.stepF hf1) (by omega)
  have hB2 : Below w.heap.size w x2 := hB1.trans (ho2.below (by omega))
  have hs2 := ho2.size
  have hlv0 : RdHF x2 (fun k => k = g1 ∨ blkOf none = some k) A n L := RdHF.old HR.out hB2 (fun k hk => by rcases hk with rfl | hk; omega; simp [blkOf] at hk)
  clear hb0 hf0 hB0 hb1 hf1 hB1 ho2
  go_wp2
  go_loopw [7, 8] (fun lv pv wr => ∃ (t : Nat) (Bv : Option Addr) (cB : Nat) (A' : Option Addr) (c' : Nat), lv = .slice Bv (wide n t) cB ∧ pv = .int .i64 ((ix i t : Nat) : Int) ∧ t ≤ D ∧ Blk wr g1 [.int .i64 (n : Int), .int .i64 (i : Int), .slice A' t c'] 25 ∧ OwnH wr (g1 + 1) 35 A' t c' (pth L i t) ∧ RdHF wr (fun k => k = g1 ∨ blkOf A' = some k) Bv (wide n t) (lev t L) ∧ wide n t ≤ cB ∧ cB ≤ maxLen ∧ Blk wr g0 [.int .i64 0, .int .i64 0, .slice none 0 0] 25 ∧ Below w.heap.size w wr) (fun lv _ _ => lenOf lv)
  case atStart => exact ⟨0, A, c, none, 0, rfl, rfl, by omega, hb2, OwnH.nil _ _ _, hlv0, hc, hm, hz0, hB2⟩
  case round =>
    obtain ⟨t, Bv, cB, A', c', rfl, rfl, htD, hsb, hown, hlv, hcB, hmB, hzb, hbel⟩ := hrel
    obtain ⟨wo, hwo⟩ : ∃ x, x = wr := ⟨_, rfl⟩
    rw [← hwo] at hsb hown hlv hzb hbel ⊢
    clear hwo hb2 hz0 hB2 hlv0
    obtain ⟨a, ha⟩ : ∃ a, a = ix i t := ⟨_, rfl⟩
    obtain ⟨wt, hwt⟩ : ∃ x, x = wide n t := ⟨_, rfl⟩
    rw [← ha, ← hwt]
    rw [← hwt] at hlv hcB
    by_cases hlt : t < D
    · have h1w : 1 < wt := by rw [hwt]; exact HMO.out t hlt
      have h1w' : (1 : Int) < (wt : Int) := by omega
      obtain ⟨a', ha'⟩ : ∃ x, x = a / 2 := ⟨_, rfl⟩
      obtain ⟨wn, hwn⟩ : ∃ x, x = (wt + 1) / 2 := ⟨_, rfl⟩
      obtain ⟨LV1, hLV1⟩ : ∃ x, x = lev t L := ⟨_, rfl⟩
      obtain ⟨v, hv⟩ : ∃ v, v = hat LV1 (sib wt a) := ⟨_, rfl⟩
      obtain ⟨V, hV⟩ : ∃ V, V = v.map B8 := ⟨_, rfl⟩
      obtain ⟨T, hTT⟩ : ∃ T, T = pth L i t := ⟨_, rfl⟩
      have hawt : a < wt := by rw [ha, hwt]; exact HIX.out t
      have hw64 : wt ≤ 64 := by rw [hwt]; exact HWL.out t
      have hv32 : v.length = 32 := by rw [hv, hLV1]; exact H32.out t _ (by rw [← hwt]; exact sib_lt _ _ hawt)
      have HV := Lib.hid hv32
      have HVV := Lib.hid hV
      have LV : Hid (V.length = 32) := Lib.hid (by rw [hV, List.length_map, hv32])
      have HNX : Hid (pth L i (t + 1) = T ++ [v]) := Lib.hid (by rw [HP.out t, hTT, hv, hLV1, hwt, ha])
      have HA' : Hid (ix i (t + 1) = a') := Lib.hid (by rw [ha', ha]; rfl)
      have HWX : Hid (wide n (t + 1) = wn) := Lib.hid (by rw [hwn, hwt]; rfl)
      have HLX : Hid (lev (t + 1) L = abv LV1) := Lib.hid (by rw [hLV1]; rfl)
      rw [← hLV1] at hlv
      rw [← hTT] at hown
      have CS : Hid (∀ W : World, Below wo.heap.size wo W → Calls Tryd.prog 23 #[.slice Bv wt cB, .int .i64 (a : Int)] W (Ret W (.agg V.toArray))) := Lib.hid fun W h => by rw [hV, hv]; exact CS0.out W Bv wt cB a LV1 (hlv.rd.below h) hawt (by omega)
      have CA : Hid (∀ W : World, RdH W Bv wt LV1 → Tab W → Calls Tryd.prog 22 #[.slice Bv wt cB] W fun e w' => ∃ A' c', e = .returned (.slice A' wn c') ∧ OwnH w' W.heap.size 35 A' wn c' (abv LV1) ∧ Below W.heap.size W w') := Lib.hid fun W h1 h2 => by rw [hwn]; exact CA0.out W Bv wt cB LV1 h1 h2 hw64 hcB hmB
      have q1 : Int.tdiv (a : Int) 2 = (a' : Int) := by rw [Int.tdiv_eq_ediv_of_nonneg (by omega)]; omega
      have q2 : (a : Int) / 2 = (a' : Int) := by omega
      have q3 : IntKind.i64.wrap (a' : Int) = (a' : Int) := by rw [IntKind.wrap_i64]; omega
      have hmeas : wn < wt := by omega
      have hsl := hsb.lt
      have hzl := hzb.lt
      have sdz : wo.drew.heap.size = wo.heap.size := rfl
      clear ha hwt ha' hv hV hTT hv32 hwn hLV1 CS0 CA0 HP H32 HMO HLE
      go_upto_region 9 with fail
      refine wp_region_held_drew (S := fun _ => True) (by kernel_rfl) ?_ (fun hHeld => ?_)
      · trivial
      refine wpAnyH_take (i := 0) (v := ?_) rfl (by kernel_rfl) (by kernel_rfl) (by kernel_rfl) (fun _ _ _ h => h) (Or.inl ⟨by rfl, ?_⟩) (by assumption) ?_
      rotate_left 1
      · intro w hSw; (try dsimp only at hSw); simp only [List.getElem_toArray, List.getElem_cons_succ, List.getElem_cons_zero]; go_simp; try (with_reducible rfl)
      (try simp only [List.getElem_toArray, List.getElem_cons_succ, List.getElem_cons_zero, Act.put, List.setIfInBounds_toArray, List.set_cons_succ, List.set_cons_zero])
      refine wpAnyH_take (i := 2) (v := ?_) rfl (by kernel_rfl) (by kernel_rfl) (by kernel_rfl) (fun _ _ _ h => h) (Or.inl ⟨by rfl, ?_⟩) (by assumption) ?_
      rotate_left 1
      · intro w hSw; (try dsimp only at hSw); simp only [List.getElem_toArray, List.getElem_cons_succ, List.getElem_cons_zero]; go_simp; try (with_reducible rfl)
      (try simp only [List.getElem_toArray, List.getElem_cons_succ, List.getElem_cons_zero, Act.put, List.setIfInBounds_toArray, List.set_cons_succ, List.set_cons_zero])
      refine wpAnyH_take (i := 3) (v := ?_) rfl (by kernel_rfl) (by kernel_rfl) (by kernel_rfl) (fun _ _ _ h => h) (Or.inl ⟨by rfl, ?_⟩) (by assumption) ?_
      rotate_left 1
      · intro w hSw; (try dsimp only at hSw); simp only [List.getElem_toArray, List.getElem_cons_succ, List.getElem_cons_zero]; go_simp; try (with_reducible rfl)
      (try simp only [List.getElem_toArray, List.getElem_cons_succ, List.getElem_cons_zero, Act.put, List.setIfInBounds_toArray, List.set_cons_succ, List.set_cons_zero])
      refine wpAnyH_ready (rs := [1, 4]) (by kernel_rfl) (by simp) ?_
      refine AllReadyH.cons rfl (fun K hK => ?_) ?_
      · (try simp only [List.getElem_toArray, List.getElem_cons_succ, List.getElem_cons_zero])
        have cl2 := hsb.drew.cell 2
        simp only [List.getElem?_cons_succ, List.getElem?_cons_zero] at cl2
        go_simp
        refine hK.out _ _ ?_ (fun hHeld => ?_)
        · trivial
        clear hK K
        (try simp only [Act.put, List.setIfInBounds_toArray, List.set_cons_succ, List.set_cons_zero])
        refine wpAnyH_ready (rs := [4]) (by kernel_rfl) (by simp) ?_
        refine AllReadyH.cons rfl (fun K hK => ?_) AllReadyH.nil
        (try simp only [List.getElem_toArray, List.getElem_cons_succ, List.getElem_cons_zero])
        go_simp
        go_at_call 23; refine (CS.out _ (by ((repeat (first | with_reducible assumption | with_reducible exact Below.refl _ _ | with_reducible apply below_al | with_reducible apply below_dr | with_reducible refine below_more ?_ (by assumption)))))).mono ?_; rintro e' x4 ⟨rfl, d4⟩
        (try (go_wp2_with fail))
        refine hK.out _ _ ?_ (fun hHeld => ?_)
        · trivial
        clear hK K
        (try simp only [Act.put, List.setIfInBounds_toArray, List.set_cons_succ, List.set_cons_zero])
        refine wpAnyH_ready (rs := [5]) (by kernel_rfl) (by simp) ?_
        refine AllReadyH.cons rfl (fun K hK => ?_) AllReadyH.nil
        (try simp only [List.getElem_toArray, List.getElem_cons_succ, List.getElem_cons_zero])
        refine Eq.mpr (if_pos (by first | rfl | simp [Region.wanted, yielded, Act.put])) ?_
        refine wp_bs1 _ rfl V (by first | rfl | simp [Act.eval]) LV.out x4.heap.size x4 (by first | exact Below.refl _ _ | exact (Below.refl _ _).drew) (Nat.le_refl _) ?_
        intro g5 x5 hb5 hg5 hl5 hf5 hB5
        refine hK.out _ _ ?_ (fun hHeld => ?_)
        · trivial
        clear hK K
        (try simp only [Act.put, List.setIfInBounds_toArray, List.set_cons_succ, List.set_cons_zero])
        refine wpAnyH_ready (rs := [6]) (by kernel_rfl) (by simp) ?_
        refine AllReadyH.cons rfl (fun K hK => ?_) AllReadyH.nil
        (try simp only [List.getElem_toArray, List.getElem_cons_succ, List.getElem_cons_zero])
        refine Eq.mpr (if_pos (by first | rfl | simp [Region.wanted, yielded, Act.put])) ?_
        refine wp_appHs (.tmp 36) (.tmp 40) rfl (g1 + 1) x5 (Below.refl _ _) (by have h5 := hB5.size; have h4 := d4.size; omega) A' t c' T (by first | rfl | simp [Act.eval]) (((hown.up (below_dr (Below.refl _ _))).up d4).up hB5) (some ⟨g5, 0, none⟩) 1 1 [v] (by first | rfl | simp [Act.eval]) (RdH.oneV HV.out HVV.out hb5) (by omega) (by omega) ?_
        intro A6 c6 x6 ho6 hf6 hB6
        have h4s := d4.size
        have h5s := hB5.size
        have h6s := hB6.size
        have hs6 := ((hsb.drew.up d4).stepF hf5).below hB6 (by omega)
        refine hK.out _ _ ?_ (fun hHeld => ?_)
        · trivial
        clear hK K
        (try simp only [Act.put, List.setIfInBounds_toArray, List.set_cons_succ, List.set_cons_zero])
        refine wpAnyH_take (i := 7) (v := ?_) rfl (by kernel_rfl) (by kernel_rfl) (by kernel_rfl) (fun _ _ _ h => h) (Or.inl ⟨by rfl, ?_⟩) (by assumption) ?_
        rotate_left 1
        · intro w hSw; (try dsimp only at hSw); simp only [List.getElem_toArray, List.getElem_cons_succ, List.getElem_cons_zero]; go_simp; try (with_reducible rfl)
        (try simp only [List.getElem_toArray, List.getElem_cons_succ, List.getElem_cons_zero, Act.put, List.setIfInBounds_toArray, List.set_cons_succ, List.set_cons_zero])
        refine wpAnyH_ready (rs := [8]) (by kernel_rfl) (by simp) ?_
        refine AllReadyH.cons rfl (fun K hK => ?_) AllReadyH.nil
        (try simp only [List.getElem_toArray, List.getElem_cons_succ, List.getElem_cons_zero])
        refine Eq.mpr (if_pos (by first | rfl | simp [Region.wanted, yielded, Act.put])) ?_
        refine wp_storeC 22 (.tmp 42) (.tmp 41) rfl g1 2 (.slice A6 (t + 1) c6) _ _ (by first | rfl | simp [Act.eval]) (by first | rfl | simp [Act.eval]) hs6 (by simp) (by kernel_rfl) rfl rfl ?_
        intro x8 hs8 ho8
        refine hK.out _ _ ?_ (fun hHeld => ?_)
        · trivial
        clear hK K
        (try simp only [Act.put, List.setIfInBounds_toArray, List.set_cons_succ, List.set_cons_zero])
        refine wpAnyH_done (by kernel_rfl) ?_ _
        have hB8 : Below w.heap.size w x8 := ((((below_dr hbel).trans (d4.mono (below_dr hbel).size)).trans (hB5.mono (by omega))).trans (hB6.mono (by omega))).trans (ho8.below (by omega))
        have ho8b := ho6.only ho8 (by omega)
        have hz8 := ho8.blk ((((hzb.drew.up d4).stepF hf5)).below hB6 (by omega)) (by omega)
        have hL8 : RdH x8 Bv wt LV1 := (((((hlv.frm (Frm.of_below (below_dr (Below.refl _ _)))).frm (Frm.of_below d4)).frm (Frm.of_below hB5)).frm (hf6.mono (fun i hi => Or.inr hi))).frm (Frm.only ho8 (Or.inl rfl))).rd
        have hT8 := HT.out.all hB8
        have HO8 := Lib.hid ho8b
        have hg8 : g1 < x8.heap.size := hs8.lt
        clear ho6 ho8b hb5 hf5 hB5 hf6 hB6 d4 hs6 ho8 hsb hown hlv hzb hbel
        go_wp2_with (go_at_call 22; refine (CA.out _ hL8 hT8).mono ?_; rintro e' y1 ⟨B', cB', rfl, hoB, d9⟩)
        go_roundw
        case rel => exact ⟨t + 1, B', cB', A6, c6, by rw [HWX.out], by rw [HA'.out], by omega, hs8.up d9, by rw [HNX.out]; exact HO8.out.up d9, by rw [HLX.out, HWX.out]; exact RdHF.own hoB (fun k hk => by rcases hk with rfl | hk; exact hg8; exact HO8.out.blklt hk), by rw [HWX.out]; exact hoB.cap.1, hoB.cap.2, hz8.up d9, below_more hB8 d9⟩
        case measure => simp [lenOf]; omega
      refine AllReadyH.cons rfl (fun K hK => ?_) AllReadyH.nil
      (try simp only [List.getElem_toArray, List.getElem_cons_succ, List.getElem_cons_zero])
      go_simp
      go_at_call 23; refine (CS.out _ (by ((repeat (first | with_reducible assumption | with_reducible exact Below.refl _ _ | with_reducible apply below_al | with_reducible apply below_dr | with_reducible refine below_more ?_ (by assumption)))))).mono ?_; rintro e' x4 ⟨rfl, d4⟩
      (try (go_wp2_with fail))
      refine hK.out _ _ ?_ (fun hHeld => ?_)
      · trivial
      clear hK K
      (try simp only [Act.put, List.setIfInBounds_toArray, List.set_cons_succ, List.set_cons_zero])
      refine wpAnyH_ready (rs := [1, 5]) (by kernel_rfl) (by simp) ?_
      refine AllReadyH.cons rfl (fun K hK => ?_) ?_
      · (try simp only [List.getElem_toArray, List.getElem_cons_succ, List.getElem_cons_zero])
        have cl2 := (hsb.drew.up d4).cell 2
        simp only [List.getElem?_cons_succ, List.getElem?_cons_zero] at cl2
        go_simp
        refine hK.out _ _ ?_ (fun hHeld => ?_)
        · trivial
        clear hK K
        (try simp only [Act.put, List.setIfInBounds_toArray, List.set_cons_succ, List.set_cons_zero])
        refine wpAnyH_ready (rs := [5]) (by kernel_rfl) (by simp) ?_
        refine AllReadyH.cons rfl (fun K hK => ?_) AllReadyH.nil
        (try simp only [List.getElem_toArray, List.getElem_cons_succ, List.getElem_cons_zero])
        refine Eq.mpr (if_pos (by first | rfl | simp [Region.wanted, yielded, Act.put])) ?_
        refine wp_bs1 _ rfl V (by first | rfl | simp [Act.eval]) LV.out x4.heap.size x4 (by first | exact Below.refl _ _ | exact (Below.refl _ _).drew) (Nat.le_refl _) ?_
        intro g5 x5 hb5 hg5 hl5 hf5 hB5
        refine hK.out _ _ ?_ (fun hHeld => ?_)
        · trivial
        clear hK K
        (try simp only [Act.put, List.setIfInBounds_toArray, List.set_cons_succ, List.set_cons_zero])
        refine wpAnyH_ready (rs := [6]) (by kernel_rfl) (by simp) ?_
        refine AllReadyH.cons rfl (fun K hK => ?_) AllReadyH.nil
        (try simp only [List.getElem_toArray, List.getElem_cons_succ, List.getElem_cons_zero])
        refine Eq.mpr (if_pos (by first | rfl | simp [Region.wanted, yielded, Act.put])) ?_
        refine wp_appHs (.tmp 36) (.tmp 40) rfl (g1 + 1) x5 (Below.refl _ _) (by have h5 := hB5.size; have h4 := d4.size; omega) A' t c' T (by first | rfl | simp [Act.eval]) (((hown.up (below_dr (Below.refl _ _))).up d4).up hB5) (some ⟨g5, 0, none⟩) 1 1 [v] (by first | rfl | simp [Act.eval]) (RdH.oneV HV.out HVV.out hb5) (by omega) (by omega) ?_
        intro A6 c6 x6 ho6 hf6 hB6
        have h4s := d4.size
        have h5s := hB5.size
        have h6s := hB6.size
        have hs6 := ((hsb.drew.up d4).stepF hf5).below hB6 (by omega)
        refine hK.out _ _ ?_ (fun hHeld => ?_)
        · trivial
        clear hK K
        (try simp only [Act.put, List.setIfInBounds_toArray, List.set_cons_succ, List.set_cons_zero])
        refine wpAnyH_take (i := 7) (v := ?_) rfl (by kernel_rfl) (by kernel_rfl) (by kernel_rfl) (fun _ _ _ h => h) (Or.inl ⟨by rfl, ?_⟩) (by assumption) ?_
        rotate_left 1
        · intro w hSw; (try dsimp only at hSw); simp only [List.getElem_toArray, List.getElem_cons_succ, List.getElem_cons_zero]; go_simp; try (with_reducible rfl)
        (try simp only [List.getElem_toArray, List.getElem_cons_succ, List.getElem_cons_zero, Act.put, List.setIfInBounds_toArray, List.set_cons_succ, List.set_cons_zero])
        refine wpAnyH_ready (rs := [8]) (by kernel_rfl) (by simp) ?_
        refine AllReadyH.cons rfl (fun K hK => ?_) AllReadyH.nil
        (try simp only [List.getElem_toArray, List.getElem_cons_succ, List.getElem_cons_zero])
        refine Eq.mpr (if_pos (by first | rfl | simp [Region.wanted, yielded, Act.put])) ?_
        refine wp_storeC 22 (.tmp 42) (.tmp 41) rfl g1 2 (.slice A6 (t + 1) c6) _ _ (by first | rfl | simp [Act.eval]) (by first | rfl | simp [Act.eval]) hs6 (by simp) (by kernel_rfl) rfl rfl ?_
        intro x8 hs8 ho8
        refine hK.out _ _ ?_ (fun hHeld => ?_)
        · trivial
        clear hK K
        (try simp only [Act.put, List.setIfInBounds_toArray, List.set_cons_succ, List.set_cons_zero])
        refine wpAnyH_done (by kernel_rfl) ?_ _
        have hB8 : Below w.heap.size w x8 := ((((below_dr hbel).trans (d4.mono (below_dr hbel).size)).trans (hB5.mono (by omega))).trans (hB6.mono (by omega))).trans (ho8.below (by omega))
        have ho8b := ho6.only ho8 (by omega)
        have hz8 := ho8.blk ((((hzb.drew.up d4).stepF hf5)).below hB6 (by omega)) (by omega)
        have hL8 : RdH x8 Bv wt LV1 := (((((hlv.frm (Frm.of_below (below_dr (Below.refl _ _)))).frm (Frm.of_below d4)).frm (Frm.of_below hB5)).frm (hf6.mono (fun i hi => Or.inr hi))).frm (Frm.only ho8 (Or.inl rfl))).rd
        have hT8 := HT.out.all hB8
        have HO8 := Lib.hid ho8b
        have hg8 : g1 < x8.heap.size := hs8.lt
        clear ho6 ho8b hb5 hf5 hB5 hf6 hB6 d4 hs6 ho8 hsb hown hlv hzb hbel
        go_wp2_with (go_at_call 22; refine (CA.out _ hL8 hT8).mono ?_; rintro e' y1 ⟨B', cB', rfl, hoB, d9⟩)
        go_roundw
        case rel => exact ⟨t + 1, B', cB', A6, c6, by rw [HWX.out], by rw [HA'.out], by omega, hs8.up d9, by rw [HNX.out]; exact HO8.out.up d9, by rw [HLX.out, HWX.out]; exact RdHF.own hoB (fun k hk => by rcases hk with rfl | hk; exact hg8; exact HO8.out.blklt hk), by rw [HWX.out]; exact hoB.cap.1, hoB.cap.2, hz8.up d9, below_more hB8 d9⟩
        case measure => simp [lenOf]; omega
      refine AllReadyH.cons rfl (fun K hK => ?_) AllReadyH.nil
      (try simp only [List.getElem_toArray, List.getElem_cons_succ, List.getElem_cons_zero])
      refine Eq.mpr (if_pos (by first | rfl | simp [Region.wanted, yielded, Act.put])) ?_
      refine wp_bs1 _ rfl V (by first | rfl | simp [Act.eval]) LV.out x4.heap.size x4 (by first | exact Below.refl _ _ | exact (Below.refl _ _).drew) (Nat.le_refl _) ?_
      intro g5 x5 hb5 hg5 hl5 hf5 hB5
      refine hK.out _ _ ?_ (fun hHeld => ?_)
      · trivial
      clear hK K
      (try simp only [Act.put, List.setIfInBounds_toArray, List.set_cons_succ, List.set_cons_zero])
      refine wpAnyH_ready (rs := [1]) (by kernel_rfl) (by simp) ?_
      refine AllReadyH.cons rfl (fun K hK => ?_) AllReadyH.nil
      (try simp only [List.getElem_toArray, List.getElem_cons_succ, List.getElem_cons_zero])
      have cl2 := ((hsb.drew.up d4).stepF hf5).cell 2
      simp only [List.getElem?_cons_succ, List.getElem?_cons_zero] at cl2
      go_simp
      refine hK.out _ _ ?_ (fun hHeld => ?_)
      · trivial
      clear hK K
      (try simp only [Act.put, List.setIfInBounds_toArray, List.set_cons_succ, List.set_cons_zero])
      refine wpAnyH_ready (rs := [6]) (by kernel_rfl) (by simp) ?_
      refine AllReadyH.cons rfl (fun K hK => ?_) AllReadyH.nil
      (try simp only [List.getElem_toArray, List.getElem_cons_succ, List.getElem_cons_zero])
      refine Eq.mpr (if_pos (by first | rfl | simp [Region.wanted, yielded, Act.put])) ?_
      refine wp_appHs (.tmp 36) (.tmp 40) rfl (g1 + 1) x5 (Below.refl _ _) (by have h5 := hB5.size; have h4 := d4.size; omega) A' t c' T (by first | rfl | simp [Act.eval]) (((hown.up (below_dr (Below.refl _ _))).up d4).up hB5) (some ⟨g5, 0, none⟩) 1 1 [v] (by first | rfl | simp [Act.eval]) (RdH.oneV HV.out HVV.out hb5) (by omega) (by omega) ?_
      intro A6 c6 x6 ho6 hf6 hB6
      have h4s := d4.size
      have h5s := hB5.size
      have h6s := hB6.size
      have hs6 := ((hsb.drew.up d4).stepF hf5).below hB6 (by omega)
      refine hK.out _ _ ?_ (fun hHeld => ?_)
      · trivial
      clear hK K
      (try simp only [Act.put, List.setIfInBounds_toArray, List.set_cons_succ, List.set_cons_zero])
      refine wpAnyH_take (i := 7) (v := ?_) rfl (by kernel_rfl) (by kernel_rfl) (by kernel_rfl) (fun _ _ _ h => h) (Or.inl ⟨by rfl, ?_⟩) (by assumption) ?_
      rotate_left 1
      · intro w hSw; (try dsimp only at hSw); simp only [List.getElem_toArray, List.getElem_cons_succ, List.getElem_cons_zero]; go_simp; try (with_reducible rfl)
      (try simp only [List.getElem_toArray, List.getElem_cons_succ, List.getElem_cons_zero, Act.put, List.setIfInBounds_toArray, List.set_cons_succ, List.set_cons_zero])
      refine wpAnyH_ready (rs := [8]) (by kernel_rfl) (by simp) ?_
      refine AllReadyH.cons rfl (fun K hK => ?_) AllReadyH.nil
      (try simp only [List.getElem_toArray, List.getElem_cons_succ, List.getElem_cons_zero])
      refine Eq.mpr (if_pos (by first | rfl | simp [Region.wanted, yielded, Act.put])) ?_
      refine wp_storeC 22 (.tmp 42) (.tmp 41) rfl g1 2 (.slice A6 (t + 1) c6) _ _ (by first | rfl | simp [Act.eval]) (by first | rfl | simp [Act.eval]) hs6 (by simp) (by kernel_rfl) rfl rfl ?_
      intro x8 hs8 ho8
      refine hK.out _ _ ?_ (fun hHeld => ?_)
      · trivial
      clear hK K
      (try simp only [Act.put, List.setIfInBounds_toArray, List.set_cons_succ, List.set_cons_zero])
      refine wpAnyH_done (by kernel_rfl) ?_ _
      have hB8 : Below w.heap.size w x8 := ((((below_dr hbel).trans (d4.mono (below_dr hbel).size)).trans (hB5.mono (by omega))).trans (hB6.mono (by omega))).trans (ho8.below (by omega))
      have ho8b := ho6.only ho8 (by omega)
      have hz8 := ho8.blk ((((hzb.drew.up d4).stepF hf5)).below hB6 (by omega)) (by omega)
      have hL8 : RdH x8 Bv wt LV1 := (((((hlv.frm (Frm.of_below (below_dr (Below.refl _ _)))).frm (Frm.of_below d4)).frm (Frm.of_below hB5)).frm (hf6.mono (fun i hi => Or.inr hi))).frm (Frm.only ho8 (Or.inl rfl))).rd
      have hT8 := HT.out.all hB8
      have HO8 := Lib.hid ho8b
      have hg8 : g1 < x8.heap.size := hs8.lt
      clear ho6 ho8b hb5 hf5 hB5 hf6 hB6 d4 hs6 ho8 hsb hown hlv hzb hbel
      go_wp2_with (go_at_call 22; refine (CA.out _ hL8 hT8).mono ?_; rintro e' y1 ⟨B', cB', rfl, hoB, d9⟩)
      go_roundw
      case rel => exact ⟨t + 1, B', cB', A6, c6, by rw [HWX.out], by rw [HA'.out], by omega, hs8.up d9, by rw [HNX.out]; exact HO8.out.up d9, by rw [HLX.out, HWX.out]; exact RdHF.own hoB (fun k hk => by rcases hk with rfl | hk; exact hg8; exact HO8.out.blklt hk), by rw [HWX.out]; exact hoB.cap.1, hoB.cap.2, hz8.up d9, below_more hB8 d9⟩
      case measure => simp [lenOf]; omega
    · have htd : t = D := by omega
      have hle : ¬ 1 < wt := fun h => by rw [hwt] at h; exact hlt (HLE.out t h)
      have hle' : ¬ (1 : Int) < (wt : Int) := by omega
      subst htd
      have HO := Lib.hid hown
      clear ha hown hwt hle hlv
      go_wp2_with (first
        | ((with_reducible refine at_load 25 (.tmp 6) ?_); refine wpList_load_mid rfl 25 (.tmp 6) rfl g1 0 (by first | rfl | simp [Act.eval]) [.int .i64 (n : Int), .int .i64 (i : Int), .slice A' t c'] _ (Blk.range hsb) Tryd.underlying25 rfl I3b ?_)
        | ((with_reducible refine at_store 25 (.tmp 4) (.tmp 43) ?_); refine wpList_store_blk rfl 25 (.tmp 4) (.tmp 43) rfl g0 [.int .i64 0, .int .i64 0, .slice none 0 0] [.int .i64 (n : Int), .int .i64 (i : Int), .slice A' t c'] 25 rfl rfl hzb rfl I3b (by simp [Value.oneCell']) ?_; intro y9 hy9 hoy9))
      refine bodyPost_ret (v := .tuple #[.agg #[.int .i64 (n : Int), .int .i64 (i : Int), .slice A' t c'], .int .i64 0]) ?_ rfl ?_
      · exact results_in Tryd.results9 _ _ g0 25 _ (0, 0) _ _ (by rfl) (by rfl) hy9 Tryd.underlying25 rfl I3b
      · have ho1 := HO.out.frm (Frm.only hoy9 (S := fun i => i = g0) rfl) (fun g hg hgg => by
          have := HO.out.blkge hg
          omega)
        exact ⟨A', c', rfl, ho1.rd, ho1.cap.1, ho1.cap.2, hbel.trans (hoy9.below (by omega))⟩
end Go.Proofs.YtnfcnjboeocnmaaDoor
