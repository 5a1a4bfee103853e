/- Proved: for every list of an odd number of leaves, up to 19: who says that it has one more, its last one once more, has no branch for that one. The argument reads as it did. The condition is the card's own: sha2's two tables are as they are laid. -/
import Derived.Test.YtnfcnjboeocnmaaDoorRows
import Derived.Test.YtnfcnjboeocnmaaDoorMbn
import Derived.Test.YtnfcnjboeocnmaaDoorMaz
import Derived.Test.YtnfcnjboeocnmaaDoorMay
import Derived.Deep.RegionHeld3
import Derived.ProofKit
import Derived.OpenShut
import Derived.ShutString
import Derived.ChangeOld
import Derived.Test.YtnfcnjboeocnmaaDoorMac
import Derived.Test.YtnfcnjboeocnmaaDoorMal
import Derived.Test.YtnfcnjboeocnmaaDoorTie
import Derived.Test.YtnfcnjboeocnmaaDoorCards
import Derived.SevenTiedAt
namespace Go.Proofs.YtnfcnjboeocnmaaDoor.branchTwice
open Go.ChangeShapes Go.WideShapes Go.ChangeAt Go.RowKit
open Go.ChangeMaps (open_string shut_string)
set_option linter.unusedVariables false
set_option linter.unusedSimpArgs false

set_option maxRecDepth 100000 in
theorem own : ownKnob Tryd.prog.godebug = none := by kernel_rfl
set_option maxRecDepth 100000 in
theorem laidOut : laidOutB Tryd.prog = true := by kernel_rfl

set_option maxRecDepth 100000 in
/-- The last one once more is beside itself: no branch. -/
theorem chk_twice (l : List (List UInt8)) (R : List UInt8) (hodd : l.length % 2 = 1) (h6 : l.length ≤ 1000) : chk ((l.length + 1 : Nat) : Int) (l.length : Int) (pth (l ++ [hat l (l.length - 1)]) l.length (depth (l.length + 1))) R (hat (l ++ [hat l (l.length - 1)]) l.length) = 15 := by
  obtain ⟨M, hM⟩ : ∃ M, M = l ++ [hat l (l.length - 1)] := ⟨_, rfl⟩
  have hMl : M.length = l.length + 1 := by rw [hM, List.length_append]; rfl
  have e1 : hat M l.length = hat l (l.length - 1) := by rw [hM]; exact hat_app_last _ _
  have e2 : hat M (l.length - 1) = hat l (l.length - 1) := by rw [hM]; exact hat_app_left _ _ _ (by omega)
  rw [← hM]
  obtain ⟨d, hd⟩ : ∃ d, depth (l.length + 1) = d + 1 := ⟨depth ((l.length + 1 + 1) / 2), depth_big _ (by omega)⟩
  have hrg := rgt_made M l.length (by omega) (by omega) (pth M l.length (depth (l.length + 1))).length (by rw [pth_len, hMl])
  rw [hMl] at hrg
  have hgo : goUp (l.length + 1) l.length (hat M l.length) (pth M l.length (depth (l.length + 1))) = none := by
    rw [hd]
    unfold pth
    rw [List.range_succ_eq_map, List.map_cons]
    have es : sib (wide M.length 0) (ix l.length 0) = l.length - 1 := by
      show sib M.length l.length = _
      unfold sib
      rw [if_pos hodd]
    have el : hat (lev 0 M) (sib (wide M.length 0) (ix l.length 0)) = hat M l.length := by
      rw [es, e1]
      exact e2
    rw [el]
    unfold goUp
    have hlv : lvl (l.length + 1) l.length (hat M l.length) (hat M l.length) = false := by
      unfold lvl
      rw [decide_eq_false (show ¬ (l.length + 1 = l.length + 1 ∧ l.length % 2 = 0) by omega)]
      simp
    rw [hlv]
    rfl
  have hu : upE ((l.length + 1 : Nat) : Int) (l.length : Int) (pth M l.length (depth (l.length + 1))) (hat M l.length) = (List.replicate 32 0, 15) := by
    unfold upE
    rw [if_neg (by rw [hrg]; simp), Int.toNat_natCast, Int.toNat_natCast, hgo]
  unfold chk
  rw [hu]
  simp
set_option maxRecDepth 100000 in
set_option maxHeartbeats 4000000 in
theorem walk (A : Option Addr) (n c : Nat) (l : List (List UInt8)) (w : World) (hT : Tab w) (w0 : RdH w A n l ∧ n ≤ c ∧ c ≤ maxLen) : Calls Tryd.prog 7 #[.slice A n c] w (Ret w (.bool true)) := by
  obtain ⟨hr, hnc, hcm⟩ := w0
  have CA : Hid (∀ W, Below w.heap.size w W → Calls Tryd.prog 8 #[] W (Ret W (.bool true))) := Lib.hid fun W h => awake9_calls W (hT.all h)
  by_cases h19 : 19 < n
  · have hd : (19 : Int) < (n : Int) := by omega
    clear hr hcm hnc hT
    go_enter Tryd.func7, Tryd.ntmps7
    go_wp2_with (go_at_call 8; refine (CA.out _ (Below.refl _ _)).mono ?_; rintro e' v9 ⟨rfl, d9⟩)
    go_ret
    exact ⟨rfl, d9⟩
  have hd : ¬ (19 : Int) < (n : Int) := by omega
  by_cases hev : n % 2 = 0
  · have r1 : Int.tmod (n : Int) 2 = 0 := by rw [Int.tmod_eq_emod_of_nonneg (by omega)]; omega
    have r2 : (n : Int) % 2 = 0 := by omega
    have r3 : IntKind.i64.wrap 0 = 0 := by rw [IntKind.wrap_i64]; omega
    clear hr hcm hnc hT
    go_enter Tryd.func7, Tryd.ntmps7
    go_wp2_with (go_at_call 8; refine (CA.out _ (Below.refl _ _)).mono ?_; rintro e' v9 ⟨rfl, d9⟩)
    go_ret
    exact ⟨rfl, d9⟩
  have r1 : Int.tmod (n : Int) 2 = 1 := by rw [Int.tmod_eq_emod_of_nonneg (by omega)]; omega
  have r2 : (n : Int) % 2 = 1 := by omega
  have r3 : IntKind.i64.wrap 1 = 1 := by rw [IntKind.wrap_i64]; omega
  have hln := hr.len
  obtain ⟨m1, hm1⟩ : ∃ m, m = n - 1 := ⟨_, rfl⟩
  obtain ⟨nn, hnn⟩ : ∃ m, m = n + 1 := ⟨_, rfl⟩
  obtain ⟨x, hx⟩ : ∃ x, x = hat l m1 := ⟨_, rfl⟩
  obtain ⟨M, hM⟩ : ∃ M, M = l ++ [x] := ⟨_, rfl⟩
  have x32 : x.length = 32 := by rw [hx]; exact hat_32 hr.all (by omega)
  obtain ⟨X, hX⟩ : ∃ V, V = x.map B8 := ⟨_, rfl⟩
  have IX : Hid ((Tryd.prog.info? 35).map (·.size) = some X.length) := Lib.hid (by rw [hX, List.length_map, x32]; kernel_rfl)
  have hx32 := Lib.hid x32
  have hXx := Lib.hid hX
  have LX : Hid (X.length = 32) := Lib.hid (by rw [hX, List.length_map, x32])
  have HNN := Lib.hid hnn
  have HM := Lib.hid hM
  have hM32 : ∀ h ∈ M, h.length = 32 := fun h hh => by
    rw [hM] at hh
    rcases List.mem_append.1 hh with hh | hh
    · exact hr.all h hh
    · simp at hh; rw [hh]; exact x32
  have hMx : hat M n = x := by rw [hM, ← hln]; exact hat_app_last l x
  have HLX : Hid ((hat M n).map B8 = X) := Lib.hid (by rw [hX, hMx])
  obtain ⟨rt, hrt⟩ : ∃ r, r = rootH M := ⟨_, rfl⟩
  have rt32 : rt.length = 32 := by rw [hrt]; exact rootH_len M hM32
  obtain ⟨RT, hRT⟩ : ∃ V, V = rt.map B8 := ⟨_, rfl⟩
  obtain ⟨D, hD⟩ : ∃ D, D = depth nn := ⟨_, rfl⟩
  obtain ⟨P, hP⟩ : ∃ P, P = pth M n D := ⟨_, rfl⟩
  obtain ⟨b, off, rfl, hb, hga⟩ := hr.at_ (k := m1) (by omega)
  rw [← hx, ← hX] at hga
  have K0 : Hid (∀ W, Below w.heap.size w W → W.rangeAt b (off + m1 * 32) X) := Lib.hid fun W h => range_below hga h hb
  have u3 : IntKind.i64.wrap ((n : Int) - 1) = (m1 : Int) := by rw [IntKind.wrap_i64]; omega
  have t3 : (m1 : Int) < (n : Int) := by omega
  have t4 : (n : Int) < (nn : Int) := by omega
  have hck : chk (nn : Int) (n : Int) P rt x = 15 := by
    have := chk_twice l rt (by omega) (by omega)
    rw [hln, show n - 1 = m1 from hm1.symm, ← hx, ← hM, ← hnn, ← hD, ← hP, hMx] at this
    exact this
  have CM : Hid (∀ W A' c', RdH W A' nn M → nn ≤ c' → c' ≤ maxLen → Below w.heap.size w W → Calls Tryd.prog 9 #[.slice A' nn c', .int .i64 (n : Int)] W fun e w' => ∃ A2 c2, e = .returned (.tuple #[.agg #[.int .i64 (nn : Int), .int .i64 (n : Int), .slice A2 D c2], .int .i64 0]) ∧ RdH w' A2 D P ∧ Below W.heap.size W w') := Lib.hid fun W A' c' h1 h2 h3 h4 => by
    have := bmake_calls A' nn c' n M W h1 (hT.all h4) (by omega) (by omega) h2 h3
    rw [← hD, ← hP] at this
    refine this.mono ?_
    rintro e w' ⟨A2, c2, rfl, k1, _, _, k2⟩
    exact ⟨A2, c2, rfl, k1, k2⟩
  have CR : Hid (∀ W A' c', RdH W A' nn M → nn ≤ c' → c' ≤ maxLen → Below w.heap.size w W → Calls Tryd.prog 20 #[.slice A' nn c'] W (Ret W (.agg RT.toArray))) := Lib.hid fun W A' c' h1 h2 h3 h4 => by
    rw [hRT, hrt]
    exact groot_calls A' nn c' M W h1 (hT.all h4) (by omega) h2 h3
  have CC : Hid (∀ W A2 c2, RdH W A2 D P → Below w.heap.size w W → Calls Tryd.prog 13 #[.agg #[.int .i64 (nn : Int), .int .i64 (n : Int), .slice A2 D c2], .agg RT.toArray, .agg X.toArray] W (Ret W (.int .i64 15))) := Lib.hid fun W A2 c2 h1 h2 => by
    have := bcheck_calls (nn : Int) (n : Int) A2 D c2 P rt x W h1 (hT.all h2) x32 rt32
    rw [hck] at this
    rw [hRT, hX]
    exact this
  have HR := Lib.hid hr
  clear hr hT hm1 hx hX x32 hga hcm hnc hln hnn hM hM32 hMx hrt rt32 hRT hD hP hck
  go_enter Tryd.func7, Tryd.ntmps7
  go_wp2
  refine wp_region_held_drew (S := fun W => W.rangeAt b (off + m1 * 32) X) (by kernel_rfl) ?_ (fun hHeld => ?_)
  · exact K0.out _ (by first | assumption | exact (Below.refl _ _).drew)
  refine wpAnyH_take (i := 1) (v := ?_) rfl (by kernel_rfl) (by kernel_rfl) (by kernel_rfl) (fun _ _ _ h => h) (Or.inl ⟨by rfl, ?_⟩) (by assumption) ?_
  rotate_left 1
  · intro w hSw; (try dsimp only at hSw); simp only [List.getElem_toArray, List.getElem_cons_succ, List.getElem_cons_zero]; go_simp; try (with_reducible rfl)
  (try simp only [List.getElem_toArray, List.getElem_cons_succ, List.getElem_cons_zero, Act.put, List.setIfInBounds_toArray, List.set_cons_succ, List.set_cons_zero])
  refine wpAnyH_take (i := 3) (v := ?_) rfl (by kernel_rfl) (by kernel_rfl) (by kernel_rfl) (fun _ _ _ h => h) (Or.inl ⟨by rfl, ?_⟩) (by assumption) ?_
  rotate_left 1
  · intro w hSw; (try dsimp only at hSw); simp only [List.getElem_toArray, List.getElem_cons_succ, List.getElem_cons_zero]; go_simp; try (with_reducible rfl)
  (try simp only [List.getElem_toArray, List.getElem_cons_succ, List.getElem_cons_zero, Act.put, List.setIfInBounds_toArray, List.set_cons_succ, List.set_cons_zero])
  refine wpAnyH_take (i := 4) (v := ?_) rfl (by kernel_rfl) (by kernel_rfl) (by kernel_rfl) (fun _ _ _ h => h) (Or.inl ⟨by rfl, ?_⟩) (by assumption) ?_
  rotate_left 1
  · intro w hSw; (try dsimp only at hSw); simp only [List.getElem_toArray, List.getElem_cons_succ, List.getElem_cons_zero]; go_simp; try (with_reducible rfl)
  (try simp only [List.getElem_toArray, List.getElem_cons_succ, List.getElem_cons_zero, Act.put, List.setIfInBounds_toArray, List.set_cons_succ, List.set_cons_zero])
  refine wpAnyH_take (i := 5) (v := ?_) rfl (by kernel_rfl) (by kernel_rfl) (by kernel_rfl) (fun _ _ _ h => h) (Or.inl ⟨by rfl, ?_⟩) (by assumption) ?_
  rotate_left 1
  · intro w hSw; (try dsimp only at hSw); simp only [List.getElem_toArray, List.getElem_cons_succ, List.getElem_cons_zero]; go_simp; try (with_reducible rfl)
  (try simp only [List.getElem_toArray, List.getElem_cons_succ, List.getElem_cons_zero, Act.put, List.setIfInBounds_toArray, List.set_cons_succ, List.set_cons_zero])
  refine wpAnyH_take (i := 6) (v := ?_) rfl (by kernel_rfl) (by kernel_rfl) (by kernel_rfl) (fun _ _ _ h => h) (Or.inl ⟨by rfl, ?_⟩) (by assumption) ?_
  rotate_left 1
  · intro w hSw; (try dsimp only at hSw); simp only [List.getElem_toArray, List.getElem_cons_succ, List.getElem_cons_zero]; go_simp; try (with_reducible rfl)
  (try simp only [List.getElem_toArray, List.getElem_cons_succ, List.getElem_cons_zero, Act.put, List.setIfInBounds_toArray, List.set_cons_succ, List.set_cons_zero])
  refine wpAnyH_take (i := 7) (v := ?_) rfl (by kernel_rfl) (by kernel_rfl) (by kernel_rfl) (fun _ _ _ h => h) (Or.inl ⟨by rfl, ?_⟩) (by assumption) ?_
  rotate_left 1
  · intro w hSw; (try dsimp only at hSw); simp only [List.getElem_toArray, List.getElem_cons_succ, List.getElem_cons_zero]; go_simp; try (with_reducible rfl)
  (try simp only [List.getElem_toArray, List.getElem_cons_succ, List.getElem_cons_zero, Act.put, List.setIfInBounds_toArray, List.set_cons_succ, List.set_cons_zero])
  refine wpAnyH_take (i := 8) rfl (by kernel_rfl) (by kernel_rfl) (by kernel_rfl) (fun _ _ _ h => h) (yieldsIf_load_mid (by rfl) _ _ rfl _ _ rfl X _ (fun w hSw => by (try dsimp only at hSw); go_split_ands; assumption) Tryd.underlying35 rfl IX.out) (by assumption) ?_
  (try simp only [List.getElem_toArray, List.getElem_cons_succ, List.getElem_cons_zero, Act.put, List.setIfInBounds_toArray, List.set_cons_succ, List.set_cons_zero])
  refine wpAnyH_ready (rs := [0, 9]) (by kernel_rfl) (by simp) ?_
  refine AllReadyH.cons rfl (fun K hK => ?_) ?_
  · (try simp only [List.getElem_toArray, List.getElem_cons_succ, List.getElem_cons_zero])
    refine Eq.mpr (if_pos (by first | rfl | simp [Region.wanted, yielded, Act.put])) ?_
    refine wp_bs0 rfl w.heap.size w (by first | assumption | exact (Below.refl _ _).drew) (Nat.le_refl _) ?_
    intro g0 x0 ho0 hg0 hl0 hf0 hB0
    refine hK.out _ _ ?_ (fun hHeld => ?_)
    · exact K0.out _ (by first | assumption | exact (Below.refl _ _).drew)
    clear hK K
    (try simp only [Act.put, List.setIfInBounds_toArray, List.set_cons_succ, List.set_cons_zero])
    refine wpAnyH_ready (rs := [2, 9]) (by kernel_rfl) (by simp) ?_
    refine AllReadyH.cons rfl (fun K hK => ?_) ?_
    · (try simp only [List.getElem_toArray, List.getElem_cons_succ, List.getElem_cons_zero])
      refine Eq.mpr (if_pos (by first | rfl | simp [Region.wanted, yielded, Act.put])) ?_
      refine wp_appHs (.tmp 16) (.tmp 17) rfl w.heap.size w (by first | assumption | exact (Below.refl _ _).drew) (Nat.le_refl _) (some ⟨g0, 0, none⟩) 0 0 [] (by first | rfl | simp [Act.eval]) ho0 (some ⟨b, off, none⟩) n c l (by first | rfl | simp [Act.eval]) (HR.out.belowB rfl (by assumption)) (by omega) (by omega) ?_
      intro A2 c2 x2 ho2 hf2 hB2
      rw [Nat.zero_add, List.nil_append] at ho2
      rw [Nat.zero_add]
      refine hK.out _ _ ?_ (fun hHeld => ?_)
      · exact K0.out _ (by first | assumption | exact (Below.refl _ _).drew)
      clear hK K
      (try simp only [Act.put, List.setIfInBounds_toArray, List.set_cons_succ, List.set_cons_zero])
      refine wpAnyH_ready (rs := [9]) (by kernel_rfl) (by simp) ?_
      refine AllReadyH.cons rfl (fun K hK => ?_) AllReadyH.nil
      (try simp only [List.getElem_toArray, List.getElem_cons_succ, List.getElem_cons_zero])
      refine Eq.mpr (if_pos (by first | rfl | simp [Region.wanted, yielded, Act.put])) ?_
      refine wp_bs1 _ rfl X (by first | rfl | simp [Act.eval]) LX.out w.heap.size w (by first | assumption | exact (Below.refl _ _).drew) (Nat.le_refl _) ?_
      intro g9 x9 hb9 hg9 hl9 hf9 hB9
      have ho2 := ho2.frm hf9 (fun _ _ h => h)
      refine hK.out _ _ ?_ (fun hHeld => ?_)
      · exact K0.out _ (by first | assumption | exact (Below.refl _ _).drew)
      clear hK K
      (try simp only [Act.put, List.setIfInBounds_toArray, List.set_cons_succ, List.set_cons_zero])
      refine wpAnyH_ready (rs := [10]) (by kernel_rfl) (by simp) ?_
      refine AllReadyH.cons rfl (fun K hK => ?_) AllReadyH.nil
      (try simp only [List.getElem_toArray, List.getElem_cons_succ, List.getElem_cons_zero])
      refine Eq.mpr (if_pos (by first | rfl | simp [Region.wanted, yielded, Act.put])) ?_
      refine wp_appHs (.tmp 18) (.tmp 25) rfl w.heap.size w (by first | assumption | exact (Below.refl _ _).drew) (Nat.le_refl _) A2 n c2 l (by first | rfl | simp [Act.eval]) ho2 (some ⟨g9, 0, none⟩) 1 1 [x] (by first | rfl | simp [Act.eval]) (RdH.oneV hx32.out hXx.out hb9) (by omega) (by omega) ?_
      intro A3 c3 x3 ho3 hf3 hB3
      rw [← HNN.out, ← HM.out] at ho3
      rw [← HNN.out]
      refine hK.out _ _ ?_ (fun hHeld => ?_)
      · exact K0.out _ (by first | assumption | exact (Below.refl _ _).drew)
      clear hK K
      (try simp only [Act.put, List.setIfInBounds_toArray, List.set_cons_succ, List.set_cons_zero])
      refine wpAnyH_take (i := 11) (v := ?_) rfl (by kernel_rfl) (by kernel_rfl) (by kernel_rfl) (fun _ _ _ h => h) (Or.inl ⟨by rfl, ?_⟩) (by assumption) ?_
      rotate_left 1
      · intro w hSw; (try dsimp only at hSw); simp only [List.getElem_toArray, List.getElem_cons_succ, List.getElem_cons_zero]; go_simp; try (with_reducible rfl)
      (try simp only [List.getElem_toArray, List.getElem_cons_succ, List.getElem_cons_zero, Act.put, List.setIfInBounds_toArray, List.set_cons_succ, List.set_cons_zero])
      refine wpAnyH_done (by kernel_rfl) ?_ _
      obtain ⟨q, qo, rfl, hq, hqa⟩ := ho3.rd.at_ (k := n) (by rw [HNN.out]; omega)
      rw [HLX.out] at hqa
      have CM3 := Lib.hid (CM.out x3 _ c3 ho3.rd ho3.cap.1 ho3.cap.2 hB3)
      have HR3 := Lib.hid ho3.rd
      have HC3 := Lib.hid ho3.cap
      clear ho3
      go_upto_region 5 with (first
        | (go_at_call 9; refine CM3.out.mono ?_; rintro e' x6 ⟨A6, c6, rfl, hr6, d6⟩)
        | ((with_reducible refine at_alloc 25 ?_); refine wpList_allocT rfl 25 [.int .i64 0, .int .i64 0, .slice none 0 0] Z3b rfl w.heap.size w (below_more hB3 d6) (Nat.le_refl _) ?_; intro g7 x7 hbx7 hgx7 hlx7 hfx7 hBx7)
        | ((with_reducible refine at_store 25 (.tmp 4) (.tmp 32) ?_); refine wpList_store_blk rfl 25 (.tmp 4) (.tmp 32) rfl (g7) [.int .i64 0, .int .i64 0, .slice none 0 0] [.int .i64 (nn : Int), .int .i64 (n : Int), .slice A6 D c6] 25 rfl rfl (hbx7) rfl I3b (by simp [Value.oneCell']) ?_; intro x8 hx8 hox8))
      have hs3 := hB3.size
      have hs6 := d6.size
      have hB8 : Below w.heap.size w x8 := hBx7.trans (hox8.below (by omega))
      have h38 : Below x3.heap.size x3 x8 := (d6.trans ((hfx7.below (Nat.le_refl _) (fun _ h => h.elim)).mono d6.size)).trans (hox8.below (by omega))
      have h68 : Below x6.heap.size x6 x8 := (hfx7.below (Nat.le_refl _) (fun _ h => h.elim)).trans (hox8.below (by omega))
      have HR8 := Lib.hid (HR3.out.below h38)
      have HP8 := Lib.hid (hr6.below h68)
      have hq8 := range_below hqa h38 hq
      have hql8 : q < x8.heap.size := Nat.lt_of_lt_of_le hq h38.size
      have K5 : Hid (∀ W, Below x8.heap.size x8 W → W.rangeAt g7 0 [.int .i64 (nn : Int), .int .i64 (n : Int), .slice A6 D c6] ∧ W.rangeAt q (qo + n * 32) X) := Lib.hid fun W h => ⟨(hx8.up h).range, range_below hq8 h hql8⟩
      have CR5 : Hid (∀ W, Below x8.heap.size x8 W → Calls Tryd.prog 20 #[.slice (some ⟨q, qo, none⟩) nn c3] W (Ret W (.agg RT.toArray))) := Lib.hid fun W h => CR.out W _ c3 (HR8.out.below h) HC3.out.1 HC3.out.2 (below_more hB8 h)
      have CC5 : Hid (∀ W, Below x8.heap.size x8 W → Calls Tryd.prog 13 #[.agg #[.int .i64 (nn : Int), .int .i64 (n : Int), .slice A6 D c6], .agg RT.toArray, .agg X.toArray] W (Ret W (.int .i64 15))) := Lib.hid fun W h => CC.out W A6 c6 (HP8.out.below h) (below_more hB8 h)
      clear hqa hq8 hbx7 hfx7 hBx7 hox8 hx8 hr6 d6 h38 h68 CM CR CC CM3 hB3
      refine wp_region_held_drew (S := fun W => W.rangeAt g7 0 [.int .i64 (nn : Int), .int .i64 (n : Int), .slice A6 D c6] ∧ W.rangeAt q (qo + n * 32) X) (by kernel_rfl) ?_ (fun hHeld => ?_)
      · exact K5.out _ (by ((repeat (first | with_reducible assumption | with_reducible exact Below.refl _ _ | with_reducible apply below_al | with_reducible apply below_dr | with_reducible refine below_more ?_ (by assumption)))))
      refine wpAnyH_take (i := 0) (v := ?_) rfl (by kernel_rfl) (by kernel_rfl) (by kernel_rfl) (fun _ _ _ h => h) (Or.inl ⟨by rfl, ?_⟩) (by assumption) ?_
      rotate_left 1
      · intro w hSw; (try dsimp only at hSw); simp only [List.getElem_toArray, List.getElem_cons_succ, List.getElem_cons_zero]; go_simp; try (with_reducible rfl)
      (try simp only [List.getElem_toArray, List.getElem_cons_succ, List.getElem_cons_zero, Act.put, List.setIfInBounds_toArray, List.set_cons_succ, List.set_cons_zero])
      refine wpAnyH_take (i := 1) (v := ?_) rfl (by kernel_rfl) (by kernel_rfl) (by kernel_rfl) (fun _ _ _ h => h) (Or.inl ⟨by rfl, ?_⟩) (by assumption) ?_
      rotate_left 1
      · intro w hSw; (try dsimp only at hSw); simp only [List.getElem_toArray, List.getElem_cons_succ, List.getElem_cons_zero]; go_simp; try (with_reducible rfl)
      (try simp only [List.getElem_toArray, List.getElem_cons_succ, List.getElem_cons_zero, Act.put, List.setIfInBounds_toArray, List.set_cons_succ, List.set_cons_zero])
      refine wpAnyH_take (i := 2) (v := ?_) rfl (by kernel_rfl) (by kernel_rfl) (by kernel_rfl) (fun _ _ _ h => h) (Or.inl ⟨by rfl, ?_⟩) (by assumption) ?_
      rotate_left 1
      · intro w hSw; (try dsimp only at hSw); simp only [List.getElem_toArray, List.getElem_cons_succ, List.getElem_cons_zero]; go_simp; try (with_reducible rfl)
      (try simp only [List.getElem_toArray, List.getElem_cons_succ, List.getElem_cons_zero, Act.put, List.setIfInBounds_toArray, List.set_cons_succ, List.set_cons_zero])
      refine wpAnyH_take (i := 3) rfl (by kernel_rfl) (by kernel_rfl) (by kernel_rfl) (fun _ _ _ h => h) (yieldsIf_load_mid (by rfl) _ _ rfl _ _ rfl [.int .i64 (nn : Int), .int .i64 (n : Int), .slice A6 D c6] _ (fun w hSw => by (try dsimp only at hSw); go_split_ands; assumption) Tryd.underlying25 rfl (by kernel_rfl)) (by assumption) ?_
      (try simp only [List.getElem_toArray, List.getElem_cons_succ, List.getElem_cons_zero, Act.put, List.setIfInBounds_toArray, List.set_cons_succ, List.set_cons_zero])
      refine wpAnyH_take (i := 4) (v := ?_) rfl (by kernel_rfl) (by kernel_rfl) (by kernel_rfl) (fun _ _ _ h => h) (Or.inl ⟨by rfl, ?_⟩) (by assumption) ?_
      rotate_left 1
      · intro w hSw; (try dsimp only at hSw); simp only [List.getElem_toArray, List.getElem_cons_succ, List.getElem_cons_zero]; go_simp; try (with_reducible rfl)
      (try simp only [List.getElem_toArray, List.getElem_cons_succ, List.getElem_cons_zero, Act.put, List.setIfInBounds_toArray, List.set_cons_succ, List.set_cons_zero])
      refine wpAnyH_take (i := 6) (v := ?_) rfl (by kernel_rfl) (by kernel_rfl) (by kernel_rfl) (fun _ _ _ h => h) (Or.inl ⟨by rfl, ?_⟩) (by assumption) ?_
      rotate_left 1
      · intro w hSw; (try dsimp only at hSw); simp only [List.getElem_toArray, List.getElem_cons_succ, List.getElem_cons_zero]; go_simp; try (with_reducible rfl)
      (try simp only [List.getElem_toArray, List.getElem_cons_succ, List.getElem_cons_zero, Act.put, List.setIfInBounds_toArray, List.set_cons_succ, List.set_cons_zero])
      refine wpAnyH_take (i := 7) (v := ?_) rfl (by kernel_rfl) (by kernel_rfl) (by kernel_rfl) (fun _ _ _ h => h) (Or.inl ⟨by rfl, ?_⟩) (by assumption) ?_
      rotate_left 1
      · intro w hSw; (try dsimp only at hSw); simp only [List.getElem_toArray, List.getElem_cons_succ, List.getElem_cons_zero]; go_simp; try (with_reducible rfl)
      (try simp only [List.getElem_toArray, List.getElem_cons_succ, List.getElem_cons_zero, Act.put, List.setIfInBounds_toArray, List.set_cons_succ, List.set_cons_zero])
      refine wpAnyH_take (i := 8) (v := ?_) rfl (by kernel_rfl) (by kernel_rfl) (by kernel_rfl) (fun _ _ _ h => h) (Or.inl ⟨by rfl, ?_⟩) (by assumption) ?_
      rotate_left 1
      · intro w hSw; (try dsimp only at hSw); simp only [List.getElem_toArray, List.getElem_cons_succ, List.getElem_cons_zero]; go_simp; try (with_reducible rfl)
      (try simp only [List.getElem_toArray, List.getElem_cons_succ, List.getElem_cons_zero, Act.put, List.setIfInBounds_toArray, List.set_cons_succ, List.set_cons_zero])
      refine wpAnyH_take (i := 9) (v := ?_) rfl (by kernel_rfl) (by kernel_rfl) (by kernel_rfl) (fun _ _ _ h => h) (Or.inl ⟨by rfl, ?_⟩) (by assumption) ?_
      rotate_left 1
      · intro w hSw; (try dsimp only at hSw); simp only [List.getElem_toArray, List.getElem_cons_succ, List.getElem_cons_zero]; go_simp; try (with_reducible rfl)
      (try simp only [List.getElem_toArray, List.getElem_cons_succ, List.getElem_cons_zero, Act.put, List.setIfInBounds_toArray, List.set_cons_succ, List.set_cons_zero])
      refine wpAnyH_take (i := 10) rfl (by kernel_rfl) (by kernel_rfl) (by kernel_rfl) (fun _ _ _ h => h) (yieldsIf_load_mid (by rfl) _ _ rfl _ _ rfl X _ (fun w hSw => by (try dsimp only at hSw); go_split_ands; assumption) Tryd.underlying35 rfl IX.out) (by assumption) ?_
      (try simp only [List.getElem_toArray, List.getElem_cons_succ, List.getElem_cons_zero, Act.put, List.setIfInBounds_toArray, List.set_cons_succ, List.set_cons_zero])
      refine wpAnyH_ready (rs := [5]) (by kernel_rfl) (by simp) ?_
      refine AllReadyH.cons rfl (fun K hK => ?_) AllReadyH.nil
      (try simp only [List.getElem_toArray, List.getElem_cons_succ, List.getElem_cons_zero])
      go_simp
      go_at_call 20; refine (CR5.out _ (by ((repeat (first | with_reducible assumption | with_reducible exact Below.refl _ _ | with_reducible apply below_al | with_reducible apply below_dr | with_reducible refine below_more ?_ (by assumption)))))).mono ?_; rintro e' y5 ⟨rfl, d5⟩
      (try (go_wp2_with fail))
      refine hK.out _ _ ?_ (fun hHeld => ?_)
      · exact K5.out _ (by ((repeat (first | with_reducible assumption | with_reducible exact Below.refl _ _ | with_reducible apply below_al | with_reducible apply below_dr | with_reducible refine below_more ?_ (by assumption)))))
      clear hK K
      (try simp only [Act.put, List.setIfInBounds_toArray, List.set_cons_succ, List.set_cons_zero])
      refine wpAnyH_ready (rs := [11]) (by kernel_rfl) (by simp) ?_
      refine AllReadyH.cons rfl (fun K hK => ?_) AllReadyH.nil
      (try simp only [List.getElem_toArray, List.getElem_cons_succ, List.getElem_cons_zero])
      go_simp
      go_at_call 13; refine (CC5.out _ (by ((repeat (first | with_reducible assumption | with_reducible exact Below.refl _ _ | with_reducible apply below_al | with_reducible apply below_dr | with_reducible refine below_more ?_ (by assumption)))))).mono ?_; rintro e' y11 ⟨rfl, d11⟩
      (try (go_wp2_with fail))
      refine hK.out _ _ ?_ (fun hHeld => ?_)
      · exact K5.out _ (by ((repeat (first | with_reducible assumption | with_reducible exact Below.refl _ _ | with_reducible apply below_al | with_reducible apply below_dr | with_reducible refine below_more ?_ (by assumption)))))
      clear hK K
      (try simp only [Act.put, List.setIfInBounds_toArray, List.set_cons_succ, List.set_cons_zero])
      refine wpAnyH_take (i := 12) (v := ?_) rfl (by kernel_rfl) (by kernel_rfl) (by kernel_rfl) (fun _ _ _ h => h) (Or.inl ⟨by rfl, ?_⟩) (by assumption) ?_
      rotate_left 1
      · intro w hSw; (try dsimp only at hSw); simp only [List.getElem_toArray, List.getElem_cons_succ, List.getElem_cons_zero]; go_simp; try (with_reducible rfl)
      (try simp only [List.getElem_toArray, List.getElem_cons_succ, List.getElem_cons_zero, Act.put, List.setIfInBounds_toArray, List.set_cons_succ, List.set_cons_zero])
      refine wpAnyH_take (i := 13) (v := ?_) rfl (by kernel_rfl) (by kernel_rfl) (by kernel_rfl) (fun _ _ _ h => h) (Or.inl ⟨by rfl, ?_⟩) (by assumption) ?_
      rotate_left 1
      · intro w hSw; (try dsimp only at hSw); simp only [List.getElem_toArray, List.getElem_cons_succ, List.getElem_cons_zero]; go_simp; try (with_reducible rfl)
      (try simp only [List.getElem_toArray, List.getElem_cons_succ, List.getElem_cons_zero, Act.put, List.setIfInBounds_toArray, List.set_cons_succ, List.set_cons_zero])
      refine wpAnyH_take (i := 14) (v := ?_) rfl (by kernel_rfl) (by kernel_rfl) (by kernel_rfl) (fun _ _ _ h => h) (Or.inl ⟨by rfl, ?_⟩) (by assumption) ?_
      rotate_left 1
      · intro w hSw; (try dsimp only at hSw); simp only [List.getElem_toArray, List.getElem_cons_succ, List.getElem_cons_zero]; go_simp; try (with_reducible rfl)
      (try simp only [List.getElem_toArray, List.getElem_cons_succ, List.getElem_cons_zero, Act.put, List.setIfInBounds_toArray, List.set_cons_succ, List.set_cons_zero])
      refine wpAnyH_ready (rs := [15]) (by kernel_rfl) (by simp) ?_
      refine AllReadyH.cons rfl (fun K hK => ?_) AllReadyH.nil
      (try simp only [List.getElem_toArray, List.getElem_cons_succ, List.getElem_cons_zero])
      go_simp
      go_at_call 8; refine (CA.out _ (below_more hB8 (by ((repeat (first | with_reducible assumption | with_reducible exact Below.refl _ _ | with_reducible apply below_al | with_reducible apply below_dr | with_reducible refine below_more ?_ (by assumption))))))).mono ?_; rintro e' y15 ⟨rfl, d15⟩
      (try (go_wp2_with fail))
      refine hK.out _ _ ?_ (fun hHeld => ?_)
      · exact K5.out _ (by ((repeat (first | with_reducible assumption | with_reducible exact Below.refl _ _ | with_reducible apply below_al | with_reducible apply below_dr | with_reducible refine below_more ?_ (by assumption)))))
      clear hK K
      (try simp only [Act.put, List.setIfInBounds_toArray, List.set_cons_succ, List.set_cons_zero])
      refine wpAnyH_take (i := 16) (v := ?_) rfl (by kernel_rfl) (by kernel_rfl) (by kernel_rfl) (fun _ _ _ h => h) (Or.inl ⟨by rfl, ?_⟩) (by assumption) ?_
      rotate_left 1
      · intro w hSw; (try dsimp only at hSw); simp only [List.getElem_toArray, List.getElem_cons_succ, List.getElem_cons_zero]; go_simp; try (with_reducible rfl)
      (try simp only [List.getElem_toArray, List.getElem_cons_succ, List.getElem_cons_zero, Act.put, List.setIfInBounds_toArray, List.set_cons_succ, List.set_cons_zero])
      refine wpAnyH_take (i := 17) (v := ?_) rfl (by kernel_rfl) (by kernel_rfl) (by kernel_rfl) (fun _ _ _ h => h) (Or.inl ⟨by rfl, ?_⟩) (by assumption) ?_
      rotate_left 1
      · intro w hSw; (try dsimp only at hSw); simp only [List.getElem_toArray, List.getElem_cons_succ, List.getElem_cons_zero]; go_simp; try (with_reducible rfl)
      (try simp only [List.getElem_toArray, List.getElem_cons_succ, List.getElem_cons_zero, Act.put, List.setIfInBounds_toArray, List.set_cons_succ, List.set_cons_zero])
      refine wpAnyH_done (by kernel_rfl) ?_ _
      go_wp2
      go_ret
      exact ⟨rfl, below_more hB8 (by ((repeat (first | with_reducible assumption | with_reducible exact Below.refl _ _ | with_reducible apply below_al | with_reducible apply below_dr | with_reducible refine below_more ?_ (by assumption)))))⟩
    refine AllReadyH.cons rfl (fun K hK => ?_) AllReadyH.nil
    (try simp only [List.getElem_toArray, List.getElem_cons_succ, List.getElem_cons_zero])
    refine Eq.mpr (if_pos (by first | rfl | simp [Region.wanted, yielded, Act.put])) ?_
    refine wp_bs1 _ rfl X (by first | rfl | simp [Act.eval]) LX.out w.heap.size w (by first | assumption | exact (Below.refl _ _).drew) (Nat.le_refl _) ?_
    intro g9 x9 hb9 hg9 hl9 hf9 hB9
    have ho0 := ho0.frm hf9 (fun _ _ h => h)
    refine hK.out _ _ ?_ (fun hHeld => ?_)
    · exact K0.out _ (by first | assumption | exact (Below.refl _ _).drew)
    clear hK K
    (try simp only [Act.put, List.setIfInBounds_toArray, List.set_cons_succ, List.set_cons_zero])
    refine wpAnyH_ready (rs := [2]) (by kernel_rfl) (by simp) ?_
    refine AllReadyH.cons rfl (fun K hK => ?_) AllReadyH.nil
    (try simp only [List.getElem_toArray, List.getElem_cons_succ, List.getElem_cons_zero])
    refine Eq.mpr (if_pos (by first | rfl | simp [Region.wanted, yielded, Act.put])) ?_
    refine wp_appHs (.tmp 16) (.tmp 17) rfl w.heap.size w (by first | assumption | exact (Below.refl _ _).drew) (Nat.le_refl _) (some ⟨g0, 0, none⟩) 0 0 [] (by first | rfl | simp [Act.eval]) ho0 (some ⟨b, off, none⟩) n c l (by first | rfl | simp [Act.eval]) (HR.out.belowB rfl (by assumption)) (by omega) (by omega) ?_
    intro A2 c2 x2 ho2 hf2 hB2
    rw [Nat.zero_add, List.nil_append] at ho2
    rw [Nat.zero_add]
    have hb9 := hf2.blk hb9 (by simp [blkOf]; omega)
    refine hK.out _ _ ?_ (fun hHeld => ?_)
    · exact K0.out _ (by first | assumption | exact (Below.refl _ _).drew)
    clear hK K
    (try simp only [Act.put, List.setIfInBounds_toArray, List.set_cons_succ, List.set_cons_zero])
    refine wpAnyH_ready (rs := [10]) (by kernel_rfl) (by simp) ?_
    refine AllReadyH.cons rfl (fun K hK => ?_) AllReadyH.nil
    (try simp only [List.getElem_toArray, List.getElem_cons_succ, List.getElem_cons_zero])
    refine Eq.mpr (if_pos (by first | rfl | simp [Region.wanted, yielded, Act.put])) ?_
    refine wp_appHs (.tmp 18) (.tmp 25) rfl w.heap.size w (by first | assumption | exact (Below.refl _ _).drew) (Nat.le_refl _) A2 n c2 l (by first | rfl | simp [Act.eval]) ho2 (some ⟨g9, 0, none⟩) 1 1 [x] (by first | rfl | simp [Act.eval]) (RdH.oneV hx32.out hXx.out hb9) (by omega) (by omega) ?_
    intro A3 c3 x3 ho3 hf3 hB3
    rw [← HNN.out, ← HM.out] at ho3
    rw [← HNN.out]
    refine hK.out _ _ ?_ (fun hHeld => ?_)
    · exact K0.out _ (by first | assumption | exact (Below.refl _ _).drew)
    clear hK K
    (try simp only [Act.put, List.setIfInBounds_toArray, List.set_cons_succ, List.set_cons_zero])
    refine wpAnyH_take (i := 11) (v := ?_) rfl (by kernel_rfl) (by kernel_rfl) (by kernel_rfl) (fun _ _ _ h => h) (Or.inl ⟨by rfl, ?_⟩) (by assumption) ?_
    rotate_left 1
    · intro w hSw; (try dsimp only at hSw); simp only [List.getElem_toArray, List.getElem_cons_succ, List.getElem_cons_zero]; go_simp; try (with_reducible rfl)
    (try simp only [List.getElem_toArray, List.getElem_cons_succ, List.getElem_cons_zero, Act.put, List.setIfInBounds_toArray, List.set_cons_succ, List.set_cons_zero])
    refine wpAnyH_done (by kernel_rfl) ?_ _
    obtain ⟨q, qo, rfl, hq, hqa⟩ := ho3.rd.at_ (k := n) (by rw [HNN.out]; omega)
    rw [HLX.out] at hqa
    have CM3 := Lib.hid (CM.out x3 _ c3 ho3.rd ho3.cap.1 ho3.cap.2 hB3)
    have HR3 := Lib.hid ho3.rd
    have HC3 := Lib.hid ho3.cap
    clear ho3
    go_upto_region 5 with (first
      | (go_at_call 9; refine CM3.out.mono ?_; rintro e' x6 ⟨A6, c6, rfl, hr6, d6⟩)
      | ((with_reducible refine at_alloc 25 ?_); refine wpList_allocT rfl 25 [.int .i64 0, .int .i64 0, .slice none 0 0] Z3b rfl w.heap.size w (below_more hB3 d6) (Nat.le_refl _) ?_; intro g7 x7 hbx7 hgx7 hlx7 hfx7 hBx7)
      | ((with_reducible refine at_store 25 (.tmp 4) (.tmp 32) ?_); refine wpList_store_blk rfl 25 (.tmp 4) (.tmp 32) rfl (g7) [.int .i64 0, .int .i64 0, .slice none 0 0] [.int .i64 (nn : Int), .int .i64 (n : Int), .slice A6 D c6] 25 rfl rfl (hbx7) rfl I3b (by simp [Value.oneCell']) ?_; intro x8 hx8 hox8))
    have hs3 := hB3.size
    have hs6 := d6.size
    have hB8 : Below w.heap.size w x8 := hBx7.trans (hox8.below (by omega))
    have h38 : Below x3.heap.size x3 x8 := (d6.trans ((hfx7.below (Nat.le_refl _) (fun _ h => h.elim)).mono d6.size)).trans (hox8.below (by omega))
    have h68 : Below x6.heap.size x6 x8 := (hfx7.below (Nat.le_refl _) (fun _ h => h.elim)).trans (hox8.below (by omega))
    have HR8 := Lib.hid (HR3.out.below h38)
    have HP8 := Lib.hid (hr6.below h68)
    have hq8 := range_below hqa h38 hq
    have hql8 : q < x8.heap.size := Nat.lt_of_lt_of_le hq h38.size
    have K5 : Hid (∀ W, Below x8.heap.size x8 W → W.rangeAt g7 0 [.int .i64 (nn : Int), .int .i64 (n : Int), .slice A6 D c6] ∧ W.rangeAt q (qo + n * 32) X) := Lib.hid fun W h => ⟨(hx8.up h).range, range_below hq8 h hql8⟩
    have CR5 : Hid (∀ W, Below x8.heap.size x8 W → Calls Tryd.prog 20 #[.slice (some ⟨q, qo, none⟩) nn c3] W (Ret W (.agg RT.toArray))) := Lib.hid fun W h => CR.out W _ c3 (HR8.out.below h) HC3.out.1 HC3.out.2 (below_more hB8 h)
    have CC5 : Hid (∀ W, Below x8.heap.size x8 W → Calls Tryd.prog 13 #[.agg #[.int .i64 (nn : Int), .int .i64 (n : Int), .slice A6 D c6], .agg RT.toArray, .agg X.toArray] W (Ret W (.int .i64 15))) := Lib.hid fun W h => CC.out W A6 c6 (HP8.out.below h) (below_more hB8 h)
    clear hqa hq8 hbx7 hfx7 hBx7 hox8 hx8 hr6 d6 h38 h68 CM CR CC CM3 hB3
    refine wp_region_held_drew (S := fun W => W.rangeAt g7 0 [.int .i64 (nn : Int), .int .i64 (n : Int), .slice A6 D c6] ∧ W.rangeAt q (qo + n * 32) X) (by kernel_rfl) ?_ (fun hHeld => ?_)
    · exact K5.out _ (by ((repeat (first | with_reducible assumption | with_reducible exact Below.refl _ _ | with_reducible apply below_al | with_reducible apply below_dr | with_reducible refine below_more ?_ (by assumption)))))
    refine wpAnyH_take (i := 0) (v := ?_) rfl (by kernel_rfl) (by kernel_rfl) (by kernel_rfl) (fun _ _ _ h => h) (Or.inl ⟨by rfl, ?_⟩) (by assumption) ?_
    rotate_left 1
    · intro w hSw; (try dsimp only at hSw); simp only [List.getElem_toArray, List.getElem_cons_succ, List.getElem_cons_zero]; go_simp; try (with_reducible rfl)
    (try simp only [List.getElem_toArray, List.getElem_cons_succ, List.getElem_cons_zero, Act.put, List.setIfInBounds_toArray, List.set_cons_succ, List.set_cons_zero])
    refine wpAnyH_take (i := 1) (v := ?_) rfl (by kernel_rfl) (by kernel_rfl) (by kernel_rfl) (fun _ _ _ h => h) (Or.inl ⟨by rfl, ?_⟩) (by assumption) ?_
    rotate_left 1
    · intro w hSw; (try dsimp only at hSw); simp only [List.getElem_toArray, List.getElem_cons_succ, List.getElem_cons_zero]; go_simp; try (with_reducible rfl)
    (try simp only [List.getElem_toArray, List.getElem_cons_succ, List.getElem_cons_zero, Act.put, List.setIfInBounds_toArray, List.set_cons_succ, List.set_cons_zero])
    refine wpAnyH_take (i := 2) (v := ?_) rfl (by kernel_rfl) (by kernel_rfl) (by kernel_rfl) (fun _ _ _ h => h) (Or.inl ⟨by rfl, ?_⟩) (by assumption) ?_
    rotate_left 1
    · intro w hSw; (try dsimp only at hSw); simp only [List.getElem_toArray, List.getElem_cons_succ, List.getElem_cons_zero]; go_simp; try (with_reducible rfl)
    (try simp only [List.getElem_toArray, List.getElem_cons_succ, List.getElem_cons_zero, Act.put, List.setIfInBounds_toArray, List.set_cons_succ, List.set_cons_zero])
    refine wpAnyH_take (i := 3) rfl (by kernel_rfl) (by kernel_rfl) (by kernel_rfl) (fun _ _ _ h => h) (yieldsIf_load_mid (by rfl) _ _ rfl _ _ rfl [.int .i64 (nn : Int), .int .i64 (n : Int), .slice A6 D c6] _ (fun w hSw => by (try dsimp only at hSw); go_split_ands; assumption) Tryd.underlying25 rfl (by kernel_rfl)) (by assumption) ?_
    (try simp only [List.getElem_toArray, List.getElem_cons_succ, List.getElem_cons_zero, Act.put, List.setIfInBounds_toArray, List.set_cons_succ, List.set_cons_zero])
    refine wpAnyH_take (i := 4) (v := ?_) rfl (by kernel_rfl) (by kernel_rfl) (by kernel_rfl) (fun _ _ _ h => h) (Or.inl ⟨by rfl, ?_⟩) (by assumption) ?_
    rotate_left 1
    · intro w hSw; (try dsimp only at hSw); simp only [List.getElem_toArray, List.getElem_cons_succ, List.getElem_cons_zero]; go_simp; try (with_reducible rfl)
    (try simp only [List.getElem_toArray, List.getElem_cons_succ, List.getElem_cons_zero, Act.put, List.setIfInBounds_toArray, List.set_cons_succ, List.set_cons_zero])
    refine wpAnyH_take (i := 6) (v := ?_) rfl (by kernel_rfl) (by kernel_rfl) (by kernel_rfl) (fun _ _ _ h => h) (Or.inl ⟨by rfl, ?_⟩) (by assumption) ?_
    rotate_left 1
    · intro w hSw; (try dsimp only at hSw); simp only [List.getElem_toArray, List.getElem_cons_succ, List.getElem_cons_zero]; go_simp; try (with_reducible rfl)
    (try simp only [List.getElem_toArray, List.getElem_cons_succ, List.getElem_cons_zero, Act.put, List.setIfInBounds_toArray, List.set_cons_succ, List.set_cons_zero])
    refine wpAnyH_take (i := 7) (v := ?_) rfl (by kernel_rfl) (by kernel_rfl) (by kernel_rfl) (fun _ _ _ h => h) (Or.inl ⟨by rfl, ?_⟩) (by assumption) ?_
    rotate_left 1
    · intro w hSw; (try dsimp only at hSw); simp only [List.getElem_toArray, List.getElem_cons_succ, List.getElem_cons_zero]; go_simp; try (with_reducible rfl)
    (try simp only [List.getElem_toArray, List.getElem_cons_succ, List.getElem_cons_zero, Act.put, List.setIfInBounds_toArray, List.set_cons_succ, List.set_cons_zero])
    refine wpAnyH_take (i := 8) (v := ?_) rfl (by kernel_rfl) (by kernel_rfl) (by kernel_rfl) (fun _ _ _ h => h) (Or.inl ⟨by rfl, ?_⟩) (by assumption) ?_
    rotate_left 1
    · intro w hSw; (try dsimp only at hSw); simp only [List.getElem_toArray, List.getElem_cons_succ, List.getElem_cons_zero]; go_simp; try (with_reducible rfl)
    (try simp only [List.getElem_toArray, List.getElem_cons_succ, List.getElem_cons_zero, Act.put, List.setIfInBounds_toArray, List.set_cons_succ, List.set_cons_zero])
    refine wpAnyH_take (i := 9) (v := ?_) rfl (by kernel_rfl) (by kernel_rfl) (by kernel_rfl) (fun _ _ _ h => h) (Or.inl ⟨by rfl, ?_⟩) (by assumption) ?_
    rotate_left 1
    · intro w hSw; (try dsimp only at hSw); simp only [List.getElem_toArray, List.getElem_cons_succ, List.getElem_cons_zero]; go_simp; try (with_reducible rfl)
    (try simp only [List.getElem_toArray, List.getElem_cons_succ, List.getElem_cons_zero, Act.put, List.setIfInBounds_toArray, List.set_cons_succ, List.set_cons_zero])
    refine wpAnyH_take (i := 10) rfl (by kernel_rfl) (by kernel_rfl) (by kernel_rfl) (fun _ _ _ h => h) (yieldsIf_load_mid (by rfl) _ _ rfl _ _ rfl X _ (fun w hSw => by (try dsimp only at hSw); go_split_ands; assumption) Tryd.underlying35 rfl IX.out) (by assumption) ?_
    (try simp only [List.getElem_toArray, List.getElem_cons_succ, List.getElem_cons_zero, Act.put, List.setIfInBounds_toArray, List.set_cons_succ, List.set_cons_zero])
    refine wpAnyH_ready (rs := [5]) (by kernel_rfl) (by simp) ?_
    refine AllReadyH.cons rfl (fun K hK => ?_) AllReadyH.nil
    (try simp only [List.getElem_toArray, List.getElem_cons_succ, List.getElem_cons_zero])
    go_simp
    go_at_call 20; refine (CR5.out _ (by ((repeat (first | with_reducible assumption | with_reducible exact Below.refl _ _ | with_reducible apply below_al | with_reducible apply below_dr | with_reducible refine below_more ?_ (by assumption)))))).mono ?_; rintro e' y5 ⟨rfl, d5⟩
    (try (go_wp2_with fail))
    refine hK.out _ _ ?_ (fun hHeld => ?_)
    · exact K5.out _ (by ((repeat (first | with_reducible assumption | with_reducible exact Below.refl _ _ | with_reducible apply below_al | with_reducible apply below_dr | with_reducible refine below_more ?_ (by assumption)))))
    clear hK K
    (try simp only [Act.put, List.setIfInBounds_toArray, List.set_cons_succ, List.set_cons_zero])
    refine wpAnyH_ready (rs := [11]) (by kernel_rfl) (by simp) ?_
    refine AllReadyH.cons rfl (fun K hK => ?_) AllReadyH.nil
    (try simp only [List.getElem_toArray, List.getElem_cons_succ, List.getElem_cons_zero])
    go_simp
    go_at_call 13; refine (CC5.out _ (by ((repeat (first | with_reducible assumption | with_reducible exact Below.refl _ _ | with_reducible apply below_al | with_reducible apply below_dr | with_reducible refine below_more ?_ (by assumption)))))).mono ?_; rintro e' y11 ⟨rfl, d11⟩
    (try (go_wp2_with fail))
    refine hK.out _ _ ?_ (fun hHeld => ?_)
    · exact K5.out _ (by ((repeat (first | with_reducible assumption | with_reducible exact Below.refl _ _ | with_reducible apply below_al | with_reducible apply below_dr | with_reducible refine below_more ?_ (by assumption)))))
    clear hK K
    (try simp only [Act.put, List.setIfInBounds_toArray, List.set_cons_succ, List.set_cons_zero])
    refine wpAnyH_take (i := 12) (v := ?_) rfl (by kernel_rfl) (by kernel_rfl) (by kernel_rfl) (fun _ _ _ h => h) (Or.inl ⟨by rfl, ?_⟩) (by assumption) ?_
    rotate_left 1
    · intro w hSw; (try dsimp only at hSw); simp only [List.getElem_toArray, List.getElem_cons_succ, List.getElem_cons_zero]; go_simp; try (with_reducible rfl)
    (try simp only [List.getElem_toArray, List.getElem_cons_succ, List.getElem_cons_zero, Act.put, List.setIfInBounds_toArray, List.set_cons_succ, List.set_cons_zero])
    refine wpAnyH_take (i := 13) (v := ?_) rfl (by kernel_rfl) (by kernel_rfl) (by kernel_rfl) (fun _ _ _ h => h) (Or.inl ⟨by rfl, ?_⟩) (by assumption) ?_
    rotate_left 1
    · intro w hSw; (try dsimp only at hSw); simp only [List.getElem_toArray, List.getElem_cons_succ, List.getElem_cons_zero]; go_simp; try (with_reducible rfl)
    (try simp only [List.getElem_toArray, List.getElem_cons_succ, List.getElem_cons_zero, Act.put, List.setIfInBounds_toArray, List.set_cons_succ, List.set_cons_zero])
    refine wpAnyH_take (i := 14) (v := ?_) rfl (by kernel_rfl) (by kernel_rfl) (by kernel_rfl) (fun _ _ _ h => h) (Or.inl ⟨by rfl, ?_⟩) (by assumption) ?_
    rotate_left 1
    · intro w hSw; (try dsimp only at hSw); simp only [List.getElem_toArray, List.getElem_cons_succ, List.getElem_cons_zero]; go_simp; try (with_reducible rfl)
    (try simp only [List.getElem_toArray, List.getElem_cons_succ, List.getElem_cons_zero, Act.put, List.setIfInBounds_toArray, List.set_cons_succ, List.set_cons_zero])
    refine wpAnyH_ready (rs := [15]) (by kernel_rfl) (by simp) ?_
    refine AllReadyH.cons rfl (fun K hK => ?_) AllReadyH.nil
    (try simp only [List.getElem_toArray, List.getElem_cons_succ, List.getElem_cons_zero])
    go_simp
    go_at_call 8; refine (CA.out _ (below_more hB8 (by ((repeat (first | with_reducible assumption | with_reducible exact Below.refl _ _ | with_reducible apply below_al | with_reducible apply below_dr | with_reducible refine below_more ?_ (by assumption))))))).mono ?_; rintro e' y15 ⟨rfl, d15⟩
    (try (go_wp2_with fail))
    refine hK.out _ _ ?_ (fun hHeld => ?_)
    · exact K5.out _ (by ((repeat (first | with_reducible assumption | with_reducible exact Below.refl _ _ | with_reducible apply below_al | with_reducible apply below_dr | with_reducible refine below_more ?_ (by assumption)))))
    clear hK K
    (try simp only [Act.put, List.setIfInBounds_toArray, List.set_cons_succ, List.set_cons_zero])
    refine wpAnyH_take (i := 16) (v := ?_) rfl (by kernel_rfl) (by kernel_rfl) (by kernel_rfl) (fun _ _ _ h => h) (Or.inl ⟨by rfl, ?_⟩) (by assumption) ?_
    rotate_left 1
    · intro w hSw; (try dsimp only at hSw); simp only [List.getElem_toArray, List.getElem_cons_succ, List.getElem_cons_zero]; go_simp; try (with_reducible rfl)
    (try simp only [List.getElem_toArray, List.getElem_cons_succ, List.getElem_cons_zero, Act.put, List.setIfInBounds_toArray, List.set_cons_succ, List.set_cons_zero])
    refine wpAnyH_take (i := 17) (v := ?_) rfl (by kernel_rfl) (by kernel_rfl) (by kernel_rfl) (fun _ _ _ h => h) (Or.inl ⟨by rfl, ?_⟩) (by assumption) ?_
    rotate_left 1
    · intro w hSw; (try dsimp only at hSw); simp only [List.getElem_toArray, List.getElem_cons_succ, List.getElem_cons_zero]; go_simp; try (with_reducible rfl)
    (try simp only [List.getElem_toArray, List.getElem_cons_succ, List.getElem_cons_zero, Act.put, List.setIfInBounds_toArray, List.set_cons_succ, List.set_cons_zero])
    refine wpAnyH_done (by kernel_rfl) ?_ _
    go_wp2
    go_ret
    exact ⟨rfl, below_more hB8 (by ((repeat (first | with_reducible assumption | with_reducible exact Below.refl _ _ | with_reducible apply below_al | with_reducible apply below_dr | with_reducible refine below_more ?_ (by assumption)))))⟩
  refine AllReadyH.cons rfl (fun K hK => ?_) AllReadyH.nil
  (try simp only [List.getElem_toArray, List.getElem_cons_succ, List.getElem_cons_zero])
  refine Eq.mpr (if_pos (by first | rfl | simp [Region.wanted, yielded, Act.put])) ?_
  refine wp_bs1 _ rfl X (by first | rfl | simp [Act.eval]) LX.out w.heap.size w (by first | assumption | exact (Below.refl _ _).drew) (Nat.le_refl _) ?_
  intro g9 x9 hb9 hg9 hl9 hf9 hB9
  refine hK.out _ _ ?_ (fun hHeld => ?_)
  · exact K0.out _ (by first | assumption | exact (Below.refl _ _).drew)
  clear hK K
  (try simp only [Act.put, List.setIfInBounds_toArray, List.set_cons_succ, List.set_cons_zero])
  refine wpAnyH_ready (rs := [0]) (by kernel_rfl) (by simp) ?_
  refine AllReadyH.cons rfl (fun K hK => ?_) AllReadyH.nil
  (try simp only [List.getElem_toArray, List.getElem_cons_succ, List.getElem_cons_zero])
  refine Eq.mpr (if_pos (by first | rfl | simp [Region.wanted, yielded, Act.put])) ?_
  refine wp_bs0 rfl w.heap.size w (by first | assumption | exact (Below.refl _ _).drew) (Nat.le_refl _) ?_
  intro g0 x0 ho0 hg0 hl0 hf0 hB0
  have hb9 := hf0.blk hb9 (fun h => h)
  refine hK.out _ _ ?_ (fun hHeld => ?_)
  · exact K0.out _ (by first | assumption | exact (Below.refl _ _).drew)
  clear hK K
  (try simp only [Act.put, List.setIfInBounds_toArray, List.set_cons_succ, List.set_cons_zero])
  refine wpAnyH_ready (rs := [2]) (by kernel_rfl) (by simp) ?_
  refine AllReadyH.cons rfl (fun K hK => ?_) AllReadyH.nil
  (try simp only [List.getElem_toArray, List.getElem_cons_succ, List.getElem_cons_zero])
  refine Eq.mpr (if_pos (by first | rfl | simp [Region.wanted, yielded, Act.put])) ?_
  refine wp_appHs (.tmp 16) (.tmp 17) rfl w.heap.size w (by first | assumption | exact (Below.refl _ _).drew) (Nat.le_refl _) (some ⟨g0, 0, none⟩) 0 0 [] (by first | rfl | simp [Act.eval]) ho0 (some ⟨b, off, none⟩) n c l (by first | rfl | simp [Act.eval]) (HR.out.belowB rfl (by assumption)) (by omega) (by omega) ?_
  intro A2 c2 x2 ho2 hf2 hB2
  rw [Nat.zero_add, List.nil_append] at ho2
  rw [Nat.zero_add]
  have hb9 := hf2.blk hb9 (by simp [blkOf]; omega)
  refine hK.out _ _ ?_ (fun hHeld => ?_)
  · exact K0.out _ (by first | assumption | exact (Below.refl _ _).drew)
  clear hK K
  (try simp only [Act.put, List.setIfInBounds_toArray, List.set_cons_succ, List.set_cons_zero])
  refine wpAnyH_ready (rs := [10]) (by kernel_rfl) (by simp) ?_
  refine AllReadyH.cons rfl (fun K hK => ?_) AllReadyH.nil
  (try simp only [List.getElem_toArray, List.getElem_cons_succ, List.getElem_cons_zero])
  refine Eq.mpr (if_pos (by first | rfl | simp [Region.wanted, yielded, Act.put])) ?_
  refine wp_appHs (.tmp 18) (.tmp 25) rfl w.heap.size w (by first | assumption | exact (Below.refl _ _).drew) (Nat.le_refl _) A2 n c2 l (by first | rfl | simp [Act.eval]) ho2 (some ⟨g9, 0, none⟩) 1 1 [x] (by first | rfl | simp [Act.eval]) (RdH.oneV hx32.out hXx.out hb9) (by omega) (by omega) ?_
  intro A3 c3 x3 ho3 hf3 hB3
  rw [← HNN.out, ← HM.out] at ho3
  rw [← HNN.out]
  refine hK.out _ _ ?_ (fun hHeld => ?_)
  · exact K0.out _ (by first | assumption | exact (Below.refl _ _).drew)
  clear hK K
  (try simp only [Act.put, List.setIfInBounds_toArray, List.set_cons_succ, List.set_cons_zero])
  refine wpAnyH_take (i := 11) (v := ?_) rfl (by kernel_rfl) (by kernel_rfl) (by kernel_rfl) (fun _ _ _ h => h) (Or.inl ⟨by rfl, ?_⟩) (by assumption) ?_
  rotate_left 1
  · intro w hSw; (try dsimp only at hSw); simp only [List.getElem_toArray, List.getElem_cons_succ, List.getElem_cons_zero]; go_simp; try (with_reducible rfl)
  (try simp only [List.getElem_toArray, List.getElem_cons_succ, List.getElem_cons_zero, Act.put, List.setIfInBounds_toArray, List.set_cons_succ, List.set_cons_zero])
  refine wpAnyH_done (by kernel_rfl) ?_ _
  obtain ⟨q, qo, rfl, hq, hqa⟩ := ho3.rd.at_ (k := n) (by rw [HNN.out]; omega)
  rw [HLX.out] at hqa
  have CM3 := Lib.hid (CM.out x3 _ c3 ho3.rd ho3.cap.1 ho3.cap.2 hB3)
  have HR3 := Lib.hid ho3.rd
  have HC3 := Lib.hid ho3.cap
  clear ho3
  go_upto_region 5 with (first
    | (go_at_call 9; refine CM3.out.mono ?_; rintro e' x6 ⟨A6, c6, rfl, hr6, d6⟩)
    | ((with_reducible refine at_alloc 25 ?_); refine wpList_allocT rfl 25 [.int .i64 0, .int .i64 0, .slice none 0 0] Z3b rfl w.heap.size w (below_more hB3 d6) (Nat.le_refl _) ?_; intro g7 x7 hbx7 hgx7 hlx7 hfx7 hBx7)
    | ((with_reducible refine at_store 25 (.tmp 4) (.tmp 32) ?_); refine wpList_store_blk rfl 25 (.tmp 4) (.tmp 32) rfl (g7) [.int .i64 0, .int .i64 0, .slice none 0 0] [.int .i64 (nn : Int), .int .i64 (n : Int), .slice A6 D c6] 25 rfl rfl (hbx7) rfl I3b (by simp [Value.oneCell']) ?_; intro x8 hx8 hox8))
  have hs3 := hB3.size
  have hs6 := d6.size
  have hB8 : Below w.heap.size w x8 := hBx7.trans (hox8.below (by omega))
  have h38 : Below x3.heap.size x3 x8 := (d6.trans ((hfx7.below (Nat.le_refl _) (fun _ h => h.elim)).mono d6.size)).trans (hox8.below (by omega))
  have h68 : Below x6.heap.size x6 x8 := (hfx7.below (Nat.le_refl _) (fun _ h => h.elim)).trans (hox8.below (by omega))
  have HR8 := Lib.hid (HR3.out.below h38)
  have HP8 := Lib.hid (hr6.below h68)
  have hq8 := range_below hqa h38 hq
  have hql8 : q < x8.heap.size := Nat.lt_of_lt_of_le hq h38.size
  have K5 : Hid (∀ W, Below x8.heap.size x8 W → W.rangeAt g7 0 [.int .i64 (nn : Int), .int .i64 (n : Int), .slice A6 D c6] ∧ W.rangeAt q (qo + n * 32) X) := Lib.hid fun W h => ⟨(hx8.up h).range, range_below hq8 h hql8⟩
  have CR5 : Hid (∀ W, Below x8.heap.size x8 W → Calls Tryd.prog 20 #[.slice (some ⟨q, qo, none⟩) nn c3] W (Ret W (.agg RT.toArray))) := Lib.hid fun W h => CR.out W _ c3 (HR8.out.below h) HC3.out.1 HC3.out.2 (below_more hB8 h)
  have CC5 : Hid (∀ W, Below x8.heap.size x8 W → Calls Tryd.prog 13 #[.agg #[.int .i64 (nn : Int), .int .i64 (n : Int), .slice A6 D c6], .agg RT.toArray, .agg X.toArray] W (Ret W (.int .i64 15))) := Lib.hid fun W h => CC.out W A6 c6 (HP8.out.below h) (below_more hB8 h)
  clear hqa hq8 hbx7 hfx7 hBx7 hox8 hx8 hr6 d6 h38 h68 CM CR CC CM3 hB3
  refine wp_region_held_drew (S := fun W => W.rangeAt g7 0 [.int .i64 (nn : Int), .int .i64 (n : Int), .slice A6 D c6] ∧ W.rangeAt q (qo + n * 32) X) (by kernel_rfl) ?_ (fun hHeld => ?_)
  · exact K5.out _ (by ((repeat (first | with_reducible assumption | with_reducible exact Below.refl _ _ | with_reducible apply below_al | with_reducible apply below_dr | with_reducible refine below_more ?_ (by assumption)))))
  refine wpAnyH_take (i := 0) (v := ?_) rfl (by kernel_rfl) (by kernel_rfl) (by kernel_rfl) (fun _ _ _ h => h) (Or.inl ⟨by rfl, ?_⟩) (by assumption) ?_
  rotate_left 1
  · intro w hSw; (try dsimp only at hSw); simp only [List.getElem_toArray, List.getElem_cons_succ, List.getElem_cons_zero]; go_simp; try (with_reducible rfl)
  (try simp only [List.getElem_toArray, List.getElem_cons_succ, List.getElem_cons_zero, Act.put, List.setIfInBounds_toArray, List.set_cons_succ, List.set_cons_zero])
  refine wpAnyH_take (i := 1) (v := ?_) rfl (by kernel_rfl) (by kernel_rfl) (by kernel_rfl) (fun _ _ _ h => h) (Or.inl ⟨by rfl, ?_⟩) (by assumption) ?_
  rotate_left 1
  · intro w hSw; (try dsimp only at hSw); simp only [List.getElem_toArray, List.getElem_cons_succ, List.getElem_cons_zero]; go_simp; try (with_reducible rfl)
  (try simp only [List.getElem_toArray, List.getElem_cons_succ, List.getElem_cons_zero, Act.put, List.setIfInBounds_toArray, List.set_cons_succ, List.set_cons_zero])
  refine wpAnyH_take (i := 2) (v := ?_) rfl (by kernel_rfl) (by kernel_rfl) (by kernel_rfl) (fun _ _ _ h => h) (Or.inl ⟨by rfl, ?_⟩) (by assumption) ?_
  rotate_left 1
  · intro w hSw; (try dsimp only at hSw); simp only [List.getElem_toArray, List.getElem_cons_succ, List.getElem_cons_zero]; go_simp; try (with_reducible rfl)
  (try simp only [List.getElem_toArray, List.getElem_cons_succ, List.getElem_cons_zero, Act.put, List.setIfInBounds_toArray, List.set_cons_succ, List.set_cons_zero])
  refine wpAnyH_take (i := 3) rfl (by kernel_rfl) (by kernel_rfl) (by kernel_rfl) (fun _ _ _ h => h) (yieldsIf_load_mid (by rfl) _ _ rfl _ _ rfl [.int .i64 (nn : Int), .int .i64 (n : Int), .slice A6 D c6] _ (fun w hSw => by (try dsimp only at hSw); go_split_ands; assumption) Tryd.underlying25 rfl (by kernel_rfl)) (by assumption) ?_
  (try simp only [List.getElem_toArray, List.getElem_cons_succ, List.getElem_cons_zero, Act.put, List.setIfInBounds_toArray, List.set_cons_succ, List.set_cons_zero])
  refine wpAnyH_take (i := 4) (v := ?_) rfl (by kernel_rfl) (by kernel_rfl) (by kernel_rfl) (fun _ _ _ h => h) (Or.inl ⟨by rfl, ?_⟩) (by assumption) ?_
  rotate_left 1
  · intro w hSw; (try dsimp only at hSw); simp only [List.getElem_toArray, List.getElem_cons_succ, List.getElem_cons_zero]; go_simp; try (with_reducible rfl)
  (try simp only [List.getElem_toArray, List.getElem_cons_succ, List.getElem_cons_zero, Act.put, List.setIfInBounds_toArray, List.set_cons_succ, List.set_cons_zero])
  refine wpAnyH_take (i := 6) (v := ?_) rfl (by kernel_rfl) (by kernel_rfl) (by kernel_rfl) (fun _ _ _ h => h) (Or.inl ⟨by rfl, ?_⟩) (by assumption) ?_
  rotate_left 1
  · intro w hSw; (try dsimp only at hSw); simp only [List.getElem_toArray, List.getElem_cons_succ, List.getElem_cons_zero]; go_simp; try (with_reducible rfl)
  (try simp only [List.getElem_toArray, List.getElem_cons_succ, List.getElem_cons_zero, Act.put, List.setIfInBounds_toArray, List.set_cons_succ, List.set_cons_zero])
  refine wpAnyH_take (i := 7) (v := ?_) rfl (by kernel_rfl) (by kernel_rfl) (by kernel_rfl) (fun _ _ _ h => h) (Or.inl ⟨by rfl, ?_⟩) (by assumption) ?_
  rotate_left 1
  · intro w hSw; (try dsimp only at hSw); simp only [List.getElem_toArray, List.getElem_cons_succ, List.getElem_cons_zero]; go_simp; try (with_reducible rfl)
  (try simp only [List.getElem_toArray, List.getElem_cons_succ, List.getElem_cons_zero, Act.put, List.setIfInBounds_toArray, List.set_cons_succ, List.set_cons_zero])
  refine wpAnyH_take (i := 8) (v := ?_) rfl (by kernel_rfl) (by kernel_rfl) (by kernel_rfl) (fun _ _ _ h => h) (Or.inl ⟨by rfl, ?_⟩) (by assumption) ?_
  rotate_left 1
  · intro w hSw; (try dsimp only at hSw); simp only [List.getElem_toArray, List.getElem_cons_succ, List.getElem_cons_zero]; go_simp; try (with_reducible rfl)
  (try simp only [List.getElem_toArray, List.getElem_cons_succ, List.getElem_cons_zero, Act.put, List.setIfInBounds_toArray, List.set_cons_succ, List.set_cons_zero])
  refine wpAnyH_take (i := 9) (v := ?_) rfl (by kernel_rfl) (by kernel_rfl) (by kernel_rfl) (fun _ _ _ h => h) (Or.inl ⟨by rfl, ?_⟩) (by assumption) ?_
  rotate_left 1
  · intro w hSw; (try dsimp only at hSw); simp only [List.getElem_toArray, List.getElem_cons_succ, List.getElem_cons_zero]; go_simp; try (with_reducible rfl)
  (try simp only [List.getElem_toArray, List.getElem_cons_succ, List.getElem_cons_zero, Act.put, List.setIfInBounds_toArray, List.set_cons_succ, List.set_cons_zero])
  refine wpAnyH_take (i := 10) rfl (by kernel_rfl) (by kernel_rfl) (by kernel_rfl) (fun _ _ _ h => h) (yieldsIf_load_mid (by rfl) _ _ rfl _ _ rfl X _ (fun w hSw => by (try dsimp only at hSw); go_split_ands; assumption) Tryd.underlying35 rfl IX.out) (by assumption) ?_
  (try simp only [List.getElem_toArray, List.getElem_cons_succ, List.getElem_cons_zero, Act.put, List.setIfInBounds_toArray, List.set_cons_succ, List.set_cons_zero])
  refine wpAnyH_ready (rs := [5]) (by kernel_rfl) (by simp) ?_
  refine AllReadyH.cons rfl (fun K hK => ?_) AllReadyH.nil
  (try simp only [List.getElem_toArray, List.getElem_cons_succ, List.getElem_cons_zero])
  go_simp
  go_at_call 20; refine (CR5.out _ (by ((repeat (first | with_reducible assumption | with_reducible exact Below.refl _ _ | with_reducible apply below_al | with_reducible apply below_dr | with_reducible refine below_more ?_ (by assumption)))))).mono ?_; rintro e' y5 ⟨rfl, d5⟩
  (try (go_wp2_with fail))
  refine hK.out _ _ ?_ (fun hHeld => ?_)
  · exact K5.out _ (by ((repeat (first | with_reducible assumption | with_reducible exact Below.refl _ _ | with_reducible apply below_al | with_reducible apply below_dr | with_reducible refine below_more ?_ (by assumption)))))
  clear hK K
  (try simp only [Act.put, List.setIfInBounds_toArray, List.set_cons_succ, List.set_cons_zero])
  refine wpAnyH_ready (rs := [11]) (by kernel_rfl) (by simp) ?_
  refine AllReadyH.cons rfl (fun K hK => ?_) AllReadyH.nil
  (try simp only [List.getElem_toArray, List.getElem_cons_succ, List.getElem_cons_zero])
  go_simp
  go_at_call 13; refine (CC5.out _ (by ((repeat (first | with_reducible assumption | with_reducible exact Below.refl _ _ | with_reducible apply below_al | with_reducible apply below_dr | with_reducible refine below_more ?_ (by assumption)))))).mono ?_; rintro e' y11 ⟨rfl, d11⟩
  (try (go_wp2_with fail))
  refine hK.out _ _ ?_ (fun hHeld => ?_)
  · exact K5.out _ (by ((repeat (first | with_reducible assumption | with_reducible exact Below.refl _ _ | with_reducible apply below_al | with_reducible apply below_dr | with_reducible refine below_more ?_ (by assumption)))))
  clear hK K
  (try simp only [Act.put, List.setIfInBounds_toArray, List.set_cons_succ, List.set_cons_zero])
  refine wpAnyH_take (i := 12) (v := ?_) rfl (by kernel_rfl) (by kernel_rfl) (by kernel_rfl) (fun _ _ _ h => h) (Or.inl ⟨by rfl, ?_⟩) (by assumption) ?_
  rotate_left 1
  · intro w hSw; (try dsimp only at hSw); simp only [List.getElem_toArray, List.getElem_cons_succ, List.getElem_cons_zero]; go_simp; try (with_reducible rfl)
  (try simp only [List.getElem_toArray, List.getElem_cons_succ, List.getElem_cons_zero, Act.put, List.setIfInBounds_toArray, List.set_cons_succ, List.set_cons_zero])
  refine wpAnyH_take (i := 13) (v := ?_) rfl (by kernel_rfl) (by kernel_rfl) (by kernel_rfl) (fun _ _ _ h => h) (Or.inl ⟨by rfl, ?_⟩) (by assumption) ?_
  rotate_left 1
  · intro w hSw; (try dsimp only at hSw); simp only [List.getElem_toArray, List.getElem_cons_succ, List.getElem_cons_zero]; go_simp; try (with_reducible rfl)
  (try simp only [List.getElem_toArray, List.getElem_cons_succ, List.getElem_cons_zero, Act.put, List.setIfInBounds_toArray, List.set_cons_succ, List.set_cons_zero])
  refine wpAnyH_take (i := 14) (v := ?_) rfl (by kernel_rfl) (by kernel_rfl) (by kernel_rfl) (fun _ _ _ h => h) (Or.inl ⟨by rfl, ?_⟩) (by assumption) ?_
  rotate_left 1
  · intro w hSw; (try dsimp only at hSw); simp only [List.getElem_toArray, List.getElem_cons_succ, List.getElem_cons_zero]; go_simp; try (with_reducible rfl)
  (try simp only [List.getElem_toArray, List.getElem_cons_succ, List.getElem_cons_zero, Act.put, List.setIfInBounds_toArray, List.set_cons_succ, List.set_cons_zero])
  refine wpAnyH_ready (rs := [15]) (by kernel_rfl) (by simp) ?_
  refine AllReadyH.cons rfl (fun K hK => ?_) AllReadyH.nil
  (try simp only [List.getElem_toArray, List.getElem_cons_succ, List.getElem_cons_zero])
  go_simp
  go_at_call 8; refine (CA.out _ (below_more hB8 (by ((repeat (first | with_reducible assumption | with_reducible exact Below.refl _ _ | with_reducible apply below_al | with_reducible apply below_dr | with_reducible refine below_more ?_ (by assumption))))))).mono ?_; rintro e' y15 ⟨rfl, d15⟩
  (try (go_wp2_with fail))
  refine hK.out _ _ ?_ (fun hHeld => ?_)
  · exact K5.out _ (by ((repeat (first | with_reducible assumption | with_reducible exact Below.refl _ _ | with_reducible apply below_al | with_reducible apply below_dr | with_reducible refine below_more ?_ (by assumption)))))
  clear hK K
  (try simp only [Act.put, List.setIfInBounds_toArray, List.set_cons_succ, List.set_cons_zero])
  refine wpAnyH_take (i := 16) (v := ?_) rfl (by kernel_rfl) (by kernel_rfl) (by kernel_rfl) (fun _ _ _ h => h) (Or.inl ⟨by rfl, ?_⟩) (by assumption) ?_
  rotate_left 1
  · intro w hSw; (try dsimp only at hSw); simp only [List.getElem_toArray, List.getElem_cons_succ, List.getElem_cons_zero]; go_simp; try (with_reducible rfl)
  (try simp only [List.getElem_toArray, List.getElem_cons_succ, List.getElem_cons_zero, Act.put, List.setIfInBounds_toArray, List.set_cons_succ, List.set_cons_zero])
  refine wpAnyH_take (i := 17) (v := ?_) rfl (by kernel_rfl) (by kernel_rfl) (by kernel_rfl) (fun _ _ _ h => h) (Or.inl ⟨by rfl, ?_⟩) (by assumption) ?_
  rotate_left 1
  · intro w hSw; (try dsimp only at hSw); simp only [List.getElem_toArray, List.getElem_cons_succ, List.getElem_cons_zero]; go_simp; try (with_reducible rfl)
  (try simp only [List.getElem_toArray, List.getElem_cons_succ, List.getElem_cons_zero, Act.put, List.setIfInBounds_toArray, List.set_cons_succ, List.set_cons_zero])
  refine wpAnyH_done (by kernel_rfl) ?_ _
  go_wp2
  go_ret
  exact ⟨rfl, below_more hB8 (by ((repeat (first | with_reducible assumption | with_reducible exact Below.refl _ _ | with_reducible apply below_al | with_reducible apply below_dr | with_reducible refine below_more ?_ (by assumption)))))⟩


set_option maxRecDepth 100000 in
theorem lifted (os : Os) (started : os.Started) (H : Type) (enc : TypeId × Value → H) :
    ReturnsInHanded {} Tryd.checked os 7 .any (fun w args => (Rows.branchTwiceSpec.pre enc Tryd.prog Tryd.f7 [] false w args ∧ laidMetH Tryd.prog laidT w) ∧ sizedMet enc Tryd.prog Tryd.f7 (OpenSpec.ofChange Rows.branchTwiceSpec) false w args)
      (Rows.branchTwiceSpec.post enc Tryd.prog Tryd.f7 false true false false) := by
  refine returnsInHanded_of_change_and (C := Tryd.checked) (X := fun w _ => laidMetH Tryd.prog laidT w) (fun _ _ _ hh h => h.of_heap hh) own started (by kernel_rfl) Tryd.func7
    (ChangeSpec.witness_shaped (enc := enc) (C := Tryd.checked) (os := os) (X := fun w _ => laidMetH Tryd.prog laidT w) false (World.doorLaid Tryd.prog 400 os) #[.slice none 0 0] 8 rfl (World.shaped_of_RefB (by kernel_rfl) (by kernel_rfl)) (by kernel_rfl) (by kernel_rfl) (by kernel_rfl) (door_met os _)) ?_
  intro W base args ds gs before hval0 hW hcnd _ hL _
  have hval : ∀ (j : Nat) t v, Tryd.f7.params[j]? = some t → args[j]? = some v → Value.okWide Tryd.prog W .any base t v := hval0
  have hW' := hW
  obtain ⟨p, q, hA0, hV, rfl, hfz, hnd⟩ := hW
  have hA : DataW.TrodAll enc Tryd.prog W 0 (fun _ => true) true Tryd.f7.params.toList args.toList ds p := hA0
  rw [Tryd.params7] at hA hval
  obtain ⟨v0, vs0, d0, ds0, p0, q0, hargs, rfl, rfl, h0, r0⟩ := trodAll_cons hA
  obtain ⟨rfl, rfl, rfl⟩ := trodAll_nil r0
  obtain rfl : args = #[v0] := by cases args; simp_all
  obtain ⟨rfl, rfl⟩ := trodVars_none hV
  obtain ⟨a0, len0, cap0, rfl⟩ := okWide_slice Tryd.underlying22 (hval 0 22 v0 rfl rfl)
  have k0 := h0
  have lt0 : ∀ x ∈ p0, x.block < W.heap.size := by obtain ⟨m, hm⟩ := k0; exact DataW.trod_lt m _ _ _ hm
  obtain ⟨l0, w0⟩ := open_hashes h0
  clear hA0 hval0
  refine (walk a0 len0 cap0 l0 W (tab_of hL) w0).mono fun e W' ⟨he, bel⟩ => ?_
  subst he
  exact ⟨_, rfl, _, _, _, [], _, [], hW', trodAll_mk1 (shut_bool Tryd.underlying4 _), (trodAll_cons_mk (Below.trod laidOut (by kernel_rfl) (of_decide_eq_true (by kernel_rfl)) k0 bel lt0) trodAll_mk0), rfl, bel.frame _, fun h => by cases h⟩

set_option maxRecDepth 100000 in
theorem over : Rows.branchTwiceRow.holds Tryd.pinned (OpenSpec.ofChange Rows.branchTwiceSpec) :=
  OpenClaim.holds_of_wide 7 Tryd.f7 rfl rfl rfl rfl rfl rfl rfl ⟨rfl, rfl, rfl, rfl, rfl⟩ rfl rfl rfl rfl rfl (by kernel_rfl) Tryd.func7 (by kernel_rfl)
    (of_decide_eq_true (by kernel_rfl)) (by unfold Func.isWrapper; first | (rw [if_pos (by decide +kernel)]; kernel_rfl) | (rw [if_neg (by decide +kernel)]; exact ⟨rfl, rfl⟩))
    (fun os started H enc _ => lifted os started H enc)

set_option maxRecDepth 100000 in
theorem proved : Rows.BranchTwiceCardSaid :=
  Claim7.holds_tied_plain_at .later [] [.data, .data] true Rows.branchTwiceCard.stood.harness false
    over (fun _ h => by cases h) (by kernel_rfl) (fun _ h => by cases h) branchTwice_row_tie rfl ⟨rfl, rfl⟩ (by kernel_rfl) rfl
    (fun f fn hf hfn => by
      obtain rfl : f = 7 := Option.some.inj ((show Tryd.prog.funcNamed "masthead/mastheadlaw09.BranchTwice" = some 7 by kernel_rfl).symm.trans hf) |>.symm
      obtain rfl : fn = Tryd.f7 := (Option.some.inj (Tryd.func7.symm.trans hfn)).symm
      exact ⟨by kernel_rfl, fun j t ht => by
        rw [Tryd.params7] at ht
        have hm : t ∈ [22] := by simpa using Array.mem_of_getElem? ht
        have hall : ([22].all fun u => !Tryd.prog.wantsStandIn u) = true := by kernel_rfl
        exact (show Tryd.prog.wantsStandIn t = false by simpa using List.all_eq_true.1 hall t hm)⟩)
    (by kernel_rfl)
end Go.Proofs.YtnfcnjboeocnmaaDoor.branchTwice
