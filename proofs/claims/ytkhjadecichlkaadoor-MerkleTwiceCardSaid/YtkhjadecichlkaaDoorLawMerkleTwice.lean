/- Proved: for every list of an odd number of hashes, from 3 up to 19: with its last one once more it has the same root, and is doubled. The argument reads as it did. The condition is the card's own: sha2's two tables are as they are laid. -/
import Derived.Test.YtkhjadecichlkaaDoorRows
import Derived.Test.YtkhjadecichlkaaDoorMbf
import Derived.Test.YtkhjadecichlkaaDoorMay
import Derived.Test.YtkhjadecichlkaaDoorMbe
import Derived.Deep.RegionHeld3
import Derived.ProofKit
import Derived.OpenShut
import Derived.ShutString
import Derived.ChangeOld
import Derived.Test.YtkhjadecichlkaaDoorMac
import Derived.Test.YtkhjadecichlkaaDoorMal
import Derived.Test.YtkhjadecichlkaaDoorTie
import Derived.Test.YtkhjadecichlkaaDoorCards
import Derived.SevenTiedAt
namespace Go.Proofs.YtkhjadecichlkaaDoor.merkleTwice
open Go.ChangeShapes Go.WideShapes Go.ChangeAt Go.RowKit
open Go.ChangeMaps (open_string shut_string)
set_option linter.unusedVariables false
set_option linter.unusedSimpArgs false

set_option maxRecDepth 100000 in
theorem own : ownKnob Tryd.prog.godebug = none := by kernel_rfl
set_option maxRecDepth 100000 in
theorem laidOut : laidOutB Tryd.prog = true := by kernel_rfl

set_option maxRecDepth 100000 in
set_option maxHeartbeats 4000000 in
theorem walk (A : Option Addr) (n c : Nat) (l : List (List UInt8)) (w : World) (hT : Tab w) (w0 : RdH w A n l ∧ n ≤ c ∧ c ≤ maxLen) : Calls Tryd.prog 6 #[.slice A n c] w (Ret w (.bool true)) := by
  obtain ⟨hr, hnc, hcm⟩ := w0
  have CA : Hid (∀ W, Below w.heap.size w W → Calls Tryd.prog 9 #[] W (Ret W (.bool true))) := Lib.hid fun W h => awake8_calls W (hT.all h)
  by_cases h19 : 19 < n
  · have hd : (19 : Int) < (n : Int) := by omega
    clear hr hcm hnc
    go_enter Tryd.func6, Tryd.ntmps6
    go_wp2_with (go_at_call 9; refine (CA.out _ (Below.refl _ _)).mono ?_; rintro e' v9 ⟨rfl, d9⟩)
    go_ret
    exact ⟨rfl, d9⟩
  have hd : ¬ (19 : Int) < (n : Int) := by omega
  have k0 : IntKind.i64.wrap ((n % 2 : Nat) : Int) = ((n % 2 : Nat) : Int) := by rw [IntKind.wrap_i64]; omega
  by_cases hev : n % 2 = 0
  · have r1 : Int.tmod (n : Int) 2 = 0 := by rw [Int.tmod_eq_emod_of_nonneg (by omega)]; omega
    have r2 : (n : Int) % 2 = 0 := by omega
    have r3 : IntKind.i64.wrap 0 = 0 := by rw [IntKind.wrap_i64]; omega
    clear hr hcm hnc k0
    go_enter Tryd.func6, Tryd.ntmps6
    go_wp2_with (go_at_call 9; refine (CA.out _ (Below.refl _ _)).mono ?_; rintro e' v9 ⟨rfl, d9⟩)
    go_ret
    exact ⟨rfl, d9⟩
  have r1 : Int.tmod (n : Int) 2 = 1 := by rw [Int.tmod_eq_emod_of_nonneg (by omega)]; omega
  have r2 : (n : Int) % 2 = 1 := by omega
  have r3 : IntKind.i64.wrap 1 = 1 := by rw [IntKind.wrap_i64]; omega
  by_cases hn2 : n < 2
  · have hd2 : (n : Int) < 2 := by omega
    clear hr hcm hnc k0
    go_enter Tryd.func6, Tryd.ntmps6
    go_wp2_with (go_at_call 9; refine (CA.out _ (Below.refl _ _)).mono ?_; rintro e' v9 ⟨rfl, d9⟩)
    go_ret
    exact ⟨rfl, d9⟩
  have hd2 : ¬ (n : Int) < 2 := by omega
  have hln := hr.len
  obtain ⟨m1, hm1⟩ : ∃ m, m = n - 1 := ⟨_, rfl⟩
  obtain ⟨x, hx⟩ : ∃ x, x = hat l m1 := ⟨_, rfl⟩
  obtain ⟨X, hX⟩ : ∃ V, V = x.map B8 := ⟨_, rfl⟩
  obtain ⟨V, hV⟩ : ∃ V, V = (rootH l).map B8 := ⟨_, rfl⟩
  have x32 : x.length = 32 := by rw [hx]; exact hat_32 hr.all (by omega)
  have hx32 := Lib.hid x32
  have hXx := Lib.hid hX
  have IX : Hid ((Tryd.prog.info? 25).map (·.size) = some X.length) := Lib.hid (by rw [hX, List.length_map, x32]; kernel_rfl)
  have LX : Hid (X.length = 32) := Lib.hid (by rw [hX, List.length_map, x32])
  obtain ⟨b, off, rfl, hb, hga⟩ := hr.at_ (k := m1) (by omega)
  rw [← hx, ← hX] at hga
  have K0 : Hid (∀ W, Below w.heap.size w W → W.rangeAt b (off + m1 * 32) X) := Lib.hid fun W h => fun j v hv => (h.cell (p := ⟨b, off + m1 * 32 + j, none⟩) hb).trans (hga j v hv)
  have u3 : IntKind.i64.wrap ((n : Int) - 1) = (m1 : Int) := by rw [IntKind.wrap_i64]; omega
  have t3 : (m1 : Int) < (n : Int) := by omega
  have hl1 : l.length - 1 = m1 := by omega
  have rt : rootH (l ++ [x]) = rootH l := by have := root_twice l (by omega) (by omega); rw [hl1, ← hx] at this; exact this
  have dt : dbl (l ++ [x]) = true := by have := dbl_twice l (by omega) (by omega); rw [hl1, ← hx] at this; exact this
  have CR : Hid (∀ W A' c', RdH W A' (n + 1) (l ++ [x]) → n + 1 ≤ c' → c' ≤ maxLen → Below w.heap.size w W → Calls Tryd.prog 10 #[.slice A' (n + 1) c'] W (Ret W (.agg V.toArray))) := Lib.hid fun W A' c' h1 h2 h3 h4 => by
    have := groot_calls A' (n + 1) c' _ W h1 (hT.all h4) (by omega) h2 h3
    rw [rt] at this
    rw [hV]
    exact this
  have CD : Hid (∀ W A' c', RdH W A' (n + 1) (l ++ [x]) → n + 1 ≤ c' → c' ≤ maxLen → Below w.heap.size w W → Calls Tryd.prog 16 #[.slice A' (n + 1) c'] W (Ret W (.bool true))) := Lib.hid fun W A' c' h1 h2 h3 h4 => by
    have := gdoubled_calls A' (n + 1) c' _ W h1 (hT.all h4) (by omega) h2 h3
    rw [dt] at this
    exact this
  have C2 : Hid (∀ W, Below w.heap.size w W → Calls Tryd.prog 10 #[.slice (some ⟨b, off, none⟩) n c] W (Ret W (.agg V.toArray))) := Lib.hid fun W h => by rw [hV]; exact groot_calls _ n c l W (hr.below h) (hT.all h) (by omega) hnc hcm
  have qv : ∀ W, (Op.equalIn 10000 25 (.agg V.toArray) (.agg V.toArray)).run Tryd.prog W = .ok true W := fun W => by rw [hV]; exact eqG32 _ _ (rootH_len l hr.all) (rootH_len l hr.all) true (by simp) W
  have HR := Lib.hid hr
  clear hr hT hV hm1 hx hX x32 hga rt dt hl1 hcm hnc k0 hln
  go_enter Tryd.func6, Tryd.ntmps6
  go_wp2
  refine wp_region_held_drew (S := fun W => W.rangeAt b (off + m1 * 32) X) (by kernel_rfl) ?_ (fun hHeld => ?_)
  · exact K0.out _ (by first | assumption | exact (Below.refl _ _).drew)
  refine wpAnyH_take (i := 1) (v := ?_) rfl (by kernel_rfl) (by kernel_rfl) (by kernel_rfl) (fun _ _ _ h => h) (Or.inl ⟨by rfl, ?_⟩) (by assumption) ?_
  rotate_left 1
  · intro w hSw; (try dsimp only at hSw); simp only [List.getElem_toArray, List.getElem_cons_succ, List.getElem_cons_zero]; go_simp; try (with_reducible rfl)
  (try simp only [List.getElem_toArray, List.getElem_cons_succ, List.getElem_cons_zero, Act.put, List.setIfInBounds_toArray, List.set_cons_succ, List.set_cons_zero])
  refine wpAnyH_take (i := 3) (v := ?_) rfl (by kernel_rfl) (by kernel_rfl) (by kernel_rfl) (fun _ _ _ h => h) (Or.inl ⟨by rfl, ?_⟩) (by assumption) ?_
  rotate_left 1
  · intro w hSw; (try dsimp only at hSw); simp only [List.getElem_toArray, List.getElem_cons_succ, List.getElem_cons_zero]; go_simp; try (with_reducible rfl)
  (try simp only [List.getElem_toArray, List.getElem_cons_succ, List.getElem_cons_zero, Act.put, List.setIfInBounds_toArray, List.set_cons_succ, List.set_cons_zero])
  refine wpAnyH_take (i := 4) (v := ?_) rfl (by kernel_rfl) (by kernel_rfl) (by kernel_rfl) (fun _ _ _ h => h) (Or.inl ⟨by rfl, ?_⟩) (by assumption) ?_
  rotate_left 1
  · intro w hSw; (try dsimp only at hSw); simp only [List.getElem_toArray, List.getElem_cons_succ, List.getElem_cons_zero]; go_simp; try (with_reducible rfl)
  (try simp only [List.getElem_toArray, List.getElem_cons_succ, List.getElem_cons_zero, Act.put, List.setIfInBounds_toArray, List.set_cons_succ, List.set_cons_zero])
  refine wpAnyH_take (i := 5) (v := ?_) rfl (by kernel_rfl) (by kernel_rfl) (by kernel_rfl) (fun _ _ _ h => h) (Or.inl ⟨by rfl, ?_⟩) (by assumption) ?_
  rotate_left 1
  · intro w hSw; (try dsimp only at hSw); simp only [List.getElem_toArray, List.getElem_cons_succ, List.getElem_cons_zero]; go_simp; try (with_reducible rfl)
  (try simp only [List.getElem_toArray, List.getElem_cons_succ, List.getElem_cons_zero, Act.put, List.setIfInBounds_toArray, List.set_cons_succ, List.set_cons_zero])
  refine wpAnyH_take (i := 6) (v := ?_) rfl (by kernel_rfl) (by kernel_rfl) (by kernel_rfl) (fun _ _ _ h => h) (Or.inl ⟨by rfl, ?_⟩) (by assumption) ?_
  rotate_left 1
  · intro w hSw; (try dsimp only at hSw); simp only [List.getElem_toArray, List.getElem_cons_succ, List.getElem_cons_zero]; go_simp; try (with_reducible rfl)
  (try simp only [List.getElem_toArray, List.getElem_cons_succ, List.getElem_cons_zero, Act.put, List.setIfInBounds_toArray, List.set_cons_succ, List.set_cons_zero])
  refine wpAnyH_take (i := 7) (v := ?_) rfl (by kernel_rfl) (by kernel_rfl) (by kernel_rfl) (fun _ _ _ h => h) (Or.inl ⟨by rfl, ?_⟩) (by assumption) ?_
  rotate_left 1
  · intro w hSw; (try dsimp only at hSw); simp only [List.getElem_toArray, List.getElem_cons_succ, List.getElem_cons_zero]; go_simp; try (with_reducible rfl)
  (try simp only [List.getElem_toArray, List.getElem_cons_succ, List.getElem_cons_zero, Act.put, List.setIfInBounds_toArray, List.set_cons_succ, List.set_cons_zero])
  refine wpAnyH_take (i := 8) rfl (by kernel_rfl) (by kernel_rfl) (by kernel_rfl) (fun _ _ _ h => h) (yieldsIf_load_mid (by rfl) _ _ rfl _ _ rfl X _ (fun w hSw => by (try dsimp only at hSw); go_split_ands; assumption) Tryd.underlying25 rfl IX.out) (by assumption) ?_
  (try simp only [List.getElem_toArray, List.getElem_cons_succ, List.getElem_cons_zero, Act.put, List.setIfInBounds_toArray, List.set_cons_succ, List.set_cons_zero])
  refine wpAnyH_ready (rs := [0, 9]) (by kernel_rfl) (by simp) ?_
  refine AllReadyH.cons rfl (fun K hK => ?_) ?_
  · (try simp only [List.getElem_toArray, List.getElem_cons_succ, List.getElem_cons_zero])
    refine Eq.mpr (if_pos (by first | rfl | simp [Region.wanted, yielded, Act.put])) ?_
    refine wp_bs0 rfl w.heap.size w (by first | assumption | exact (Below.refl _ _).drew) (Nat.le_refl _) ?_
    intro g0 x0 ho0 hg0 hl0 hf0 hB0
    refine hK.out _ _ ?_ (fun hHeld => ?_)
    · exact K0.out _ (by first | assumption | exact (Below.refl _ _).drew)
    clear hK K
    (try simp only [Act.put, List.setIfInBounds_toArray, List.set_cons_succ, List.set_cons_zero])
    refine wpAnyH_ready (rs := [2, 9]) (by kernel_rfl) (by simp) ?_
    refine AllReadyH.cons rfl (fun K hK => ?_) ?_
    · (try simp only [List.getElem_toArray, List.getElem_cons_succ, List.getElem_cons_zero])
      refine Eq.mpr (if_pos (by first | rfl | simp [Region.wanted, yielded, Act.put])) ?_
      refine wp_appHs (.tmp 19) (.tmp 20) rfl w.heap.size w (by first | assumption | exact (Below.refl _ _).drew) (Nat.le_refl _) (some ⟨g0, 0, none⟩) 0 0 [] (by first | rfl | simp [Act.eval]) ho0 (some ⟨b, off, none⟩) n c l (by first | rfl | simp [Act.eval]) (HR.out.belowB rfl (by assumption)) (by omega) (by omega) ?_
      intro A2 c2 x2 ho2 hf2 hB2
      rw [Nat.zero_add, List.nil_append] at ho2
      rw [Nat.zero_add]
      refine hK.out _ _ ?_ (fun hHeld => ?_)
      · exact K0.out _ (by first | assumption | exact (Below.refl _ _).drew)
      clear hK K
      (try simp only [Act.put, List.setIfInBounds_toArray, List.set_cons_succ, List.set_cons_zero])
      refine wpAnyH_ready (rs := [9]) (by kernel_rfl) (by simp) ?_
      refine AllReadyH.cons rfl (fun K hK => ?_) AllReadyH.nil
      (try simp only [List.getElem_toArray, List.getElem_cons_succ, List.getElem_cons_zero])
      refine Eq.mpr (if_pos (by first | rfl | simp [Region.wanted, yielded, Act.put])) ?_
      refine wp_bs1 _ rfl X (by first | rfl | simp [Act.eval]) LX.out w.heap.size w (by first | assumption | exact (Below.refl _ _).drew) (Nat.le_refl _) ?_
      intro g9 x9 hb9 hg9 hl9 hf9 hB9
      have ho2 := ho2.frm hf9 (fun _ _ h => h)
      refine hK.out _ _ ?_ (fun hHeld => ?_)
      · exact K0.out _ (by first | assumption | exact (Below.refl _ _).drew)
      clear hK K
      (try simp only [Act.put, List.setIfInBounds_toArray, List.set_cons_succ, List.set_cons_zero])
      refine wpAnyH_ready (rs := [10]) (by kernel_rfl) (by simp) ?_
      refine AllReadyH.cons rfl (fun K hK => ?_) AllReadyH.nil
      (try simp only [List.getElem_toArray, List.getElem_cons_succ, List.getElem_cons_zero])
      refine Eq.mpr (if_pos (by first | rfl | simp [Region.wanted, yielded, Act.put])) ?_
      refine wp_appHs (.tmp 21) (.tmp 28) rfl w.heap.size w (by first | assumption | exact (Below.refl _ _).drew) (Nat.le_refl _) A2 n c2 l (by first | rfl | simp [Act.eval]) ho2 (some ⟨g9, 0, none⟩) 1 1 [x] (by first | rfl | simp [Act.eval]) (RdH.oneV hx32.out hXx.out hb9) (by omega) (by omega) ?_
      intro A3 c3 x3 ho3 hf3 hB3
      refine hK.out _ _ ?_ (fun hHeld => ?_)
      · exact K0.out _ (by first | assumption | exact (Below.refl _ _).drew)
      clear hK K
      (try simp only [Act.put, List.setIfInBounds_toArray, List.set_cons_succ, List.set_cons_zero])
      refine wpAnyH_take (i := 11) (v := ?_) rfl (by kernel_rfl) (by kernel_rfl) (by kernel_rfl) (fun _ _ _ h => h) (Or.inl ⟨by rfl, ?_⟩) (by assumption) ?_
      rotate_left 1
      · intro w hSw; (try dsimp only at hSw); simp only [List.getElem_toArray, List.getElem_cons_succ, List.getElem_cons_zero]; go_simp; try (with_reducible rfl)
      (try simp only [List.getElem_toArray, List.getElem_cons_succ, List.getElem_cons_zero, Act.put, List.setIfInBounds_toArray, List.set_cons_succ, List.set_cons_zero])
      refine wpAnyH_done (by kernel_rfl) ?_ _
      have C1 := Lib.hid (CR.out x3 A3 c3 ho3.rd ho3.cap.1 ho3.cap.2 hB3)
      have C3 := Lib.hid (CD.out x3 A3 c3 ho3.rd ho3.cap.1 ho3.cap.2 hB3)
      go_wp2_with (first
        | (go_at_call 10; first | ((with_reducible refine C1.out.mono ?_); rintro e' y1 ⟨rfl, f1⟩; have C3b := Lib.hid (CD.out y1 A3 c3 (ho3.rd.below f1) ho3.cap.1 ho3.cap.2 (below_more hB3 f1))) | ((with_reducible refine (C2.out _ (below_more hB3 f1)).mono ?_); rintro e' y2 ⟨rfl, f2⟩))
        | (go_at_call 16; refine (CD.out _ A3 c3 ((ho3.rd.below f1).below f2) ho3.cap.1 ho3.cap.2 (below_more (below_more hB3 f1) f2)).mono ?_; rintro e' y3 ⟨rfl, f3⟩; have KA := below_more (below_more (below_more hB3 f1) f2) f3)
        | (go_at_call 9; refine (CA.out _ KA).mono ?_; rintro e' v9 ⟨rfl, d9⟩))
      go_ret
      exact ⟨rfl, below_more KA d9⟩
    refine AllReadyH.cons rfl (fun K hK => ?_) AllReadyH.nil
    (try simp only [List.getElem_toArray, List.getElem_cons_succ, List.getElem_cons_zero])
    refine Eq.mpr (if_pos (by first | rfl | simp [Region.wanted, yielded, Act.put])) ?_
    refine wp_bs1 _ rfl X (by first | rfl | simp [Act.eval]) LX.out w.heap.size w (by first | assumption | exact (Below.refl _ _).drew) (Nat.le_refl _) ?_
    intro g9 x9 hb9 hg9 hl9 hf9 hB9
    have ho0 := ho0.frm hf9 (fun _ _ h => h)
    refine hK.out _ _ ?_ (fun hHeld => ?_)
    · exact K0.out _ (by first | assumption | exact (Below.refl _ _).drew)
    clear hK K
    (try simp only [Act.put, List.setIfInBounds_toArray, List.set_cons_succ, List.set_cons_zero])
    refine wpAnyH_ready (rs := [2]) (by kernel_rfl) (by simp) ?_
    refine AllReadyH.cons rfl (fun K hK => ?_) AllReadyH.nil
    (try simp only [List.getElem_toArray, List.getElem_cons_succ, List.getElem_cons_zero])
    refine Eq.mpr (if_pos (by first | rfl | simp [Region.wanted, yielded, Act.put])) ?_
    refine wp_appHs (.tmp 19) (.tmp 20) rfl w.heap.size w (by first | assumption | exact (Below.refl _ _).drew) (Nat.le_refl _) (some ⟨g0, 0, none⟩) 0 0 [] (by first | rfl | simp [Act.eval]) ho0 (some ⟨b, off, none⟩) n c l (by first | rfl | simp [Act.eval]) (HR.out.belowB rfl (by assumption)) (by omega) (by omega) ?_
    intro A2 c2 x2 ho2 hf2 hB2
    rw [Nat.zero_add, List.nil_append] at ho2
    rw [Nat.zero_add]
    have hb9 := hf2.blk hb9 (by simp [blkOf]; omega)
    refine hK.out _ _ ?_ (fun hHeld => ?_)
    · exact K0.out _ (by first | assumption | exact (Below.refl _ _).drew)
    clear hK K
    (try simp only [Act.put, List.setIfInBounds_toArray, List.set_cons_succ, List.set_cons_zero])
    refine wpAnyH_ready (rs := [10]) (by kernel_rfl) (by simp) ?_
    refine AllReadyH.cons rfl (fun K hK => ?_) AllReadyH.nil
    (try simp only [List.getElem_toArray, List.getElem_cons_succ, List.getElem_cons_zero])
    refine Eq.mpr (if_pos (by first | rfl | simp [Region.wanted, yielded, Act.put])) ?_
    refine wp_appHs (.tmp 21) (.tmp 28) rfl w.heap.size w (by first | assumption | exact (Below.refl _ _).drew) (Nat.le_refl _) A2 n c2 l (by first | rfl | simp [Act.eval]) ho2 (some ⟨g9, 0, none⟩) 1 1 [x] (by first | rfl | simp [Act.eval]) (RdH.oneV hx32.out hXx.out hb9) (by omega) (by omega) ?_
    intro A3 c3 x3 ho3 hf3 hB3
    refine hK.out _ _ ?_ (fun hHeld => ?_)
    · exact K0.out _ (by first | assumption | exact (Below.refl _ _).drew)
    clear hK K
    (try simp only [Act.put, List.setIfInBounds_toArray, List.set_cons_succ, List.set_cons_zero])
    refine wpAnyH_take (i := 11) (v := ?_) rfl (by kernel_rfl) (by kernel_rfl) (by kernel_rfl) (fun _ _ _ h => h) (Or.inl ⟨by rfl, ?_⟩) (by assumption) ?_
    rotate_left 1
    · intro w hSw; (try dsimp only at hSw); simp only [List.getElem_toArray, List.getElem_cons_succ, List.getElem_cons_zero]; go_simp; try (with_reducible rfl)
    (try simp only [List.getElem_toArray, List.getElem_cons_succ, List.getElem_cons_zero, Act.put, List.setIfInBounds_toArray, List.set_cons_succ, List.set_cons_zero])
    refine wpAnyH_done (by kernel_rfl) ?_ _
    have C1 := Lib.hid (CR.out x3 A3 c3 ho3.rd ho3.cap.1 ho3.cap.2 hB3)
    have C3 := Lib.hid (CD.out x3 A3 c3 ho3.rd ho3.cap.1 ho3.cap.2 hB3)
    go_wp2_with (first
      | (go_at_call 10; first | ((with_reducible refine C1.out.mono ?_); rintro e' y1 ⟨rfl, f1⟩; have C3b := Lib.hid (CD.out y1 A3 c3 (ho3.rd.below f1) ho3.cap.1 ho3.cap.2 (below_more hB3 f1))) | ((with_reducible refine (C2.out _ (below_more hB3 f1)).mono ?_); rintro e' y2 ⟨rfl, f2⟩))
      | (go_at_call 16; refine (CD.out _ A3 c3 ((ho3.rd.below f1).below f2) ho3.cap.1 ho3.cap.2 (below_more (below_more hB3 f1) f2)).mono ?_; rintro e' y3 ⟨rfl, f3⟩; have KA := below_more (below_more (below_more hB3 f1) f2) f3)
      | (go_at_call 9; refine (CA.out _ KA).mono ?_; rintro e' v9 ⟨rfl, d9⟩))
    go_ret
    exact ⟨rfl, below_more KA d9⟩
  refine AllReadyH.cons rfl (fun K hK => ?_) AllReadyH.nil
  (try simp only [List.getElem_toArray, List.getElem_cons_succ, List.getElem_cons_zero])
  refine Eq.mpr (if_pos (by first | rfl | simp [Region.wanted, yielded, Act.put])) ?_
  refine wp_bs1 _ rfl X (by first | rfl | simp [Act.eval]) LX.out w.heap.size w (by first | assumption | exact (Below.refl _ _).drew) (Nat.le_refl _) ?_
  intro g9 x9 hb9 hg9 hl9 hf9 hB9
  refine hK.out _ _ ?_ (fun hHeld => ?_)
  · exact K0.out _ (by first | assumption | exact (Below.refl _ _).drew)
  clear hK K
  (try simp only [Act.put, List.setIfInBounds_toArray, List.set_cons_succ, List.set_cons_zero])
  refine wpAnyH_ready (rs := [0]) (by kernel_rfl) (by simp) ?_
  refine AllReadyH.cons rfl (fun K hK => ?_) AllReadyH.nil
  (try simp only [List.getElem_toArray, List.getElem_cons_succ, List.getElem_cons_zero])
  refine Eq.mpr (if_pos (by first | rfl | simp [Region.wanted, yielded, Act.put])) ?_
  refine wp_bs0 rfl w.heap.size w (by first | assumption | exact (Below.refl _ _).drew) (Nat.le_refl _) ?_
  intro g0 x0 ho0 hg0 hl0 hf0 hB0
  have hb9 := hf0.blk hb9 (fun h => h)
  refine hK.out _ _ ?_ (fun hHeld => ?_)
  · exact K0.out _ (by first | assumption | exact (Below.refl _ _).drew)
  clear hK K
  (try simp only [Act.put, List.setIfInBounds_toArray, List.set_cons_succ, List.set_cons_zero])
  refine wpAnyH_ready (rs := [2]) (by kernel_rfl) (by simp) ?_
  refine AllReadyH.cons rfl (fun K hK => ?_) AllReadyH.nil
  (try simp only [List.getElem_toArray, List.getElem_cons_succ, List.getElem_cons_zero])
  refine Eq.mpr (if_pos (by first | rfl | simp [Region.wanted, yielded, Act.put])) ?_
  refine wp_appHs (.tmp 19) (.tmp 20) rfl w.heap.size w (by first | assumption | exact (Below.refl _ _).drew) (Nat.le_refl _) (some ⟨g0, 0, none⟩) 0 0 [] (by first | rfl | simp [Act.eval]) ho0 (some ⟨b, off, none⟩) n c l (by first | rfl | simp [Act.eval]) (HR.out.belowB rfl (by assumption)) (by omega) (by omega) ?_
  intro A2 c2 x2 ho2 hf2 hB2
  rw [Nat.zero_add, List.nil_append] at ho2
  rw [Nat.zero_add]
  have hb9 := hf2.blk hb9 (by simp [blkOf]; omega)
  refine hK.out _ _ ?_ (fun hHeld => ?_)
  · exact K0.out _ (by first | assumption | exact (Below.refl _ _).drew)
  clear hK K
  (try simp only [Act.put, List.setIfInBounds_toArray, List.set_cons_succ, List.set_cons_zero])
  refine wpAnyH_ready (rs := [10]) (by kernel_rfl) (by simp) ?_
  refine AllReadyH.cons rfl (fun K hK => ?_) AllReadyH.nil
  (try simp only [List.getElem_toArray, List.getElem_cons_succ, List.getElem_cons_zero])
  refine Eq.mpr (if_pos (by first | rfl | simp [Region.wanted, yielded, Act.put])) ?_
  refine wp_appHs (.tmp 21) (.tmp 28) rfl w.heap.size w (by first | assumption | exact (Below.refl _ _).drew) (Nat.le_refl _) A2 n c2 l (by first | rfl | simp [Act.eval]) ho2 (some ⟨g9, 0, none⟩) 1 1 [x] (by first | rfl | simp [Act.eval]) (RdH.oneV hx32.out hXx.out hb9) (by omega) (by omega) ?_
  intro A3 c3 x3 ho3 hf3 hB3
  refine hK.out _ _ ?_ (fun hHeld => ?_)
  · exact K0.out _ (by first | assumption | exact (Below.refl _ _).drew)
  clear hK K
  (try simp only [Act.put, List.setIfInBounds_toArray, List.set_cons_succ, List.set_cons_zero])
  refine wpAnyH_take (i := 11) (v := ?_) rfl (by kernel_rfl) (by kernel_rfl) (by kernel_rfl) (fun _ _ _ h => h) (Or.inl ⟨by rfl, ?_⟩) (by assumption) ?_
  rotate_left 1
  · intro w hSw; (try dsimp only at hSw); simp only [List.getElem_toArray, List.getElem_cons_succ, List.getElem_cons_zero]; go_simp; try (with_reducible rfl)
  (try simp only [List.getElem_toArray, List.getElem_cons_succ, List.getElem_cons_zero, Act.put, List.setIfInBounds_toArray, List.set_cons_succ, List.set_cons_zero])
  refine wpAnyH_done (by kernel_rfl) ?_ _
  have C1 := Lib.hid (CR.out x3 A3 c3 ho3.rd ho3.cap.1 ho3.cap.2 hB3)
  have C3 := Lib.hid (CD.out x3 A3 c3 ho3.rd ho3.cap.1 ho3.cap.2 hB3)
  go_wp2_with (first
    | (go_at_call 10; first | ((with_reducible refine C1.out.mono ?_); rintro e' y1 ⟨rfl, f1⟩; have C3b := Lib.hid (CD.out y1 A3 c3 (ho3.rd.below f1) ho3.cap.1 ho3.cap.2 (below_more hB3 f1))) | ((with_reducible refine (C2.out _ (below_more hB3 f1)).mono ?_); rintro e' y2 ⟨rfl, f2⟩))
    | (go_at_call 16; refine (CD.out _ A3 c3 ((ho3.rd.below f1).below f2) ho3.cap.1 ho3.cap.2 (below_more (below_more hB3 f1) f2)).mono ?_; rintro e' y3 ⟨rfl, f3⟩; have KA := below_more (below_more (below_more hB3 f1) f2) f3)
    | (go_at_call 9; refine (CA.out _ KA).mono ?_; rintro e' v9 ⟨rfl, d9⟩))
  go_ret
  exact ⟨rfl, below_more KA d9⟩

set_option maxRecDepth 100000 in
theorem lifted (os : Os) (started : os.Started) (H : Type) (enc : TypeId × Value → H) :
    ReturnsInHanded {} Tryd.checked os 6 .any (fun w args => (Rows.merkleTwiceSpec.pre enc Tryd.prog Tryd.f6 [] false w args ∧ laidMetH Tryd.prog laidT w) ∧ sizedMet enc Tryd.prog Tryd.f6 (OpenSpec.ofChange Rows.merkleTwiceSpec) false w args)
      (Rows.merkleTwiceSpec.post enc Tryd.prog Tryd.f6 false true false false) := by
  refine returnsInHanded_of_change_and (C := Tryd.checked) (X := fun w _ => laidMetH Tryd.prog laidT w) (fun _ _ _ hh h => h.of_heap hh) own started (by kernel_rfl) Tryd.func6
    (ChangeSpec.witness_shaped (enc := enc) (C := Tryd.checked) (os := os) (X := fun w _ => laidMetH Tryd.prog laidT w) false (World.doorLaid Tryd.prog 400 os) #[.slice none 0 0] 8 rfl (World.shaped_of_RefB (by kernel_rfl) (by kernel_rfl)) (by kernel_rfl) (by kernel_rfl) (by kernel_rfl) (door_met os _)) ?_
  intro W base args ds gs before hval0 hW hcnd _ hL _
  have hval : ∀ (j : Nat) t v, Tryd.f6.params[j]? = some t → args[j]? = some v → Value.okWide Tryd.prog W .any base t v := hval0
  have hW' := hW
  obtain ⟨p, q, hA0, hV, rfl, hfz, hnd⟩ := hW
  have hA : DataW.TrodAll enc Tryd.prog W 0 (fun _ => true) true Tryd.f6.params.toList args.toList ds p := hA0
  rw [Tryd.params6] at hA hval
  obtain ⟨v0, vs0, d0, ds0, p0, q0, hargs, rfl, rfl, h0, r0⟩ := trodAll_cons hA
  obtain ⟨rfl, rfl, rfl⟩ := trodAll_nil r0
  obtain rfl : args = #[v0] := by cases args; simp_all
  obtain ⟨rfl, rfl⟩ := trodVars_none hV
  obtain ⟨a0, len0, cap0, rfl⟩ := okWide_slice Tryd.underlying22 (hval 0 22 v0 rfl rfl)
  have k0 := h0
  have lt0 : ∀ x ∈ p0, x.block < W.heap.size := by obtain ⟨m, hm⟩ := k0; exact DataW.trod_lt m _ _ _ hm
  obtain ⟨l0, w0⟩ := open_hashes h0
  clear hA0 hval0
  refine (walk a0 len0 cap0 l0 W (tab_of hL) w0).mono fun e W' ⟨he, bel⟩ => ?_
  subst he
  exact ⟨_, rfl, _, _, _, [], _, [], hW', trodAll_mk1 (shut_bool Tryd.underlying4 _), (trodAll_cons_mk (Below.trod laidOut (by kernel_rfl) (of_decide_eq_true (by kernel_rfl)) k0 bel lt0) trodAll_mk0), rfl, bel.frame _, fun h => by cases h⟩

set_option maxRecDepth 100000 in
theorem over : Rows.merkleTwiceRow.holds Tryd.pinned (OpenSpec.ofChange Rows.merkleTwiceSpec) :=
  OpenClaim.holds_of_wide 6 Tryd.f6 rfl rfl rfl rfl rfl rfl rfl ⟨rfl, rfl, rfl, rfl, rfl⟩ rfl rfl rfl rfl rfl (by kernel_rfl) Tryd.func6 (by kernel_rfl)
    (of_decide_eq_true (by kernel_rfl)) (by unfold Func.isWrapper; first | (rw [if_pos (by decide +kernel)]; kernel_rfl) | (rw [if_neg (by decide +kernel)]; exact ⟨rfl, rfl⟩))
    (fun os started H enc _ => lifted os started H enc)

set_option maxRecDepth 100000 in
theorem proved : Rows.MerkleTwiceCardSaid :=
  Claim7.holds_tied_plain_at .later [] [.data, .data] true Rows.merkleTwiceCard.stood.harness false
    over (fun _ h => by cases h) (by kernel_rfl) (fun _ h => by cases h) merkleTwice_row_tie rfl ⟨rfl, rfl⟩ (by kernel_rfl) rfl
    (fun f fn hf hfn => by
      obtain rfl : f = 6 := Option.some.inj ((show Tryd.prog.funcNamed "masthead/mastheadlaw08.MerkleTwice" = some 6 by kernel_rfl).symm.trans hf) |>.symm
      obtain rfl : fn = Tryd.f6 := (Option.some.inj (Tryd.func6.symm.trans hfn)).symm
      exact ⟨by kernel_rfl, fun j t ht => by
        rw [Tryd.params6] at ht
        have hm : t ∈ [22] := by simpa using Array.mem_of_getElem? ht
        have hall : ([22].all fun u => !Tryd.prog.wantsStandIn u) = true := by kernel_rfl
        exact (show Tryd.prog.wantsStandIn t = false by simpa using List.all_eq_true.1 hall t hm)⟩)
    (by kernel_rfl)
end Go.Proofs.YtkhjadecichlkaaDoor.merkleTwice
