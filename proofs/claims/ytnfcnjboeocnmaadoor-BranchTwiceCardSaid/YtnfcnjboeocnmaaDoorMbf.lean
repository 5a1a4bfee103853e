/- Merged texts: BrnA. -/
import Derived.Test.YtnfcnjboeocnmaaDoorMbe
import Derived.Test.YtnfcnjboeocnmaaDoorMav
import Derived.Deep.RegionHeld3
/- The contracts of the document's own Depth and Wide of layer 8, up to 65536, and of Right of layer 9. -/
namespace Go.Proofs.YtnfcnjboeocnmaaDoor
open Go.RowKit
set_option linter.unusedVariables false
set_option linter.unusedSimpArgs false

set_option maxRecDepth 100000 in
set_option maxHeartbeats 4000000 in
theorem ddepth16_calls (n : Nat) (hn : n ≤ 65536) (w : World) : Calls Tryd.prog 24 #[.int .i64 (n : Int)] w (Ret w (.int .i64 (depth n : Int))) := by
  go_enter Tryd.func24, Tryd.ntmps24
  go_wp2
  go_loopw [3, 4] (fun d k wr => ∃ t : Nat, d = .int .i64 (t : Int) ∧ k = .int .i64 ((2 ^ t : Nat) : Int) ∧ t ≤ 16 ∧ (t = 0 ∨ 2 ^ (t - 1) < n) ∧ Below w.heap.size w wr) (fun d _ _ => 17 - (intOf d).toNat)
  case atStart => exact ⟨0, by first | rfl | go_num, by first | rfl | go_num, by omega, .inl rfl, Below.refl _ w⟩
  case round =>
    obtain ⟨t, rfl, rfl, ht16, hlow, hbel⟩ := hrel
    obtain ⟨p, hp⟩ : ∃ p, p = 2 ^ t := ⟨_, rfl⟩
    rw [← hp]
    have hp64 : p ≤ 65536 := by rw [hp]; have := Nat.pow_le_pow_right (n := 2) (by omega) ht16; omega
    by_cases hlt : p < n
    · have hlt' : (p : Int) < (n : Int) := by omega
      have ht5 : t < 16 := by
        rcases Nat.lt_or_ge t 16 with h | h
        · exact h
        · have : t = 16 := by omega
          rw [this] at hp
          omega
      have HP := Lib.hid (And.intro hp hlow)
      clear hp hlow
      go_wp2
      go_roundw
      case rel =>
        refine ⟨t + 1, by go_num, ?_, by omega, .inr (by rw [Nat.add_sub_cancel, ← HP.out.1]; exact hlt), hbel⟩
        rw [Nat.pow_succ, ← HP.out.1]
        first | rfl | go_num
      case measure => simp [intOf]; omega
    · have hlt' : ¬ (p : Int) < (n : Int) := by omega
      have hd : depth n = t := depth_is n t (by rw [← hp]; omega) hlow
      have HD := Lib.hid hd
      clear hlow hd hp
      go_wp2
      go_ret
      exact ⟨by rw [HD.out]; rfl, hbel⟩
set_option maxRecDepth 100000 in
set_option maxHeartbeats 4000000 in
theorem dwide16_calls (n k : Nat) (hn : n ≤ 65536) (hk : k ≤ 1000) (w : World) : Calls Tryd.prog 25 #[.int .i64 (n : Int), .int .i64 (k : Int)] w (Ret w (.int .i64 (wide n k : Int))) := by
  go_enter Tryd.func25, Tryd.ntmps25
  go_wp2
  go_loopw [0, 5] (fun x i wr => ∃ t : Nat, x = .int .i64 ((wide n t : Nat) : Int) ∧ i = .int .i64 (t : Int) ∧ t ≤ k ∧ wide n t ≤ 65536 ∧ Below w.heap.size w wr) (fun _ i _ => k - (intOf i).toNat)
  case atStart => exact ⟨0, by first | rfl | go_num, by first | rfl | go_num, by omega, hn, Below.refl _ w⟩
  case round =>
    obtain ⟨t, rfl, rfl, htk, hx1000, hbel⟩ := hrel
    by_cases hlt : t < k
    · have hlt' : (t : Int) < (k : Int) := by omega
      obtain ⟨x, hx⟩ : ∃ x, x = wide n t := ⟨_, rfl⟩
      have hx1 : wide n (t + 1) = (x + 1) / 2 := by rw [wide, ← hx]
      obtain ⟨y, hy⟩ : ∃ y, y = (x + 1) / 2 := ⟨_, rfl⟩
      rw [← hx] at hx1000 ⊢
      have q1 : Int.tdiv ((x : Int) + 1) 2 = (y : Int) := by rw [Int.tdiv_eq_ediv_of_nonneg (by omega)]; omega
      have q2 : ((x : Int) + 1) / 2 = (y : Int) := by omega
      have q0 : IntKind.i64.wrap ((x : Int) + 1) = (x : Int) + 1 := by rw [IntKind.wrap_i64]; omega
      have q3 : IntKind.i64.wrap (y : Int) = (y : Int) := by rw [IntKind.wrap_i64]; omega
      have HX := Lib.hid (hx1.trans hy.symm)
      have hy1 : y ≤ 65536 := by omega
      clear hx hx1 hy
      go_wp2
      go_roundw
      case rel => exact ⟨t + 1, by rw [HX.out], by go_num, by omega, by rw [HX.out]; exact hy1, hbel⟩
      case measure => simp [intOf]; omega
    · have e : t = k := by omega
      subst e
      have hlt' : ¬ (t : Int) < (t : Int) := by omega
      go_wp2
      go_ret
      exact ⟨rfl, hbel⟩
set_option maxRecDepth 100000 in
set_option maxHeartbeats 4000000 in
theorem dright_a (c i : Int) (A : Option Addr) (m cap : Nat) (w : World) (h1 : c < 1) : Calls Tryd.prog 19 #[.agg #[.int .i64 c, .int .i64 i, .slice A m cap]] w (Ret w (.int .i64 5)) := by
  go_enter Tryd.func19, Tryd.ntmps19
  go_wp2
  go_ret
  exact ⟨rfl, below_al (Below.refl _ _) _⟩
set_option maxRecDepth 100000 in
set_option maxHeartbeats 4000000 in
theorem dright_b (c i : Int) (A : Option Addr) (m cap : Nat) (w : World) (h1 : ¬ c < 1) (h2 : (65536 : Int) < c) : Calls Tryd.prog 19 #[.agg #[.int .i64 c, .int .i64 i, .slice A m cap]] w (Ret w (.int .i64 5)) := by
  go_enter Tryd.func19, Tryd.ntmps19
  go_wp2
  go_ret
  exact ⟨rfl, below_al (Below.refl _ _) _⟩
set_option maxRecDepth 100000 in
set_option maxHeartbeats 4000000 in
theorem dright_c (c i : Int) (A : Option Addr) (m cap : Nat) (w : World) (h1 : ¬ c < 1) (h2 : ¬ (65536 : Int) < c) (h3 : i < 0) : Calls Tryd.prog 19 #[.agg #[.int .i64 c, .int .i64 i, .slice A m cap]] w (Ret w (.int .i64 5)) := by
  go_enter Tryd.func19, Tryd.ntmps19
  go_wp2
  go_ret
  exact ⟨rfl, below_al (Below.refl _ _) _⟩
set_option maxRecDepth 100000 in
set_option maxHeartbeats 4000000 in
theorem dright_d (c i : Int) (A : Option Addr) (m cap : Nat) (w : World) (h1 : ¬ c < 1) (h2 : ¬ (65536 : Int) < c) (h3 : ¬ i < 0) (h4 : c ≤ i) : Calls Tryd.prog 19 #[.agg #[.int .i64 c, .int .i64 i, .slice A m cap]] w (Ret w (.int .i64 5)) := by
  go_enter Tryd.func19, Tryd.ntmps19
  go_wp2
  go_ret
  exact ⟨rfl, below_al (Below.refl _ _) _⟩
set_option maxRecDepth 100000 in
set_option maxHeartbeats 4000000 in
theorem dright_e (n : Nat) (i : Int) (A : Option Addr) (m cap : Nat) (w : World) (h1 : ¬ (n : Int) < 1) (h2 : ¬ (65536 : Int) < (n : Int)) (h3 : ¬ i < 0) (h4 : ¬ (n : Int) ≤ i) : Calls Tryd.prog 19 #[.agg #[.int .i64 (n : Int), .int .i64 i, .slice A m cap]] w (Ret w (.int .i64 ((if m ≠ depth n then 3 else 0 : Nat) : Int))) := by
  obtain ⟨D, hD⟩ : ∃ D, D = depth n := ⟨_, rfl⟩
  have CD : Hid (∀ W, Calls Tryd.prog 24 #[.int .i64 (n : Int)] W (Ret W (.int .i64 (D : Int)))) := Lib.hid fun W => by rw [hD]; exact ddepth16_calls n (by omega) W
  rw [← hD]
  clear hD
  have hbk : Blk (w.alloc (.cells #[.int .i64 (n : Int), .int .i64 i, .slice A m cap] 31)) w.heap.size [.int .i64 (n : Int), .int .i64 i, .slice A m cap] 31 := Blk.new w _ _
  have hb0 : Below w.heap.size w (w.alloc (.cells #[.int .i64 (n : Int), .int .i64 i, .slice A m cap] 31)) := below_al (Below.refl _ _) _
  go_enter Tryd.func19, Tryd.ntmps19
  go_upto_region 3 with fail
  obtain ⟨w0, hw0⟩ : ∃ x, x = w.alloc (.cells #[.int .i64 (n : Int), .int .i64 i, .slice A m cap] 31) := ⟨_, rfl⟩
  rw [← hw0] at hbk hb0 ⊢
  clear hw0
  have K0 : Hid (∀ W, Below w0.heap.size w0 W → W.cell? ⟨w.heap.size, 2, none⟩ = some (.slice A m cap) ∧ W.cell? ⟨w.heap.size, 0, none⟩ = some (.int .i64 (n : Int))) := Lib.hid fun W h => ⟨(hbk.up h).cell 2, (hbk.up h).cell 0⟩
  by_cases hm : m = D
  · have hm' : (m : Int) = (D : Int) := by omega
    rw [if_neg (by omega)]
    refine wp_region_held_drew (S := fun W => W.cell? ⟨w.heap.size, 2, none⟩ = some (.slice A m cap) ∧ W.cell? ⟨w.heap.size, 0, none⟩ = some (.int .i64 (n : Int))) (by kernel_rfl) ?_ (fun hHeld => ?_)
    · exact K0.out _ (by ((repeat (first | with_reducible assumption | with_reducible exact Below.refl _ _ | with_reducible apply below_al | with_reducible apply below_dr | with_reducible refine below_more ?_ (by assumption)))))
    refine wpAnyH_take (i := 0) (v := ?_) rfl (by kernel_rfl) (by kernel_rfl) (by kernel_rfl) (fun _ _ _ h => h) (Or.inl ⟨by rfl, ?_⟩) (by assumption) ?_
    rotate_left 1
    · intro w hSw; (try dsimp only at hSw); simp only [List.getElem_toArray, List.getElem_cons_succ, List.getElem_cons_zero]; go_simp; try (with_reducible rfl)
    (try simp only [List.getElem_toArray, List.getElem_cons_succ, List.getElem_cons_zero, Act.put, List.setIfInBounds_toArray, List.set_cons_succ, List.set_cons_zero])
    refine wpAnyH_take (i := 1) (v := ?_) rfl (by kernel_rfl) (by kernel_rfl) (by kernel_rfl) (fun _ _ _ h => h) (Or.inl ⟨by rfl, ?_⟩) (by assumption) ?_
    rotate_left 1
    · intro w hSw; (try dsimp only at hSw); simp only [List.getElem_toArray, List.getElem_cons_succ, List.getElem_cons_zero]; go_simp; try (with_reducible rfl)
    (try simp only [List.getElem_toArray, List.getElem_cons_succ, List.getElem_cons_zero, Act.put, List.setIfInBounds_toArray, List.set_cons_succ, List.set_cons_zero])
    refine wpAnyH_take (i := 2) (v := ?_) rfl (by kernel_rfl) (by kernel_rfl) (by kernel_rfl) (fun _ _ _ h => h) (Or.inl ⟨by rfl, ?_⟩) (by assumption) ?_
    rotate_left 1
    · intro w hSw; (try dsimp only at hSw); simp only [List.getElem_toArray, List.getElem_cons_succ, List.getElem_cons_zero]; go_simp; try (with_reducible rfl)
    (try simp only [List.getElem_toArray, List.getElem_cons_succ, List.getElem_cons_zero, Act.put, List.setIfInBounds_toArray, List.set_cons_succ, List.set_cons_zero])
    refine wpAnyH_take (i := 3) (v := ?_) rfl (by kernel_rfl) (by kernel_rfl) (by kernel_rfl) (fun _ _ _ h => h) (Or.inl ⟨by rfl, ?_⟩) (by assumption) ?_
    rotate_left 1
    · intro w hSw; (try dsimp only at hSw); simp only [List.getElem_toArray, List.getElem_cons_succ, List.getElem_cons_zero]; go_simp; try (with_reducible rfl)
    (try simp only [List.getElem_toArray, List.getElem_cons_succ, List.getElem_cons_zero, Act.put, List.setIfInBounds_toArray, List.set_cons_succ, List.set_cons_zero])
    refine wpAnyH_take (i := 4) (v := ?_) rfl (by kernel_rfl) (by kernel_rfl) (by kernel_rfl) (fun _ _ _ h => h) (Or.inl ⟨by rfl, ?_⟩) (by assumption) ?_
    rotate_left 1
    · intro w hSw; (try dsimp only at hSw); simp only [List.getElem_toArray, List.getElem_cons_succ, List.getElem_cons_zero]; go_simp; try (with_reducible rfl)
    (try simp only [List.getElem_toArray, List.getElem_cons_succ, List.getElem_cons_zero, Act.put, List.setIfInBounds_toArray, List.set_cons_succ, List.set_cons_zero])
    refine wpAnyH_ready (rs := [5]) (by kernel_rfl) (by simp) ?_
    refine AllReadyH.cons rfl (fun K hK => ?_) AllReadyH.nil
    (try simp only [List.getElem_toArray, List.getElem_cons_succ, List.getElem_cons_zero])
    go_simp
    go_at_call 24; refine (CD.out _).mono ?_; rintro e' x5 ⟨rfl, d5⟩
    (try (go_wp2_with fail))
    refine hK.out _ _ ?_ (fun hHeld => ?_)
    · exact K0.out _ (by ((repeat (first | with_reducible assumption | with_reducible exact Below.refl _ _ | with_reducible apply below_al | with_reducible apply below_dr | with_reducible refine below_more ?_ (by assumption)))))
    clear hK K
    (try simp only [Act.put, List.setIfInBounds_toArray, List.set_cons_succ, List.set_cons_zero])
    refine wpAnyH_take (i := 6) (v := ?_) rfl (by kernel_rfl) (by kernel_rfl) (by kernel_rfl) (fun _ _ _ h => h) (Or.inl ⟨by rfl, ?_⟩) (by assumption) ?_
    rotate_left 1
    · intro w hSw; (try dsimp only at hSw); simp only [List.getElem_toArray, List.getElem_cons_succ, List.getElem_cons_zero]; go_simp; try (with_reducible rfl)
    (try simp only [List.getElem_toArray, List.getElem_cons_succ, List.getElem_cons_zero, Act.put, List.setIfInBounds_toArray, List.set_cons_succ, List.set_cons_zero])
    refine wpAnyH_done (by kernel_rfl) ?_ _
    go_wp2
    go_ret
    exact ⟨rfl, below_more hb0 (by ((repeat (first | with_reducible assumption | with_reducible exact Below.refl _ _ | with_reducible apply below_al | with_reducible apply below_dr | with_reducible refine below_more ?_ (by assumption)))))⟩
  · have hm' : ¬ (m : Int) = (D : Int) := by omega
    rw [if_pos hm]
    refine wp_region_held_drew (S := fun W => W.cell? ⟨w.heap.size, 2, none⟩ = some (.slice A m cap) ∧ W.cell? ⟨w.heap.size, 0, none⟩ = some (.int .i64 (n : Int))) (by kernel_rfl) ?_ (fun hHeld => ?_)
    · exact K0.out _ (by ((repeat (first | with_reducible assumption | with_reducible exact Below.refl _ _ | with_reducible apply below_al | with_reducible apply below_dr | with_reducible refine below_more ?_ (by assumption)))))
    refine wpAnyH_take (i := 0) (v := ?_) rfl (by kernel_rfl) (by kernel_rfl) (by kernel_rfl) (fun _ _ _ h => h) (Or.inl ⟨by rfl, ?_⟩) (by assumption) ?_
    rotate_left 1
    · intro w hSw; (try dsimp only at hSw); simp only [List.getElem_toArray, List.getElem_cons_succ, List.getElem_cons_zero]; go_simp; try (with_reducible rfl)
    (try simp only [List.getElem_toArray, List.getElem_cons_succ, List.getElem_cons_zero, Act.put, List.setIfInBounds_toArray, List.set_cons_succ, List.set_cons_zero])
    refine wpAnyH_take (i := 1) (v := ?_) rfl (by kernel_rfl) (by kernel_rfl) (by kernel_rfl) (fun _ _ _ h => h) (Or.inl ⟨by rfl, ?_⟩) (by assumption) ?_
    rotate_left 1
    · intro w hSw; (try dsimp only at hSw); simp only [List.getElem_toArray, List.getElem_cons_succ, List.getElem_cons_zero]; go_simp; try (with_reducible rfl)
    (try simp only [List.getElem_toArray, List.getElem_cons_succ, List.getElem_cons_zero, Act.put, List.setIfInBounds_toArray, List.set_cons_succ, List.set_cons_zero])
    refine wpAnyH_take (i := 2) (v := ?_) rfl (by kernel_rfl) (by kernel_rfl) (by kernel_rfl) (fun _ _ _ h => h) (Or.inl ⟨by rfl, ?_⟩) (by assumption) ?_
    rotate_left 1
    · intro w hSw; (try dsimp only at hSw); simp only [List.getElem_toArray, List.getElem_cons_succ, List.getElem_cons_zero]; go_simp; try (with_reducible rfl)
    (try simp only [List.getElem_toArray, List.getElem_cons_succ, List.getElem_cons_zero, Act.put, List.setIfInBounds_toArray, List.set_cons_succ, List.set_cons_zero])
    refine wpAnyH_take (i := 3) (v := ?_) rfl (by kernel_rfl) (by kernel_rfl) (by kernel_rfl) (fun _ _ _ h => h) (Or.inl ⟨by rfl, ?_⟩) (by assumption) ?_
    rotate_left 1
    · intro w hSw; (try dsimp only at hSw); simp only [List.getElem_toArray, List.getElem_cons_succ, List.getElem_cons_zero]; go_simp; try (with_reducible rfl)
    (try simp only [List.getElem_toArray, List.getElem_cons_succ, List.getElem_cons_zero, Act.put, List.setIfInBounds_toArray, List.set_cons_succ, List.set_cons_zero])
    refine wpAnyH_take (i := 4) (v := ?_) rfl (by kernel_rfl) (by kernel_rfl) (by kernel_rfl) (fun _ _ _ h => h) (Or.inl ⟨by rfl, ?_⟩) (by assumption) ?_
    rotate_left 1
    · intro w hSw; (try dsimp only at hSw); simp only [List.getElem_toArray, List.getElem_cons_succ, List.getElem_cons_zero]; go_simp; try (with_reducible rfl)
    (try simp only [List.getElem_toArray, List.getElem_cons_succ, List.getElem_cons_zero, Act.put, List.setIfInBounds_toArray, List.set_cons_succ, List.set_cons_zero])
    refine wpAnyH_ready (rs := [5]) (by kernel_rfl) (by simp) ?_
    refine AllReadyH.cons rfl (fun K hK => ?_) AllReadyH.nil
    (try simp only [List.getElem_toArray, List.getElem_cons_succ, List.getElem_cons_zero])
    go_simp
    go_at_call 24; refine (CD.out _).mono ?_; rintro e' x5 ⟨rfl, d5⟩
    (try (go_wp2_with fail))
    refine hK.out _ _ ?_ (fun hHeld => ?_)
    · exact K0.out _ (by ((repeat (first | with_reducible assumption | with_reducible exact Below.refl _ _ | with_reducible apply below_al | with_reducible apply below_dr | with_reducible refine below_more ?_ (by assumption)))))
    clear hK K
    (try simp only [Act.put, List.setIfInBounds_toArray, List.set_cons_succ, List.set_cons_zero])
    refine wpAnyH_take (i := 6) (v := ?_) rfl (by kernel_rfl) (by kernel_rfl) (by kernel_rfl) (fun _ _ _ h => h) (Or.inl ⟨by rfl, ?_⟩) (by assumption) ?_
    rotate_left 1
    · intro w hSw; (try dsimp only at hSw); simp only [List.getElem_toArray, List.getElem_cons_succ, List.getElem_cons_zero]; go_simp; try (with_reducible rfl)
    (try simp only [List.getElem_toArray, List.getElem_cons_succ, List.getElem_cons_zero, Act.put, List.setIfInBounds_toArray, List.set_cons_succ, List.set_cons_zero])
    refine wpAnyH_done (by kernel_rfl) ?_ _
    go_wp2
    go_ret
    exact ⟨rfl, below_more hb0 (by ((repeat (first | with_reducible assumption | with_reducible exact Below.refl _ _ | with_reducible apply below_al | with_reducible apply below_dr | with_reducible refine below_more ?_ (by assumption)))))⟩
set_option maxRecDepth 100000 in
theorem dright_calls (c i : Int) (A : Option Addr) (m cap : Nat) (w : World) : Calls Tryd.prog 19 #[.agg #[.int .i64 c, .int .i64 i, .slice A m cap]] w (Ret w (.int .i64 (rgt c i m : Int))) := by
  unfold rgt
  by_cases h1 : c < 1
  · rw [if_pos (.inl h1)]; exact dright_a c i A m cap w h1
  by_cases h2 : (65536 : Int) < c
  · rw [if_pos (.inr (.inl h2))]; exact dright_b c i A m cap w h1 h2
  by_cases h3 : i < 0
  · rw [if_pos (.inr (.inr (.inl h3)))]; exact dright_c c i A m cap w h1 h2 h3
  by_cases h4 : c ≤ i
  · rw [if_pos (.inr (.inr (.inr h4)))]; exact dright_d c i A m cap w h1 h2 h3 h4
  rw [if_neg (by omega)]
  obtain ⟨n, rfl⟩ : ∃ n : Nat, c = (n : Int) := ⟨c.toNat, by omega⟩
  rw [Int.toNat_natCast]
  exact dright_e n i A m cap w h1 h2 h3 h4
end Go.Proofs.YtnfcnjboeocnmaaDoor
