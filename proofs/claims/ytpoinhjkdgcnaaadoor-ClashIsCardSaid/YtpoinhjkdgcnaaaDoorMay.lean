/- Merged texts: BrnP. -/
import Derived.Test.YtpoinhjkdgcnaaaDoorMaw
import Derived.Test.YtpoinhjkdgcnaaaDoorMas
/- The contracts of package branch's isSingle, Right, sibling and above. -/
namespace Go.Proofs.YtpoinhjkdgcnaaaDoor
open Go.RowKit
set_option linter.unusedVariables false
set_option linter.unusedSimpArgs false

set_option maxRecDepth 100000 in
set_option maxHeartbeats 4000000 in
theorem single_calls (a n : Nat) (ha : a < n) (hn : n ≤ 65537) (w : World) : Calls Tryd.prog 47 #[.int .i64 (a : Int), .int .i64 (n : Int)] w (Ret w (.bool (decide (a + 1 = n ∧ a % 2 = 0)))) := by
  obtain ⟨q, hq⟩ : ∃ q, q = n - 1 := ⟨_, rfl⟩
  have u : IntKind.i64.wrap ((n : Int) - 1) = (q : Int) := by rw [IntKind.wrap_i64]; omega
  by_cases hev : a % 2 = 0
  · by_cases hl : a = q
    · rw [decide_eq_true (show a + 1 = n ∧ a % 2 = 0 by omega)]
      have r1 : Int.tmod (a : Int) 2 = 0 := by rw [Int.tmod_eq_emod_of_nonneg (by omega)]; omega
      have r2 : (a : Int) % 2 = 0 := by omega
      have r3 : IntKind.i64.wrap 0 = 0 := by rw [IntKind.wrap_i64]; omega
      subst hl
      clear hq hev ha hn
      go_enter Tryd.func47, Tryd.ntmps47
      go_wp2
      go_ret
      exact ⟨rfl, Below.refl _ _⟩
    · rw [decide_eq_false (show ¬ (a + 1 = n ∧ a % 2 = 0) by omega)]
      have r1 : Int.tmod (a : Int) 2 = 0 := by rw [Int.tmod_eq_emod_of_nonneg (by omega)]; omega
      have r2 : (a : Int) % 2 = 0 := by omega
      have r3 : IntKind.i64.wrap 0 = 0 := by rw [IntKind.wrap_i64]; omega
      have hl' : ((a : Int) == (q : Int)) = false := beq_eq_false_iff_ne.2 (by omega)
      clear hq hev ha hn
      go_enter Tryd.func47, Tryd.ntmps47
      go_wp2
      go_ret
      exact ⟨by first | rfl | simp [hl'], Below.refl _ _⟩
  · rw [decide_eq_false (show ¬ (a + 1 = n ∧ a % 2 = 0) by omega)]
    have r1 : Int.tmod (a : Int) 2 = 1 := by rw [Int.tmod_eq_emod_of_nonneg (by omega)]; omega
    have r2 : (a : Int) % 2 = 1 := by omega
    have r3 : IntKind.i64.wrap 1 = 1 := by rw [IntKind.wrap_i64]; omega
    clear hq hev ha hn
    go_enter Tryd.func47, Tryd.ntmps47
    go_wp2
    go_ret
    exact ⟨rfl, Below.refl _ _⟩
set_option maxRecDepth 100000 in
set_option maxHeartbeats 4000000 in
theorem bright_a (c i : Int) (A : Option Addr) (m cap : Nat) (w : World) (h1 : c < 1) : Calls Tryd.prog 31 #[.agg #[.int .i64 c, .int .i64 i, .slice A m cap]] w (Ret w (.int .i64 5)) := by
  go_enter Tryd.func31, Tryd.ntmps31
  go_wp2
  go_ret
  exact ⟨rfl, below_al (Below.refl _ _) _⟩
set_option maxRecDepth 100000 in
set_option maxHeartbeats 4000000 in
theorem bright_b (c i : Int) (A : Option Addr) (m cap : Nat) (w : World) (h1 : ¬ c < 1) (h2 : (65536 : Int) < c) : Calls Tryd.prog 31 #[.agg #[.int .i64 c, .int .i64 i, .slice A m cap]] w (Ret w (.int .i64 5)) := by
  go_enter Tryd.func31, Tryd.ntmps31
  go_wp2
  go_ret
  exact ⟨rfl, below_al (Below.refl _ _) _⟩
set_option maxRecDepth 100000 in
set_option maxHeartbeats 4000000 in
theorem bright_c (c i : Int) (A : Option Addr) (m cap : Nat) (w : World) (h1 : ¬ c < 1) (h2 : ¬ (65536 : Int) < c) (h3 : i < 0) : Calls Tryd.prog 31 #[.agg #[.int .i64 c, .int .i64 i, .slice A m cap]] w (Ret w (.int .i64 5)) := by
  go_enter Tryd.func31, Tryd.ntmps31
  go_wp2
  go_ret
  exact ⟨rfl, below_al (Below.refl _ _) _⟩
set_option maxRecDepth 100000 in
set_option maxHeartbeats 4000000 in
theorem bright_d (c i : Int) (A : Option Addr) (m cap : Nat) (w : World) (h1 : ¬ c < 1) (h2 : ¬ (65536 : Int) < c) (h3 : ¬ i < 0) (h4 : c ≤ i) : Calls Tryd.prog 31 #[.agg #[.int .i64 c, .int .i64 i, .slice A m cap]] w (Ret w (.int .i64 5)) := by
  go_enter Tryd.func31, Tryd.ntmps31
  go_wp2
  go_ret
  exact ⟨rfl, below_al (Below.refl _ _) _⟩
set_option maxRecDepth 100000 in
set_option maxHeartbeats 4000000 in
theorem bright_e (n : Nat) (i : Int) (A : Option Addr) (m cap : Nat) (w : World) (h1 : ¬ (n : Int) < 1) (h2 : ¬ (65536 : Int) < (n : Int)) (h3 : ¬ i < 0) (h4 : ¬ (n : Int) ≤ i) : Calls Tryd.prog 31 #[.agg #[.int .i64 (n : Int), .int .i64 i, .slice A m cap]] w (Ret w (.int .i64 ((if m ≠ depth n then 3 else 0 : Nat) : Int))) := by
  obtain ⟨D, hD⟩ : ∃ D, D = depth n := ⟨_, rfl⟩
  have CD : Hid (∀ W, Calls Tryd.prog 43 #[.int .i64 (n : Int)] W (Ret W (.int .i64 (D : Int)))) := Lib.hid fun W => by rw [hD]; have := gdepth_calls (n : Int) (by omega) (by omega) W; rw [Int.toNat_natCast] at this; exact this
  rw [← hD]
  clear hD
  have hbk : Blk (w.alloc (.cells #[.int .i64 (n : Int), .int .i64 i, .slice A m cap] 26)) w.heap.size [.int .i64 (n : Int), .int .i64 i, .slice A m cap] 26 := Blk.new w _ _
  have hb0 : Below w.heap.size w (w.alloc (.cells #[.int .i64 (n : Int), .int .i64 i, .slice A m cap] 26)) := below_al (Below.refl _ _) _
  go_enter Tryd.func31, Tryd.ntmps31
  go_upto_region 3 with fail
  obtain ⟨w0, hw0⟩ : ∃ x, x = w.alloc (.cells #[.int .i64 (n : Int), .int .i64 i, .slice A m cap] 26) := ⟨_, rfl⟩
  rw [← hw0] at hbk hb0 ⊢
  clear hw0
  have K0 : Hid (∀ W, Below w0.heap.size w0 W → W.cell? ⟨w.heap.size, 2, none⟩ = some (.slice A m cap) ∧ W.cell? ⟨w.heap.size, 0, none⟩ = some (.int .i64 (n : Int))) := Lib.hid fun W h => ⟨(hbk.up h).cell 2, (hbk.up h).cell 0⟩
  by_cases hm : m = D
  · have hm' : (m : Int) = (D : Int) := by omega
    rw [if_neg (by omega)]
    refine wp_region_held_drew (S := fun W => W.cell? ⟨w.heap.size, 2, none⟩ = some (.slice A m cap) ∧ W.cell? ⟨w.heap.size, 0, none⟩ = some (.int .i64 (n : Int))) (by kernel_rfl) ?_ (fun hHeld => ?_)
    · exact K0.out _ (by ((repeat (first | with_reducible assumption | with_reducible exact Below.refl _ _ | with_reducible apply below_al | with_reducible apply below_dr | with_reducible refine below_more ?_ (by assumption)))))
    refine wpAnyH_take (i := 0) (v := ?_) rfl (by kernel_rfl) (by kernel_rfl) (by kernel_rfl) (fun _ _ _ h => h) (Or.inl ⟨by rfl, ?_⟩) (by assumption) ?_
    rotate_left 1
    · intro w hSw; (try dsimp only at hSw); simp only [List.getElem_toArray, List.getElem_cons_succ, List.getElem_cons_zero]; go_simp; try (with_reducible rfl)
    (try simp only [List.getElem_toArray, List.getElem_cons_succ, List.getElem_cons_zero, Act.put, List.setIfInBounds_toArray, List.set_cons_succ, List.set_cons_zero])
    refine wpAnyH_take (i := 1) (v := ?_) rfl (by kernel_rfl) (by kernel_rfl) (by kernel_rfl) (fun _ _ _ h => h) (Or.inl ⟨by rfl, ?_⟩) (by assumption) ?_
    rotate_left 1
    · intro w hSw; (try dsimp only at hSw); simp only [List.getElem_toArray, List.getElem_cons_succ, List.getElem_cons_zero]; go_simp; try (with_reducible rfl)
    (try simp only [List.getElem_toArray, List.getElem_cons_succ, List.getElem_cons_zero, Act.put, List.setIfInBounds_toArray, List.set_cons_succ, List.set_cons_zero])
    refine wpAnyH_take (i := 2) (v := ?_) rfl (by kernel_rfl) (by kernel_rfl) (by kernel_rfl) (fun _ _ _ h => h) (Or.inl ⟨by rfl, ?_⟩) (by assumption) ?_
    rotate_left 1
    · intro w hSw; (try dsimp only at hSw); simp only [List.getElem_toArray, List.getElem_cons_succ, List.getElem_cons_zero]; go_simp; try (with_reducible rfl)
    (try simp only [List.getElem_toArray, List.getElem_cons_succ, List.getElem_cons_zero, Act.put, List.setIfInBounds_toArray, List.set_cons_succ, List.set_cons_zero])
    refine wpAnyH_take (i := 3) (v := ?_) rfl (by kernel_rfl) (by kernel_rfl) (by kernel_rfl) (fun _ _ _ h => h) (Or.inl ⟨by rfl, ?_⟩) (by assumption) ?_
    rotate_left 1
    · intro w hSw; (try dsimp only at hSw); simp only [List.getElem_toArray, List.getElem_cons_succ, List.getElem_cons_zero]; go_simp; try (with_reducible rfl)
    (try simp only [List.getElem_toArray, List.getElem_cons_succ, List.getElem_cons_zero, Act.put, List.setIfInBounds_toArray, List.set_cons_succ, List.set_cons_zero])
    refine wpAnyH_take (i := 4) (v := ?_) rfl (by kernel_rfl) (by kernel_rfl) (by kernel_rfl) (fun _ _ _ h => h) (Or.inl ⟨by rfl, ?_⟩) (by assumption) ?_
    rotate_left 1
    · intro w hSw; (try dsimp only at hSw); simp only [List.getElem_toArray, List.getElem_cons_succ, List.getElem_cons_zero]; go_simp; try (with_reducible rfl)
    (try simp only [List.getElem_toArray, List.getElem_cons_succ, List.getElem_cons_zero, Act.put, List.setIfInBounds_toArray, List.set_cons_succ, List.set_cons_zero])
    refine wpAnyH_ready (rs := [5]) (by kernel_rfl) (by simp) ?_
    refine AllReadyH.cons rfl (fun K hK => ?_) AllReadyH.nil
    (try simp only [List.getElem_toArray, List.getElem_cons_succ, List.getElem_cons_zero])
    go_simp
    go_at_call 43; refine (CD.out _).mono ?_; rintro e' x5 ⟨rfl, d5⟩
    (try (go_wp2_with fail))
    refine hK.out _ _ ?_ (fun hHeld => ?_)
    · exact K0.out _ (by ((repeat (first | with_reducible assumption | with_reducible exact Below.refl _ _ | with_reducible apply below_al | with_reducible apply below_dr | with_reducible refine below_more ?_ (by assumption)))))
    clear hK K
    (try simp only [Act.put, List.setIfInBounds_toArray, List.set_cons_succ, List.set_cons_zero])
    refine wpAnyH_take (i := 6) (v := ?_) rfl (by kernel_rfl) (by kernel_rfl) (by kernel_rfl) (fun _ _ _ h => h) (Or.inl ⟨by rfl, ?_⟩) (by assumption) ?_
    rotate_left 1
    · intro w hSw; (try dsimp only at hSw); simp only [List.getElem_toArray, List.getElem_cons_succ, List.getElem_cons_zero]; go_simp; try (with_reducible rfl)
    (try simp only [List.getElem_toArray, List.getElem_cons_succ, List.getElem_cons_zero, Act.put, List.setIfInBounds_toArray, List.set_cons_succ, List.set_cons_zero])
    refine wpAnyH_done (by kernel_rfl) ?_ _
    go_wp2
    go_ret
    exact ⟨rfl, below_more hb0 (by ((repeat (first | with_reducible assumption | with_reducible exact Below.refl _ _ | with_reducible apply below_al | with_reducible apply below_dr | with_reducible refine below_more ?_ (by assumption)))))⟩
  · have hm' : ¬ (m : Int) = (D : Int) := by omega
    rw [if_pos hm]
    refine wp_region_held_drew (S := fun W => W.cell? ⟨w.heap.size, 2, none⟩ = some (.slice A m cap) ∧ W.cell? ⟨w.heap.size, 0, none⟩ = some (.int .i64 (n : Int))) (by kernel_rfl) ?_ (fun hHeld => ?_)
    · exact K0.out _ (by ((repeat (first | with_reducible assumption | with_reducible exact Below.refl _ _ | with_reducible apply below_al | with_reducible apply below_dr | with_reducible refine below_more ?_ (by assumption)))))
    refine wpAnyH_take (i := 0) (v := ?_) rfl (by kernel_rfl) (by kernel_rfl) (by kernel_rfl) (fun _ _ _ h => h) (Or.inl ⟨by rfl, ?_⟩) (by assumption) ?_
    rotate_left 1
    · intro w hSw; (try dsimp only at hSw); simp only [List.getElem_toArray, List.getElem_cons_succ, List.getElem_cons_zero]; go_simp; try (with_reducible rfl)
    (try simp only [List.getElem_toArray, List.getElem_cons_succ, List.getElem_cons_zero, Act.put, List.setIfInBounds_toArray, List.set_cons_succ, List.set_cons_zero])
    refine wpAnyH_take (i := 1) (v := ?_) rfl (by kernel_rfl) (by kernel_rfl) (by kernel_rfl) (fun _ _ _ h => h) (Or.inl ⟨by rfl, ?_⟩) (by assumption) ?_
    rotate_left 1
    · intro w hSw; (try dsimp only at hSw); simp only [List.getElem_toArray, List.getElem_cons_succ, List.getElem_cons_zero]; go_simp; try (with_reducible rfl)
    (try simp only [List.getElem_toArray, List.getElem_cons_succ, List.getElem_cons_zero, Act.put, List.setIfInBounds_toArray, List.set_cons_succ, List.set_cons_zero])
    refine wpAnyH_take (i := 2) (v := ?_) rfl (by kernel_rfl) (by kernel_rfl) (by kernel_rfl) (fun _ _ _ h => h) (Or.inl ⟨by rfl, ?_⟩) (by assumption) ?_
    rotate_left 1
    · intro w hSw; (try dsimp only at hSw); simp only [List.getElem_toArray, List.getElem_cons_succ, List.getElem_cons_zero]; go_simp; try (with_reducible rfl)
    (try simp only [List.getElem_toArray, List.getElem_cons_succ, List.getElem_cons_zero, Act.put, List.setIfInBounds_toArray, List.set_cons_succ, List.set_cons_zero])
    refine wpAnyH_take (i := 3) (v := ?_) rfl (by kernel_rfl) (by kernel_rfl) (by kernel_rfl) (fun _ _ _ h => h) (Or.inl ⟨by rfl, ?_⟩) (by assumption) ?_
    rotate_left 1
    · intro w hSw; (try dsimp only at hSw); simp only [List.getElem_toArray, List.getElem_cons_succ, List.getElem_cons_zero]; go_simp; try (with_reducible rfl)
    (try simp only [List.getElem_toArray, List.getElem_cons_succ, List.getElem_cons_zero, Act.put, List.setIfInBounds_toArray, List.set_cons_succ, List.set_cons_zero])
    refine wpAnyH_take (i := 4) (v := ?_) rfl (by kernel_rfl) (by kernel_rfl) (by kernel_rfl) (fun _ _ _ h => h) (Or.inl ⟨by rfl, ?_⟩) (by assumption) ?_
    rotate_left 1
    · intro w hSw; (try dsimp only at hSw); simp only [List.getElem_toArray, List.getElem_cons_succ, List.getElem_cons_zero]; go_simp; try (with_reducible rfl)
    (try simp only [List.getElem_toArray, List.getElem_cons_succ, List.getElem_cons_zero, Act.put, List.setIfInBounds_toArray, List.set_cons_succ, List.set_cons_zero])
    refine wpAnyH_ready (rs := [5]) (by kernel_rfl) (by simp) ?_
    refine AllReadyH.cons rfl (fun K hK => ?_) AllReadyH.nil
    (try simp only [List.getElem_toArray, List.getElem_cons_succ, List.getElem_cons_zero])
    go_simp
    go_at_call 43; refine (CD.out _).mono ?_; rintro e' x5 ⟨rfl, d5⟩
    (try (go_wp2_with fail))
    refine hK.out _ _ ?_ (fun hHeld => ?_)
    · exact K0.out _ (by ((repeat (first | with_reducible assumption | with_reducible exact Below.refl _ _ | with_reducible apply below_al | with_reducible apply below_dr | with_reducible refine below_more ?_ (by assumption)))))
    clear hK K
    (try simp only [Act.put, List.setIfInBounds_toArray, List.set_cons_succ, List.set_cons_zero])
    refine wpAnyH_take (i := 6) (v := ?_) rfl (by kernel_rfl) (by kernel_rfl) (by kernel_rfl) (fun _ _ _ h => h) (Or.inl ⟨by rfl, ?_⟩) (by assumption) ?_
    rotate_left 1
    · intro w hSw; (try dsimp only at hSw); simp only [List.getElem_toArray, List.getElem_cons_succ, List.getElem_cons_zero]; go_simp; try (with_reducible rfl)
    (try simp only [List.getElem_toArray, List.getElem_cons_succ, List.getElem_cons_zero, Act.put, List.setIfInBounds_toArray, List.set_cons_succ, List.set_cons_zero])
    refine wpAnyH_done (by kernel_rfl) ?_ _
    go_wp2
    go_ret
    exact ⟨rfl, below_more hb0 (by ((repeat (first | with_reducible assumption | with_reducible exact Below.refl _ _ | with_reducible apply below_al | with_reducible apply below_dr | with_reducible refine below_more ?_ (by assumption)))))⟩
set_option maxRecDepth 100000 in
theorem bright_calls (c i : Int) (A : Option Addr) (m cap : Nat) (w : World) : Calls Tryd.prog 31 #[.agg #[.int .i64 c, .int .i64 i, .slice A m cap]] w (Ret w (.int .i64 (rgt c i m : Int))) := by
  unfold rgt
  by_cases h1 : c < 1
  · rw [if_pos (.inl h1)]; exact bright_a c i A m cap w h1
  by_cases h2 : (65536 : Int) < c
  · rw [if_pos (.inr (.inl h2))]; exact bright_b c i A m cap w h1 h2
  by_cases h3 : i < 0
  · rw [if_pos (.inr (.inr (.inl h3)))]; exact bright_c c i A m cap w h1 h2 h3
  by_cases h4 : c ≤ i
  · rw [if_pos (.inr (.inr (.inr h4)))]; exact bright_d c i A m cap w h1 h2 h3 h4
  rw [if_neg (by omega)]
  obtain ⟨n, rfl⟩ : ∃ n : Nat, c = (n : Int) := ⟨c.toNat, by omega⟩
  rw [Int.toNat_natCast]
  exact bright_e n i A m cap w h1 h2 h3 h4
set_option maxRecDepth 100000 in
set_option maxHeartbeats 4000000 in
theorem btwo_calls (a : Nat) (x b : List UInt8) (w : World) (hx : x.length = 32) (hb : b.length = 32) (ha : a ≤ 65536) (hT : Tab w) :
    Calls Tryd.prog 48 #[.agg (x.map B8).toArray, .agg (b.map B8).toArray, .int .i64 (a : Int)] w (Ret w (.agg ((two a x b).map B8).toArray)) := by
  obtain ⟨X, hX⟩ : ∃ V, V = x.map B8 := ⟨_, rfl⟩
  obtain ⟨V, hV⟩ : ∃ V, V = b.map B8 := ⟨_, rfl⟩
  obtain ⟨y, hy⟩ : ∃ y, y = two a x b := ⟨_, rfl⟩
  obtain ⟨Y, hY⟩ : ∃ V, V = y.map B8 := ⟨_, rfl⟩
  have y32 : y.length = 32 := by rw [hy]; exact two_len _ _ _
  have IY : Hid ((Tryd.prog.info? 47).map (·.size) = some Y.length) := Lib.hid (by rw [hY, List.length_map, y32]; kernel_rfl)
  have LY : Hid (z32.length = Y.length) := Lib.hid (by rw [hY, List.length_map, y32]; rfl)
  have OY : Hid (∀ v ∈ Y, v.oneCell' = true) := Lib.hid (by rw [hY]; exact b8_one _)
  have HT := Lib.hid hT
  have hsa : ∀ (q o : Nat) W, (Instr.sliceAt 47 (.pointer (some ⟨q, o, none⟩)) none none none).run Tryd.prog W = .ok (.slice (some ⟨q, o, none⟩) 32 32) W := fun q o W => run_sl_all 47 5 32 Tryd.underlying47 size8 q o (by omega) W
  rw [← hX, ← hV, ← hy, ← hY]
  clear y32 hT
  obtain ⟨w0, hw0⟩ : ∃ z, z = ((w.alloc (.cells X.toArray 47)).alloc (.cells V.toArray 47)).alloc (.cells z32.toArray 47) := ⟨_, rfl⟩
  have hs0 : w0.heap.size = w.heap.size + 3 := by rw [hw0]; simp
  have hB0 : Below w.heap.size w w0 := by rw [hw0]; exact below_al (below_al (below_al (Below.refl _ _) _) _) _
  have hk0 : Blk w0 w.heap.size X 47 := by rw [hw0]; exact Blk.alloc (Blk.alloc (Blk.new w _ _) _) _
  have hk1 : Blk w0 (w.heap.size + 1) V 47 := by rw [hw0]; exact Blk.alloc (Blk.new' _ _ _ _ (by simp)) _
  have hk2 : Blk w0 (w.heap.size + 2) z32 47 := by rw [hw0]; exact Blk.new' _ _ _ _ (by simp)
  have hw1 : ((w.alloc (.cells X.toArray 47)).alloc (.cells V.toArray 47)).alloc (.cells #[.int .u8 0, .int .u8 0, .int .u8 0, .int .u8 0, .int .u8 0, .int .u8 0, .int .u8 0, .int .u8 0, .int .u8 0, .int .u8 0, .int .u8 0, .int .u8 0, .int .u8 0, .int .u8 0, .int .u8 0, .int .u8 0, .int .u8 0, .int .u8 0, .int .u8 0, .int .u8 0, .int .u8 0, .int .u8 0, .int .u8 0, .int .u8 0, .int .u8 0, .int .u8 0, .int .u8 0, .int .u8 0, .int .u8 0, .int .u8 0, .int .u8 0, .int .u8 0] 47) = w0 := hw0.symm
  clear hw0
  by_cases hev : a % 2 = 0
  · clear ha
    have r1 : Int.tmod (a : Int) 2 = 0 := by rw [Int.tmod_eq_emod_of_nonneg (by omega)]; omega
    have r2 : (a : Int) % 2 = 0 := by omega
    have r3 : IntKind.i64.wrap 0 = 0 := by rw [IntKind.wrap_i64]; omega
    have htw : two a x b = pr x b := by unfold two; rw [if_pos hev]
    rw [htw] at hy
    have B2 : Hid (∀ W, (Instr.buildSlice 22 2 #[(0, .slice (some ⟨w.heap.size, 0, none⟩) 32 32), (1, .slice (some ⟨w.heap.size + 1, 0, none⟩) 32 32)]).run Tryd.prog W = .ok (Value.slice (some ⟨W.heap.size, 0, none⟩) 2 2, W.alloc (.cells #[.slice (some ⟨w.heap.size, 0, none⟩) 32 32, .slice (some ⟨w.heap.size + 1, 0, none⟩) 32 32] 23)).1 (Value.slice (some ⟨W.heap.size, 0, none⟩) 2 2, W.alloc (.cells #[.slice (some ⟨w.heap.size, 0, none⟩) 32 32, .slice (some ⟨w.heap.size + 1, 0, none⟩) 32 32] 23)).2) := Lib.hid fun W => run_b2 _ _ 32 32 32 32 W
    have CT : Hid (Calls Tryd.prog 19 #[.slice (some ⟨w.heap.size + 3, 0, none⟩) 2 2] (w0.alloc (.cells #[.slice (some ⟨w.heap.size, 0, none⟩) 32 32, .slice (some ⟨w.heap.size + 1, 0, none⟩) 32 32] 23)).drew (Ret (w0.alloc (.cells #[.slice (some ⟨w.heap.size, 0, none⟩) 32 32, .slice (some ⟨w.heap.size + 1, 0, none⟩) 32 32] 23)).drew (.agg Y.toArray))) := Lib.hid (by
      have r1 : Rd w0 (some ⟨w.heap.size, 0, none⟩) 32 x := hash_rd hk0 hX hx
      have r2 : Rd w0 (some ⟨w.heap.size + 1, 0, none⟩) 32 b := hash_rd hk1 hV hb
      have := twice_calls (w0.alloc (.cells #[.slice (some ⟨w.heap.size, 0, none⟩) 32 32, .slice (some ⟨w.heap.size + 1, 0, none⟩) 32 32] 23)).drew (some ⟨w.heap.size + 3, 0, none⟩) 2 2 [x, b] (rdm_two w0 (w.heap.size + 3) hs0 _ _ 32 32 32 32 x b 23 r1 r2 (by omega) (by omega) (by unfold maxLen; omega) (by unfold maxLen; omega)) (HT.out.all (below_dr (below_al hB0 _))) (by omega) (by simp [hx, hb])
      rw [hY, hy]
      unfold pr
      simpa using this)
    clear hX hV hx hb hy hY hev htw HT
    go_enter Tryd.func48, Tryd.ntmps48
    go_upto_region 2 with fail
    try rw [hw1]
    clear hw1
    refine wp_region_held_drew (S := fun _ => True) (by kernel_rfl) ?_ (fun hHeld => ?_)
    · trivial
    refine wpAnyH_take (i := 0) (v := .slice (some ⟨w.heap.size, 0, none⟩) 32 32) rfl (by kernel_rfl) (by kernel_rfl) (by kernel_rfl) (fun _ _ _ h => h) (Or.inl ⟨by rfl, ?_⟩) (by assumption) ?_
    · intro w hSw; (try dsimp only at hSw); simp only [List.getElem_toArray, List.getElem_cons_succ, List.getElem_cons_zero]; first | (go_simp; done) | (simp [execOp, Act.eval, hsa]; done)
    (try simp only [List.getElem_toArray, List.getElem_cons_succ, List.getElem_cons_zero, Act.put, List.setIfInBounds_toArray, List.set_cons_succ, List.set_cons_zero])
    refine wpAnyH_take (i := 1) (v := .slice (some ⟨w.heap.size + 1, 0, none⟩) 32 32) rfl (by kernel_rfl) (by kernel_rfl) (by kernel_rfl) (fun _ _ _ h => h) (Or.inl ⟨by rfl, ?_⟩) (by assumption) ?_
    · intro w hSw; (try dsimp only at hSw); simp only [List.getElem_toArray, List.getElem_cons_succ, List.getElem_cons_zero]; first | (go_simp; done) | (simp [execOp, Act.eval, hsa]; done)
    (try simp only [List.getElem_toArray, List.getElem_cons_succ, List.getElem_cons_zero, Act.put, List.setIfInBounds_toArray, List.set_cons_succ, List.set_cons_zero])
    refine wpAnyH_ready (rs := [2]) (by kernel_rfl) (by simp) ?_
    refine AllReadyH.cons rfl (fun K hK => ?_) AllReadyH.nil
    (try simp only [List.getElem_toArray, List.getElem_cons_succ, List.getElem_cons_zero])
    refine Eq.mpr (if_pos (by first | rfl | simp [Region.wanted, yielded, Act.put])) ?_
    refine wp_bsl _ _ _ rfl #[(0, .slice (some ⟨w.heap.size, 0, none⟩) 32 32), (1, .slice (some ⟨w.heap.size + 1, 0, none⟩) 32 32)] (by simp [Act.eval]) (fun W => (.slice (some ⟨W.heap.size, 0, none⟩) 2 2, W.alloc (.cells #[.slice (some ⟨w.heap.size, 0, none⟩) 32 32, .slice (some ⟨w.heap.size + 1, 0, none⟩) 32 32] 23))) B2.out ?_
    (try dsimp only)
    refine hK.out _ _ ?_ (fun hHeld => ?_)
    · trivial
    clear hK K
    (try simp only [Act.put, List.setIfInBounds_toArray, List.set_cons_succ, List.set_cons_zero])
    refine wpAnyH_ready (rs := [3]) (by kernel_rfl) (by simp) ?_
    refine AllReadyH.cons rfl (fun K hK => ?_) AllReadyH.nil
    (try simp only [List.getElem_toArray, List.getElem_cons_succ, List.getElem_cons_zero])
    go_simp
    go_at_call 19; refine CT.out.mono ?_; rintro e' x7 ⟨rfl, d7⟩
    (try (go_wp2_with fail))
    refine hK.out _ _ ?_ (fun hHeld => ?_)
    · trivial
    clear hK K
    (try simp only [Act.put, List.setIfInBounds_toArray, List.set_cons_succ, List.set_cons_zero])
    refine wpAnyH_ready (rs := [4]) (by kernel_rfl) (by simp) ?_
    refine AllReadyH.cons rfl (fun K hK => ?_) AllReadyH.nil
    (try simp only [List.getElem_toArray, List.getElem_cons_succ, List.getElem_cons_zero])
    refine Eq.mpr (if_pos (by first | rfl | simp [Region.wanted, yielded, Act.put])) ?_
    refine wp_store_in 47 (.tmp 6) (.tmp 13) rfl (w.heap.size + 2) z32 Y 47 rfl rfl ((hk2.alloc _).drew.up d7) LY.out IY.out OY.out ?_
    intro x8 hb8 ho8
    refine hK.out _ _ ?_ (fun hHeld => ?_)
    · trivial
    clear hK K
    (try simp only [Act.put, List.setIfInBounds_toArray, List.set_cons_succ, List.set_cons_zero])
    refine wpAnyH_done (by kernel_rfl) ?_ _
    go_wp2
    refine bodyPost_ret (v := .agg Y.toArray) ?_ rfl ?_
    · exact results_one Tryd.results48 _ _ (w.heap.size + 2) 47 _ (0, 0) _ (by rfl) hb8 Tryd.underlying47 rfl IY.out
    · exact ⟨rfl, (below_more (below_dr (below_al hB0 _)) d7).trans (ho8.below (by omega))⟩
  · clear ha
    have r1 : Int.tmod (a : Int) 2 = 1 := by rw [Int.tmod_eq_emod_of_nonneg (by omega)]; omega
    have r2 : (a : Int) % 2 = 1 := by omega
    have r3 : IntKind.i64.wrap 1 = 1 := by rw [IntKind.wrap_i64]; omega
    have htw : two a x b = pr b x := by unfold two; rw [if_neg hev]
    rw [htw] at hy
    have B2 : Hid (∀ W, (Instr.buildSlice 22 2 #[(0, .slice (some ⟨w.heap.size + 1, 0, none⟩) 32 32), (1, .slice (some ⟨w.heap.size, 0, none⟩) 32 32)]).run Tryd.prog W = .ok (Value.slice (some ⟨W.heap.size, 0, none⟩) 2 2, W.alloc (.cells #[.slice (some ⟨w.heap.size + 1, 0, none⟩) 32 32, .slice (some ⟨w.heap.size, 0, none⟩) 32 32] 23)).1 (Value.slice (some ⟨W.heap.size, 0, none⟩) 2 2, W.alloc (.cells #[.slice (some ⟨w.heap.size + 1, 0, none⟩) 32 32, .slice (some ⟨w.heap.size, 0, none⟩) 32 32] 23)).2) := Lib.hid fun W => run_b2 _ _ 32 32 32 32 W
    have CT : Hid (Calls Tryd.prog 19 #[.slice (some ⟨w.heap.size + 3, 0, none⟩) 2 2] (w0.alloc (.cells #[.slice (some ⟨w.heap.size + 1, 0, none⟩) 32 32, .slice (some ⟨w.heap.size, 0, none⟩) 32 32] 23)).drew (Ret (w0.alloc (.cells #[.slice (some ⟨w.heap.size + 1, 0, none⟩) 32 32, .slice (some ⟨w.heap.size, 0, none⟩) 32 32] 23)).drew (.agg Y.toArray))) := Lib.hid (by
      have r1 : Rd w0 (some ⟨w.heap.size, 0, none⟩) 32 x := hash_rd hk0 hX hx
      have r2 : Rd w0 (some ⟨w.heap.size + 1, 0, none⟩) 32 b := hash_rd hk1 hV hb
      have := twice_calls (w0.alloc (.cells #[.slice (some ⟨w.heap.size + 1, 0, none⟩) 32 32, .slice (some ⟨w.heap.size, 0, none⟩) 32 32] 23)).drew (some ⟨w.heap.size + 3, 0, none⟩) 2 2 [b, x] (rdm_two w0 (w.heap.size + 3) hs0 _ _ 32 32 32 32 b x 23 r2 r1 (by omega) (by omega) (by unfold maxLen; omega) (by unfold maxLen; omega)) (HT.out.all (below_dr (below_al hB0 _))) (by omega) (by simp [hx, hb])
      rw [hY, hy]
      unfold pr
      simpa using this)
    clear hX hV hx hb hy hY hev htw HT
    go_enter Tryd.func48, Tryd.ntmps48
    go_upto_region 3 with fail
    try rw [hw1]
    clear hw1
    refine wp_region_held_drew (S := fun _ => True) (by kernel_rfl) ?_ (fun hHeld => ?_)
    · trivial
    refine wpAnyH_take (i := 0) (v := .slice (some ⟨w.heap.size + 1, 0, none⟩) 32 32) rfl (by kernel_rfl) (by kernel_rfl) (by kernel_rfl) (fun _ _ _ h => h) (Or.inl ⟨by rfl, ?_⟩) (by assumption) ?_
    · intro w hSw; (try dsimp only at hSw); simp only [List.getElem_toArray, List.getElem_cons_succ, List.getElem_cons_zero]; first | (go_simp; done) | (simp [execOp, Act.eval, hsa]; done)
    (try simp only [List.getElem_toArray, List.getElem_cons_succ, List.getElem_cons_zero, Act.put, List.setIfInBounds_toArray, List.set_cons_succ, List.set_cons_zero])
    refine wpAnyH_take (i := 1) (v := .slice (some ⟨w.heap.size, 0, none⟩) 32 32) rfl (by kernel_rfl) (by kernel_rfl) (by kernel_rfl) (fun _ _ _ h => h) (Or.inl ⟨by rfl, ?_⟩) (by assumption) ?_
    · intro w hSw; (try dsimp only at hSw); simp only [List.getElem_toArray, List.getElem_cons_succ, List.getElem_cons_zero]; first | (go_simp; done) | (simp [execOp, Act.eval, hsa]; done)
    (try simp only [List.getElem_toArray, List.getElem_cons_succ, List.getElem_cons_zero, Act.put, List.setIfInBounds_toArray, List.set_cons_succ, List.set_cons_zero])
    refine wpAnyH_ready (rs := [2]) (by kernel_rfl) (by simp) ?_
    refine AllReadyH.cons rfl (fun K hK => ?_) AllReadyH.nil
    (try simp only [List.getElem_toArray, List.getElem_cons_succ, List.getElem_cons_zero])
    refine Eq.mpr (if_pos (by first | rfl | simp [Region.wanted, yielded, Act.put])) ?_
    refine wp_bsl _ _ _ rfl #[(0, .slice (some ⟨w.heap.size + 1, 0, none⟩) 32 32), (1, .slice (some ⟨w.heap.size, 0, none⟩) 32 32)] (by simp [Act.eval]) (fun W => (.slice (some ⟨W.heap.size, 0, none⟩) 2 2, W.alloc (.cells #[.slice (some ⟨w.heap.size + 1, 0, none⟩) 32 32, .slice (some ⟨w.heap.size, 0, none⟩) 32 32] 23))) B2.out ?_
    (try dsimp only)
    refine hK.out _ _ ?_ (fun hHeld => ?_)
    · trivial
    clear hK K
    (try simp only [Act.put, List.setIfInBounds_toArray, List.set_cons_succ, List.set_cons_zero])
    refine wpAnyH_ready (rs := [3]) (by kernel_rfl) (by simp) ?_
    refine AllReadyH.cons rfl (fun K hK => ?_) AllReadyH.nil
    (try simp only [List.getElem_toArray, List.getElem_cons_succ, List.getElem_cons_zero])
    go_simp
    go_at_call 19; refine CT.out.mono ?_; rintro e' x7 ⟨rfl, d7⟩
    (try (go_wp2_with fail))
    refine hK.out _ _ ?_ (fun hHeld => ?_)
    · trivial
    clear hK K
    (try simp only [Act.put, List.setIfInBounds_toArray, List.set_cons_succ, List.set_cons_zero])
    refine wpAnyH_ready (rs := [4]) (by kernel_rfl) (by simp) ?_
    refine AllReadyH.cons rfl (fun K hK => ?_) AllReadyH.nil
    (try simp only [List.getElem_toArray, List.getElem_cons_succ, List.getElem_cons_zero])
    refine Eq.mpr (if_pos (by first | rfl | simp [Region.wanted, yielded, Act.put])) ?_
    refine wp_store_in 47 (.tmp 6) (.tmp 17) rfl (w.heap.size + 2) z32 Y 47 rfl rfl ((hk2.alloc _).drew.up d7) LY.out IY.out OY.out ?_
    intro x8 hb8 ho8
    refine hK.out _ _ ?_ (fun hHeld => ?_)
    · trivial
    clear hK K
    (try simp only [Act.put, List.setIfInBounds_toArray, List.set_cons_succ, List.set_cons_zero])
    refine wpAnyH_done (by kernel_rfl) ?_ _
    go_wp2
    refine bodyPost_ret (v := .agg Y.toArray) ?_ rfl ?_
    · exact results_one Tryd.results48 _ _ (w.heap.size + 2) 47 _ (0, 0) _ (by rfl) hb8 Tryd.underlying47 rfl IY.out
    · exact ⟨rfl, (below_more (below_dr (below_al hB0 _)) d7).trans (ho8.below (by omega))⟩
end Go.Proofs.YtpoinhjkdgcnaaaDoor
