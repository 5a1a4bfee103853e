/- Merged texts: BrnA Stp BrnB BrnC. -/
import Derived.Test.YtpoinhjkdgcnaaaDoorMav
import Derived.Test.YtpoinhjkdgcnaaaDoorMao
import Derived.Deep.RegionHeld3
import Derived.Test.YtpoinhjkdgcnaaaDoorMal
import Derived.Test.YtpoinhjkdgcnaaaDoorMam
import Derived.Test.YtpoinhjkdgcnaaaDoorMaq
import Derived.Test.YtpoinhjkdgcnaaaDoorMap
import Derived.Test.YtpoinhjkdgcnaaaDoorMat
import Derived.Test.YtpoinhjkdgcnaaaDoorMau
/- The contracts of the document's own Depth and Wide of layer 8, up to 65536, and of Right of layer 9. -/
namespace Go.Proofs.YtpoinhjkdgcnaaaDoor
open Go.RowKit
set_option linter.unusedVariables false
set_option linter.unusedSimpArgs false

set_option maxRecDepth 100000 in
set_option maxHeartbeats 4000000 in
theorem ddepth16_calls (n : Nat) (hn : n ≤ 65536) (w : World) : Calls Tryd.prog 28 #[.int .i64 (n : Int)] w (Ret w (.int .i64 (depth n : Int))) := by
  go_enter Tryd.func28, Tryd.ntmps28
  go_wp2
  go_loopw [3, 4] (fun d k wr => ∃ t : Nat, d = .int .i64 (t : Int) ∧ k = .int .i64 ((2 ^ t : Nat) : Int) ∧ t ≤ 16 ∧ (t = 0 ∨ 2 ^ (t - 1) < n) ∧ Below w.heap.size w wr) (fun d _ _ => 17 - (intOf d).toNat)
  case atStart => exact ⟨0, by first | rfl | go_num, by first | rfl | go_num, by omega, .inl rfl, Below.refl _ w⟩
  case round =>
    obtain ⟨t, rfl, rfl, ht16, hlow, hbel⟩ := hrel
    obtain ⟨p, hp⟩ : ∃ p, p = 2 ^ t := ⟨_, rfl⟩
    rw [← hp]
    have hp64 : p ≤ 65536 := by rw [hp]; have := Nat.pow_le_pow_right (n := 2) (by omega) ht16; omega
    by_cases hlt : p < n
    · have hlt' : (p : Int) < (n : Int) := by omega
      have ht5 : t < 16 := by
        rcases Nat.lt_or_ge t 16 with h | h
        · exact h
        · have : t = 16 := by omega
          rw [this] at hp
          omega
      have HP := Lib.hid (And.intro hp hlow)
      clear hp hlow
      go_wp2
      go_roundw
      case rel =>
        refine ⟨t + 1, by go_num, ?_, by omega, .inr (by rw [Nat.add_sub_cancel, ← HP.out.1]; exact hlt), hbel⟩
        rw [Nat.pow_succ, ← HP.out.1]
        first | rfl | go_num
      case measure => simp [intOf]; omega
    · have hlt' : ¬ (p : Int) < (n : Int) := by omega
      have hd : depth n = t := depth_is n t (by rw [← hp]; omega) hlow
      have HD := Lib.hid hd
      clear hlow hd hp
      go_wp2
      go_ret
      exact ⟨by rw [HD.out]; rfl, hbel⟩
set_option maxRecDepth 100000 in
set_option maxHeartbeats 4000000 in
theorem dwide16_calls (n k : Nat) (hn : n ≤ 65536) (hk : k ≤ 1000) (w : World) : Calls Tryd.prog 29 #[.int .i64 (n : Int), .int .i64 (k : Int)] w (Ret w (.int .i64 (wide n k : Int))) := by
  go_enter Tryd.func29, Tryd.ntmps29
  go_wp2
  go_loopw [0, 5] (fun x i wr => ∃ t : Nat, x = .int .i64 ((wide n t : Nat) : Int) ∧ i = .int .i64 (t : Int) ∧ t ≤ k ∧ wide n t ≤ 65536 ∧ Below w.heap.size w wr) (fun _ i _ => k - (intOf i).toNat)
  case atStart => exact ⟨0, by first | rfl | go_num, by first | rfl | go_num, by omega, hn, Below.refl _ w⟩
  case round =>
    obtain ⟨t, rfl, rfl, htk, hx1000, hbel⟩ := hrel
    by_cases hlt : t < k
    · have hlt' : (t : Int) < (k : Int) := by omega
      obtain ⟨x, hx⟩ : ∃ x, x = wide n t := ⟨_, rfl⟩
      have hx1 : wide n (t + 1) = (x + 1) / 2 := by rw [wide, ← hx]
      obtain ⟨y, hy⟩ : ∃ y, y = (x + 1) / 2 := ⟨_, rfl⟩
      rw [← hx] at hx1000 ⊢
      have q1 : Int.tdiv ((x : Int) + 1) 2 = (y : Int) := by rw [Int.tdiv_eq_ediv_of_nonneg (by omega)]; omega
      have q2 : ((x : Int) + 1) / 2 = (y : Int) := by omega
      have q0 : IntKind.i64.wrap ((x : Int) + 1) = (x : Int) + 1 := by rw [IntKind.wrap_i64]; omega
      have q3 : IntKind.i64.wrap (y : Int) = (y : Int) := by rw [IntKind.wrap_i64]; omega
      have HX := Lib.hid (hx1.trans hy.symm)
      have hy1 : y ≤ 65536 := by omega
      clear hx hx1 hy
      go_wp2
      go_roundw
      case rel => exact ⟨t + 1, by rw [HX.out], by go_num, by omega, by rw [HX.out]; exact hy1, hbel⟩
      case measure => simp [intOf]; omega
    · have e : t = k := by omega
      subst e
      have hlt' : ¬ (t : Int) < (t : Int) := by omega
      go_wp2
      go_ret
      exact ⟨rfl, hbel⟩
set_option maxRecDepth 100000 in
set_option maxHeartbeats 4000000 in
theorem dright_a (c i : Int) (A : Option Addr) (m cap : Nat) (w : World) (h1 : c < 1) : Calls Tryd.prog 32 #[.agg #[.int .i64 c, .int .i64 i, .slice A m cap]] w (Ret w (.int .i64 5)) := by
  go_enter Tryd.func32, Tryd.ntmps32
  go_wp2
  go_ret
  exact ⟨rfl, below_al (Below.refl _ _) _⟩
set_option maxRecDepth 100000 in
set_option maxHeartbeats 4000000 in
theorem dright_b (c i : Int) (A : Option Addr) (m cap : Nat) (w : World) (h1 : ¬ c < 1) (h2 : (65536 : Int) < c) : Calls Tryd.prog 32 #[.agg #[.int .i64 c, .int .i64 i, .slice A m cap]] w (Ret w (.int .i64 5)) := by
  go_enter Tryd.func32, Tryd.ntmps32
  go_wp2
  go_ret
  exact ⟨rfl, below_al (Below.refl _ _) _⟩
set_option maxRecDepth 100000 in
set_option maxHeartbeats 4000000 in
theorem dright_c (c i : Int) (A : Option Addr) (m cap : Nat) (w : World) (h1 : ¬ c < 1) (h2 : ¬ (65536 : Int) < c) (h3 : i < 0) : Calls Tryd.prog 32 #[.agg #[.int .i64 c, .int .i64 i, .slice A m cap]] w (Ret w (.int .i64 5)) := by
  go_enter Tryd.func32, Tryd.ntmps32
  go_wp2
  go_ret
  exact ⟨rfl, below_al (Below.refl _ _) _⟩
set_option maxRecDepth 100000 in
set_option maxHeartbeats 4000000 in
theorem dright_d (c i : Int) (A : Option Addr) (m cap : Nat) (w : World) (h1 : ¬ c < 1) (h2 : ¬ (65536 : Int) < c) (h3 : ¬ i < 0) (h4 : c ≤ i) : Calls Tryd.prog 32 #[.agg #[.int .i64 c, .int .i64 i, .slice A m cap]] w (Ret w (.int .i64 5)) := by
  go_enter Tryd.func32, Tryd.ntmps32
  go_wp2
  go_ret
  exact ⟨rfl, below_al (Below.refl _ _) _⟩
set_option maxRecDepth 100000 in
set_option maxHeartbeats 4000000 in
theorem dright_e (n : Nat) (i : Int) (A : Option Addr) (m cap : Nat) (w : World) (h1 : ¬ (n : Int) < 1) (h2 : ¬ (65536 : Int) < (n : Int)) (h3 : ¬ i < 0) (h4 : ¬ (n : Int) ≤ i) : Calls Tryd.prog 32 #[.agg #[.int .i64 (n : Int), .int .i64 i, .slice A m cap]] w (Ret w (.int .i64 ((if m ≠ depth n then 3 else 0 : Nat) : Int))) := by
  obtain ⟨D, hD⟩ : ∃ D, D = depth n := ⟨_, rfl⟩
  have CD : Hid (∀ W, Calls Tryd.prog 28 #[.int .i64 (n : Int)] W (Ret W (.int .i64 (D : Int)))) := Lib.hid fun W => by rw [hD]; exact ddepth16_calls n (by omega) W
  rw [← hD]
  clear hD
  have hbk : Blk (w.alloc (.cells #[.int .i64 (n : Int), .int .i64 i, .slice A m cap] 40)) w.heap.size [.int .i64 (n : Int), .int .i64 i, .slice A m cap] 40 := Blk.new w _ _
  have hb0 : Below w.heap.size w (w.alloc (.cells #[.int .i64 (n : Int), .int .i64 i, .slice A m cap] 40)) := below_al (Below.refl _ _) _
  go_enter Tryd.func32, Tryd.ntmps32
  go_upto_region 3 with fail
  obtain ⟨w0, hw0⟩ : ∃ x, x = w.alloc (.cells #[.int .i64 (n : Int), .int .i64 i, .slice A m cap] 40) := ⟨_, rfl⟩
  rw [← hw0] at hbk hb0 ⊢
  clear hw0
  have K0 : Hid (∀ W, Below w0.heap.size w0 W → W.cell? ⟨w.heap.size, 2, none⟩ = some (.slice A m cap) ∧ W.cell? ⟨w.heap.size, 0, none⟩ = some (.int .i64 (n : Int))) := Lib.hid fun W h => ⟨(hbk.up h).cell 2, (hbk.up h).cell 0⟩
  by_cases hm : m = D
  · have hm' : (m : Int) = (D : Int) := by omega
    rw [if_neg (by omega)]
    refine wp_region_held_drew (S := fun W => W.cell? ⟨w.heap.size, 2, none⟩ = some (.slice A m cap) ∧ W.cell? ⟨w.heap.size, 0, none⟩ = some (.int .i64 (n : Int))) (by kernel_rfl) ?_ (fun hHeld => ?_)
    · exact K0.out _ (by ((repeat (first | with_reducible assumption | with_reducible exact Below.refl _ _ | with_reducible apply below_al | with_reducible apply below_dr | with_reducible refine below_more ?_ (by assumption)))))
    refine wpAnyH_take (i := 0) (v := ?_) rfl (by kernel_rfl) (by kernel_rfl) (by kernel_rfl) (fun _ _ _ h => h) (Or.inl ⟨by rfl, ?_⟩) (by assumption) ?_
    rotate_left 1
    · intro w hSw; (try dsimp only at hSw); simp only [List.getElem_toArray, List.getElem_cons_succ, List.getElem_cons_zero]; go_simp; try (with_reducible rfl)
    (try simp only [List.getElem_toArray, List.getElem_cons_succ, List.getElem_cons_zero, Act.put, List.setIfInBounds_toArray, List.set_cons_succ, List.set_cons_zero])
    refine wpAnyH_take (i := 1) (v := ?_) rfl (by kernel_rfl) (by kernel_rfl) (by kernel_rfl) (fun _ _ _ h => h) (Or.inl ⟨by rfl, ?_⟩) (by assumption) ?_
    rotate_left 1
    · intro w hSw; (try dsimp only at hSw); simp only [List.getElem_toArray, List.getElem_cons_succ, List.getElem_cons_zero]; go_simp; try (with_reducible rfl)
    (try simp only [List.getElem_toArray, List.getElem_cons_succ, List.getElem_cons_zero, Act.put, List.setIfInBounds_toArray, List.set_cons_succ, List.set_cons_zero])
    refine wpAnyH_take (i := 2) (v := ?_) rfl (by kernel_rfl) (by kernel_rfl) (by kernel_rfl) (fun _ _ _ h => h) (Or.inl ⟨by rfl, ?_⟩) (by assumption) ?_
    rotate_left 1
    · intro w hSw; (try dsimp only at hSw); simp only [List.getElem_toArray, List.getElem_cons_succ, List.getElem_cons_zero]; go_simp; try (with_reducible rfl)
    (try simp only [List.getElem_toArray, List.getElem_cons_succ, List.getElem_cons_zero, Act.put, List.setIfInBounds_toArray, List.set_cons_succ, List.set_cons_zero])
    refine wpAnyH_take (i := 3) (v := ?_) rfl (by kernel_rfl) (by kernel_rfl) (by kernel_rfl) (fun _ _ _ h => h) (Or.inl ⟨by rfl, ?_⟩) (by assumption) ?_
    rotate_left 1
    · intro w hSw; (try dsimp only at hSw); simp only [List.getElem_toArray, List.getElem_cons_succ, List.getElem_cons_zero]; go_simp; try (with_reducible rfl)
    (try simp only [List.getElem_toArray, List.getElem_cons_succ, List.getElem_cons_zero, Act.put, List.setIfInBounds_toArray, List.set_cons_succ, List.set_cons_zero])
    refine wpAnyH_take (i := 4) (v := ?_) rfl (by kernel_rfl) (by kernel_rfl) (by kernel_rfl) (fun _ _ _ h => h) (Or.inl ⟨by rfl, ?_⟩) (by assumption) ?_
    rotate_left 1
    · intro w hSw; (try dsimp only at hSw); simp only [List.getElem_toArray, List.getElem_cons_succ, List.getElem_cons_zero]; go_simp; try (with_reducible rfl)
    (try simp only [List.getElem_toArray, List.getElem_cons_succ, List.getElem_cons_zero, Act.put, List.setIfInBounds_toArray, List.set_cons_succ, List.set_cons_zero])
    refine wpAnyH_ready (rs := [5]) (by kernel_rfl) (by simp) ?_
    refine AllReadyH.cons rfl (fun K hK => ?_) AllReadyH.nil
    (try simp only [List.getElem_toArray, List.getElem_cons_succ, List.getElem_cons_zero])
    go_simp
    go_at_call 28; refine (CD.out _).mono ?_; rintro e' x5 ⟨rfl, d5⟩
    (try (go_wp2_with fail))
    refine hK.out _ _ ?_ (fun hHeld => ?_)
    · exact K0.out _ (by ((repeat (first | with_reducible assumption | with_reducible exact Below.refl _ _ | with_reducible apply below_al | with_reducible apply below_dr | with_reducible refine below_more ?_ (by assumption)))))
    clear hK K
    (try simp only [Act.put, List.setIfInBounds_toArray, List.set_cons_succ, List.set_cons_zero])
    refine wpAnyH_take (i := 6) (v := ?_) rfl (by kernel_rfl) (by kernel_rfl) (by kernel_rfl) (fun _ _ _ h => h) (Or.inl ⟨by rfl, ?_⟩) (by assumption) ?_
    rotate_left 1
    · intro w hSw; (try dsimp only at hSw); simp only [List.getElem_toArray, List.getElem_cons_succ, List.getElem_cons_zero]; go_simp; try (with_reducible rfl)
    (try simp only [List.getElem_toArray, List.getElem_cons_succ, List.getElem_cons_zero, Act.put, List.setIfInBounds_toArray, List.set_cons_succ, List.set_cons_zero])
    refine wpAnyH_done (by kernel_rfl) ?_ _
    go_wp2
    go_ret
    exact ⟨rfl, below_more hb0 (by ((repeat (first | with_reducible assumption | with_reducible exact Below.refl _ _ | with_reducible apply below_al | with_reducible apply below_dr | with_reducible refine below_more ?_ (by assumption)))))⟩
  · have hm' : ¬ (m : Int) = (D : Int) := by omega
    rw [if_pos hm]
    refine wp_region_held_drew (S := fun W => W.cell? ⟨w.heap.size, 2, none⟩ = some (.slice A m cap) ∧ W.cell? ⟨w.heap.size, 0, none⟩ = some (.int .i64 (n : Int))) (by kernel_rfl) ?_ (fun hHeld => ?_)
    · exact K0.out _ (by ((repeat (first | with_reducible assumption | with_reducible exact Below.refl _ _ | with_reducible apply below_al | with_reducible apply below_dr | with_reducible refine below_more ?_ (by assumption)))))
    refine wpAnyH_take (i := 0) (v := ?_) rfl (by kernel_rfl) (by kernel_rfl) (by kernel_rfl) (fun _ _ _ h => h) (Or.inl ⟨by rfl, ?_⟩) (by assumption) ?_
    rotate_left 1
    · intro w hSw; (try dsimp only at hSw); simp only [List.getElem_toArray, List.getElem_cons_succ, List.getElem_cons_zero]; go_simp; try (with_reducible rfl)
    (try simp only [List.getElem_toArray, List.getElem_cons_succ, List.getElem_cons_zero, Act.put, List.setIfInBounds_toArray, List.set_cons_succ, List.set_cons_zero])
    refine wpAnyH_take (i := 1) (v := ?_) rfl (by kernel_rfl) (by kernel_rfl) (by kernel_rfl) (fun _ _ _ h => h) (Or.inl ⟨by rfl, ?_⟩) (by assumption) ?_
    rotate_left 1
    · intro w hSw; (try dsimp only at hSw); simp only [List.getElem_toArray, List.getElem_cons_succ, List.getElem_cons_zero]; go_simp; try (with_reducible rfl)
    (try simp only [List.getElem_toArray, List.getElem_cons_succ, List.getElem_cons_zero, Act.put, List.setIfInBounds_toArray, List.set_cons_succ, List.set_cons_zero])
    refine wpAnyH_take (i := 2) (v := ?_) rfl (by kernel_rfl) (by kernel_rfl) (by kernel_rfl) (fun _ _ _ h => h) (Or.inl ⟨by rfl, ?_⟩) (by assumption) ?_
    rotate_left 1
    · intro w hSw; (try dsimp only at hSw); simp only [List.getElem_toArray, List.getElem_cons_succ, List.getElem_cons_zero]; go_simp; try (with_reducible rfl)
    (try simp only [List.getElem_toArray, List.getElem_cons_succ, List.getElem_cons_zero, Act.put, List.setIfInBounds_toArray, List.set_cons_succ, List.set_cons_zero])
    refine wpAnyH_take (i := 3) (v := ?_) rfl (by kernel_rfl) (by kernel_rfl) (by kernel_rfl) (fun _ _ _ h => h) (Or.inl ⟨by rfl, ?_⟩) (by assumption) ?_
    rotate_left 1
    · intro w hSw; (try dsimp only at hSw); simp only [List.getElem_toArray, List.getElem_cons_succ, List.getElem_cons_zero]; go_simp; try (with_reducible rfl)
    (try simp only [List.getElem_toArray, List.getElem_cons_succ, List.getElem_cons_zero, Act.put, List.setIfInBounds_toArray, List.set_cons_succ, List.set_cons_zero])
    refine wpAnyH_take (i := 4) (v := ?_) rfl (by kernel_rfl) (by kernel_rfl) (by kernel_rfl) (fun _ _ _ h => h) (Or.inl ⟨by rfl, ?_⟩) (by assumption) ?_
    rotate_left 1
    · intro w hSw; (try dsimp only at hSw); simp only [List.getElem_toArray, List.getElem_cons_succ, List.getElem_cons_zero]; go_simp; try (with_reducible rfl)
    (try simp only [List.getElem_toArray, List.getElem_cons_succ, List.getElem_cons_zero, Act.put, List.setIfInBounds_toArray, List.set_cons_succ, List.set_cons_zero])
    refine wpAnyH_ready (rs := [5]) (by kernel_rfl) (by simp) ?_
    refine AllReadyH.cons rfl (fun K hK => ?_) AllReadyH.nil
    (try simp only [List.getElem_toArray, List.getElem_cons_succ, List.getElem_cons_zero])
    go_simp
    go_at_call 28; refine (CD.out _).mono ?_; rintro e' x5 ⟨rfl, d5⟩
    (try (go_wp2_with fail))
    refine hK.out _ _ ?_ (fun hHeld => ?_)
    · exact K0.out _ (by ((repeat (first | with_reducible assumption | with_reducible exact Below.refl _ _ | with_reducible apply below_al | with_reducible apply below_dr | with_reducible refine below_more ?_ (by assumption)))))
    clear hK K
    (try simp only [Act.put, List.setIfInBounds_toArray, List.set_cons_succ, List.set_cons_zero])
    refine wpAnyH_take (i := 6) (v := ?_) rfl (by kernel_rfl) (by kernel_rfl) (by kernel_rfl) (fun _ _ _ h => h) (Or.inl ⟨by rfl, ?_⟩) (by assumption) ?_
    rotate_left 1
    · intro w hSw; (try dsimp only at hSw); simp only [List.getElem_toArray, List.getElem_cons_succ, List.getElem_cons_zero]; go_simp; try (with_reducible rfl)
    (try simp only [List.getElem_toArray, List.getElem_cons_succ, List.getElem_cons_zero, Act.put, List.setIfInBounds_toArray, List.set_cons_succ, List.set_cons_zero])
    refine wpAnyH_done (by kernel_rfl) ?_ _
    go_wp2
    go_ret
    exact ⟨rfl, below_more hb0 (by ((repeat (first | with_reducible assumption | with_reducible exact Below.refl _ _ | with_reducible apply below_al | with_reducible apply below_dr | with_reducible refine below_more ?_ (by assumption)))))⟩
set_option maxRecDepth 100000 in
theorem dright_calls (c i : Int) (A : Option Addr) (m cap : Nat) (w : World) : Calls Tryd.prog 32 #[.agg #[.int .i64 c, .int .i64 i, .slice A m cap]] w (Ret w (.int .i64 (rgt c i m : Int))) := by
  unfold rgt
  by_cases h1 : c < 1
  · rw [if_pos (.inl h1)]; exact dright_a c i A m cap w h1
  by_cases h2 : (65536 : Int) < c
  · rw [if_pos (.inr (.inl h2))]; exact dright_b c i A m cap w h1 h2
  by_cases h3 : i < 0
  · rw [if_pos (.inr (.inr (.inl h3)))]; exact dright_c c i A m cap w h1 h2 h3
  by_cases h4 : c ≤ i
  · rw [if_pos (.inr (.inr (.inr h4)))]; exact dright_d c i A m cap w h1 h2 h3 h4
  rw [if_neg (by omega)]
  obtain ⟨n, rfl⟩ : ∃ n : Nat, c = (n : Int) := ⟨c.toNat, by omega⟩
  rw [Int.toNat_natCast]
  exact dright_e n i A m cap w h1 h2 h3 h4
end Go.Proofs.YtpoinhjkdgcnaaaDoor

/- Steps that name the world behind: a new variable of an array or a struct, in plain and in drawn regions. -/
namespace Go.Proofs.YtpoinhjkdgcnaaaDoor
open Go.RowKit
set_option linter.unusedVariables false

set_option maxRecDepth 100000 in
theorem run_allocT {P : Program} (T : TypeId) (Z : List Value) (hz : (P.info? T).map (·.zero) = some (some (.agg Z.toArray))) (W : World) : (Instr.alloc T true (.tuple #[])).run P W = .ok (.pointer (some ⟨W.heap.size, 0, none⟩)) (W.alloc (.cells Z.toArray T)) := by
  obtain ⟨i, hi, hzz⟩ := Option.map_eq_some_iff.1 hz
  simp [Instr.alloc, zeroValue, typeInfo, hi, hzz, newVar, newRow, Value.cells]
set_option maxRecDepth 100000 in
/-- A new variable. -/
theorem wp_allocT {P : Program} {o : Oper} {a : Act} {W : World} {K : Act → World → Prop} {Q : Exit → Act → World → Prop} (T : TypeId) (Z : List Value) (hz : (P.info? T).map (·.zero) = some (some (.agg Z.toArray))) (ho : o.op = .alloc T) (base : Nat) (w : World) (hb : Below base w W) (hbase : base ≤ w.heap.size)
    (h : ∀ g w', Blk w' g Z T → W.heap.size ≤ g → g < w'.heap.size → Frm (fun _ => False) W w' → Below base w w' → K (a.put o.dst (.pointer (some ⟨g, 0, none⟩))) w') : o.wp P a W K Q := by
  unfold Oper.wp execOp
  simp only [ho, Sem.run_bind, run_allocT T Z hz, Result.andThen_ok]
  exact h W.heap.size _ (Blk.new W _ _) (Nat.le_refl _) (by simp) (Frm.of_below ((Below.refl _ W).alloc (Nat.le_refl _) _)) (hb.alloc (Nat.le_trans hbase hb.size) _)
set_option maxRecDepth 100000 in
theorem wpList_allocT {P : Program} {ops : Array Oper} {rest : List Oper} {o : Oper} {a : Act} {W : World} {Q : Exit → Act → World → Prop} (hgd : o.guard = none) (T : TypeId) (Z : List Value) (hz : (P.info? T).map (·.zero) = some (some (.agg Z.toArray))) (ho : o.op = .alloc T) (base : Nat) (w : World) (hb : Below base w W) (hbase : base ≤ w.heap.size)
    (h : ∀ g w', Blk w' g Z T → W.heap.size ≤ g → g < w'.heap.size → Frm (fun _ => False) W w' → Below base w w' → wpList P ops Q rest (a.put o.dst (.pointer (some ⟨g, 0, none⟩))) w') : wpList P ops Q (o :: rest) a W :=
  wpList_plain hgd fun _ hK => wp_allocT T Z hz ho base w hb hbase (fun g w' h1 h2 h3 h4 h5 => hK _ _ (h g w' h1 h2 h3 h4 h5))
set_option maxRecDepth 100000 in
theorem at_alloc {P : Program} {ops : Array Oper} {rest : List Oper} {Q : Exit → Act → World → Prop} {a : Act} {w : World} {dst : Option Tmp} {t : TypeId} {p : String} {af : Array Edge} (ty : TypeId)
    (h : wpList P ops Q ({ dst := dst, op := .alloc ty, type := t, pos := p, after := af, guard := none } :: rest) a w) : wpList P ops Q ({ dst := dst, op := .alloc ty, type := t, pos := p, after := af, guard := none } :: rest) a w := h
set_option maxRecDepth 100000 in
theorem at_bldZ {P : Program} {ops : Array Oper} {rest : List Oper} {Q : Exit → Act → World → Prop} {a : Act} {w : World} {dst : Option Tmp} {t : TypeId} {p : String} {af : Array Edge} (ty : TypeId) (parts : Array (Nat × Operand))
    (h : wpList P ops Q ({ dst := dst, op := .build ty parts, type := t, pos := p, after := af, guard := none } :: rest) a w) : wpList P ops Q ({ dst := dst, op := .build ty parts, type := t, pos := p, after := af, guard := none } :: rest) a w := h
set_option maxRecDepth 100000 in
/-- A cell of a struct or an array is stored. -/
theorem run_storeAt_cell {P : Program} {w : World} {g off : Nat} {cs : List Value} {t : TypeId} (ty : TypeId) (v : Value) (hb : Blk w g cs t) (hoff : off < cs.length) (hi : (P.info? ty).map (·.size) = some 1) (h1 : v.oneCell' = true) (hc : v.cells = #[v]) :
    (Instr.storeAt ty (.pointer (some ⟨g, off, none⟩)) v).run P w = .ok () (w.setCell ⟨g, off, none⟩ v) := by
  have ht := hb.there off 1 (by omega)
  have := run_storeCells_cells (P := P) g off [v] 0 w (fun j hj => by simpa using (ht j (by simpa using hj)).1) (fun j hj => by simpa using (ht j (by simpa using hj)).2) (fun u hu => by simp at hu; rw [hu]; exact h1)
  obtain ⟨i, hq, hs⟩ := Option.map_eq_some_iff.1 hi
  simp only [Nat.add_zero] at this
  simp [Instr.storeAt, Instr.sureAddr, storeVar, sizeOf, typeInfo, hq, hc, hs, this, World.setCells]
set_option maxRecDepth 100000 in
theorem wp_storeC {P : Program} {o : Oper} {a : Act} {W : World} {K : Act → World → Prop} {Q : Exit → Act → World → Prop} (ty : TypeId) (x y : Operand) (ho : o.op = .store ty x y) (g off : Nat) (v : Value) (cs : List Value) (t : TypeId) (hx : a.eval x = .pointer (some ⟨g, off, none⟩)) (hy : a.eval y = v)
    (hb : Blk W g cs t) (hoff : off < cs.length) (hi : (P.info? ty).map (·.size) = some 1) (h1 : v.oneCell' = true) (hc : v.cells = #[v]) (h : ∀ w2, Blk w2 g (cs.set off v) t → Only g W w2 → K (a.put o.dst undef) w2) : o.wp P a W K Q := by
  unfold Oper.wp execOp
  simp only [ho, hx, hy, Sem.run_bind, Sem.run_pure, run_storeAt_cell ty v hb hoff hi h1 hc, Result.andThen_ok]
  exact h _ (hb.set off v) ((Only.refl g W).set off v)
end Go.Proofs.YtpoinhjkdgcnaaaDoor

/- The contract of the document's own Up of layer 9. -/
namespace Go.Proofs.YtpoinhjkdgcnaaaDoor
open Go.RowKit
set_option linter.unusedVariables false
set_option linter.unusedSimpArgs false

set_option maxRecDepth 100000 in
theorem Blk.stepF {w w' : World} {g : Nat} {cs : List Value} {t : TypeId} (h : Blk w g cs t) (hf : Frm (fun _ => False) w w') : Blk w' g cs t := hf.blk h (fun h => h)
set_option maxRecDepth 100000 in
theorem I32 : (Tryd.prog.info? 46).map (·.size) = some z32.length := by kernel_rfl
set_option maxRecDepth 100000 in
theorem O32 : ∀ v ∈ z32, v.oneCell' = true := by rw [show z32 = (List.replicate 32 (0 : UInt8)).map B8 from rfl]; exact b8_one _
set_option maxRecDepth 100000 in
theorem BZ (W : World) : (Instr.build 46 #[]).run Tryd.prog W = .ok (.agg z32.toArray) W := run_build W _ _ _ (by kernel_rfl)
end Go.Proofs.YtpoinhjkdgcnaaaDoor

/- The contracts of the document's own Make of layer 9. -/
namespace Go.Proofs.YtpoinhjkdgcnaaaDoor
open Go.RowKit
set_option linter.unusedVariables false
set_option linter.unusedSimpArgs false

set_option maxRecDepth 100000 in
theorem wp_bs1R {o : Oper} {a : Act} {W : World} {K : Act → World → Prop} {Q : Exit → Act → World → Prop} (x : Operand) (ho : o.op = .buildSlice 38 1 #[(0, x)]) (V : List Value) (hx : a.eval x = .agg V.toArray) (hV : V.length = 32)
    (h : ∀ g w', Blk w' g V 46 → W.heap.size ≤ g → g < w'.heap.size → Frm (fun _ => False) W w' → Below W.heap.size W w' → K (a.put o.dst (.slice (some ⟨g, 0, none⟩) 1 1)) w') : o.wp Tryd.prog a W K Q := by
  unfold Oper.wp execOp
  simp only [ho, List.map_toArray, List.map_cons, List.map_nil, hx, Sem.run_bind, run_bs 38 46 Tryd.underlying38 infoR V hV W, Result.andThen_ok]
  exact h W.heap.size _ (Blk.new W _ _) (Nat.le_refl _) (by simp) (Frm.of_below ((Below.refl _ W).alloc (Nat.le_refl _) _)) ((Below.refl _ W).alloc (Nat.le_refl _) _)
set_option maxRecDepth 100000 in
/-- append of one hash, with all that stays. -/
theorem wp_appHF {P : Program} {o : Oper} {a : Act} {w : World} {K : Act → World → Prop} {Q : Exit → Act → World → Prop} (s x : Operand) (t e : TypeId) (ho : o.op = .call { callee := .builtin .append, args := #[s, x], argTypes := #[t, t] })
    (ht : P.underlying t = some (.slice e)) (hinfo : (P.info? e).map (fun i => (i.zero, i.size, i.bytes)) = some (some (.agg z32.toArray), 32, 32))
    (base : Nat) (A : Option Addr) (n c : Nat) (L : List (List UInt8)) (hs : a.eval s = .slice A n c) (hown : OwnH w base e A n c L) (l : List UInt8) (V : List Value) (hV : V = l.map B8) (g : Nat) (hx : a.eval x = .slice (some ⟨g, 0, none⟩) 1 1) (hl : l.length = 32) (hb : Blk w g V e)
    (hn : n ≤ 1000000) (hbase : base ≤ w.heap.size) (h : ∀ A' c' w', OwnH w' base e A' (n + 1) c' (L ++ [l]) → True → Below base w w' → K (a.put o.dst (.slice A' (n + 1) c')) w') : o.wp P a w K Q :=
  wp_appH s x t e ho ht hinfo base A n c L hs hown l hl g hx V hV hb hn hbase (fun A' c' w' h1 h2 => h A' c' w' h1 trivial h2)
set_option maxRecDepth 100000 in
theorem OwnH.only {w w2 : World} {b n c g : Nat} {e : TypeId} {A : Option Addr} {L : List (List UInt8)} (h : OwnH w b e A n c L) (ho : Only g w w2) (hg : g < b) : OwnH w2 b e A n c L := by
  obtain ⟨h1, h2, h3, h4⟩ := h
  refine ⟨h1, h2, h3, ?_⟩
  rcases h4 with h | ⟨g', cap, cur, e1, e2, e3, e4⟩
  · exact .inl h
  · exact .inr ⟨g', cap, cur, e1, e2, (ho.block g' (by omega)).trans e3, e4⟩
set_option maxRecDepth 100000 in
theorem OwnH.blkge {w : World} {b n c g : Nat} {e : TypeId} {A : Option Addr} {L : List (List UInt8)} (h : OwnH w b e A n c L) (hg : blkOf A = some g) : b ≤ g := by
  rcases h.2.2.2 with ⟨hv, _⟩ | ⟨g', cap, cur, hv, hb, _⟩
  · injection hv with e1; rw [e1] at hg; simp [blkOf] at hg
  · injection hv with e1
    rw [e1] at hg
    have : g' = g := by simpa [blkOf] using hg
    omega
set_option maxRecDepth 100000 in
theorem Z3o : (Tryd.prog.info? 40).map (·.zero) = some (some (.agg #[.int .i64 0, .int .i64 0, .slice none 0 0])) := by kernel_rfl
set_option maxRecDepth 100000 in
theorem I3o : (Tryd.prog.info? 40).map (·.size) = some 3 := by kernel_rfl
end Go.Proofs.YtpoinhjkdgcnaaaDoor
