/- The contracts of wide.Mul and Div. -/
import Derived.Test.YthbbeknbdgkpkaaWidU
import Derived.Test.YthbbeknbdgkpkaaWidE
namespace Go.Proofs.Ythbbeknbdgkpkaa
open Go.RowKit
set_option linter.unusedVariables false

theorem add64_run0 (x y s d : Nat) (hs : (x + y) % 2 ^ 64 = s) (hd : (x + y) / 2 ^ 64 = d) (w : World) :
    (callFunc 39 #[.int .u64 (x : Int), .int .u64 (y : Int), .int .u64 0]).run Try.prog w = .ok (.value (.tuple #[.int .u64 (s : Int), .int .u64 (d : Int)])) w :=
  add64_run x y 0 s d (by omega) hs hd w
/-- The letters of a round of Mul. -/
theorem mul_round (x n t : Nat) (hn : n < 2 ^ 64) : ∃ low S c : Nat, low = wd x t * n % 2 ^ 64 ∧ (low + hiM x n t) % 2 ^ 64 = S ∧ (low + hiM x n t) / 2 ^ 64 = c ∧ S = wd (x * n) t ∧ IntKind.u64.wrap ((hi64 (wd x t) n : Int) + (c : Int)) = (hiM x n (t + 1) : Int) := by
  refine ⟨_, _, _, rfl, rfl, rfl, ?_, ?_⟩
  · rw [wd_mul]; omega
  · have h := hiM_lt x n (t + 1) hn
    rw [hiM_succ] at h ⊢
    unfold hi64
    generalize wd x t * n = p at *
    generalize hiM x n t = H at *
    rw [IntKind.wrap_u64]
    omega

set_option maxHeartbeats 4000000 in
theorem mul_calls (x n : Nat) (w : World) (hx : x < 2 ^ 256) (hn : n < 2 ^ 64) :
    Calls Try.prog 21 #[.agg (uA x), .int .u64 (n : Int)] w (Ret w (.tuple #[.agg (uA (x * n)), .int .u64 ((x * n / 2 ^ 256 : Nat) : Int)])) := by
  have HW : Hid (∀ t, ∃ low S c : Nat, low = wd x t * n % 2 ^ 64 ∧ (low + hiM x n t) % 2 ^ 64 = S ∧ (low + hiM x n t) / 2 ^ 64 = c ∧ S = wd (x * n) t ∧ IntKind.u64.wrap ((hi64 (wd x t) n : Int) + (c : Int)) = (hiM x n (t + 1) : Int)) := Lib.hid fun t => mul_round x n t hn
  have H4 := Lib.hid (hiM_four x n hx)
  have H0 := Lib.hid (hiM_zero x n)
  have CM : Hid (∀ t W, Calls Try.prog 43 #[.int .u64 (wd x t : Int), .int .u64 (n : Int)] W fun e w' => e = .returned (.tuple #[.int .u64 (hi64 (wd x t) n : Int), .int .u64 ((wd x t * n % 2 ^ 64 : Nat) : Int)]) ∧ W = w') := Lib.hid fun t W => mul64_calls (wd x t) n W (wd_lt _ _) hn
  obtain ⟨C, hC⟩ : ∃ C, C = hiM x n := ⟨_, rfl⟩
  obtain ⟨N, hN⟩ : ∃ N, N = x * n := ⟨_, rfl⟩
  rw [← hC, ← hN] at HW
  rw [← hC] at H0
  rw [← hC, ← hN] at H4
  rw [← hN]
  obtain ⟨V, hV⟩ : ∃ V, V = uA N := ⟨_, rfl⟩
  obtain ⟨U, hU⟩ : ∃ U, U = N / 2 ^ 256 := ⟨_, rfl⟩
  rw [← hV, ← hU]
  rw [← hU] at H4
  have HV := Lib.hid hV
  unfold uA
  clear hx hn hV hC hN hU
  go_enter Try.func21, Try.ntmps21
  go_wp2
  go_loopw [7, 13] (fun c i wr => ∃ (t : Nat) (f : Nat → Nat), t ≤ 4 ∧ i = .int .i64 (t : Int) ∧ c = .int .u64 (C t : Int) ∧ Blk wr w.heap.size (cellsW (wd x)) 24 ∧ Blk wr (w.heap.size + 1) zerosW 24 ∧ Blk wr (w.heap.size + 1 + 1) (cellsW f) 24 ∧ Hid (∀ j, j < t → f j = wd N j) ∧ Below w.heap.size w wr) (fun _ i _ => 4 - (intOf i).toNat)
  case atStart =>
    exact ⟨0, fun _ => 0, by omega, rfl, by rw [H0.out]; rfl, ((Blk.new w _ _).alloc _).alloc _, (Blk.new' (w.alloc _) _ _ _ (by simp)).alloc _, Blk.new' ((w.alloc _).alloc _) _ _ _ (by simp), fun j hj => absurd hj (by omega), (((Below.refl _ w).alloc (Nat.le_refl _) _).alloc (by simp) _).alloc (by simp <;> omega) _⟩
  case round =>
    obtain ⟨t, f, ht, rfl, rfl, hbx, hbz, hbs, HF, hbel⟩ := hrel
    by_cases hlt : t < 4
    · obtain ⟨low, S, d, w1, w2, w3, w4, w5⟩ := HW.out t
      have CMt := CM.out t wr
      rw [← w1] at CMt
      obtain ⟨c, hc⟩ : ∃ c, c = C t := ⟨_, rfl⟩
      obtain ⟨X, hX⟩ : ∃ X, X = wd x t := ⟨_, rfl⟩
      obtain ⟨up, hup⟩ : ∃ up, up = hi64 X n := ⟨_, rfl⟩
      obtain ⟨c2, hc2⟩ : ∃ c2, c2 = C (t + 1) := ⟨_, rfl⟩
      rw [← hX, ← hup] at CMt
      rw [← hX, ← hup, ← hc2] at w5
      rw [← hc] at w2 w3
      have CT := Lib.hid CMt
      have hrun := fun W => add64_run0 low c S d w2 w3 W
      have cx := hbx.cell t
      rw [cellsW_at _ t hlt, ← hX] at cx
      have cs := hbs.cell t
      rw [cellsW_at _ t hlt] at cs
      have fs := hbs.free t
      have bt : (t : Int) < 4 := by omega
      have R : Hid (Blk (wr.setCell ⟨w.heap.size + 1 + 1, t, none⟩ (.int .u64 (S : Int))) w.heap.size (cellsW (wd x)) 24 ∧ Blk (wr.setCell ⟨w.heap.size + 1 + 1, t, none⟩ (.int .u64 (S : Int))) (w.heap.size + 1) zerosW 24 ∧ Blk (wr.setCell ⟨w.heap.size + 1 + 1, t, none⟩ (.int .u64 (S : Int))) (w.heap.size + 1 + 1) (cellsW (upd f t S)) 24 ∧ Below w.heap.size w (wr.setCell ⟨w.heap.size + 1 + 1, t, none⟩ (.int .u64 (S : Int)))) := Lib.hid
        ⟨hbx.set_other _ _ (by simp <;> omega), hbz.set_other _ _ (by simp), by rw [← cellsW_set f t S hlt]; exact hbs.set t _, hbel.setCell (by simp <;> omega) _⟩
      have HN : Hid (∀ j, j < t + 1 → upd f t S j = wd N j) := Lib.hid fun j hj => by
        by_cases h : j = t
        · rw [h, upd_same, w4]
        · rw [upd_other _ _ _ _ h]; exact HF.out j (by omega)
      have HD := Lib.hid hc2
      rw [← hc]
      clear hbx hbz hbs hbel hc hX hc2 hup w1 w2 w3 w4 CMt
      go_wp2_with (go_at_call 43; refine CT.out.mono ?_; rintro e' w' ⟨rfl, rfl⟩)
      exact ⟨⟨t + 1, upd f t S, by omega, by go_num, by rw [HD.out], R.out.1, R.out.2.1, R.out.2.2.1, HN, R.out.2.2.2⟩, by simp [intOf]; omega⟩
    · have e : t = 4 := by omega
      subst e
      have hc := H4.out
      rw [hc]
      have hcells : cellsW f = V.toList := by rw [HV.out, uA_list]; exact cellsW_ext _ _ HF.out
      have HC := Lib.hid hcells
      have HB := Lib.hid (And.intro hbs (And.intro hbz hbel))
      clear hbx hbz hbs hbel hc hcells
      go_wp2_with (first
        | (refine at_load 24 (.tmp 6) ?_; refine wpList_load_mid rfl 24 (.tmp 6) rfl (w.heap.size + 1 + 1) 0 rfl (cellsW f) _ HB.out.1.range Try.underlying24 rfl (sizeW f) ?_)
        | (refine at_store 24 (.tmp 4) (.tmp 37) ?_; refine wpList_store_blk rfl 24 (.tmp 4) (.tmp 37) rfl (w.heap.size + 1) zerosW (cellsW f) _ rfl rfl HB.out.2.1 rfl (sizeW f) (cellsW_one f) ?_; intro w3 hb9 ho9))
      refine bodyPost_ret (v := .tuple #[.agg V, .int .u64 (U : Int)]) ?_ rfl ⟨rfl, HB.out.2.2.trans (ho9.below (by omega))⟩
      rw [HC.out] at hb9
      exact results_row_tmp Try.results21 _ _ (w.heap.size + 1) 24 _ (0, 0) _ _ (by rfl) (by rfl) hb9 Try.underlying24 rfl (by rw [HV.out, uA_size]; exact sizeU)

theorem uA_zero : uA 0 = #[.int .u64 0, .int .u64 0, .int .u64 0, .int .u64 0] := rfl
set_option maxHeartbeats 4000000 in
theorem div0_calls (x : Nat) (w : World) :
    Calls Try.prog 26 #[.agg (uA x), .int .u64 0] w (Ret w (.tuple #[.agg (uA 0), .int .u64 0])) := by
  have H1 : Hid (Blk ((w.alloc (.cells (uA x) 24)).alloc (.cells (uA 0) 24)) (w.heap.size + 1) zerosW 24 ∧ Below w.heap.size w ((w.alloc (.cells (uA x) 24)).alloc (.cells (uA 0) 24))) := Lib.hid ⟨Blk.new' (w.alloc _) _ _ _ (by simp), ((Below.refl _ w).alloc (Nat.le_refl _) _).alloc (by simp) _⟩
  rw [uA_zero] at *
  unfold uA at *
  go_enter Try.func26, Try.ntmps26
  go_wp2_with (refine at_store 24 (.tmp 4) (.tmp 12) ?_; refine wpList_store_blk rfl 24 (.tmp 4) (.tmp 12) rfl (w.heap.size + 1) zerosW zerosW _ rfl rfl H1.out.1 rfl (sizeW (fun _ => 0)) (cellsW_one (fun _ => 0)) ?_; intro w3 hb9 ho9)
  refine bodyPost_ret (v := .tuple #[.agg #[.int .u64 0, .int .u64 0, .int .u64 0, .int .u64 0], .int .u64 0]) ?_ rfl ⟨rfl, H1.out.2.trans (ho9.below (by omega))⟩
  exact results_row_tmp Try.results26 _ _ (w.heap.size + 1) 24 _ (0, 0) _ _ (by rfl) (by rfl) hb9 Try.underlying24 rfl sizeU

set_option maxHeartbeats 4000000 in
theorem div_calls (x n : Nat) (w : World) (hx : x < 2 ^ 256) (hn : n < 2 ^ 64) (hn0 : n ≠ 0) :
    Calls Try.prog 26 #[.agg (uA x), .int .u64 (n : Int)] w (Ret w (.tuple #[.agg (uA (x / n)), .int .u64 ((x % n : Nat) : Int)])) := by
  have CD : Hid (∀ t r W, r = x / 2 ^ (64 * (t + 1)) % n → Calls Try.prog 44 #[.int .u64 (r : Int), .int .u64 (wd x t : Int), .int .u64 (n : Int)] W fun e w' => ∃ k, e = .returned (.tuple #[.int .u64 (wd (x / n) t : Int), .int .u64 ((x / 2 ^ (64 * t) % n : Nat) : Int)]) ∧ w' = W.drewN k) := Lib.hid fun t r W hr => by
    have hd := div_word x n t (by omega) r hr
    have hc := div64_calls r (wd x t) n W (wd_lt _ _) (by rw [hr]; exact Nat.mod_lt _ (by omega)) hn
    rw [hd.1, hd.2] at hc
    exact hc
  obtain ⟨C, hC⟩ : ∃ C : Nat → Nat, C = fun t => x / 2 ^ (64 * t) % n := ⟨_, rfl⟩
  have CE : Hid (∀ t r W, r = C (t + 1) → Calls Try.prog 44 #[.int .u64 (r : Int), .int .u64 (wd x t : Int), .int .u64 (n : Int)] W fun e w' => ∃ k, e = .returned (.tuple #[.int .u64 (wd (x / n) t : Int), .int .u64 (C t : Int)]) ∧ w' = W.drewN k) := Lib.hid fun t r W hr => by
    have h := CD.out t r W (by rw [hr, hC])
    rw [hC]
    exact h
  have H0 : Hid (C 0 = x % n) := Lib.hid (by rw [hC]; simp)
  have H4 : Hid (C 4 = 0) := Lib.hid (by rw [hC]; show x / 2 ^ 256 % n = 0; rw [Nat.div_eq_of_lt hx, Nat.zero_mod])
  obtain ⟨N, hN⟩ : ∃ N, N = x / n := ⟨_, rfl⟩
  rw [← hN] at CE
  obtain ⟨V, hV⟩ : ∃ V, V = uA N := ⟨_, rfl⟩
  obtain ⟨U, hU⟩ : ∃ U, U = x % n := ⟨_, rfl⟩
  rw [← hU] at H0
  rw [← hN, ← hV, ← hU]
  have HV := Lib.hid hV
  have nb : ((n : Int) == 0) = false := by simp; omega
  have nn : ¬ (n : Int) = 0 := by omega
  unfold uA
  clear hx hn hV hC hN hU CD hn0
  go_enter Try.func26, Try.ntmps26
  go_wp2
  go_loopw [7, 13] (fun c i wr => ∃ (t : Nat) (f : Nat → Nat), t ≤ 4 ∧ i = .int .i64 (t : Int) ∧ c = .int .u64 (C (4 - t) : Int) ∧ Blk wr w.heap.size (cellsW (wd x)) 24 ∧ Blk wr (w.heap.size + 1) zerosW 24 ∧ Blk wr (w.heap.size + 1 + 1) (cellsW f) 24 ∧ Hid (∀ j, 4 - t ≤ j → j < 4 → f j = wd N j) ∧ Below w.heap.size w wr) (fun _ i _ => 4 - (intOf i).toNat)
  case atStart =>
    exact ⟨0, fun _ => 0, by omega, rfl, by rw [Nat.sub_zero, H4.out]; rfl, ((Blk.new w _ _).alloc _).alloc _, (Blk.new' (w.alloc _) _ _ _ (by simp)).alloc _, Blk.new' ((w.alloc _).alloc _) _ _ _ (by simp), fun j hj h4 => absurd h4 (by omega), (((Below.refl _ w).alloc (Nat.le_refl _) _).alloc (by simp) _).alloc (by simp <;> omega) _⟩
  case round =>
    obtain ⟨t, f, ht, rfl, rfl, hbx, hbz, hbs, HF, hbel⟩ := hrel
    by_cases hlt : t < 4
    · obtain ⟨a, ha⟩ : ∃ a, a = 3 - t := ⟨_, rfl⟩
      have ha4 : a < 4 := by omega
      have e1 : 4 - t = a + 1 := by omega
      rw [e1]
      have e2 : 3 - (t : Int) = (a : Int) := by omega
      have e3 : IntKind.i64.wrap (3 - (t : Int)) = (a : Int) := by rw [IntKind.wrap_i64]; omega
      obtain ⟨c, hc⟩ : ∃ c, c = C (a + 1) := ⟨_, rfl⟩
      have CMt := CE.out a c wr hc
      obtain ⟨X, hX⟩ : ∃ X, X = wd x a := ⟨_, rfl⟩
      obtain ⟨S, hS⟩ : ∃ S, S = wd N a := ⟨_, rfl⟩
      obtain ⟨c2, hc2⟩ : ∃ c2, c2 = C a := ⟨_, rfl⟩
      rw [← hX, ← hS, ← hc2] at CMt
      have CT := Lib.hid CMt
      have cx := hbx.cell a
      rw [cellsW_at _ a ha4, ← hX] at cx
      have cs := hbs.cell a
      rw [cellsW_at _ a ha4] at cs
      have fs := hbs.free a
      have bt : (t : Int) < 4 := by omega
      have ba : (a : Int) < 4 := by omega
      have R : Hid (∀ k : Nat, Blk ((wr.drewN k).setCell ⟨w.heap.size + 1 + 1, a, none⟩ (.int .u64 (S : Int))) w.heap.size (cellsW (wd x)) 24 ∧ Blk ((wr.drewN k).setCell ⟨w.heap.size + 1 + 1, a, none⟩ (.int .u64 (S : Int))) (w.heap.size + 1) zerosW 24 ∧ Blk ((wr.drewN k).setCell ⟨w.heap.size + 1 + 1, a, none⟩ (.int .u64 (S : Int))) (w.heap.size + 1 + 1) (cellsW (upd f a S)) 24 ∧ Below w.heap.size w ((wr.drewN k).setCell ⟨w.heap.size + 1 + 1, a, none⟩ (.int .u64 (S : Int)))) := Lib.hid fun k =>
        ⟨(hbx.drewN k).set_other _ _ (by simp <;> omega), (hbz.drewN k).set_other _ _ (by simp), by rw [← cellsW_set f a S ha4]; exact (hbs.drewN k).set a _, (below_drewN hbel k).setCell (by simp <;> omega) _⟩
      have HN : Hid (∀ j, 4 - (t + 1) ≤ j → j < 4 → upd f a S j = wd N j) := Lib.hid fun j hj hj4 => by
        by_cases h : j = a
        · rw [h, upd_same, hS]
        · rw [upd_other _ _ _ _ h]; exact HF.out j (by omega) hj4
      have HD : Hid (c2 = C (4 - (t + 1))) := Lib.hid (by rw [hc2]; congr 1; omega)
      rw [← hc]
      clear hbx hbz hbs hbel hc hX hc2 hS CMt e1 ha
      go_wp2_with (go_at_call 44; refine CT.out.mono ?_; rintro e' w' ⟨k, rfl, rfl⟩)
      exact ⟨⟨t + 1, upd f a S, by omega, by go_num, by rw [HD.out], (R.out k).1, (R.out k).2.1, (R.out k).2.2.1, HN, (R.out k).2.2.2⟩, by simp [intOf]; omega⟩
    · have e : t = 4 := by omega
      subst e
      have hc := H0.out
      rw [Nat.sub_self, hc]
      have hcells : cellsW f = V.toList := by rw [HV.out, uA_list]; exact cellsW_ext _ _ fun j hj => HF.out j (by omega) hj
      have HC := Lib.hid hcells
      have HB := Lib.hid (And.intro hbs (And.intro hbz hbel))
      clear hbx hbz hbs hbel hc hcells
      go_wp2_with (first
        | (refine at_load 24 (.tmp 6) ?_; refine wpList_load_mid rfl 24 (.tmp 6) rfl (w.heap.size + 1 + 1) 0 rfl (cellsW f) _ HB.out.1.range Try.underlying24 rfl (sizeW f) ?_)
        | (refine at_store 24 (.tmp 4) (.tmp 30) ?_; refine wpList_store_blk rfl 24 (.tmp 4) (.tmp 30) rfl (w.heap.size + 1) zerosW (cellsW f) _ rfl rfl HB.out.2.1 rfl (sizeW f) (cellsW_one f) ?_; intro w3 hb9 ho9))
      refine bodyPost_ret (v := .tuple #[.agg V, .int .u64 (U : Int)]) ?_ rfl ⟨rfl, HB.out.2.2.trans (ho9.below (by omega))⟩
      rw [HC.out] at hb9
      exact results_row_tmp Try.results26 _ _ (w.heap.size + 1) 24 _ (0, 0) _ _ (by rfl) (by rfl) hb9 Try.underlying24 rfl (by rw [HV.out, uA_size]; exact sizeU)
end Go.Proofs.Ythbbeknbdgkpkaa
