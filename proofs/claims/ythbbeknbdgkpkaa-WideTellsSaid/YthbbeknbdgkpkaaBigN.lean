/- The contract of layer 4's law's own mastheadless: the words of a sum modulo 2^256. -/
import Derived.Test.YthbbeknbdgkpkaaBigQ
import Derived.Deep.RegionWith
namespace Go.Proofs.Ythbbeknbdgkpkaa
open Go.RowKit
set_option linter.unusedVariables false

theorem mk_still {P : Program} {f : FuncId} {args : Array Value} {N : Nat} {w W : World} (hc : Calls P f args W (MkB W N)) (h : Still w W) :
    Calls P f args W fun e W' => ∃ A n c, e = .returned (.slice A n c) ∧ RdI W' A n (digs N) ∧ n ≤ c ∧ c ≤ maxLen ∧ Below W.heap.size W W' ∧ Still w W' :=
  hc.mono fun _ _ ⟨A, n, c, he, hr, h1, h2, hb⟩ => ⟨A, n, c, he, hr, h1, h2, hb, h.step hb⟩
theorem sum_digs (x y : Nat) (hx : x < 2 ^ 256) (hy : y < 2 ^ 256) : x + y < 65536 ^ 17 := by
  have : 2 ^ 256 + 2 ^ 256 ≤ 65536 ^ 17 := by decide
  omega

set_option maxHeartbeats 4000000 in
theorem mless_calls (u v : U4) (w : World) (hu : u.ok) (hv : v.ok) :
    Calls Try.prog 19 #[.agg u.arr, .agg v.arr] w (Ret w (.agg (ws4 (digs ((u.val + v.val) % 2 ^ 256)) 0).toArray)) := by
  obtain ⟨V, hV⟩ : ∃ V, V = ws4 (digs ((u.val + v.val) % 2 ^ 256)) 0 := ⟨_, rfl⟩
  have hVl : V.length = 4 := by rw [hV]; rfl
  have hV1 : ∀ x ∈ V, x.oneCell' = true := by rw [hV]; exact ws4_one _ _
  have hul := u.val_lt hu
  have hvl := v.val_lt hv
  obtain ⟨W0, hW0⟩ : ∃ W0, W0 = ((w.alloc (.cells u.arr 24)).alloc (.cells v.arr 24)).alloc (.cells #[.int .u64 0, .int .u64 0, .int .u64 0, .int .u64 0] 24) := ⟨_, rfl⟩
  have hb0 : Blk W0 w.heap.size u.vals 24 := by rw [hW0]; exact ((Blk.new w u.arr _).alloc _).alloc _
  have hb1 : Blk W0 (w.heap.size + 1) v.vals 24 := by rw [hW0]; exact (Blk.new' (w.alloc _) v.arr _ _ (by simp)).alloc _
  have hb2 : Blk W0 (w.heap.size + 1 + 1) [.int .u64 0, .int .u64 0, .int .u64 0, .int .u64 0] 24 := by rw [hW0]; exact Blk.new' ((w.alloc _).alloc _) _ _ _ (by simp)
  have hbel : Below w.heap.size w W0 := by rw [hW0]; exact (((Below.refl _ w).alloc (Nat.le_refl _) _).alloc (by simp) _).alloc (by simp <;> omega) _
  obtain ⟨su, hsu⟩ : ∃ s, s = u.val := ⟨_, rfl⟩
  obtain ⟨sv, hsv⟩ : ∃ s, s = v.val := ⟨_, rfl⟩
  have C1 : Hid (∀ W, Still W0 W → Calls Try.prog 12 #[.agg u.arr] W fun e W' => ∃ A n c, e = .returned (.slice A n c) ∧ RdI W' A n (digs su) ∧ n ≤ c ∧ c ≤ maxLen ∧ Below W.heap.size W W' ∧ Still W0 W') := Lib.hid fun W h => by rw [hsu]; exact mk_still (big_calls4 u W hu) h
  have C2 : Hid (∀ W, Still W0 W → Calls Try.prog 12 #[.agg v.arr] W fun e W' => ∃ A n c, e = .returned (.slice A n c) ∧ RdI W' A n (digs sv) ∧ n ≤ c ∧ c ≤ maxLen ∧ Below W.heap.size W W' ∧ Still W0 W') := Lib.hid fun W h => by rw [hsv]; exact mk_still (big_calls4 v W hv) h
  rw [← hsu] at hul
  rw [← hsv] at hvl
  rw [← hsu, ← hsv] at hV
  have C3 : Hid (∀ W A n c B m e, RdI W A n (digs su) → RdI W B m (digs sv) → Still W0 W → Calls Try.prog 13 #[.slice A n c, .slice B m e] W fun x W' => ∃ A n c, x = .returned (.slice A n c) ∧ RdI W' A n (digs (su + sv)) ∧ n ≤ c ∧ c ≤ maxLen ∧ Below W.heap.size W W' ∧ Still W0 W') := Lib.hid fun W A n c B m e h1 h2 h =>
    mk_still (badd_calls A B n m c e _ _ W (by have := digs_le h1 (k := 16) (by rw [p16]; exact hul); omega) (by have := digs_le h2 (k := 16) (by rw [p16]; exact hvl); omega) h1 h2) h
  have C4 : Hid (∀ W A n c, RdI W A n (digs (su + sv)) → n ≤ c → Still W0 W → Calls Try.prog 16 #[.slice A n c] W fun x W' => ∃ A n c, x = .returned (.slice A n c) ∧ RdI W' A n (digs ((su + sv) % 2 ^ 256)) ∧ n ≤ c ∧ c ≤ maxLen ∧ Below W.heap.size W W' ∧ Still W0 W') := Lib.hid fun W A n c h1 hc h =>
    mk_still (low_calls A n c _ W (by have := digs_le h1 (k := 17) (sum_digs su sv hul hvl); omega) hc h1) h
  have C5 : Hid (∀ W A n c, RdI W A n (digs ((su + sv) % 2 ^ 256)) → Still W0 W → Calls Try.prog 24 #[.slice A n c] W fun e W' => e = .returned (.agg V.toArray) ∧ Still W0 W') := Lib.hid fun W A n c h1 h => by
    rw [hV]; exact ret_still (bwords_calls A n c _ W (digs_le h1 (by rw [p16]; exact Nat.mod_lt _ (by decide))) (digs_lt _) h1) h
  have hstc : Hid (∀ W, Still W0 W → (storeCells ⟨w.heap.size + 1 + 1, 0, none⟩ V).run Try.prog W = .ok () (W.setCells (w.heap.size + 1 + 1) 0 V)) := Lib.hid fun W h => run_stc (hb2.below h hb2.lt) V (by rw [hVl]; rfl) hV1
  have FIN : Hid (∀ W, Still W0 W → Blk (W.setCells (w.heap.size + 1 + 1) 0 V) (w.heap.size + 1 + 1) V 24 ∧ Below w.heap.size w (W.setCells (w.heap.size + 1 + 1) 0 V)) := Lib.hid fun W h => by
    have h2 := hb2.below h hb2.lt
    have ho := Only.setCells (g := w.heap.size + 1 + 1) V W W 0 (Only.refl _ _)
    have hnn := Blk.setCells V W _ 0 h2 (by rw [hVl]; simp)
    rw [over_all _ _ (by rw [hVl]; rfl)] at hnn
    exact ⟨hnn, Below.trans (B := w.heap.size) (Still.trans hbel h) (ho.below (B := w.heap.size) (by omega))⟩
  have CU : Hid (∀ W, Still W0 W → W.cell? ⟨w.heap.size, 0, none⟩ = some (.int .u64 (u.a : Int)) ∧ W.cell? ⟨w.heap.size, 1, none⟩ = some (.int .u64 (u.b : Int)) ∧ W.cell? ⟨w.heap.size, 2, none⟩ = some (.int .u64 (u.c : Int)) ∧ W.cell? ⟨w.heap.size, 3, none⟩ = some (.int .u64 (u.d : Int)) ∧ W.cell? ⟨w.heap.size + 1, 0, none⟩ = some (.int .u64 (v.a : Int)) ∧ W.cell? ⟨w.heap.size + 1, 1, none⟩ = some (.int .u64 (v.b : Int)) ∧ W.cell? ⟨w.heap.size + 1, 2, none⟩ = some (.int .u64 (v.c : Int)) ∧ W.cell? ⟨w.heap.size + 1, 3, none⟩ = some (.int .u64 (v.d : Int))) := Lib.hid fun W h =>
    ⟨(hb0.below h hb0.lt).cell 0, (hb0.below h hb0.lt).cell 1, (hb0.below h hb0.lt).cell 2, (hb0.below h hb0.lt).cell 3, (hb1.below h hb1.lt).cell 0, (hb1.below h hb1.lt).cell 1, (hb1.below h hb1.lt).cell 2, (hb1.below h hb1.lt).cell 3⟩
  have HV := Lib.hid hV
  have hV4 := Lib.hid hVl
  have z0 : Still W0 W0.drew := (Still.refl W0).drew
  have hi4 : (Try.prog.info? 24).map (·.size) = some V.length := by rw [hVl]; kernel_rfl
  have HI := Lib.hid hi4
  rw [← hsu, ← hsv]
  clear hV hsu hsv hul hvl hu hv hb0 hb1 hb2 hbel hi4 hV1
  obtain ⟨a, b, c, d⟩ := u
  obtain ⟨a', b', c', d'⟩ := v
  unfold U4.arr at *
  simp only at *
  have cu := CU.out W0 (Still.refl W0)
  obtain ⟨k0, k1, k2, k3, l0, l1, l2, l3⟩ := cu
  go_enter Try.func19, Try.ntmps19
  go_wp2
  rw [← hW0]
  clear hW0
  go_region_with (first
    | (go_at_call_of 12 a; refine (C1.out _ (by assumption)).mono ?_; rintro e' w1 ⟨A1, n1, c1, rfl, h1, h1c, h1m, b1, S1⟩
       obtain ⟨_, _, _, _, m0, m1, m2, m3⟩ := CU.out w1 S1)
    | (go_at_call_of 12 a'; refine (C2.out _ (by assumption)).mono ?_; rintro e' w2 ⟨A2, n2, c2, rfl, h2, h2c, h2m, b2, S2⟩)
    | (go_at_call 13; refine (C3.out _ _ _ _ _ _ _ (h1.below b2) h2 S2).mono ?_; rintro e' w3 ⟨A3, n3, c3, rfl, h3, h3c, h3m, b3, S3⟩)
    | (go_at_call 16; refine (C4.out _ _ _ _ h3 h3c S3).mono ?_; rintro e' w4 ⟨A4, n4, c4, rfl, h4, h4c, h4m, b4, S4⟩)
    | (go_at_call 24; refine (C5.out _ _ _ _ h4 S4).mono ?_; rintro e' w5 ⟨rfl, S5⟩; have hst := hstc.out w5 S5))
  all_goals clear hst
  all_goals
    go_wp2
    obtain ⟨f1, f2⟩ := FIN.out w5 S5
    refine bodyPost_ret (v := .agg V.toArray) ?_ rfl ⟨by rw [HV.out], f2⟩
    exact results_cell_row Try.results19 _ _ (w.heap.size + 1 + 1) 24 _ (0, 0) _ (by rfl) f1 Try.underlying24 rfl (by rw [List.size_toArray]; exact HI.out)
end Go.Proofs.Ythbbeknbdgkpkaa
