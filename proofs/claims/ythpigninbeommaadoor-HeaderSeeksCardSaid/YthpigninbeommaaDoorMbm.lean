/- Merged texts: WidF WidQ. -/
import Derived.Test.YthpigninbeommaaDoorMbl
import Derived.Test.YthpigninbeommaaDoorMbk
/- The contracts of wide.Of, Max, word and Len. -/
namespace Go.Proofs.YthpigninbeommaaDoor
open Go.RowKit
set_option linter.unusedVariables false

set_option maxRecDepth 100000 in
theorem uA_small (n : Nat) (h : n < 2 ^ 64) : uA n = #[.int .u64 (n : Int), .int .u64 0, .int .u64 0, .int .u64 0] := by
  unfold uA
  have h0 : wd n 0 = n := by unfold wd; rw [Nat.mul_zero, Nat.pow_zero, Nat.div_one, Nat.mod_eq_of_lt h]
  rw [h0, wd_high n 1 h, wd_high n 2 (Nat.lt_trans h (by decide)), wd_high n 3 (Nat.lt_trans h (by decide))]
  rfl
set_option maxRecDepth 100000 in
set_option maxHeartbeats 1000000 in
theorem wof_calls (n : Nat) (w : World) (hn : n < 2 ^ 64) : Calls Tryd.prog 54 #[.int .u64 (n : Int)] w (Ret w (.agg (uA n))) := by
  obtain ⟨f, hf⟩ : ∃ f : Nat → Nat, f = fun j => if j = 0 then n else 0 := ⟨_, rfl⟩
  have hc : [.int .u64 (n : Int), .int .u64 0, .int .u64 0, .int .u64 0] = cellsW f := by rw [hf]; rfl
  rw [uA_small n hn]
  have H1 : Hid (Blk (w.alloc (.cells #[.int .u64 0, .int .u64 0, .int .u64 0, .int .u64 0] 61)) w.heap.size zerosW 61 ∧ Below w.heap.size w (w.alloc (.cells #[.int .u64 0, .int .u64 0, .int .u64 0, .int .u64 0] 61))) := Lib.hid ⟨Blk.new w _ _, (Below.refl _ w).alloc (Nat.le_refl _) _⟩
  have HC := Lib.hid hc
  have HS : Hid ((Tryd.prog.info? 61).map (·.size) = some (cellsW f).length) := Lib.hid (sizeW f)
  have HO := Lib.hid (cellsW_one f)
  clear hf hn hc
  go_enter Tryd.func54, Tryd.ntmps54
  go_wp2_with (refine at_store 61 (.tmp 2) (.tmp 4) ?_; refine wpList_store_blk rfl 61 (.tmp 2) (.tmp 4) rfl w.heap.size zerosW (cellsW f) _ rfl (by rw [← HC.out]; rfl) H1.out.1 rfl HS.out HO.out ?_; intro w3 hb9 ho9)
  refine bodyPost_ret (v := .agg #[.int .u64 (n : Int), .int .u64 0, .int .u64 0, .int .u64 0]) ?_ rfl ⟨rfl, H1.out.2.trans (ho9.below (by omega))⟩
  rw [← HC.out] at hb9
  exact results_cell_row Tryd.results54 _ _ w.heap.size 61 _ (0, 0) _ (by rfl) hb9 Tryd.underlying61 rfl sizeU

set_option maxRecDepth 100000 in
set_option maxHeartbeats 2000000 in
theorem word_calls (x : Nat) (j : Int) (w : World) : Calls Tryd.prog 67 #[.agg (uA x), .int .i64 j] w (Ret w (.int .u64 (wz x j : Int))) := by
  have hb := Blk.new w (uA x) 61
  have hbl : Hid (Below w.heap.size w (w.alloc (.cells (uA x) 61))) := Lib.hid ((Below.refl _ w).alloc (Nat.le_refl _) _)
  unfold wz
  by_cases h0 : j < 0
  · rw [if_pos h0]
    have b0 : decide (j < 0) = true := by simpa using h0
    unfold uA at *
    clear hb
    go_enter Tryd.func67, Tryd.ntmps67
    go_wp2
    go_ret
    exact ⟨rfl, hbl.out⟩
  · rw [if_neg h0]
    by_cases h4 : 4 ≤ j
    · rw [if_pos h4]
      unfold uA at *
      clear hb
      go_enter Tryd.func67, Tryd.ntmps67
      go_wp2
      go_ret
      exact ⟨rfl, hbl.out⟩
    · rw [if_neg h4]
      obtain ⟨t, rfl⟩ : ∃ t : Nat, j = (t : Int) := ⟨j.toNat, by omega⟩
      have ht : t < 4 := by omega
      have cx := hb.cell t
      rw [uA_list, cellsW_at _ t ht] at cx
      rw [Int.toNat_natCast]
      obtain ⟨X, hX⟩ : ∃ X, X = wd x t := ⟨_, rfl⟩
      rw [← hX] at cx ⊢
      unfold uA at *
      clear hb hX
      go_enter Tryd.func67, Tryd.ntmps67
      go_wp2
      go_ret
      exact ⟨rfl, hbl.out⟩

set_option maxRecDepth 100000 in
theorem max_words (f : Nat → Nat) (h : ∀ j, j < 4 → f j = 18446744073709551615) : cellsW f = (uA (2 ^ 256 - 1)).toList := by
  rw [uA_list]
  refine cellsW_ext _ _ fun j hj => ?_
  rw [h j hj]
  rcases (show j = 0 ∨ j = 1 ∨ j = 2 ∨ j = 3 by omega) with rfl | rfl | rfl | rfl <;> decide +kernel
set_option maxRecDepth 100000 in
theorem len_top (x a : Nat) (h : x < 2 ^ (64 * (a + 1))) : wd x a = x / 2 ^ (64 * a) := by
  unfold wd
  rw [Nat.mod_eq_of_lt]
  apply Nat.div_lt_of_lt_mul
  rw [← pB]; exact h
set_option maxRecDepth 100000 in
set_option maxHeartbeats 2000000 in
theorem wlen_calls (x : Nat) (w : World) (hx : x < 2 ^ 256) : Calls Tryd.prog 57 #[.agg (uA x)] w (Ret w (.int .i64 (bl x : Int))) := by
  have HX := Lib.hid hx
  obtain ⟨L, hL⟩ : ∃ L, L = bl x := ⟨_, rfl⟩
  rw [← hL]
  have HL := Lib.hid hL
  have CL : Hid (∀ t W, Calls Tryd.prog 68 #[.int .u64 (wd x t : Int)] W fun e w' => e = .returned (.int .i64 (bl (wd x t) : Int)) ∧ W = w') := Lib.hid fun t W => len64_calls _ W (wd_lt _ _)
  unfold uA
  clear hx hL
  go_enter Tryd.func57, Tryd.ntmps57
  go_wp2
  go_loopw [5] (fun i wr => ∃ t : Nat, t ≤ 4 ∧ i = .int .i64 (t : Int) ∧ Blk wr w.heap.size (cellsW (wd x)) 61 ∧ Hid (x < 2 ^ (64 * (4 - t))) ∧ Below w.heap.size w wr) (fun i _ => 4 - (intOf i).toNat)
  case atStart =>
    exact ⟨0, by omega, rfl, Blk.new w _ _, HX.out, (Below.refl _ w).alloc (Nat.le_refl _) _⟩
  case round =>
    obtain ⟨t, ht, rfl, hbx, HF, hbel⟩ := hrel
    by_cases hlt : t < 4
    · obtain ⟨a, ha⟩ : ∃ a, a = 3 - t := ⟨_, rfl⟩
      have ha4 : a < 4 := by omega
      have e1 : 4 - t = a + 1 := by omega
      have hF := HF.out
      rw [e1] at hF
      have htop := len_top x a hF
      have e2 : 3 - (t : Int) = (a : Int) := by omega
      have e3 : IntKind.i64.wrap (3 - (t : Int)) = (a : Int) := by rw [IntKind.wrap_i64]; omega
      have cx := hbx.cell a
      rw [cellsW_at _ a ha4] at cx
      have CT := CL.out a wr
      obtain ⟨X, hX⟩ : ∃ X, X = wd x a := ⟨_, rfl⟩
      rw [← hX] at cx CT htop
      have bt : (t : Int) < 4 := by omega
      have ba : (a : Int) < 4 := by omega
      have HB := Lib.hid (And.intro hbx hbel)
      by_cases h0 : X = 0
      · subst h0
        have cx' : wr.cell? ⟨w.heap.size, a, none⟩ = some (.int .u64 0) := cx
        have HN : Hid (x < 2 ^ (64 * (4 - (t + 1)))) := Lib.hid (by
          rw [show 4 - (t + 1) = a from by omega]
          exact (Nat.div_eq_zero_iff_lt (pP a)).1 htop.symm)
        clear hbx hbel hF htop hX cx CT e1 ha
        go_wp2
        exact ⟨⟨t + 1, by omega, by go_num, HB.out.1, HN, HB.out.2⟩, by simp [intOf]; omega⟩
      · have hb : bl x = 64 * a + bl X := by rw [htop]; exact bl_div x (64 * a) (by rw [← htop]; exact h0)
        obtain ⟨M, hM⟩ : ∃ M, M = bl X := ⟨_, rfl⟩
        rw [← hM] at hb CT
        have hM64 : M ≤ 64 := by rw [hM]; exact (bl_le X 64).2 (by rw [hX]; exact wd_lt _ _)
        obtain ⟨a64, ha64⟩ : ∃ a64, a64 = 64 * a := ⟨_, rfl⟩
        have m1 : IntKind.i64.wrap (64 * (a : Int)) = (a64 : Int) := by rw [IntKind.wrap_i64]; omega
        have m1b : 64 * (a : Int) = (a64 : Int) := by omega
        have m2 : IntKind.i64.wrap ((a64 : Int) + (M : Int)) = ((a64 + M : Nat) : Int) := by rw [IntKind.wrap_i64]; omega
        have HE : Hid (L = a64 + M) := Lib.hid (by rw [HL.out, hb, ha64])
        have xb : ((X : Int) != 0) = true := by simp; omega
        have xn : ¬ (X : Int) = 0 := by omega
        have CU := Lib.hid CT
        have ba64 : a64 ≤ 192 := by omega
        clear hbx hbel hF htop hX CT e1 ha hb hM ha64 h0
        go_wp2_with (go_at_call 68; refine CU.out.mono ?_; rintro e' w' ⟨rfl, rfl⟩)
        go_ret
        refine ⟨?_, HB.out.2⟩
        rw [HE.out]
        rfl
    · have e : t = 4 := by omega
      subst e
      have h0 : L = 0 := by
        have h := HF.out
        rw [Nat.sub_self, Nat.mul_zero, Nat.pow_zero] at h
        rw [HL.out, show x = 0 from by omega]; rfl
      have HB := Lib.hid hbel
      have H0 := Lib.hid h0
      clear hbx hbel h0
      go_wp2
      go_ret
      exact ⟨by rw [H0.out]; rfl, HB.out⟩
end Go.Proofs.YthpigninbeommaaDoor

/- Wide numbers compared: equal just if they are the same number. -/
namespace Go.Proofs.YthpigninbeommaaDoor
open Go.RowKit
set_option linter.unusedVariables false

set_option maxRecDepth 100000 in
theorem mapM_lits {P : Program} {e : TypeId} {k : IntKind} (he : P.underlying e = some (.int k)) (zs : List Int) (hw : ∀ z ∈ zs, (Lit.int k z).wf = true) :
    ∀ (L : List Nat), (∀ i ∈ L, i < zs.length) → L.mapM (fun i => P.keyLits 1 e (((zs.map (Value.int k)).drop (i * 1)).take 1)) = some (L.map fun i => [Lit.int k (zs.getD i 0)])
  | [], _ => rfl
  | i :: L, h => by
    have hi : i < zs.length := h i (by simp)
    have e1 : ((zs.map (Value.int k)).drop (i * 1)).take 1 = [.int k (zs.getD i 0)] := by
      rw [Nat.mul_one, List.drop_eq_getElem_cons (by simpa using hi), List.take_succ_cons, List.take_zero, List.getElem_map, List.getD_eq_getElem?_getD, List.getElem?_eq_getElem hi]
      rfl
    have hwf : (Lit.int k (zs.getD i 0)).wf = true := by
      rw [List.getD_eq_getElem?_getD, List.getElem?_eq_getElem hi]
      exact hw _ (List.getElem_mem hi)
    have e2 : P.keyLits 1 e [.int k (zs.getD i 0)] = some [Lit.int k (zs.getD i 0)] := by simp [Program.keyLits, he]; simpa using hwf
    rw [List.mapM_cons, mapM_lits he zs hw L (fun j hj => h j (by simp [hj])), e1, e2]
    rfl
set_option maxRecDepth 100000 in
theorem flat_lits {k : IntKind} (zs : List Int) : ((List.range zs.length).map fun i => [Lit.int k (zs.getD i 0)]).flatten = zs.map (Lit.int k) := by
  have h : ∀ L : List Nat, (L.map fun i => [Lit.int k (zs.getD i 0)]).flatten = L.map fun i => Lit.int k (zs.getD i 0) := by
    intro L
    induction L with
    | nil => rfl
    | cons i L ih => simp only [List.map_cons, List.flatten_cons, ih]; rfl
  rw [h]
  apply List.ext_getElem
  · simp
  · intro i h1 h2
    simp at h1 h2
    simp [h1]
set_option maxRecDepth 100000 in
/-- Arrays of integers: equal just if their integers are. -/
theorem equal_ints {P : Program} (t e : TypeId) (N : Nat) (k : IntKind) (ht : P.underlying t = some (.array N e)) (he : P.underlying e = some (.int k)) (hce : P.cellsOf e = 1) (hct : P.cellsOf t = N) (hk : P.keyTypeAt 2 t = true)
    (xs ys : List Int) (hx : xs.length = N) (hy : ys.length = N) (wx : ∀ z ∈ xs, (Lit.int k z).wf = true) (wy : ∀ z ∈ ys, (Lit.int k z).wf = true) (w : World) :
    (Op.equalIn 10000 t (.agg (xs.map (Value.int k)).toArray) (.agg (ys.map (Value.int k)).toArray)).run P w = .ok (decide (xs = ys)) w := by
  have hf : ∀ zs : List Int, zs.length = N → (Value.agg (zs.map (Value.int k)).toArray).formed P t = true := fun zs hz => by simp [Value.formed, ht, hct, hz]
  have hl : ∀ zs : List Int, zs.length = N → (∀ z ∈ zs, (Lit.int k z).wf = true) → P.keyLits 2 t (Value.agg (zs.map (Value.int k)).toArray).cells.toList = some (zs.map (Lit.int k)) := fun zs hz hw => by
    show P.keyLits 2 t (zs.map (Value.int k)) = _
    have hm := mapM_lits he zs hw (List.range zs.length) (fun i hi => by simpa using hi)
    rw [hz] at hm
    unfold Program.keyLits
    simp only [ht]
    rw [if_pos (by rw [hct, List.length_map, hz]), hce, hm, ← hz, ← flat_lits zs]
    rfl
  obtain ⟨b, hb, hiff⟩ := run_equalIn_deep (P := P) 9998 2 t hk w 2 2 _ _ _ _ (hf xs hx) (hf ys hy) (hl xs hx wx) (hl ys hy wy)
  have hiff2 : b = true ↔ xs = ys := by
    rw [hiff]
    constructor
    · intro h
      have h2 := congrArg (List.map fun l : Lit => match l with | .int _ n => n | _ => 0) h
      simpa [List.map_map, Function.comp_def] using h2
    · intro h; rw [h]
  have hbb : b = decide (xs = ys) := by
    by_cases h : xs = ys
    · rw [hiff2.2 h]; simp [h]
    · have : b ≠ true := fun hb => h (hiff2.1 hb)
      simp only [Bool.not_eq_true] at this
      rw [this]; simp [h]
  rw [← hbb]
  exact hb
set_option maxRecDepth 100000 in
theorem uA_inj (a b : Nat) (ha : a < 2 ^ 256) (hb : b < 2 ^ 256) (h : ∀ j, j < 4 → wd a j = wd b j) : a = b := by
  rw [← ofN_val a ha, ← ofN_val b hb]
  unfold ofN
  rw [h 0 (by omega), h 1 (by omega), h 2 (by omega), h 3 (by omega)]
def uZ (N : Nat) : List Int := [(wd N 0 : Int), (wd N 1 : Int), (wd N 2 : Int), (wd N 3 : Int)]
set_option maxRecDepth 100000 in
theorem uZ_wf (N : Nat) : ∀ z ∈ uZ N, (Lit.int .u64 z).wf = true := fun z hz => by
  simp only [uZ, List.mem_cons, List.not_mem_nil, or_false] at hz
  rcases hz with rfl | rfl | rfl | rfl <;> exact u64_wf' _ (wd_lt _ _)
set_option maxRecDepth 100000 in
theorem uZ_eq (a b : Nat) (ha : a < 2 ^ 256) (hb : b < 2 ^ 256) : uZ a = uZ b ↔ a = b := by
  constructor
  · intro h
    unfold uZ at h
    simp only [List.cons.injEq, and_true] at h
    obtain ⟨h0, h1, h2, h3⟩ := h
    refine uA_inj a b ha hb fun j hj => ?_
    rcases (show j = 0 ∨ j = 1 ∨ j = 2 ∨ j = 3 by omega) with rfl | rfl | rfl | rfl
    · exact_mod_cast h0
    · exact_mod_cast h1
    · exact_mod_cast h2
    · exact_mod_cast h3
  · intro h; rw [h]
set_option maxRecDepth 100000 in
theorem u_equal (a b : Nat) (ha : a < 2 ^ 256) (hb : b < 2 ^ 256) (w : World) : (Op.equalIn 10000 61 (.agg (uA a)) (.agg (uA b))).run Tryd.prog w = .ok (decide (a = b)) w := by
  have h := equal_ints (P := Tryd.prog) 61 50 4 .u64 Tryd.underlying61 Tryd.underlying50 (by kernel_rfl) (by kernel_rfl) (by kernel_rfl) (uZ a) (uZ b) rfl rfl (uZ_wf a) (uZ_wf b) w
  have e : decide (uZ a = uZ b) = decide (a = b) := by
    by_cases hab : a = b
    · rw [decide_eq_true ((uZ_eq a b ha hb).2 hab), decide_eq_true hab]
    · rw [decide_eq_false (fun h => hab ((uZ_eq a b ha hb).1 h)), decide_eq_false hab]
  rw [e] at h
  exact h
set_option maxRecDepth 100000 in
theorem u_same (a : Nat) (w : World) : (Op.equalIn 10000 61 (.agg (uA a)) (.agg (uA a))).run Tryd.prog w = .ok true w := by
  have h := equal_ints (P := Tryd.prog) 61 50 4 .u64 Tryd.underlying61 Tryd.underlying50 (by kernel_rfl) (by kernel_rfl) (by kernel_rfl) (uZ a) (uZ a) rfl rfl (uZ_wf a) (uZ_wf a) w
  rw [decide_eq_true rfl] at h
  exact h
end Go.Proofs.YthpigninbeommaaDoor
