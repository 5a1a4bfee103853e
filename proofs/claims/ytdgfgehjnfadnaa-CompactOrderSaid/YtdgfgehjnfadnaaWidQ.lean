/- Wide numbers compared: equal just if they are the same number. -/
import Derived.Test.YtdgfgehjnfadnaaWidU
namespace Go.Proofs.Ytdgfgehjnfadnaa
open Go.RowKit
set_option linter.unusedVariables false

theorem mapM_lits {P : Program} {e : TypeId} {k : IntKind} (he : P.underlying e = some (.int k)) (zs : List Int) (hw : ∀ z ∈ zs, (Lit.int k z).wf = true) :
    ∀ (L : List Nat), (∀ i ∈ L, i < zs.length) → L.mapM (fun i => P.keyLits 1 e (((zs.map (Value.int k)).drop (i * 1)).take 1)) = some (L.map fun i => [Lit.int k (zs.getD i 0)])
  | [], _ => rfl
  | i :: L, h => by
    have hi : i < zs.length := h i (by simp)
    have e1 : ((zs.map (Value.int k)).drop (i * 1)).take 1 = [.int k (zs.getD i 0)] := by
      rw [Nat.mul_one, List.drop_eq_getElem_cons (by simpa using hi), List.take_succ_cons, List.take_zero, List.getElem_map, List.getD_eq_getElem?_getD, List.getElem?_eq_getElem hi]
      rfl
    have hwf : (Lit.int k (zs.getD i 0)).wf = true := by
      rw [List.getD_eq_getElem?_getD, List.getElem?_eq_getElem hi]
      exact hw _ (List.getElem_mem hi)
    have e2 : P.keyLits 1 e [.int k (zs.getD i 0)] = some [Lit.int k (zs.getD i 0)] := by simp [Program.keyLits, he]; simpa using hwf
    rw [List.mapM_cons, mapM_lits he zs hw L (fun j hj => h j (by simp [hj])), e1, e2]
    rfl
theorem flat_lits {k : IntKind} (zs : List Int) : ((List.range zs.length).map fun i => [Lit.int k (zs.getD i 0)]).flatten = zs.map (Lit.int k) := by
  have h : ∀ L : List Nat, (L.map fun i => [Lit.int k (zs.getD i 0)]).flatten = L.map fun i => Lit.int k (zs.getD i 0) := by
    intro L
    induction L with
    | nil => rfl
    | cons i L ih => simp only [List.map_cons, List.flatten_cons, ih]; rfl
  rw [h]
  apply List.ext_getElem
  · simp
  · intro i h1 h2
    simp at h1 h2
    simp [h1]
/-- Arrays of integers: equal just if their integers are. -/
theorem equal_ints {P : Program} (t e : TypeId) (N : Nat) (k : IntKind) (ht : P.underlying t = some (.array N e)) (he : P.underlying e = some (.int k)) (hce : P.cellsOf e = 1) (hct : P.cellsOf t = N) (hk : P.keyTypeAt 2 t = true)
    (xs ys : List Int) (hx : xs.length = N) (hy : ys.length = N) (wx : ∀ z ∈ xs, (Lit.int k z).wf = true) (wy : ∀ z ∈ ys, (Lit.int k z).wf = true) (w : World) :
    (Op.equalIn 10000 t (.agg (xs.map (Value.int k)).toArray) (.agg (ys.map (Value.int k)).toArray)).run P w = .ok (decide (xs = ys)) w := by
  have hf : ∀ zs : List Int, zs.length = N → (Value.agg (zs.map (Value.int k)).toArray).formed P t = true := fun zs hz => by simp [Value.formed, ht, hct, hz]
  have hl : ∀ zs : List Int, zs.length = N → (∀ z ∈ zs, (Lit.int k z).wf = true) → P.keyLits 2 t (Value.agg (zs.map (Value.int k)).toArray).cells.toList = some (zs.map (Lit.int k)) := fun zs hz hw => by
    show P.keyLits 2 t (zs.map (Value.int k)) = _
    have hm := mapM_lits he zs hw (List.range zs.length) (fun i hi => by simpa using hi)
    rw [hz] at hm
    unfold Program.keyLits
    simp only [ht]
    rw [if_pos (by rw [hct, List.length_map, hz]), hce, hm, ← hz, ← flat_lits zs]
    rfl
  obtain ⟨b, hb, hiff⟩ := run_equalIn_deep (P := P) 9998 2 t hk w 2 2 _ _ _ _ (hf xs hx) (hf ys hy) (hl xs hx wx) (hl ys hy wy)
  have hiff2 : b = true ↔ xs = ys := by
    rw [hiff]
    constructor
    · intro h
      have h2 := congrArg (List.map fun l : Lit => match l with | .int _ n => n | _ => 0) h
      simpa [List.map_map, Function.comp_def] using h2
    · intro h; rw [h]
  have hbb : b = decide (xs = ys) := by
    by_cases h : xs = ys
    · rw [hiff2.2 h]; simp [h]
    · have : b ≠ true := fun hb => h (hiff2.1 hb)
      simp only [Bool.not_eq_true] at this
      rw [this]; simp [h]
  rw [← hbb]
  exact hb
theorem uA_inj (a b : Nat) (ha : a < 2 ^ 256) (hb : b < 2 ^ 256) (h : ∀ j, j < 4 → wd a j = wd b j) : a = b := by
  rw [← ofN_val a ha, ← ofN_val b hb]
  unfold ofN
  rw [h 0 (by omega), h 1 (by omega), h 2 (by omega), h 3 (by omega)]
def uZ (N : Nat) : List Int := [(wd N 0 : Int), (wd N 1 : Int), (wd N 2 : Int), (wd N 3 : Int)]
theorem uZ_wf (N : Nat) : ∀ z ∈ uZ N, (Lit.int .u64 z).wf = true := fun z hz => by
  simp only [uZ, List.mem_cons, List.not_mem_nil, or_false] at hz
  rcases hz with rfl | rfl | rfl | rfl <;> exact u64_wf' _ (wd_lt _ _)
theorem uZ_eq (a b : Nat) (ha : a < 2 ^ 256) (hb : b < 2 ^ 256) : uZ a = uZ b ↔ a = b := by
  constructor
  · intro h
    unfold uZ at h
    simp only [List.cons.injEq, and_true] at h
    obtain ⟨h0, h1, h2, h3⟩ := h
    refine uA_inj a b ha hb fun j hj => ?_
    rcases (show j = 0 ∨ j = 1 ∨ j = 2 ∨ j = 3 by omega) with rfl | rfl | rfl | rfl
    · exact_mod_cast h0
    · exact_mod_cast h1
    · exact_mod_cast h2
    · exact_mod_cast h3
  · intro h; rw [h]
theorem u_equal (a b : Nat) (ha : a < 2 ^ 256) (hb : b < 2 ^ 256) (w : World) : (Op.equalIn 10000 25 (.agg (uA a)) (.agg (uA b))).run Try.prog w = .ok (decide (a = b)) w := by
  have h := equal_ints (P := Try.prog) 25 23 4 .u64 Try.underlying25 Try.underlying23 (by kernel_rfl) (by kernel_rfl) (by kernel_rfl) (uZ a) (uZ b) rfl rfl (uZ_wf a) (uZ_wf b) w
  have e : decide (uZ a = uZ b) = decide (a = b) := by
    by_cases hab : a = b
    · rw [decide_eq_true ((uZ_eq a b ha hb).2 hab), decide_eq_true hab]
    · rw [decide_eq_false (fun h => hab ((uZ_eq a b ha hb).1 h)), decide_eq_false hab]
  rw [e] at h
  exact h
theorem u_same (a : Nat) (w : World) : (Op.equalIn 10000 25 (.agg (uA a)) (.agg (uA a))).run Try.prog w = .ok true w := by
  have h := equal_ints (P := Try.prog) 25 23 4 .u64 Try.underlying25 Try.underlying23 (by kernel_rfl) (by kernel_rfl) (by kernel_rfl) (uZ a) (uZ a) rfl rfl (uZ_wf a) (uZ_wf a) w
  rw [decide_eq_true rfl] at h
  exact h
end Go.Proofs.Ytdgfgehjnfadnaa
