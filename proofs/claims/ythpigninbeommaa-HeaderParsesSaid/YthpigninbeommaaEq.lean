/- Two arrays of integers that hold the same are equal. -/
import Derived.Test.YthpigninbeommaaMem
import Derived.DeepKeys
import Derived.Laws.StructEq
namespace Go.Proofs.Ythpigninbeommaa
open Go.RowKit

set_option maxRecDepth 100000 in
theorem mapM_some {α β : Type} {f : α → Option β} : ∀ (l : List α), (∀ a ∈ l, ∃ b, f a = some b) → ∃ r, l.mapM f = some r
  | [], _ => ⟨[], rfl⟩
  | a :: l, h => by
    obtain ⟨b, hb⟩ := h a (by simp)
    obtain ⟨r, hr⟩ := mapM_some l (fun x hx => h x (by simp [hx]))
    exact ⟨b :: r, by rw [List.mapM_cons, hb, hr]; rfl⟩
set_option maxRecDepth 100000 in
/-- An array of integers is equal to itself. -/
theorem equal_self {P : Program} (t e : TypeId) (N : Nat) (k : IntKind) (ht : P.underlying t = some (.array N e)) (he : P.underlying e = some (.int k)) (hce : P.cellsOf e = 1) (hct : P.cellsOf t = N) (hk : P.keyTypeAt 2 t = true)
    (V : List Value) (hV : V.length = N) (hw : ∀ v ∈ V, ∃ n, v = .int k n ∧ (Lit.int k n).wf = true) (w : World) : (Op.equalIn 10000 t (.agg V.toArray) (.agg V.toArray)).run P w = .ok true w := by
  have hf : (Value.agg V.toArray).formed P t = true := by simp [Value.formed, ht, hct, hV]
  obtain ⟨r, hr⟩ : ∃ r, (List.range N).mapM (fun i => P.keyLits 1 e ((V.drop (i * P.cellsOf e)).take (P.cellsOf e))) = some r := by
    refine mapM_some _ fun i hi => ?_
    have hiN : i < V.length := by rw [hV]; simpa using hi
    obtain ⟨n, hn, hwf⟩ := hw V[i] (List.getElem_mem hiN)
    have e1 : (V.drop (i * P.cellsOf e)).take (P.cellsOf e) = [.int k n] := by
      rw [hce, Nat.mul_one, List.drop_eq_getElem_cons hiN, hn]
      rfl
    refine ⟨[.int k n], ?_⟩
    rw [e1]
    simp [Program.keyLits, he, hwf]
  have hl : P.keyLits 2 t (Value.agg V.toArray).cells.toList = some r.flatten := by
    show P.keyLits 2 t V = _
    unfold Program.keyLits
    simp only [ht]
    rw [if_pos (by rw [hct, hV]), hr]
    rfl
  obtain ⟨b, hb, hiff⟩ := run_equalIn_deep (P := P) 9998 2 t hk w 2 2 _ _ _ _ hf hf hl hl
  rw [hiff.2 rfl] at hb
  exact hb
set_option maxRecDepth 100000 in
theorem b8_wf (l : List UInt8) : ∀ v ∈ l.map B8, ∃ n, v = .int .u8 n ∧ (Lit.int .u8 n).wf = true := fun v hv => by
  simp only [List.mem_map] at hv
  obtain ⟨x, _, rfl⟩ := hv
  exact ⟨_, rfl, by have := x.toNat_lt; have h1 : IntKind.u8.min = 0 := rfl; have h2 : IntKind.u8.max = 255 := rfl; simp [Lit.wf, h1, h2]; omega⟩
end Go.Proofs.Ythpigninbeommaa
