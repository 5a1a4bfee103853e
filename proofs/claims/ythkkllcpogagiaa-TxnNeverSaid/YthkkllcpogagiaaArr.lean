/- Arrays of integers that came in, as they are read off the row's data. -/
import Derived.Test.YthkkllcpogagiaaMem
import Derived.OpenShut
namespace Go.Proofs.Ythkkllcpogagiaa
open Go.RowKit

set_option maxRecDepth 100000 in
theorem mapM_ints {H : Type} {enc : TypeId × Value → H} {P : Program} {W : World} {base : Nat} {sp : Nat → Bool} {held : Bool} {e : TypeId} {q : IntKind} (he : P.underlying e = some (.int q)) {m : Nat} {cs : List Value} : ∀ (L : List Nat) (xs : List (DataW H × List MemPlace)),
    L.mapM (fun i => DataW.trod enc P W base sp held m e ((cs.drop (i * 1)).take 1)) = some xs → ∀ i ∈ L, ∃ z, (cs.drop (i * 1)).take 1 = [.int q z] ∧ (Lit.int q z).wf = true
  | [], _, _ => fun i hi => by simp at hi
  | j :: L, xs, h => by
    rw [List.mapM_cons] at h
    simp only [bind, Option.bind_eq_some_iff, pure, Option.some.injEq] at h
    obtain ⟨y, hy, ys, hys, rfl⟩ := h
    obtain ⟨a, ea, rfl, wa⟩ := DataW.trod_int he hy
    intro i hi
    rcases List.mem_cons.1 hi with rfl | hi
    · exact ⟨a, ea, wa⟩
    · exact mapM_ints he L ys hys i hi
set_option maxRecDepth 100000 in
theorem ints_of {q : IntKind} : ∀ (cs : List Value), (∀ i, i < cs.length → ∃ z, (cs.drop (i * 1)).take 1 = [.int q z] ∧ (Lit.int q z).wf = true) → ∃ zs : List Int, cs = zs.map (Value.int q) ∧ ∀ z ∈ zs, (Lit.int q z).wf = true
  | [], _ => ⟨[], rfl, fun z hz => by simp at hz⟩
  | c :: cs, h => by
    obtain ⟨z, hz, wz⟩ := h 0 (by simp)
    obtain ⟨zs, rfl, hw⟩ := ints_of cs (fun i hi => by
      obtain ⟨z, hz, wz⟩ := h (i + 1) (by simpa using hi)
      exact ⟨z, by simpa using hz, wz⟩)
    simp at hz
    exact ⟨z :: zs, by rw [hz]; rfl, fun y hy => by
      rcases List.mem_cons.1 hy with rfl | hy
      · exact wz
      · exact hw y hy⟩
set_option maxRecDepth 100000 in
/-- An array of integers. -/
theorem open_arr {H : Type} {enc : TypeId × Value → H} {P : Program} {W : World} {base : Nat} {sp : Nat → Bool} {held : Bool} {r : Reach} {b0 : Nat} {t e : TypeId} {n : Nat} {q : IntKind} {v : Value} {d : DataW H} {ps : List MemPlace}
    (hu : P.underlying t = some (.array n e)) (he : P.underlying e = some (.int q)) (hce : P.cellsOf e = 1) (hct : P.cellsOf t = n) (hv : Value.okWide P W r b0 t v) (hd : DataW.Trod enc P W base sp held t v d ps) :
    ∃ zs : List Int, zs.length = n ∧ v = .agg (zs.map (Value.int q)).toArray ∧ ∀ z ∈ zs, (Lit.int q z).wf = true := by
  simp only [Value.okWide, hu] at hv
  obtain ⟨cs, rfl, hs, _⟩ := hv
  rw [hct] at hs
  obtain ⟨fuel, hf⟩ := hd
  cases fuel with
  | zero => simp [DataW.trod] at hf
  | succ m =>
    unfold DataW.trod at hf
    simp only [hu, Value.cells] at hf
    rw [if_pos (by rw [hct]; simpa using hs)] at hf
    simp only [Option.map_eq_some_iff] at hf
    obtain ⟨ys, hy, _⟩ := hf
    rw [hce] at hy
    have h := mapM_ints he _ ys hy
    obtain ⟨zs, hz, hw⟩ := ints_of cs.toList (q := q) (fun i hi => h i (by simp at hi ⊢; omega))
    refine ⟨zs, ?_, ?_, hw⟩
    · have := congrArg List.length hz
      simp at this
      omega
    · rw [← hz]
set_option maxRecDepth 100000 in
/-- Bytes. -/
theorem bytes_of_ints (zs : List Int) (h : ∀ z ∈ zs, (Lit.int .u8 z).wf = true) : ∃ l : List UInt8, l.length = zs.length ∧ zs.map (Value.int .u8) = l.map B8 := by
  refine ⟨zs.map fun z => UInt8.ofNat z.toNat, by simp, ?_⟩
  rw [List.map_map]
  apply List.map_congr_left
  intro z hz
  have hb := bounds_u8 (h z hz)
  simp only [Function.comp, B8]
  congr 1
  rw [UInt8.toNat_ofNat']
  omega
set_option maxRecDepth 100000 in
/-- Words of 64 bits. -/
theorem nats_of_ints (zs : List Int) (h : ∀ z ∈ zs, (Lit.int .u64 z).wf = true) : ∃ l : List Nat, l.length = zs.length ∧ zs = l.map (fun n : Nat => (n : Int)) ∧ ∀ n ∈ l, n < 2 ^ 64 := by
  refine ⟨zs.map Int.toNat, by simp, ?_, ?_⟩
  · rw [List.map_map]
    conv => lhs; rw [← List.map_id zs]
    apply List.map_congr_left
    intro z hz
    have hb := bounds_u64 (h z hz)
    simp only [Function.comp, id]
    omega
  · intro n hn
    simp only [List.mem_map] at hn
    obtain ⟨z, hz, rfl⟩ := hn
    have hb := bounds_u64 (h z hz)
    omega
end Go.Proofs.Ythkkllcpogagiaa
