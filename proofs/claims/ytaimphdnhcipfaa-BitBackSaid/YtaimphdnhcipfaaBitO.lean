/- Lists of layer 11's parts that came in, as they are read off the row's data. -/
import Derived.Test.YtaimphdnhcipfaaOpen
import Derived.Test.YtaimphdnhcipfaaBlk
import Derived.Test.YtaimphdnhcipfaaBitM
import Derived.Lib.SmallJoins
import Derived.Deep.Slices
import Derived.OpenShut
namespace Go.Proofs.Ytaimphdnhcipfaa
open Go.RowKit Go.ChangeShapes Go.WideShapes Go.ChangeAt Go.Deep
set_option linter.unusedVariables false

/-- A part: ones, or a number's bits. -/
structure Op3 where
  o : Bool
  n : Nat
  m : Int
instance : Inhabited Op3 := ⟨⟨false, 0, 0⟩⟩
def Op3.cells (o : Op3) : List Value := [.bool o.o, .int .u64 (o.n : Int), .int .i64 o.m]
structure Op3.ok (o : Op3) : Prop where
  n1 : o.n < 18446744073709551616
  m0 : -9223372036854775808 ≤ o.m
  m1 : o.m ≤ 9223372036854775807
/-- The slice of n parts that begins at A holds the parts L. -/
def RdP (w : World) (A : Option Addr) (n : Nat) (L : List Op3) : Prop :=
  L.length = n ∧ (0 < n → ∃ b off, A = some ⟨b, off, none⟩ ∧ b < w.heap.size ∧ ∀ j (h : j < L.length), w.rangeAt b (off + j * 3) L[j].cells ∧ L[j].ok)
set_option maxRecDepth 100000 in
theorem RdP.len {w : World} {A : Option Addr} {n : Nat} {L : List Op3} (h : RdP w A n L) : L.length = n := h.1
set_option maxRecDepth 100000 in
theorem RdP.at_ {w w' : World} {A : Option Addr} {n : Nat} {L : List Op3} (h : RdP w A n L) (hb : Below w.heap.size w w') {k : Nat} (hk : k < n) :
    ∃ b off, ∃ hl : k < L.length, A = some ⟨b, off, none⟩ ∧ w'.rangeAt b (off + k * 3) L[k].cells ∧ L[k].ok := by
  obtain ⟨b, off, e, hlt, hc⟩ := h.2 (by omega)
  have hl : k < L.length := by have := h.1; omega
  obtain ⟨h1, h2⟩ := hc k hl
  exact ⟨b, off, hl, e, fun j v hv => (hb.cell (p := ⟨b, off + k * 3 + j, none⟩) hlt).trans (h1 j v hv), h2⟩
set_option maxRecDepth 100000 in
theorem RdP.take {w : World} {A : Option Addr} {n : Nat} {L : List Op3} (h : RdP w A n L) {k : Nat} (hk : k ≤ n) : RdP w A k (L.take k) := by
  have hl := h.1
  refine ⟨by rw [List.length_take]; omega, fun hn => ?_⟩
  obtain ⟨b, off, e, hb, hc⟩ := h.2 (by omega)
  refine ⟨b, off, e, hb, fun j hj => ?_⟩
  rw [List.length_take] at hj
  rw [List.getElem_take]
  exact hc j (by omega)
set_option maxRecDepth 100000 in
theorem op3_size (o : Op3) : (Try.prog.info? 27).map (·.size) = some o.cells.length := by
  have : (Try.prog.info? 27).map (·.size) = some 3 := by kernel_rfl
  exact this
set_option maxRecDepth 100000 in
theorem op3_one (o : Op3) : ∀ v ∈ o.cells, v.oneCell' = true := by
  intro v hv
  simp only [Op3.cells, List.mem_cons, List.not_mem_nil, or_false] at hv
  rcases hv with rfl | rfl | rfl <;> rfl
def zerosP : List Value := [.bool false, .int .u64 0, .int .i64 0]
set_option maxRecDepth 100000 in
theorem list3 {α : Type} {l : List α} (h : l.length = 3) : ∃ a b c, l = [a, b, c] := by
  match l, h with
  | [a, b, c], _ => exact ⟨a, b, c, rfl⟩
section
variable {H : Type} {enc : TypeId × Value → H}
set_option maxRecDepth 100000 in
theorem cellsI3 : Try.prog.cellsOf 3 = 1 := by kernel_rfl
set_option maxRecDepth 100000 in
theorem cellsU3 : Try.prog.cellsOf 25 = 1 := by kernel_rfl
set_option maxRecDepth 100000 in
theorem cellsB3 : Try.prog.cellsOf 4 = 1 := by kernel_rfl
set_option maxRecDepth 100000 in
theorem cellsO3 : Try.prog.cellsOf 27 = 3 := by kernel_rfl
set_option maxRecDepth 100000 in
/-- A part that came in. -/
theorem open_op3 {W : World} {base fuel : Nat} {sp : Nat → Bool} {held : Bool} {c0 c1 c2 : Value} {y : DataW H × List MemPlace} (h : DataW.trod enc Try.prog W base sp held fuel 27 [c0, c1, c2] = some y) :
    ∃ o : Op3, [c0, c1, c2] = o.cells ∧ o.ok := by
  obtain ⟨y0, y1, y2, n, _, _, t0, t1, t2⟩ := trod_struct3 Try.underlying27 h
  simp only [cellsI3, cellsU3, cellsB3, List.drop, List.take] at t0 t1 t2
  obtain ⟨K, eK, _⟩ := DataW.trod_bool Try.underlying4 t0
  obtain ⟨N, eN, _, wN⟩ := DataW.trod_int Try.underlying25 t1
  obtain ⟨M, eM, _, wM⟩ := DataW.trod_int Try.underlying3 t2
  injection eK with eK
  injection eN with eN
  injection eM with eM
  subst eK eN eM
  have b2 := bounds_u64 wN
  have b3 := bounds_i64 wM
  obtain ⟨N, rfl⟩ := Int.eq_ofNat_of_zero_le b2.1
  exact ⟨⟨K, N, M⟩, rfl, ⟨(show N < 18446744073709551616 by omega), b3.1, b3.2⟩⟩
set_option maxRecDepth 100000 in
/-- A list of parts that came in. -/
theorem open_ops3 {W : World} {sp : Nat → Bool} {held : Bool} {a : Option Addr} {len cap : Nat} {d : DataW H} {p : List MemPlace} (h : DataW.Trod enc Try.prog W 0 sp held 22 (.slice a len cap) d p) :
    ∃ L, RdP W a len L ∧ len ≤ cap ∧ cap ≤ maxLen := by
  obtain ⟨fuel, hf⟩ := h
  rcases open_slice Try.underlying22 hf with ⟨hcs, _⟩ | ⟨x, l, c, m, n, D, Pl, hcs, _, hl, hm, hmm, _, he⟩
  · simp [Value.cells] at hcs
    obtain ⟨rfl, rfl, rfl⟩ := hcs
    exact ⟨[], ⟨rfl, fun h => absurd h (by omega)⟩, by omega, by unfold maxLen; omega⟩
  · simp [Value.cells] at hcs
    obtain ⟨rfl, rfl, rfl⟩ := hcs
    have hlm : len ≤ m := by rw [hmm]; split <;> omega
    obtain ⟨b, off, spot⟩ := x
    have key : ∀ i, i < len → ∃ o : Op3, (∀ j v, o.cells[j]? = some v → W.cell? (((⟨b, off, spot⟩ : Addr).add (i * 3)).add j) = some v) ∧ o.ok := by
      intro i hi
      obtain ⟨cs', h1, h2⟩ := he i (by omega)
      rw [cellsO3] at h1
      obtain ⟨_, hlen, hc⟩ := World.cells?_some h1
      obtain ⟨c0, c1, c2, rfl⟩ := list3 hlen
      obtain ⟨o, ho, hok⟩ := open_op3 h2
      refine ⟨o, fun j v hv => ?_, hok⟩
      rw [← ho] at hv
      have hj : j < 3 := by have := (List.getElem?_eq_some_iff.1 hv).1; simpa using this
      rw [hc j hj, hv]
    obtain ⟨f, hfk⟩ := choose_lt (α := Op3) key
    refine ⟨(List.range len).map f, ⟨by simp, fun hn => ?_⟩, hl, hm⟩
    have hspot : spot = none := by
      have := (hfk 0 hn).1 0 _ rfl
      simpa [Addr.add] using World.cell?_spot this
    subst hspot
    have hlt : b < W.heap.size := by
      have := (hfk 0 hn).1 0 _ rfl
      have h2 := lt_of_cell this
      simpa [Addr.add] using h2
    refine ⟨b, off, rfl, hlt, fun j hj => ?_⟩
    have hj' : j < len := by simpa using hj
    rw [List.getElem_map, List.getElem_range]
    refine ⟨fun i v hv => ?_, (hfk j hj').2⟩
    have := (hfk j hj').1 i v hv
    rw [Addr.add_mid, Addr.add_mid] at this
    exact this
end
end Go.Proofs.Ytaimphdnhcipfaa
