/- Structs and lists of parts that came in, as they are read off the row's data. -/
import Derived.Test.YtgdpcgjdljfdbaaOpen
import Derived.Test.YtgdpcgjdljfdbaaBlk
import Derived.Lib.SmallJoins
import Derived.Deep.Slices
import Derived.OpenShut
namespace Go.Proofs.Ytgdpcgjdljfdbaa
open Go.RowKit Go.ChangeShapes Go.WideShapes Go.ChangeAt Go.Deep
set_option linter.unusedVariables false

/-- A part: its kind, its number, its size, its bytes. -/
structure Op4 where
  k : Int
  n : Nat
  m : Int
  A : Option Addr
  len : Nat
  cap : Nat
  l : List UInt8
instance : Inhabited Op4 := ⟨⟨0, 0, 0, none, 0, 0, []⟩⟩
def Op4.cells (o : Op4) : List Value := [.int .i64 o.k, .int .u64 (o.n : Int), .int .i64 o.m, .slice o.A o.len o.cap]
structure Op4.ok (o : Op4) (w : World) : Prop where
  k0 : -9223372036854775808 ≤ o.k
  k1 : o.k ≤ 9223372036854775807
  n1 : o.n < 18446744073709551616
  m0 : -9223372036854775808 ≤ o.m
  m1 : o.m ≤ 9223372036854775807
  rd : Rd w o.A o.len o.l
  cap : o.len ≤ o.cap
  max : o.cap ≤ maxLen
theorem Op4.ok.below {o : Op4} {w w' : World} (h : o.ok w) (hb : Below w.heap.size w w') : o.ok w' := ⟨h.k0, h.k1, h.n1, h.m0, h.m1, h.rd.below hb, h.cap, h.max⟩
/-- The slice of n parts that begins at A holds the parts L. -/
def RdO (w : World) (A : Option Addr) (n : Nat) (L : List Op4) : Prop :=
  L.length = n ∧ (0 < n → ∃ b off, A = some ⟨b, off, none⟩ ∧ b < w.heap.size ∧ ∀ j (h : j < L.length), w.rangeAt b (off + j * 4) L[j].cells ∧ L[j].ok w)
theorem RdO.len {w : World} {A : Option Addr} {n : Nat} {L : List Op4} (h : RdO w A n L) : L.length = n := h.1
theorem RdO.at_ {w w' : World} {A : Option Addr} {n : Nat} {L : List Op4} (h : RdO w A n L) (hb : Below w.heap.size w w') {k : Nat} (hk : k < n) :
    ∃ b off, ∃ hl : k < L.length, A = some ⟨b, off, none⟩ ∧ w'.rangeAt b (off + k * 4) L[k].cells ∧ L[k].ok w := by
  obtain ⟨b, off, e, hlt, hc⟩ := h.2 (by omega)
  have hl : k < L.length := by have := h.1; omega
  obtain ⟨h1, h2⟩ := hc k hl
  exact ⟨b, off, hl, e, fun j v hv => (hb.cell (p := ⟨b, off + k * 4 + j, none⟩) hlt).trans (h1 j v hv), h2⟩
theorem Op4.size (o : Op4) : (Try.prog.info? 28).map (·.size) = some o.cells.length := by
  have : (Try.prog.info? 28).map (·.size) = some 4 := by kernel_rfl
  exact this
theorem Op4.one (o : Op4) : ∀ v ∈ o.cells, v.oneCell' = true := by
  intro v hv
  simp only [Op4.cells, List.mem_cons, List.not_mem_nil, or_false] at hv
  rcases hv with rfl | rfl | rfl | rfl <;> rfl
def zerosO : List Value := [.int .i64 0, .int .u64 0, .int .i64 0, .slice none 0 0]
theorem list4 {α : Type} {l : List α} (h : l.length = 4) : ∃ a b c d, l = [a, b, c, d] := by
  match l, h with
  | [a, b, c, d], _ => exact ⟨a, b, c, d, rfl⟩

section
variable {H : Type} {enc : TypeId × Value → H}
/-- A byte slice in a field. -/
theorem open_field {W : World} {base fuel : Nat} {sp : Nat → Bool} {held : Bool} {v : Value} {y : DataW H × List MemPlace} (h : DataW.trod enc Try.prog W base sp held fuel 26 [v] = some y) :
    ∃ A len cap l, v = .slice A len cap ∧ Rd W A len l ∧ len ≤ cap ∧ cap ≤ maxLen := by
  rcases open_ints Try.underlying26 Try.underlying5 (by kernel_rfl) h with ⟨hcs, _⟩ | ⟨x, l, c, zs, hcs, _, hl, hm, hz, hx, hcell, hwz⟩
  · injection hcs with hcs
    exact ⟨none, 0, 0, [], hcs, Rd.nil _ _, by omega, by unfold maxLen; omega⟩
  · injection hcs with hcs
    refine ⟨some x, l, c, bytesOf zs l, hcs, ?_, hl, hm⟩
    have hzl : l ≤ zs.length := by rw [hz]; split <;> omega
    exact rd_ints_at hcell hzl rfl hwz
theorem cellsI : Try.prog.cellsOf 3 = 1 := by kernel_rfl
theorem cellsU : Try.prog.cellsOf 25 = 1 := by kernel_rfl
theorem cellsB : Try.prog.cellsOf 26 = 1 := by kernel_rfl
theorem cellsO : Try.prog.cellsOf 28 = 4 := by kernel_rfl
/-- A part that came in. -/
theorem open_op {W : World} {base fuel : Nat} {sp : Nat → Bool} {held : Bool} {c0 c1 c2 c3 : Value} {y : DataW H × List MemPlace} (h : DataW.trod enc Try.prog W base sp held fuel 28 [c0, c1, c2, c3] = some y) :
    ∃ o : Op4, [c0, c1, c2, c3] = o.cells ∧ o.ok W := by
  obtain ⟨y0, y1, y2, y3, n, _, _, t0, t1, t2, t3⟩ := Go.Joins.trod_struct4 Try.underlying28 h
  simp only [cellsI, cellsU, cellsB, List.drop, List.take] at t0 t1 t2 t3
  obtain ⟨K, eK, _, wK⟩ := DataW.trod_int Try.underlying3 t0
  obtain ⟨N, eN, _, wN⟩ := DataW.trod_int Try.underlying25 t1
  obtain ⟨M, eM, _, wM⟩ := DataW.trod_int Try.underlying3 t2
  obtain ⟨B, bl, bc, lb, rfl, hB, h1, h2⟩ := open_field t3
  injection eK with eK
  injection eN with eN
  injection eM with eM
  subst eK eN eM
  have b1 := bounds_i64 wK
  have b2 := bounds_u64 wN
  have b3 := bounds_i64 wM
  obtain ⟨N, rfl⟩ := Int.eq_ofNat_of_zero_le b2.1
  exact ⟨⟨K, N, M, B, bl, bc, lb⟩, rfl, ⟨b1.1, b1.2, (show N < 18446744073709551616 by omega), b3.1, b3.2, hB, h1, h2⟩⟩
/-- A list of parts that came in. -/
theorem open_ops {W : World} {sp : Nat → Bool} {held : Bool} {a : Option Addr} {len cap : Nat} {d : DataW H} {p : List MemPlace} (h : DataW.Trod enc Try.prog W 0 sp held 22 (.slice a len cap) d p) :
    ∃ L, RdO W a len L ∧ len ≤ cap ∧ cap ≤ maxLen := by
  obtain ⟨fuel, hf⟩ := h
  rcases open_slice Try.underlying22 hf with ⟨hcs, _⟩ | ⟨x, l, c, m, n, D, Pl, hcs, _, hl, hm, hmm, _, he⟩
  · simp [Value.cells] at hcs
    obtain ⟨rfl, rfl, rfl⟩ := hcs
    exact ⟨[], ⟨rfl, fun h => absurd h (by omega)⟩, by omega, by unfold maxLen; omega⟩
  · simp [Value.cells] at hcs
    obtain ⟨rfl, rfl, rfl⟩ := hcs
    have hlm : len ≤ m := by rw [hmm]; split <;> omega
    obtain ⟨b, off, spot⟩ := x
    have key : ∀ i, i < len → ∃ o : Op4, (∀ j v, o.cells[j]? = some v → W.cell? (((⟨b, off, spot⟩ : Addr).add (i * 4)).add j) = some v) ∧ o.ok W := by
      intro i hi
      obtain ⟨cs', h1, h2⟩ := he i (by omega)
      rw [cellsO] at h1
      obtain ⟨_, hlen, hc⟩ := World.cells?_some h1
      obtain ⟨c0, c1, c2, c3, rfl⟩ := list4 hlen
      obtain ⟨o, ho, hok⟩ := open_op h2
      refine ⟨o, fun j v hv => ?_, hok⟩
      rw [← ho] at hv
      have hj : j < 4 := by have := (List.getElem?_eq_some_iff.1 hv).1; simpa using this
      rw [hc j hj, hv]
    obtain ⟨f, hfk⟩ := choose_lt (α := Op4) key
    refine ⟨(List.range len).map f, ⟨by simp, fun hn => ?_⟩, hl, hm⟩
    have hspot : spot = none := by
      have := (hfk 0 hn).1 0 _ rfl
      simpa [Addr.add] using World.cell?_spot this
    subst hspot
    have hlt : b < W.heap.size := by
      have := (hfk 0 hn).1 0 _ rfl
      have h2 := lt_of_cell this
      simpa [Addr.add] using h2
    refine ⟨b, off, rfl, hlt, fun j hj => ?_⟩
    have hj' : j < len := by simpa using hj
    rw [List.getElem_map, List.getElem_range]
    refine ⟨fun i v hv => ?_, (hfk j hj').2⟩
    have := (hfk j hj').1 i v hv
    rw [Addr.add_mid, Addr.add_mid] at this
    exact this
end
end Go.Proofs.Ytgdpcgjdljfdbaa
