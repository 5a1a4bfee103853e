/- Transactions that came in, as they are read off the row's data; slices of outputs. -/
import Derived.Test.YthkkllcpogagiaaRowG
import Derived.Test.YthkkllcpogagiaaTxnM
import Derived.Test.YthkkllcpogagiaaOpen
import Derived.Lib.SmallJoins
import Derived.Deep.Slices
import Derived.OpenShut
namespace Go.Proofs.Ythkkllcpogagiaa
open Go.RowKit Go.ChangeShapes Go.WideShapes Go.ChangeAt Go.Deep
set_option linter.unusedVariables false
set_option linter.unusedSimpArgs false

/-- Values that are outputs. -/
def OutV (w : World) (V : List (List Value)) (O : List (Nat × List UInt8)) : Prop :=
  V.length = O.length ∧ ∀ i (h : i < V.length) (h2 : i < O.length), ∃ A m c, V[i] = [.int .u64 (O[i].1 : Int), .slice A m c] ∧ m ≤ c ∧ c ≤ maxLen ∧ Rd w A m O[i].2 ∧ O[i].1 < 18446744073709551616
set_option maxRecDepth 100000 in
theorem OutV.nil (w : World) : OutV w [] [] := ⟨rfl, fun i h => absurd h (by simp)⟩
set_option maxRecDepth 100000 in
theorem OutV.below {w W : World} {V : List (List Value)} {O : List (Nat × List UInt8)} (h : OutV w V O) (hb : Below w.heap.size w W) : OutV W V O :=
  ⟨h.1, fun i h1 h2 => by
    obtain ⟨A, m, c, e, k1, k2, k3, k4⟩ := h.2 i h1 h2
    exact ⟨A, m, c, e, k1, k2, k3.below hb, k4⟩⟩
/-- The slice of n outputs that begins at A reads O. -/
def RdT (w : World) (A : Option Addr) (n : Nat) (O : List (Nat × List UInt8)) : Prop := ∃ V, RdG w 2 A n V ∧ OutV w V O
set_option maxRecDepth 100000 in
theorem RdT.below {w W : World} {A : Option Addr} {n : Nat} {O : List (Nat × List UInt8)} (h : RdT w A n O) (hb : Below w.heap.size w W) : RdT W A n O := by
  obtain ⟨V, h1, h2⟩ := h
  exact ⟨V, h1.below hb, h2.below hb⟩
set_option maxRecDepth 100000 in
theorem RdT.len {w : World} {A : Option Addr} {n : Nat} {O : List (Nat × List UInt8)} (h : RdT w A n O) : O.length = n := by
  obtain ⟨V, h1, h2⟩ := h
  rw [← h2.1, h1.1]
set_option maxRecDepth 100000 in
theorem RdT.nil (w : World) (A : Option Addr) : RdT w A 0 [] := ⟨[], RdG.nil _ _ _, OutV.nil _⟩
set_option maxRecDepth 100000 in
theorem RdT.at_ {w : World} {A : Option Addr} {n : Nat} {O : List (Nat × List UInt8)} (h : RdT w A n O) {i : Nat} (hi : i < n) :
    ∃ b off, ∃ hl : i < O.length, A = some ⟨b, off, none⟩ ∧ b < w.heap.size ∧ ∃ X m c, w.rangeAt b (off + i * 2) [.int .u64 (O[i].1 : Int), .slice X m c] ∧ m ≤ c ∧ c ≤ maxLen ∧ Rd w X m O[i].2 ∧ O[i].1 < 18446744073709551616 := by
  have hln := h.len
  obtain ⟨V, h1, h2⟩ := h
  obtain ⟨b, off, hl, e, hlt, hr⟩ := h1.at_ hi
  obtain ⟨X, m, c, e2, k⟩ := h2.2 i hl (by omega)
  rw [e2] at hr
  exact ⟨b, off, by omega, e, hlt, X, m, c, hr, k⟩
set_option maxRecDepth 100000 in
theorem RdT.all {w : World} {A : Option Addr} {n : Nat} {O : List (Nat × List UInt8)} (h : RdT w A n O) : ∀ o ∈ O, o.1 < 18446744073709551616 := fun o ho => by
  obtain ⟨V, h1, h2⟩ := h
  obtain ⟨i, hi, rfl⟩ := List.getElem_of_mem ho
  obtain ⟨_, _, _, _, _, _, _, k⟩ := h2.2 i (by rw [h2.1]; exact hi) hi
  exact k
set_option maxRecDepth 100000 in
theorem list2 {α : Type} {l : List α} (h : l.length = 2) : ∃ a b, l = [a, b] := by
  match l, h with
  | [a, b], _ => exact ⟨a, b, rfl⟩
section
variable {H : Type} {enc : TypeId × Value → H}
set_option maxRecDepth 100000 in
theorem cellsU2 : Try.prog.cellsOf 24 = 1 := by kernel_rfl
set_option maxRecDepth 100000 in
theorem cellsBy2 : Try.prog.cellsOf 22 = 1 := by kernel_rfl
set_option maxRecDepth 100000 in
theorem cellsOut : Try.prog.cellsOf 60 = 2 := by kernel_rfl
set_option maxRecDepth 100000 in
/-- A byte slice in a field. -/
theorem open_fieldB {W : World} {base fuel : Nat} {sp : Nat → Bool} {held : Bool} {v : Value} {y : DataW H × List MemPlace} (h : DataW.trod enc Try.prog W base sp held fuel 22 [v] = some y) :
    ∃ A len cap l, v = .slice A len cap ∧ Rd W A len l ∧ len ≤ cap ∧ cap ≤ maxLen := by
  rcases open_ints Try.underlying22 Try.underlying5 (by kernel_rfl) h with ⟨hcs, _⟩ | ⟨x, l, c, zs, hcs, _, hl, hm, hz, hx, hcell, hwz⟩
  · injection hcs with hcs
    exact ⟨none, 0, 0, [], hcs, Rd.nil _ _, by omega, by unfold maxLen; omega⟩
  · injection hcs with hcs
    refine ⟨some x, l, c, bytesOf zs l, hcs, ?_, hl, hm⟩
    have hzl : l ≤ zs.length := by rw [hz]; split <;> omega
    exact rd_ints_at hcell hzl rfl hwz
set_option maxRecDepth 100000 in
/-- An output that came in. -/
theorem open_out {W : World} {base fuel : Nat} {sp : Nat → Bool} {held : Bool} {c0 c1 : Value} {y : DataW H × List MemPlace} (h : DataW.trod enc Try.prog W base sp held fuel 60 [c0, c1] = some y) :
    ∃ (o : Nat × List UInt8) (A : Option Addr) (m c : Nat), c0 = .int .u64 (o.1 : Int) ∧ c1 = .slice A m c ∧ m ≤ c ∧ c ≤ maxLen ∧ Rd W A m o.2 ∧ o.1 < 18446744073709551616 := by
  obtain ⟨y0, y1, n, _, _, t0, t1⟩ := trod_struct2 Try.underlying60 h
  simp only [cellsU2, cellsBy2, List.drop, List.take] at t0 t1
  obtain ⟨N, eN, _, wN⟩ := DataW.trod_int Try.underlying24 t0
  obtain ⟨B, bl, bc, lb, rfl, hB, h1, h2⟩ := open_fieldB t1
  injection eN with eN
  subst eN
  have b2 := bounds_u64 wN
  obtain ⟨N, rfl⟩ := Int.eq_ofNat_of_zero_le b2.1
  exact ⟨(N, lb), B, bl, bc, rfl, rfl, h1, h2, hB, (show N < 18446744073709551616 by omega)⟩
set_option maxRecDepth 100000 in
/-- A list of outputs that came in. -/
theorem open_outs {W : World} {fuel : Nat} {sp : Nat → Bool} {held : Bool} {v : Value} {y : DataW H × List MemPlace} (hf : DataW.trod enc Try.prog W 0 sp held fuel 25 [v] = some y) :
    ∃ a len cap O, v = .slice a len cap ∧ RdT W a len O ∧ len ≤ cap ∧ cap ≤ maxLen := by
  rcases open_slice Try.underlying25 hf with ⟨hcs, _⟩ | ⟨x, l, c, m, n, D, Pl, hcs, _, hl, hm, hmm, _, he⟩
  · injection hcs with hcs
    exact ⟨none, 0, 0, [], hcs, RdT.nil _ _, by omega, by unfold maxLen; omega⟩
  · injection hcs with hcs
    have hlm : l ≤ m := by rw [hmm]; split <;> omega
    obtain ⟨b, off, spot⟩ := x
    have key : ∀ i, i < l → ∃ z : List Value × (Nat × List UInt8), (∀ j v, z.1[j]? = some v → W.cell? (((⟨b, off, spot⟩ : Addr).add (i * 2)).add j) = some v) ∧ z.1.length = 2 ∧ ∃ A m c, z.1 = [.int .u64 (z.2.1 : Int), .slice A m c] ∧ m ≤ c ∧ c ≤ maxLen ∧ Rd W A m z.2.2 ∧ z.2.1 < 18446744073709551616 := by
      intro i hi
      obtain ⟨cs', h1, h2⟩ := he i (by omega)
      rw [cellsOut] at h1
      obtain ⟨_, hlen, hc⟩ := World.cells?_some h1
      obtain ⟨c0, c1, rfl⟩ := list2 hlen
      obtain ⟨o, A, m, c, e0, e1, k⟩ := open_out h2
      refine ⟨([c0, c1], o), fun j v hv => ?_, rfl, A, m, c, by rw [e0, e1], k⟩
      have hj : j < 2 := by have := (List.getElem?_eq_some_iff.1 hv).1; simpa using this
      rw [hc j hj]
      exact hv
    obtain ⟨f, hfk⟩ := choose_lt (α := List Value × (Nat × List UInt8)) key
    refine ⟨some ⟨b, off, spot⟩, l, c, (List.range l).map fun i => (f i).2, hcs, ⟨(List.range l).map fun i => (f i).1, ⟨by simp, fun x hx => ?_, fun hn => ?_⟩, by simp, fun i h1 h2 => ?_⟩, hl, hm⟩
    · obtain ⟨i, hi, rfl⟩ := List.mem_map.1 hx
      exact (hfk i (List.mem_range.1 hi)).2.1
    · have h0 := hfk 0 hn
      have h00 : (f 0).1[0]? = some (.int .u64 ((f 0).2.1 : Int)) := by
        obtain ⟨A, m, c, e, _⟩ := h0.2.2
        rw [e]; rfl
      have hspot : spot = none := by
        have := h0.1 0 _ h00
        simpa [Addr.add] using World.cell?_spot this
      subst hspot
      have hlt : b < W.heap.size := by
        have := h0.1 0 _ h00
        have h2 := lt_of_cell this
        simpa [Addr.add] using h2
      refine ⟨b, off, rfl, hlt, fun j hj => ?_⟩
      have hj' : j < l := by simpa using hj
      rw [List.getElem_map, List.getElem_range]
      intro i v hv
      have := (hfk j hj').1 i v hv
      rw [Addr.add_mid, Addr.add_mid] at this
      exact this
    · rw [List.getElem_map, List.getElem_map, List.getElem_range]
      exact (hfk i (by simpa using h1)).2.2
set_option maxRecDepth 100000 in
/-- A transaction that came in. -/
theorem open_tx {W : World} {sp : Nat → Bool} {held : Bool} {r : Reach} {b0 : Nat} {v : Value} {d : DataW H} {p : List MemPlace} (hv : Value.okWide Try.prog W r b0 27 v) (h : DataW.Trod enc Try.prog W 0 sp held 27 v d p) :
    ∃ (s : Nat) (A : Option Addr) (n c : Nat) (O : List (Nat × List UInt8)), v = .agg #[.int .u64 (s : Int), .slice A n c] ∧ s < 18446744073709551616 ∧ RdT W A n O ∧ n ≤ c ∧ c ≤ maxLen := by
  obtain ⟨x0, x1, y0, y1, nf, rfl, _, _, t0, t1⟩ := Go.Joins.open_agg2 Try.underlying27 (by kernel_rfl) (by kernel_rfl) hv h
  obtain ⟨N, eN, _, wN⟩ := DataW.trod_int Try.underlying24 t0
  injection eN with eN
  subst eN
  have b2 := bounds_u64 wN
  obtain ⟨N, rfl⟩ := Int.eq_ofNat_of_zero_le b2.1
  obtain ⟨A, n, c, O, rfl, h1, h2, h3⟩ := open_outs t1
  exact ⟨N, A, n, c, O, rfl, (show N < 18446744073709551616 by omega), h1, h2, h3⟩
end

/-- May one be gone through? -/
def sml14 (O : List (Nat × List UInt8)) : Bool := decide (O.length ≤ 20) && O.all fun o => decide (o.2.length ≤ 200)
set_option maxRecDepth 100000 in
theorem sml14_yes {O : List (Nat × List UInt8)} (h : sml14 O = true) : O.length ≤ 20 ∧ ∀ o ∈ O, o.2.length ≤ 200 := by
  unfold sml14 at h
  rw [Bool.and_eq_true, List.all_eq_true] at h
  exact ⟨by simpa using h.1, fun t ht => by simpa using h.2 t ht⟩
set_option maxRecDepth 100000 in
theorem sml14_big {O : List (Nat × List UInt8)} (h : 20 < O.length) : sml14 O = false := by
  unfold sml14
  rw [decide_eq_false (by omega)]
  rfl
set_option maxRecDepth 100000 in
theorem sml14_long {O : List (Nat × List UInt8)} (o : Nat × List UInt8) (h : o ∈ O) (h1 : 200 < o.2.length) : sml14 O = false := by
  unfold sml14
  rw [Bool.and_eq_false_iff]
  right
  rw [List.all_eq_false]
  exact ⟨o, h, by simp; omega⟩
set_option maxRecDepth 100000 in
theorem sml14_so {O : List (Nat × List UInt8)} (h : O.length ≤ 20) (h1 : ∀ j (hj : j < O.length), O[j].2.length ≤ 200) : sml14 O = true := by
  unfold sml14
  rw [decide_eq_true h, Bool.true_and, List.all_eq_true]
  intro t ht
  obtain ⟨j, hj, rfl⟩ := List.getElem_of_mem ht
  simpa using h1 j hj
set_option maxRecDepth 100000 in
set_option maxHeartbeats 2000000 in
theorem tsmall_calls (s : Nat) (A : Option Addr) (n c : Nat) (O : List (Nat × List UInt8)) (w : World) (hr : RdT w A n O) (hn : n ≤ maxLen) :
    Calls Try.prog 12 #[.agg #[.int .u64 (s : Int), .slice A n c]] w (Ret w (.bool (sml14 O))) := by
  unfold maxLen at hn
  have hl := hr.len
  have hB0 : Below w.heap.size w (w.alloc (.cells #[.int .u64 (s : Int), .slice A n c] 27)) := (Below.refl _ w).alloc (Nat.le_refl _) _
  by_cases h20 : 20 < n
  · have h20' : (20 : Int) < (n : Int) := by omega
    rw [sml14_big (by omega)]
    clear hr hl
    go_enter Try.func12, Try.ntmps12
    go_wp2
    go_ret
    exact ⟨rfl, hB0⟩
  · have h20' : ¬ (20 : Int) < (n : Int) := by omega
    have HR := Lib.hid hr
    have HL := Lib.hid hl
    have HB0 := Lib.hid hB0
    clear hr hl hB0
    go_enter Try.func12, Try.ntmps12
    go_wp2
    go_loopw [12] (fun cv wr => ∃ (i : Nat), i ≤ n ∧ cv = .int .i64 (i : Int) ∧ (∀ j (hj : j < O.length), j < i → O[j].2.length ≤ 200) ∧ Below w.heap.size w wr) (fun cv _ => n - (intOf cv).toNat)
    case atStart => exact ⟨0, Nat.zero_le _, rfl, fun j _ hj => absurd hj (by omega), HB0.out⟩
    case round =>
      obtain ⟨i, hin, rfl, hall, hB⟩ := hrel
      by_cases hlt : i < n
      · have hlt' : (i : Int) < (n : Int) := by omega
        obtain ⟨b, off, hl, rfl, hb, X, m, c', hrg, h1, h2, h3, _⟩ := (HR.out.below hB).at_ hlt
        have sc0 : wr.cell? ⟨b, off + i * 2, none⟩ = some (.int .u64 (O[i].1 : Int)) := hrg 0 _ rfl
        have sc1 : wr.cell? ⟨b, off + i * 2 + 1, none⟩ = some (.slice X m c') := hrg 1 _ rfl
        have hm := h3.len
        unfold maxLen at h2
        clear hrg
        have HBA : Hid (Below w.heap.size w (wr.alloc (.cells #[.int .u64 (O[i].1 : Int), .slice X m c'] 60))) := Lib.hid (below_al hB _)
        by_cases h200 : 200 < m
        · have h200' : (200 : Int) < (m : Int) := by omega
          have HS : Hid (sml14 O = false) := Lib.hid (sml14_long _ (List.getElem_mem hl) (by omega))
          clear h3 hall hm hB
          go_wp2
          go_ret
          rw [HS.out]
          exact ⟨rfl, HBA.out⟩
        · have h200' : ¬ (200 : Int) < (m : Int) := by omega
          have HA : Hid (∀ j (hj : j < O.length), j < i + 1 → O[j].2.length ≤ 200) := Lib.hid fun j hj hji => by
            rcases Nat.lt_or_ge j i with h | h
            · exact hall j hj h
            · have e : j = i := by omega
              subst e
              omega
          clear h3 hall hm hB
          go_wp2
          go_roundw
          case rel => exact ⟨i + 1, by omega, by go_num, HA.out, HBA.out⟩
          case measure => simp [intOf]; omega
      · have hlt' : ¬ (i : Int) < (n : Int) := by omega
        have HS : Hid (sml14 O = true) := Lib.hid (sml14_so (by rw [HL.out]; omega) fun j hj => hall j hj (by have := HL.out; omega))
        have HBB := Lib.hid hB
        clear hall hB
        go_wp2
        go_ret
        rw [HS.out]
        exact ⟨rfl, HBB.out⟩
end Go.Proofs.Ythkkllcpogagiaa
