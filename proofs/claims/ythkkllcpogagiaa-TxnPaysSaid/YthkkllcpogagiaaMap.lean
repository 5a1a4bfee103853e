/- Merged texts: TxnO TxnA. -/
import Derived.Test.YthkkllcpogagiaaMao
import Derived.Test.YthkkllcpogagiaaMac
import Derived.Lib.SmallJoins
import Derived.Deep.Slices
import Derived.OpenShut
import Derived.Test.YthkkllcpogagiaaMam
import Derived.Deep.RegionHeld3
import Derived.Deep.CutRange
import Derived.Deep.DeepCutAuto
/- Transactions that came in, as they are read off the row's data; slices of outputs. -/
namespace Go.Proofs.Ythkkllcpogagiaa
open Go.RowKit Go.ChangeShapes Go.WideShapes Go.ChangeAt Go.Deep
set_option linter.unusedVariables false
set_option linter.unusedSimpArgs false

/-- Values that are outputs. -/
def OutV (w : World) (V : List (List Value)) (O : List (Nat × List UInt8)) : Prop :=
  V.length = O.length ∧ ∀ i (h : i < V.length) (h2 : i < O.length), ∃ A m c, V[i] = [.int .u64 (O[i].1 : Int), .slice A m c] ∧ m ≤ c ∧ c ≤ maxLen ∧ Rd w A m O[i].2 ∧ O[i].1 < 18446744073709551616
set_option maxRecDepth 100000 in
theorem OutV.nil (w : World) : OutV w [] [] := ⟨rfl, fun i h => absurd h (by simp)⟩
set_option maxRecDepth 100000 in
theorem OutV.below {w W : World} {V : List (List Value)} {O : List (Nat × List UInt8)} (h : OutV w V O) (hb : Below w.heap.size w W) : OutV W V O :=
  ⟨h.1, fun i h1 h2 => by
    obtain ⟨A, m, c, e, k1, k2, k3, k4⟩ := h.2 i h1 h2
    exact ⟨A, m, c, e, k1, k2, k3.below hb, k4⟩⟩
/-- The slice of n outputs that begins at A reads O. -/
def RdT (w : World) (A : Option Addr) (n : Nat) (O : List (Nat × List UInt8)) : Prop := ∃ V, RdG w 2 A n V ∧ OutV w V O
set_option maxRecDepth 100000 in
theorem RdT.below {w W : World} {A : Option Addr} {n : Nat} {O : List (Nat × List UInt8)} (h : RdT w A n O) (hb : Below w.heap.size w W) : RdT W A n O := by
  obtain ⟨V, h1, h2⟩ := h
  exact ⟨V, h1.below hb, h2.below hb⟩
set_option maxRecDepth 100000 in
theorem RdT.len {w : World} {A : Option Addr} {n : Nat} {O : List (Nat × List UInt8)} (h : RdT w A n O) : O.length = n := by
  obtain ⟨V, h1, h2⟩ := h
  rw [← h2.1, h1.1]
set_option maxRecDepth 100000 in
theorem RdT.nil (w : World) (A : Option Addr) : RdT w A 0 [] := ⟨[], RdG.nil _ _ _, OutV.nil _⟩
set_option maxRecDepth 100000 in
theorem RdT.at_ {w : World} {A : Option Addr} {n : Nat} {O : List (Nat × List UInt8)} (h : RdT w A n O) {i : Nat} (hi : i < n) :
    ∃ b off, ∃ hl : i < O.length, A = some ⟨b, off, none⟩ ∧ b < w.heap.size ∧ ∃ X m c, w.rangeAt b (off + i * 2) [.int .u64 (O[i].1 : Int), .slice X m c] ∧ m ≤ c ∧ c ≤ maxLen ∧ Rd w X m O[i].2 ∧ O[i].1 < 18446744073709551616 := by
  have hln := h.len
  obtain ⟨V, h1, h2⟩ := h
  obtain ⟨b, off, hl, e, hlt, hr⟩ := h1.at_ hi
  obtain ⟨X, m, c, e2, k⟩ := h2.2 i hl (by omega)
  rw [e2] at hr
  exact ⟨b, off, by omega, e, hlt, X, m, c, hr, k⟩
set_option maxRecDepth 100000 in
theorem RdT.all {w : World} {A : Option Addr} {n : Nat} {O : List (Nat × List UInt8)} (h : RdT w A n O) : ∀ o ∈ O, o.1 < 18446744073709551616 := fun o ho => by
  obtain ⟨V, h1, h2⟩ := h
  obtain ⟨i, hi, rfl⟩ := List.getElem_of_mem ho
  obtain ⟨_, _, _, _, _, _, _, k⟩ := h2.2 i (by rw [h2.1]; exact hi) hi
  exact k
set_option maxRecDepth 100000 in
theorem list2 {α : Type} {l : List α} (h : l.length = 2) : ∃ a b, l = [a, b] := by
  match l, h with
  | [a, b], _ => exact ⟨a, b, rfl⟩
section
variable {H : Type} {enc : TypeId × Value → H}
set_option maxRecDepth 100000 in
theorem cellsU2 : Try.prog.cellsOf 24 = 1 := by kernel_rfl
set_option maxRecDepth 100000 in
theorem cellsBy2 : Try.prog.cellsOf 22 = 1 := by kernel_rfl
set_option maxRecDepth 100000 in
theorem cellsOut : Try.prog.cellsOf 60 = 2 := by kernel_rfl
set_option maxRecDepth 100000 in
/-- A byte slice in a field. -/
theorem open_fieldB {W : World} {base fuel : Nat} {sp : Nat → Bool} {held : Bool} {v : Value} {y : DataW H × List MemPlace} (h : DataW.trod enc Try.prog W base sp held fuel 22 [v] = some y) :
    ∃ A len cap l, v = .slice A len cap ∧ Rd W A len l ∧ len ≤ cap ∧ cap ≤ maxLen := by
  rcases open_ints Try.underlying22 Try.underlying5 (by kernel_rfl) h with ⟨hcs, _⟩ | ⟨x, l, c, zs, hcs, _, hl, hm, hz, hx, hcell, hwz⟩
  · injection hcs with hcs
    exact ⟨none, 0, 0, [], hcs, Rd.nil _ _, by omega, by unfold maxLen; omega⟩
  · injection hcs with hcs
    refine ⟨some x, l, c, bytesOf zs l, hcs, ?_, hl, hm⟩
    have hzl : l ≤ zs.length := by rw [hz]; split <;> omega
    exact rd_ints_at hcell hzl rfl hwz
set_option maxRecDepth 100000 in
/-- An output that came in. -/
theorem open_out {W : World} {base fuel : Nat} {sp : Nat → Bool} {held : Bool} {c0 c1 : Value} {y : DataW H × List MemPlace} (h : DataW.trod enc Try.prog W base sp held fuel 60 [c0, c1] = some y) :
    ∃ (o : Nat × List UInt8) (A : Option Addr) (m c : Nat), c0 = .int .u64 (o.1 : Int) ∧ c1 = .slice A m c ∧ m ≤ c ∧ c ≤ maxLen ∧ Rd W A m o.2 ∧ o.1 < 18446744073709551616 := by
  obtain ⟨y0, y1, n, _, _, t0, t1⟩ := trod_struct2 Try.underlying60 h
  simp only [cellsU2, cellsBy2, List.drop, List.take] at t0 t1
  obtain ⟨N, eN, _, wN⟩ := DataW.trod_int Try.underlying24 t0
  obtain ⟨B, bl, bc, lb, rfl, hB, h1, h2⟩ := open_fieldB t1
  injection eN with eN
  subst eN
  have b2 := bounds_u64 wN
  obtain ⟨N, rfl⟩ := Int.eq_ofNat_of_zero_le b2.1
  exact ⟨(N, lb), B, bl, bc, rfl, rfl, h1, h2, hB, (show N < 18446744073709551616 by omega)⟩
set_option maxRecDepth 100000 in
/-- A list of outputs that came in. -/
theorem open_outs {W : World} {fuel : Nat} {sp : Nat → Bool} {held : Bool} {v : Value} {y : DataW H × List MemPlace} (hf : DataW.trod enc Try.prog W 0 sp held fuel 25 [v] = some y) :
    ∃ a len cap O, v = .slice a len cap ∧ RdT W a len O ∧ len ≤ cap ∧ cap ≤ maxLen := by
  rcases open_slice Try.underlying25 hf with ⟨hcs, _⟩ | ⟨x, l, c, m, n, D, Pl, hcs, _, hl, hm, hmm, _, he⟩
  · injection hcs with hcs
    exact ⟨none, 0, 0, [], hcs, RdT.nil _ _, by omega, by unfold maxLen; omega⟩
  · injection hcs with hcs
    have hlm : l ≤ m := by rw [hmm]; split <;> omega
    obtain ⟨b, off, spot⟩ := x
    have key : ∀ i, i < l → ∃ z : List Value × (Nat × List UInt8), (∀ j v, z.1[j]? = some v → W.cell? (((⟨b, off, spot⟩ : Addr).add (i * 2)).add j) = some v) ∧ z.1.length = 2 ∧ ∃ A m c, z.1 = [.int .u64 (z.2.1 : Int), .slice A m c] ∧ m ≤ c ∧ c ≤ maxLen ∧ Rd W A m z.2.2 ∧ z.2.1 < 18446744073709551616 := by
      intro i hi
      obtain ⟨cs', h1, h2⟩ := he i (by omega)
      rw [cellsOut] at h1
      obtain ⟨_, hlen, hc⟩ := World.cells?_some h1
      obtain ⟨c0, c1, rfl⟩ := list2 hlen
      obtain ⟨o, A, m, c, e0, e1, k⟩ := open_out h2
      refine ⟨([c0, c1], o), fun j v hv => ?_, rfl, A, m, c, by rw [e0, e1], k⟩
      have hj : j < 2 := by have := (List.getElem?_eq_some_iff.1 hv).1; simpa using this
      rw [hc j hj]
      exact hv
    obtain ⟨f, hfk⟩ := choose_lt (α := List Value × (Nat × List UInt8)) key
    refine ⟨some ⟨b, off, spot⟩, l, c, (List.range l).map fun i => (f i).2, hcs, ⟨(List.range l).map fun i => (f i).1, ⟨by simp, fun x hx => ?_, fun hn => ?_⟩, by simp, fun i h1 h2 => ?_⟩, hl, hm⟩
    · obtain ⟨i, hi, rfl⟩ := List.mem_map.1 hx
      exact (hfk i (List.mem_range.1 hi)).2.1
    · have h0 := hfk 0 hn
      have h00 : (f 0).1[0]? = some (.int .u64 ((f 0).2.1 : Int)) := by
        obtain ⟨A, m, c, e, _⟩ := h0.2.2
        rw [e]; rfl
      have hspot : spot = none := by
        have := h0.1 0 _ h00
        simpa [Addr.add] using World.cell?_spot this
      subst hspot
      have hlt : b < W.heap.size := by
        have := h0.1 0 _ h00
        have h2 := lt_of_cell this
        simpa [Addr.add] using h2
      refine ⟨b, off, rfl, hlt, fun j hj => ?_⟩
      have hj' : j < l := by simpa using hj
      rw [List.getElem_map, List.getElem_range]
      intro i v hv
      have := (hfk j hj').1 i v hv
      rw [Addr.add_mid, Addr.add_mid] at this
      exact this
    · rw [List.getElem_map, List.getElem_map, List.getElem_range]
      exact (hfk i (by simpa using h1)).2.2
set_option maxRecDepth 100000 in
/-- A transaction that came in. -/
theorem open_tx {W : World} {sp : Nat → Bool} {held : Bool} {r : Reach} {b0 : Nat} {v : Value} {d : DataW H} {p : List MemPlace} (hv : Value.okWide Try.prog W r b0 27 v) (h : DataW.Trod enc Try.prog W 0 sp held 27 v d p) :
    ∃ (s : Nat) (A : Option Addr) (n c : Nat) (O : List (Nat × List UInt8)), v = .agg #[.int .u64 (s : Int), .slice A n c] ∧ s < 18446744073709551616 ∧ RdT W A n O ∧ n ≤ c ∧ c ≤ maxLen := by
  obtain ⟨x0, x1, y0, y1, nf, rfl, _, _, t0, t1⟩ := Go.Joins.open_agg2 Try.underlying27 (by kernel_rfl) (by kernel_rfl) hv h
  obtain ⟨N, eN, _, wN⟩ := DataW.trod_int Try.underlying24 t0
  injection eN with eN
  subst eN
  have b2 := bounds_u64 wN
  obtain ⟨N, rfl⟩ := Int.eq_ofNat_of_zero_le b2.1
  obtain ⟨A, n, c, O, rfl, h1, h2, h3⟩ := open_outs t1
  exact ⟨N, A, n, c, O, rfl, (show N < 18446744073709551616 by omega), h1, h2, h3⟩
end

/-- May one be gone through? -/
def sml14 (O : List (Nat × List UInt8)) : Bool := decide (O.length ≤ 20) && O.all fun o => decide (o.2.length ≤ 200)
set_option maxRecDepth 100000 in
theorem sml14_yes {O : List (Nat × List UInt8)} (h : sml14 O = true) : O.length ≤ 20 ∧ ∀ o ∈ O, o.2.length ≤ 200 := by
  unfold sml14 at h
  rw [Bool.and_eq_true, List.all_eq_true] at h
  exact ⟨by simpa using h.1, fun t ht => by simpa using h.2 t ht⟩
set_option maxRecDepth 100000 in
theorem sml14_big {O : List (Nat × List UInt8)} (h : 20 < O.length) : sml14 O = false := by
  unfold sml14
  rw [decide_eq_false (by omega)]
  rfl
set_option maxRecDepth 100000 in
theorem sml14_long {O : List (Nat × List UInt8)} (o : Nat × List UInt8) (h : o ∈ O) (h1 : 200 < o.2.length) : sml14 O = false := by
  unfold sml14
  rw [Bool.and_eq_false_iff]
  right
  rw [List.all_eq_false]
  exact ⟨o, h, by simp; omega⟩
set_option maxRecDepth 100000 in
theorem sml14_so {O : List (Nat × List UInt8)} (h : O.length ≤ 20) (h1 : ∀ j (hj : j < O.length), O[j].2.length ≤ 200) : sml14 O = true := by
  unfold sml14
  rw [decide_eq_true h, Bool.true_and, List.all_eq_true]
  intro t ht
  obtain ⟨j, hj, rfl⟩ := List.getElem_of_mem ht
  simpa using h1 j hj
set_option maxRecDepth 100000 in
set_option maxHeartbeats 2000000 in
theorem tsmall_calls (s : Nat) (A : Option Addr) (n c : Nat) (O : List (Nat × List UInt8)) (w : World) (hr : RdT w A n O) (hn : n ≤ maxLen) :
    Calls Try.prog 12 #[.agg #[.int .u64 (s : Int), .slice A n c]] w (Ret w (.bool (sml14 O))) := by
  unfold maxLen at hn
  have hl := hr.len
  have hB0 : Below w.heap.size w (w.alloc (.cells #[.int .u64 (s : Int), .slice A n c] 27)) := (Below.refl _ w).alloc (Nat.le_refl _) _
  by_cases h20 : 20 < n
  · have h20' : (20 : Int) < (n : Int) := by omega
    rw [sml14_big (by omega)]
    clear hr hl
    go_enter Try.func12, Try.ntmps12
    go_wp2
    go_ret
    exact ⟨rfl, hB0⟩
  · have h20' : ¬ (20 : Int) < (n : Int) := by omega
    have HR := Lib.hid hr
    have HL := Lib.hid hl
    have HB0 := Lib.hid hB0
    clear hr hl hB0
    go_enter Try.func12, Try.ntmps12
    go_wp2
    go_loopw [12] (fun cv wr => ∃ (i : Nat), i ≤ n ∧ cv = .int .i64 (i : Int) ∧ (∀ j (hj : j < O.length), j < i → O[j].2.length ≤ 200) ∧ Below w.heap.size w wr) (fun cv _ => n - (intOf cv).toNat)
    case atStart => exact ⟨0, Nat.zero_le _, rfl, fun j _ hj => absurd hj (by omega), HB0.out⟩
    case round =>
      obtain ⟨i, hin, rfl, hall, hB⟩ := hrel
      by_cases hlt : i < n
      · have hlt' : (i : Int) < (n : Int) := by omega
        obtain ⟨b, off, hl, rfl, hb, X, m, c', hrg, h1, h2, h3, _⟩ := (HR.out.below hB).at_ hlt
        have sc0 : wr.cell? ⟨b, off + i * 2, none⟩ = some (.int .u64 (O[i].1 : Int)) := hrg 0 _ rfl
        have sc1 : wr.cell? ⟨b, off + i * 2 + 1, none⟩ = some (.slice X m c') := hrg 1 _ rfl
        have hm := h3.len
        unfold maxLen at h2
        clear hrg
        have HBA : Hid (Below w.heap.size w (wr.alloc (.cells #[.int .u64 (O[i].1 : Int), .slice X m c'] 60))) := Lib.hid (below_al hB _)
        by_cases h200 : 200 < m
        · have h200' : (200 : Int) < (m : Int) := by omega
          have HS : Hid (sml14 O = false) := Lib.hid (sml14_long _ (List.getElem_mem hl) (by omega))
          clear h3 hall hm hB
          go_wp2
          go_ret
          rw [HS.out]
          exact ⟨rfl, HBA.out⟩
        · have h200' : ¬ (200 : Int) < (m : Int) := by omega
          have HA : Hid (∀ j (hj : j < O.length), j < i + 1 → O[j].2.length ≤ 200) := Lib.hid fun j hj hji => by
            rcases Nat.lt_or_ge j i with h | h
            · exact hall j hj h
            · have e : j = i := by omega
              subst e
              omega
          clear h3 hall hm hB
          go_wp2
          go_roundw
          case rel => exact ⟨i + 1, by omega, by go_num, HA.out, HBA.out⟩
          case measure => simp [intOf]; omega
      · have hlt' : ¬ (i : Int) < (n : Int) := by omega
        have HS : Hid (sml14 O = true) := Lib.hid (sml14_so (by rw [HL.out]; omega) fun j hj => hall j hj (by have := HL.out; omega))
        have HBB := Lib.hid hB
        clear hall hB
        go_wp2
        go_ret
        rw [HS.out]
        exact ⟨rfl, HBB.out⟩
end Go.Proofs.Ythkkllcpogagiaa

/- The law's own Ref of layer 14; the document's Same. -/
namespace Go.Proofs.Ythkkllcpogagiaa
open Go.RowKit
set_option linter.unusedVariables false
set_option linter.unusedSimpArgs false

set_option maxRecDepth 100000 in
theorem ty_ne {w : World} {g : Nat} {cs : List Value} {t e : TypeId} {cs' : Array Value} {d : Nat × Nat} (h : Blk w g cs t) (hr : w.heap[g]? = some (.cells cs' e d)) (hne : e ≠ t) : False := by
  have h2 : w.heap[g]? = some (.cells cs.toArray t (0, 0)) := h
  rw [hr] at h2
  injection h2 with h2
  injection h2 with _ h3
  exact hne h3
set_option maxRecDepth 100000 in
theorem Blk.appG {w W : World} {b g k n c : Nat} {t e : TypeId} {cs : List Value} {A : Option Addr} {V : List (List Value)} (h : Blk w g cs t) (ho : OwnG w b e k A n c V) (hne : e ≠ t) (hf : Frm (fun i => blkOf A = some i) w W) : Blk W g cs t :=
  hf.blk h fun hP => by
    obtain ⟨_, _, cs', d, hr⟩ := ho.blk g hP
    exact ty_ne h hr hne
set_option maxRecDepth 100000 in
theorem OwnG.setB {w : World} {b g o k n c : Nat} {t e : TypeId} {cs : List Value} {v : Value} {A : Option Addr} {V : List (List Value)} (ho : OwnG w b e k A n c V) (h : Blk w g cs t) (hne : e ≠ t) : OwnG (w.setCell ⟨g, o, none⟩ v) b e k A n c V :=
  ho.frm (P := fun i => i = g) ((Frm.refl _ w).setCell g o v rfl) fun i hi e1 => by
    obtain ⟨_, _, cs', d, hr⟩ := ho.blk i hi
    rw [e1] at hr
    exact ty_ne h hr hne
/-- An output as the document has it. -/
def DO (o : Nat × List UInt8) : List Value := [.int .u64 (o.1 : Int), .string ⟨o.2.toArray⟩]
set_option maxRecDepth 100000 in
theorem do_len (O : List (Nat × List UInt8)) : ∀ x ∈ O.map DO, x.length = 2 := fun x hx => by
  obtain ⟨o, _, rfl⟩ := List.mem_map.1 hx
  rfl
set_option maxRecDepth 100000 in
theorem I2tx : (Try.prog.info? 33).map (·.size) = some 2 := by kernel_rfl
def zDO : List Value := [.int .u64 0, .string ByteArray.empty]
set_option maxRecDepth 100000 in
theorem infoDO : (Try.prog.info? 67).map (fun i => (i.zero, i.size, i.bytes)) = some (some (.agg zDO.toArray), 2, 24) := by kernel_rfl
set_option maxRecDepth 100000 in
theorem zDO_arr : (Array.range (1 * 2)).map ((Value.agg zDO.toArray).cells[· % (Value.agg zDO.toArray).cells.size]!) = zDO.toArray := by kernel_rfl
set_option maxRecDepth 100000 in
set_option maxHeartbeats 4000000 in
theorem tref_calls (s : Nat) (A : Option Addr) (n c : Nat) (O : List (Nat × List UInt8)) (w : World) (hr : RdT w A n O) (hn : n ≤ 1000) :
    Calls Try.prog 10 #[.agg #[.int .u64 (s : Int), .slice A n c]] w fun e w' => ∃ A' c', e = .returned (.agg #[.int .u64 (s : Int), .slice A' n c']) ∧ OwnG w' w.heap.size 67 2 A' n c' (O.map DO) ∧ Below w.heap.size w w' := by
  have HR := Lib.hid hr
  have HL := Lib.hid hr.len
  clear hr
  go_enter Try.func10, Try.ntmps10
  go_upto_region 3 with fail
  obtain ⟨W0, hW0⟩ : ∃ z, z = ((w.alloc (.cells #[.int .u64 (s : Int), .slice A n c] 27)).alloc (.cells #[.int .u64 0, .slice none 0 0] 33)).alloc (.cells #[.int .u64 (s : Int), .slice none 0 0] 33) := ⟨_, rfl⟩
  obtain ⟨g2, hg2⟩ : ∃ g, g = w.heap.size + 1 := ⟨_, rfl⟩
  rw [← hg2]
  obtain ⟨g3, hg3⟩ : ∃ g, g = g2 + 1 := ⟨_, rfl⟩
  rw [← hg3]
  have k2 : Blk W0 g2 [.int .u64 0, .slice none 0 0] 33 := by rw [hW0]; exact (Blk.new' _ _ _ _ (by rw [hg2]; simp)).alloc _
  have k3 : Blk W0 g3 [.int .u64 (s : Int), .slice none 0 0] 33 := by rw [hW0]; exact Blk.new' _ _ _ _ (by rw [hg3, hg2]; simp)
  have hB0 : Below w.heap.size w W0 := by rw [hW0]; exact below_al (below_al (below_al (Below.refl _ w) _) _) _
  rw [← hW0]
  have h23 : g2 ≠ g3 := by omega
  have hg2w : w.heap.size ≤ g2 := by omega
  have hg3w : w.heap.size ≤ g3 := by omega
  have HK := Lib.hid (And.intro k2 (And.intro k3 hB0))
  clear k2 k3 hB0 hW0 hg2 hg3
  go_loopw [12] (fun cv wr => ∃ (i : Nat) (A1 : Option Addr) (c1 : Nat), i ≤ n ∧ cv = .int .i64 (i : Int) ∧ Blk wr g3 [.int .u64 (s : Int), .slice A1 i c1] 33 ∧ Blk wr g2 [.int .u64 0, .slice none 0 0] 33 ∧ OwnG wr w.heap.size 67 2 A1 i c1 ((O.take i).map DO) ∧ Below w.heap.size w wr) (fun cv _ => n - (intOf cv).toNat)
  case atStart => exact ⟨0, none, 0, Nat.zero_le _, rfl, HK.out.2.1, HK.out.1, OwnG.nil _ _ _ _, HK.out.2.2⟩
  case round =>
    obtain ⟨i, A1, c1, hin, rfl, k3, k2, hown, hbel⟩ := hrel
    by_cases hlt : i < n
    · have hlt' : (i : Int) < (n : Int) := by omega
      obtain ⟨b, off, hl, rfl, hb, X, m, c', hrg, h1, h2, h3, hv64⟩ := (HR.out.below hbel).at_ hlt
      have sc0 : wr.cell? ⟨b, off + i * 2, none⟩ = some (.int .u64 (O[i].1 : Int)) := hrg 0 _ rfl
      have sc1 : wr.cell? ⟨b, off + i * 2 + 1, none⟩ = some (.slice X m c') := hrg 1 _ rfl
      have HN : Hid ((O.take (i + 1)).map DO = (O.take i).map DO ++ [DO O[i]]) := Lib.hid (by rw [List.take_succ_eq_append_getElem hl, List.map_append]; rfl)
      obtain ⟨v, hv⟩ : ∃ z, z = O[i].1 := ⟨_, rfl⟩
      obtain ⟨t, ht⟩ : ∃ z, z = O[i].2 := ⟨_, rfl⟩
      obtain ⟨S, hS⟩ : ∃ z : ByteArray, z = ⟨t.toArray⟩ := ⟨_, rfl⟩
      have HD : Hid (DO O[i] = [.int .u64 (v : Int), .string S]) := Lib.hid (by rw [hS, ht, hv]; rfl)
      rw [HD.out] at HN
      rw [← hv] at sc0
      rw [← ht] at h3
      unfold maxLen at h2
      clear hrg hv ht hv64
      go_upto_region 5 with fail
      have hba : Below wr.heap.size wr (wr.alloc (.cells #[.int .u64 (v : Int), .slice X m c'] 60)) := (Below.refl _ wr).alloc (Nat.le_refl _) _
      have k5 : Blk (wr.alloc (.cells #[.int .u64 (v : Int), .slice X m c'] 60)) wr.heap.size [.int .u64 (v : Int), .slice X m c'] 60 := Blk.new wr _ _
      obtain ⟨w5, hw5⟩ : ∃ z, z = wr.alloc (.cells #[.int .u64 (v : Int), .slice X m c'] 60) := ⟨_, rfl⟩
      rw [← hw5] at hba k5
      rw [← hw5]
      obtain ⟨g5, hg5⟩ : ∃ z, z = wr.heap.size := ⟨_, rfl⟩
      rw [← hg5] at k5
      rw [← hg5]
      have k3 := k3.below hba k3.lt
      have k2 := k2.below hba k2.lt
      have hown := hown.up hba
      have hcv0 := conv8 w5 X m c' t (h3.below hba)
      have hcv : (convert 22 9 (.slice X m c')).run Try.prog w5 = .ok (.string S) w5 := by rw [hS]; exact hcv0
      have hbel := below_more hbel hba
      have s3 : w5.cell? ⟨g3, 1, none⟩ = some (.slice A1 i c1) := k3.cell 1
      have s50 : w5.cell? ⟨g5, 0, none⟩ = some (.int .u64 (v : Int)) := k5.cell 0
      have s51 : w5.cell? ⟨g5, 1, none⟩ = some (.slice X m c') := k5.cell 1
      have HH := Lib.hid (And.intro k3 (And.intro k2 (And.intro hown hbel)))
      clear hba k5 hw5 hg5 k3 k2 hown hcv0 hS h3 hbel hb sc0 sc1 HD hl
      go_wp2_with (first
        | ((with_reducible refine at_bsX 31 1 #[(0, .tmp 23)] ?_); refine wpList_bsG rfl 31 67 2 24 (.agg zDO.toArray) [.int .u64 (v : Int), .string S] rfl Try.underlying31 infoDO (by decide) (by decide) zDO zDO_arr rfl (.tmp 23) rfl (by first | rfl | simp [Act.eval]) ?_; intro g w1 hb1 hg1 hl1 hB1)
        | ((with_reducible refine at_appX 31 (.tmp 17) (.tmp 24) ?_); refine wpList_appG rfl 31 67 2 24 (.agg zDO.toArray) Try.underlying31 infoDO rfl (by decide) (by decide) (by decide) (.tmp 17) (.tmp 24) rfl w.heap.size w (below_more HH.out.2.2.2 hB1) (Nat.le_refl _) A1 i c1 ((O.take i).map DO) (by first | rfl | simp [Act.eval]) (HH.out.2.2.1.up hB1) ⟨g, 0, none⟩ rfl 1 1 (by decide) [[.int .u64 (v : Int), .string S]] (by first | rfl | simp [Act.eval]) (hb1.rdG rfl) (fun y hy u hu => by rw [List.mem_singleton.1 hy] at hu; simp at hu; rcases hu with rfl | rfl <;> rfl) (by omega) ?_; intro A3 c3 w2 ho2 hf2 hB2
           have j3 := (HH.out.1.below hB1 HH.out.1.lt).appG (HH.out.2.2.1.up hB1) (by decide) hf2
           have j2 := (HH.out.2.1.below hB1 HH.out.2.1.lt).appG (HH.out.2.2.1.up hB1) (by decide) hf2
           have s31 : w2.cell? ⟨g3, 1, none⟩ = some (.slice A1 i c1) := j3.cell 1
           have f31 : w2.frozen? ⟨g3, 1, none⟩ = false := j3.free 1))
      go_roundw
      case rel => exact ⟨i + 1, A3, c3, by omega, by go_num, j3.set 1 _, j2.set_other ⟨g3, 1, none⟩ _ h23, by rw [HN.out]; exact ho2.setB j3 (by decide), hB2.setCell (p := ⟨g3, 1, none⟩) hg3w _⟩
      case measure => simp [intOf]; omega
    · have hlt' : ¬ (i : Int) < (n : Int) := by omega
      have e : i = n := by omega
      subst e
      rw [List.take_of_length_le (by rw [HL.out]; omega)] at hown
      have s30 : wr.cell? ⟨g3, 0, none⟩ = some (.int .u64 (s : Int)) := k3.cell 0
      have s31 : wr.cell? ⟨g3, 1, none⟩ = some (.slice A1 i c1) := k3.cell 1
      have s20 : wr.cell? ⟨g2, 0, none⟩ = some (.int .u64 0) := k2.cell 0
      have s21 : wr.cell? ⟨g2, 1, none⟩ = some (.slice none 0 0) := k2.cell 1
      have f20 : wr.frozen? ⟨g2, 0, none⟩ = false := k2.free 0
      have f21 : wr.frozen? ⟨g2, 1, none⟩ = false := k2.free 1
      have HH := Lib.hid (And.intro hown (And.intro k2 hbel))
      clear hown k2 k3 hbel
      go_wp2
      have kz := (HH.out.2.1.set 0 (.int .u64 (s : Int))).set 1 (.slice A1 i c1)
      refine bodyPost_ret (v := .agg #[.int .u64 (s : Int), .slice A1 i c1]) ?_ rfl ?_
      · exact results_one Try.results10 _ _ g2 33 _ (0, 0) _ (by rfl) kz Try.underlying33 rfl I2tx
      · exact ⟨A1, c1, rfl, (HH.out.1.setB HH.out.2.1 (by decide)).setB (HH.out.2.1.set 0 _) (by decide), (HH.out.2.2.setCell (p := ⟨g2, 0, none⟩) hg2w _).setCell (p := ⟨g2, 1, none⟩) hg2w _⟩
end Go.Proofs.Ythkkllcpogagiaa
