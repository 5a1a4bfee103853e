/- Merged texts: MrkO MrkP. -/
import Derived.Test.YtnfcnjboeocnmaaDoorMac
import Derived.Test.YtnfcnjboeocnmaaDoorMat
import Derived.Test.YtnfcnjboeocnmaaDoorMav
import Derived.Lib.SmallJoins
import Derived.Deep.Slices
import Derived.OpenShut
import Derived.Test.YtnfcnjboeocnmaaDoorMax
import Derived.Test.YtnfcnjboeocnmaaDoorMay
import Derived.Deep.RegionHeld3
/- Lists of hashes and hashes that came in, as they are read off the row's data. -/
namespace Go.Proofs.YtnfcnjboeocnmaaDoor
open Go.RowKit Go.ChangeShapes Go.WideShapes Go.ChangeAt Go.Deep
set_option linter.unusedVariables false

set_option maxRecDepth 100000 in
theorem cellsHs : Tryd.prog.cellsOf 35 = 32 := by kernel_rfl
section
variable {H : Type} {enc : TypeId × Value → H}
set_option maxRecDepth 100000 in
/-- A list of hashes that came in. -/
theorem open_hashes {W : World} {sp : Nat → Bool} {held : Bool} {a : Option Addr} {len cap : Nat} {d : DataW H} {p : List MemPlace} (h : DataW.Trod enc Tryd.prog W 0 sp held 22 (.slice a len cap) d p) :
    ∃ L, RdH W a len L ∧ len ≤ cap ∧ cap ≤ maxLen := by
  obtain ⟨fuel, hf⟩ := h
  rcases open_slice Tryd.underlying22 hf with ⟨hcs, _⟩ | ⟨x, l, c, m, n, D, Pl, hcs, _, hl, hm, hmm, _, he⟩
  · simp [Value.cells] at hcs
    obtain ⟨rfl, rfl, rfl⟩ := hcs
    exact ⟨[], RdH.nil _ _, by omega, by unfold maxLen; omega⟩
  · simp [Value.cells] at hcs
    obtain ⟨rfl, rfl, rfl⟩ := hcs
    have hlm : len ≤ m := by rw [hmm]; split <;> omega
    obtain ⟨b, off, spot⟩ := x
    have key : ∀ i, i < len → ∃ o : List UInt8, (∀ j v, (o.map B8)[j]? = some v → W.cell? (((⟨b, off, spot⟩ : Addr).add (i * 32)).add j) = some v) ∧ o.length = 32 := by
      intro i hi
      obtain ⟨cs', h1, h2⟩ := he i (by omega)
      rw [cellsHs] at h1
      obtain ⟨_, hlen, hc⟩ := World.cells?_some h1
      obtain ⟨o, ho32, ho⟩ := trod_bytes Tryd.underlying35 Tryd.underlying5 (by kernel_rfl) (by kernel_rfl) h2 hlen
      refine ⟨o, fun j v hv => ?_, ho32⟩
      rw [← ho] at hv
      have hj : j < 32 := by have := (List.getElem?_eq_some_iff.1 hv).1; omega
      rw [hc j hj, hv]
    obtain ⟨f, hfk⟩ := choose_lt (α := List UInt8) key
    have hget : ∀ i, i < len → hat ((List.range len).map f) i = f i := fun i hi => by
      unfold hat
      rw [List.getD_eq_getElem?_getD, List.getElem?_map, List.getElem?_range hi]
      rfl
    refine ⟨(List.range len).map f, ⟨by simp, fun y hy => ?_, fun hn => ?_⟩, hl, hm⟩
    · simp only [List.mem_map, List.mem_range] at hy
      obtain ⟨i, hi, rfl⟩ := hy
      exact (hfk i hi).2
    have h0 : ∃ v, ((f 0).map B8)[0]? = some v := by
      have := (hfk 0 hn).2
      exact ⟨_, List.getElem?_eq_getElem (by rw [List.length_map]; omega)⟩
    obtain ⟨v0, hv0⟩ := h0
    have hspot : spot = none := by
      have := (hfk 0 hn).1 0 _ hv0
      simpa [Addr.add] using World.cell?_spot this
    subst hspot
    have hlt : b < W.heap.size := by
      have := (hfk 0 hn).1 0 _ hv0
      have h2 := lt_of_cell this
      simpa [Addr.add] using h2
    refine ⟨b, off, rfl, hlt, fun i hi j v hv => ?_⟩
    rw [hget i hi] at hv
    have := (hfk i hi).1 j v hv
    rw [Addr.add_mid, Addr.add_mid] at this
    exact this
end
set_option maxRecDepth 100000 in
/-- A hash that came in. -/
theorem arrH1 {H : Type} {enc : TypeId × Value → H} {W : World} {base : Nat} {sp : Nat → Bool} {held : Bool} {r : Reach} {b0 : Nat} {v : Value} {d : DataW H} {ps : List MemPlace}
    (hv : Value.okWide Tryd.prog W r b0 35 v) (hd : DataW.Trod enc Tryd.prog W base sp held 35 v d ps) : ∃ l : List UInt8, v = .agg (l.map B8).toArray ∧ l.length = 32 := by
  obtain ⟨zs, hl, rfl, hw⟩ := open_arr Tryd.underlying35 Tryd.underlying5 (by kernel_rfl) (by kernel_rfl) hv hd
  obtain ⟨l, hl2, e⟩ := bytes_of_ints zs hw
  exact ⟨l, by rw [e], by omega⟩
end Go.Proofs.YtnfcnjboeocnmaaDoor

/- The contracts of package merkle's half, Depth and hasTwins. -/
namespace Go.Proofs.YtnfcnjboeocnmaaDoor
open Go.RowKit
set_option linter.unusedVariables false
set_option linter.unusedSimpArgs false

set_option maxRecDepth 100000 in
set_option maxHeartbeats 4000000 in
theorem ghalf_calls (n : Nat) (hn : n ≤ 9223372036854775807) (w : World) : Calls Tryd.prog 32 #[.int .i64 (n : Int)] w (Ret w (.int .i64 (((n + 1) / 2 : Nat) : Int))) := by
  obtain ⟨m, hm⟩ : ∃ m, m = (n + 1) / 2 := ⟨_, rfl⟩
  obtain ⟨k, hk⟩ : ∃ k, k = n / 2 := ⟨_, rfl⟩
  have q1 : Int.tdiv (n : Int) 2 = (k : Int) := by rw [Int.tdiv_eq_ediv_of_nonneg (by omega)]; omega
  have q2 : (n : Int) / 2 = (k : Int) := by omega
  have q3 : IntKind.i64.wrap (k : Int) = (k : Int) := by rw [IntKind.wrap_i64]; omega
  have q4 : IntKind.i64.wrap ((n : Int) - (k : Int)) = (m : Int) := by rw [IntKind.wrap_i64]; omega
  rw [← hm]
  clear hm hk
  go_enter Tryd.func32, Tryd.ntmps32
  go_wp2
  go_ret
  first | exact ⟨rfl, Below.refl _ _⟩ | (refine ⟨?_, Below.refl _ _⟩; simp [q1, q2, q3, q4])
set_option maxRecDepth 100000 in
theorem depth_le63 (n : Nat) (h : n ≤ 9223372036854775807) : depth n ≤ 63 := by
  by_cases hn : n ≤ 1
  · rw [depth_small n hn]; omega
  · have h1 := depth_low n (by omega)
    rcases Nat.lt_or_ge (depth n) 64 with h2 | h2
    · omega
    · have h3 := Nat.pow_le_pow_right (n := 2) (by omega) (show 63 ≤ depth n - 1 by omega)
      omega
set_option maxRecDepth 100000 in
set_option maxHeartbeats 4000000 in
theorem gdepth_calls (k : Int) (hk : k ≤ 9223372036854775807) (hk0 : -9223372036854775808 ≤ k) (w : World) :
    Calls Tryd.prog 30 #[.int .i64 k] w (Ret w (.int .i64 (depth k.toNat : Int))) := by
  by_cases h1 : k ≤ 1
  · have hd : ¬ (1 : Int) < k := by omega
    have e0 : depth k.toNat = 0 := depth_small _ (by omega)
    rw [e0]
    clear e0
    go_enter Tryd.func30, Tryd.ntmps30
    go_wp2
    go_loopw [0, 3] (fun x d wr => x = .int .i64 k ∧ d = .int .i64 0 ∧ Below w.heap.size w wr) (fun _ _ _ => 0)
    case atStart => exact ⟨rfl, by first | rfl | go_num, Below.refl _ w⟩
    case round =>
      obtain ⟨rfl, rfl, hbel⟩ := hrel
      go_wp2
      go_ret
      exact ⟨by first | rfl | go_num, hbel⟩
  · obtain ⟨N, hN⟩ : ∃ N : Nat, N = k.toNat := ⟨_, rfl⟩
    have hkN : k = (N : Int) := by omega
    rw [← hN]
    subst hkN
    obtain ⟨D, hD⟩ : ∃ D, D = depth N := ⟨_, rfl⟩
    have hD63 : D ≤ 63 := by rw [hD]; exact depth_le63 N (by omega)
    rw [← hD]
    have CH : Hid (∀ W (m m' : Nat), m ≤ 9223372036854775807 → m' = (m + 1) / 2 → Calls Tryd.prog 32 #[.int .i64 (m : Int)] W (Ret W (.int .i64 (m' : Int)))) := Lib.hid fun W m m' hm he => by rw [he]; exact ghalf_calls m hm W
    have HD := Lib.hid hD
    clear hD hN h1 hk0
    go_enter Tryd.func30, Tryd.ntmps30
    go_wp2
    go_loopw [0, 3] (fun x d wr => ∃ m t : Nat, x = .int .i64 (m : Int) ∧ d = .int .i64 (t : Int) ∧ m ≤ N ∧ t + depth m = D ∧ Below w.heap.size w wr) (fun x _ _ => (intOf x).toNat)
    case atStart => exact ⟨N, 0, rfl, by first | rfl | go_num, Nat.le_refl _, by rw [HD.out]; omega, Below.refl _ w⟩
    case round =>
      obtain ⟨m, t, rfl, rfl, hmN, hsum, hbel⟩ := hrel
      by_cases hm : 1 < m
      · have hm' : (1 : Int) < (m : Int) := by omega
        obtain ⟨m', hm2⟩ : ∃ m', m' = (m + 1) / 2 := ⟨_, rfl⟩
        have hs2 : t + 1 + depth m' = D := by rw [hm2, ← hsum, depth_big m hm]; omega
        have ht : t ≤ 62 := by omega
        have hlt : m' < m := by omega
        have C1 := Lib.hid (fun W => CH.out W m m' (by omega) hm2)
        clear hsum hm2
        go_wp2_with (go_at_call 32; refine (C1.out _).mono ?_; rintro e' v1 ⟨rfl, d1⟩)
        go_roundw
        case rel => exact ⟨m', t + 1, rfl, by go_num, by omega, hs2, below_more hbel d1⟩
        case measure => simp [intOf]; omega
      · have hm' : ¬ (1 : Int) < (m : Int) := by omega
        have e1 : t = D := by rw [depth_small m (by omega)] at hsum; omega
        subst e1
        clear hsum
        go_wp2
        go_ret
        exact ⟨rfl, hbel⟩
end Go.Proofs.YtnfcnjboeocnmaaDoor
