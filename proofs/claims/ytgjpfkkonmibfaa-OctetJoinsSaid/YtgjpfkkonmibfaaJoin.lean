/- Words for lists of byte slices, and the contract of octet.Join. -/
import Derived.Test.YtgjpfkkonmibfaaHexA
import Derived.Test.YtgjpfkkonmibfaaOpen
namespace Go.Proofs.Ytgjpfkkonmibfaa
open Go.RowKit

/-- The slice of n byte slices that begins at A holds the byte lists L. -/
def RdL (w : World) (A : Option Addr) (n : Nat) (L : List (List UInt8)) : Prop :=
  L.length = n ∧ (0 < n → ∃ b off, A = some ⟨b, off, none⟩ ∧ b < w.heap.size ∧ ∀ j (h : j < L.length), ∃ A' m c', w.cell? ⟨b, off + j, none⟩ = some (.slice A' m c') ∧ m ≤ maxLen ∧ Rd w A' m L[j])
theorem RdL.len {w : World} {A : Option Addr} {n : Nat} {L : List (List UInt8)} (h : RdL w A n L) : L.length = n := h.1
theorem RdL.at_ {w : World} {A : Option Addr} {n : Nat} {L : List (List UInt8)} (h : RdL w A n L) {k : Nat} (hk : k < n) :
    ∃ b off A' m c', ∃ hl : k < L.length, A = some ⟨b, off, none⟩ ∧ w.cell? ⟨b, off + k, none⟩ = some (.slice A' m c') ∧ m ≤ maxLen ∧ Rd w A' m L[k] := by
  obtain ⟨b, off, e, hb, hc⟩ := h.2 (by omega)
  have hl : k < L.length := by have := h.1; omega
  obtain ⟨A', m, c', h1, h2, h3⟩ := hc k hl
  exact ⟨b, off, A', m, c', hl, e, h1, h2, h3⟩
theorem RdL.below {w w' : World} {A : Option Addr} {n : Nat} {L : List (List UInt8)} (h : RdL w A n L) (hb : Below w.heap.size w w') : RdL w' A n L :=
  ⟨h.1, fun hn => by
    obtain ⟨b, off, e, hlt, hc⟩ := h.2 hn
    have hs := hb.size
    refine ⟨b, off, e, by omega, fun j hj => ?_⟩
    obtain ⟨A', m, c', h1, h2, h3⟩ := hc j hj
    exact ⟨A', m, c', (hb.cell (p := ⟨b, off + j, none⟩) hlt).trans h1, h2, h3.below hb⟩⟩
theorem flat_take (L : List (List UInt8)) (t : Nat) (h : t < L.length) : (L.take (t + 1)).flatten = (L.take t).flatten ++ L[t] := by
  rw [List.take_succ_eq_append_getElem h, List.flatten_append, List.flatten_cons, List.flatten_nil, List.append_nil]
theorem flat_le (L : List (List UInt8)) (t : Nat) : (L.take t).flatten.length ≤ L.flatten.length := by
  conv => rhs; rw [← List.take_append_drop t L, List.flatten_append, List.length_append]
  omega

theorem rdl_rows {w : World} {a : Addr} {len cap : Nat} {A : Nat → Option Addr} {L C : Nat → Nat} {Z : Nat → List Int} (hl : len ≤ cap)
    (hrow : ∀ r, r < cap → w.cell? (a.add r) = some (.slice (A r) (L r) (C r)) ∧ L r ≤ C r ∧ C r ≤ maxLen ∧ (Z r).length = C r ∧ (∀ n ∈ Z r, (Lit.int .u8 n).wf = true) ∧ (A r = none → C r = 0) ∧
        ∀ a', A r = some a' → 0 ≤ a'.block ∧ ∀ c, c < C r → w.cell? (a'.add c) = some (.int .u8 ((Z r).getD c 0))) : ∃ LL, RdL w (some a) len LL := by
  refine ⟨(List.range len).map fun r => bytesOf (Z r) (L r), by simp, fun hn => ?_⟩
  obtain ⟨b, off, spot⟩ := a
  have hc := (hrow 0 (by omega)).1
  have hspot : spot = none := by simpa [Addr.add] using World.cell?_spot hc
  subst hspot
  refine ⟨b, off, rfl, lt_of_cell (a := (⟨b, off, none⟩ : Addr).add 0) hc, fun j hj => ?_⟩
  have hj' : j < len := by simpa using hj
  obtain ⟨h1, h2, h3, h4, h5, h6, h7⟩ := hrow j (by omega)
  have hp : (⟨b, off, none⟩ : Addr).add j = ⟨b, off + j, none⟩ := by unfold Addr.add; split <;> simp_all
  refine ⟨A j, L j, C j, by rw [← hp]; exact h1, by omega, ?_⟩
  rw [List.getElem_map, List.getElem_range]
  cases hA : A j with
  | none =>
    have h0 := h6 hA
    have hL : L j = 0 := by omega
    rw [hL]
    exact Rd.nil _ _
  | some x => exact rd_ints_at (fun i hi => (h7 x hA).2 i (by omega)) h2 h4 h5

set_option maxHeartbeats 400000 in
theorem join_calls (A : Option Addr) (n c : Nat) (L : List (List UInt8)) (w : World) (hn : n ≤ 1000000) (hf : L.flatten.length ≤ 1000000) (hr : RdL w A n L) :
    Calls Try.prog 26 #[.slice A n c] w (Mk w L.flatten) := by
  have HL := Lib.hid hr.len
  have HR := Lib.hid hr
  clear hr
  go_enter Try.func26, Try.ntmps26
  go_wp2
  go_loop [3, 11] (fun v i => ∃ t q : Nat, t ≤ n ∧ i = .int .i64 t ∧ v = .int .i64 q ∧ q ≤ 1000000 ∧ Hid (q = (L.take t).flatten.length)) (fun _ i => n - (intOf i).toNat)
  case atStart => exact ⟨0, 0, Nat.zero_le _, rfl, rfl, by omega, by show 0 = _; simp⟩
  case round =>
    obtain ⟨t, q, ht, rfl, rfl, hq, HQ⟩ := hrel
    by_cases hlt : t < n
    · obtain ⟨b, off, A', m, c', hl, rfl, hcell, _, hrd⟩ := HR.out.at_ (k := t) hlt
      have hm : m ≤ 1000000 := by
        have h1 := flat_le L (t + 1)
        rw [flat_take L t hl, List.length_append, hrd.len] at h1
        omega
      have hqm : q + m ≤ 1000000 := by
        have h1 := flat_le L (t + 1)
        rw [flat_take L t hl, List.length_append, hrd.len, ← HQ.out] at h1
        omega
      have HRD := Lib.hid hrd.len
      clear hrd
      go_wp2
      go_round
      case rel =>
        refine ⟨t + 1, q + m, by omega, by go_num, by go_num, hqm, ?_⟩
        show q + m = _
        rw [flat_take L t hl, List.length_append, HRD.out, ← HQ.out]
      case measure => simp [intOf]; omega
    · have e : t = n := by omega
      subst e
      have hmk := fun W => run_mk8c (q : Int) q rfl (by omega) W
      go_wp2
      clear hmk
      go_loopw [6, 24] (fun o i wr => ∃ (k p : Nat) (B : Option Addr) (d : Nat), k ≤ t ∧ i = .int .i64 k ∧ o = .slice B p d ∧ Own wr w.heap.size B p d (L.take k).flatten ∧ Below w.heap.size w wr) (fun _ i _ => t - (intOf i).toNat)
      case atStart => exact ⟨0, 0, _, _, Nat.zero_le _, rfl, rfl, Own.room _ _ (by unfold maxLen; omega), (Below.refl _ _).alloc (Nat.le_refl _) _⟩
      case round =>
        obtain ⟨k, p, B, d, hk, rfl, rfl, hown, hbel⟩ := hrel
        by_cases hlt2 : k < t
        · obtain ⟨b, off, A', m, c', hl, rfl, hcell, _, hrd⟩ := (HR.out.below hbel).at_ (k := k) hlt2
          have hpm : p + m ≤ 1000000 := by
            have h1 := flat_le L (k + 1)
            rw [flat_take L k hl, List.length_append, hrd.len, hown.len] at h1
            omega
          go_wp2_with (at_builtin; refine app8_all _ rfl _ _ rfl w.heap.size B p d _ A' m c' _ rfl rfl hown hrd (by omega) hbel.size ?_; intro A2 c2 w2 hown' hbel')
          go_roundw
          case rel =>
            rw [← flat_take L k hl] at hown'
            exact ⟨k + 1, p + m, A2, c2, by omega, by go_num, rfl, hown', hbel.trans hbel'⟩
          case measure => simp [intOf]; omega
        · have e : k = t := by omega
          subst e
          rw [List.take_of_length_le (by rw [HL.out]; omega)] at hown
          go_wp2
          go_ret
          exact ⟨_, _, _, rfl, hown, hbel⟩
end Go.Proofs.Ytgjpfkkonmibfaa
