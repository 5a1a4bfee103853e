/- The contract of the reference's Half of layer 4. -/
import Derived.Test.YtdgfgehjnfadnaaBigP
namespace Go.Proofs.Ytdgfgehjnfadnaa
open Go.RowKit
set_option linter.unusedVariables false

theorem half_step (la nx : List Nat) (i c m : Nat) (hia : i < la.length) (hin : i < nx.length) (hm : m = c * 65536 + la.getD i 0) (h : valB (nx.drop (i + 1)) * 2 + c = valB (la.drop (i + 1))) :
    valB ((nx.set i (m / 2)).drop i) * 2 + m % 2 = valB (la.drop i) := by
  have e1 : (nx.set i (m / 2)).drop i = (m / 2) :: nx.drop (i + 1) := by
    rw [List.drop_eq_getElem_cons (by rw [List.length_set]; exact hin), List.getElem_set_self, List.drop_set_of_lt (by omega)]
  have e2 : la.drop i = la.getD i 0 :: la.drop (i + 1) := by
    rw [List.drop_eq_getElem_cons hia, List.getD_eq_getElem?_getD, List.getElem?_eq_getElem hia]; rfl
  rw [e1, e2, valB, valB, ← h]
  omega
set_option maxHeartbeats 4000000 in
theorem half_calls (A : Option Addr) (m c k : Nat) (w : World) (hm : m ≤ 10000) (hk : k ≠ 0) (hrd : RdI w A m (digs k)) :
    Calls Try.prog 31 #[.slice A m c] w (MkB w (k / 2)) := by
  have hlen := hrd.len
  have hmp : 0 < m := by rw [← hlen, digs_pos hk]; simp
  have bm : (0 : Int) < (m : Int) := by omega
  obtain ⟨la, hla⟩ : ∃ la, la = digs k := ⟨_, rfl⟩
  rw [← hla] at hrd hlen
  have HD : Hid (∀ t, la.getD t 0 < 65536) := Lib.hid fun t => by rw [hla]; exact (digs_lt k).getD t
  have HV : Hid (valB la = k) := Lib.hid (by rw [hla]; exact val_digs k)
  have hmk := fun W => run_mkI m (by omega) W (by omega)
  have K := Lib.hid hrd
  have HLA := Lib.hid hlen
  clear hrd hla hlen
  go_enter Try.func31, Try.ntmps31
  go_wp2
  go_loopw [4, 5] (fun cv i wr => ∃ (t d : Nat) (nx : List Nat), t ≤ m ∧ d < 2 ∧ cv = .int .i64 (d : Int) ∧ i = .int .i64 ((t : Int) - 1) ∧ Blk wr w.heap.size (nx.map WI) 3 ∧ Hid (nx.length = m ∧ Dg nx ∧ valB (nx.drop t) * 2 + d = valB (la.drop t)) ∧ Below w.heap.size w wr) (fun _ i _ => (intOf i + 1).toNat)
  case atStart => exact ⟨m, 0, List.replicate m 0, Nat.le_refl _, by omega, rfl, rfl, blk_made w m, ⟨by simp, fun d hd => by simp at hd; omega, by rw [List.drop_of_length_le (by simp), List.drop_of_length_le (by rw [HLA.out]; exact Nat.le_refl _)]; rfl⟩, (Below.refl _ w).alloc (Nat.le_refl _) _⟩
  case round =>
    obtain ⟨t, d, nx, ht, hd, rfl, rfl, hb, HX, hbel⟩ := hrel
    obtain ⟨x1, x2, x3⟩ := HX.out
    by_cases ht0 : 0 < t
    · obtain ⟨q, hq⟩ : ∃ q, q = t - 1 := ⟨_, rfl⟩
      have hqi : (t : Int) - 1 = (q : Int) := by omega
      rw [hqi]
      have htq : t = q + 1 := by omega
      rw [htq] at x3
      obtain ⟨ba, oa, rfl, c1⟩ := (K.out.below hbel).at_ (k := q) (by omega)
      obtain ⟨x, hx⟩ : ∃ x, x = la.getD q 0 := ⟨_, rfl⟩
      rw [← hx] at c1
      have lx : x < 65536 := by rw [hx]; exact HD.out q
      have c2 := hb.cell q
      rw [mapI_at nx q (by omega)] at c2
      have f2 := hb.free q
      generalize nx.getD q 0 = old at c2
      obtain ⟨d1, hd1⟩ : ∃ d1, d1 = d * 65536 := ⟨_, rfl⟩
      obtain ⟨y, hy⟩ : ∃ y, y = d1 + x := ⟨_, rfl⟩
      obtain ⟨y1, hy1⟩ : ∃ y1, y1 = y / 2 := ⟨_, rfl⟩
      obtain ⟨y2, hy2⟩ : ∃ y2, y2 = y % 2 := ⟨_, rfl⟩
      have hst := half_step la nx q d y (by rw [HLA.out]; omega) (by omega) (by rw [← hx]; omega) x3
      rw [← hy1, ← hy2] at hst
      have hset := hb.set q (WI y1)
      rw [← List.map_set] at hset
      have R := Lib.hid (And.intro hset (hbel.setCell (p := ⟨w.heap.size, q, none⟩) (Nat.le_refl _) (WI y1)))
      have HX2 : Hid ((nx.set q y1).length = m ∧ Dg (nx.set q y1) ∧ valB ((nx.set q y1).drop q) * 2 + y2 = valB (la.drop q)) := Lib.hid ⟨by rw [List.length_set]; exact x1, x2.set q y1 (by omega), hst⟩
      have s1 : IntKind.i64.wrap ((d : Int) * 65536) = (d1 : Int) := by rw [IntKind.wrap_i64]; omega
      have s1b : (d : Int) * 65536 = (d1 : Int) := by omega
      have s2 : IntKind.i64.wrap ((d1 : Int) + (x : Int)) = (y : Int) := by rw [IntKind.wrap_i64]; omega
      have s2b : (d1 : Int) + (x : Int) = (y : Int) := by omega
      have r1 : (y : Int).tmod 2 = (y2 : Int) := by rw [Int.tmod_eq_emod_of_nonneg (by omega)]; omega
      have r2 : (y : Int).tdiv 2 = (y1 : Int) := by rw [Int.tdiv_eq_ediv_of_nonneg (by omega)]; omega
      have r3 : (y : Int) % 2 = (y2 : Int) := by omega
      have r4 : (y : Int) / 2 = (y1 : Int) := by omega
      have bq : (q : Int) < (m : Int) := by omega
      have hy210 : y2 < 2 := by omega
      have hqm : q + 1 ≤ m := by omega
      have hyb : y ≤ 200000 := by omega
      clear hb hbel HX x1 x2 x3 hx hd1 hy hy1 hy2 hst hset htq hqi hq
      go_wp2
      exact ⟨⟨q, y2, nx.set q y1, by omega, hy210, rfl, rfl, R.out.1, HX2, R.out.2⟩, by simp [intOf]⟩
    · have e0 : t = 0 := by omega
      subst e0
      simp only [List.drop_zero] at x3
      rw [HV.out] at x3
      have hq10 : valB nx = k / 2 := by omega
      have hrd2 := rd_blk hb
      rw [x1] at hrd2
      have CT : Hid (Calls Try.prog 41 #[.slice (some ⟨w.heap.size, 0, none⟩) m m] wr fun e w' => ∃ A' m', e = .returned (.slice A' m' m) ∧ m' ≤ m ∧ RdI wr A' m' (digs (k / 2)) ∧ w' = wr) := Lib.hid (by
        rw [← hq10]
        exact trim_calls (some ⟨w.heap.size, 0, none⟩) m m nx wr x2 hrd2 (Nat.le_refl _) (by unfold maxLen; omega))
      have HB1 := Lib.hid hbel
      clear hb hbel HX x1 x2 x3 hrd2 hq10
      go_wp2_with (go_at_call 41; refine CT.out.mono ?_; rintro e' w' ⟨A9, m9, rfl, hm9, hr9, rfl⟩)
      go_ret
      exact ⟨_, _, _, rfl, hr9, hm9, by unfold maxLen; omega, HB1.out⟩
end Go.Proofs.Ytdgfgehjnfadnaa
