/- The contract of the reference's Text of layer 4: the decimal digits of a number. -/
import Derived.Test.YthbbeknbdgkpkaaBigP
namespace Go.Proofs.Ythbbeknbdgkpkaa
open Go.RowKit
set_option linter.unusedVariables false

/-- The decimal digits of a number above 0; none of 0. -/
def decL (n : Nat) : List UInt8 := if h : n = 0 then [] else decL (n / 10) ++ [UInt8.ofNat (48 + n % 10)]
termination_by n
decreasing_by omega
theorem decL_zero : decL 0 = [] := by unfold decL; simp
theorem decL_pos {n : Nat} (h : n ≠ 0) : decL n = decL (n / 10) ++ [UInt8.ofNat (48 + n % 10)] := by rw [decL]; simp [h]
/-- The text of a number. -/
def decT (n : Nat) : List UInt8 := if n = 0 then [48] else decL n
/-- Bytes as a string holds them. -/
def str (l : List UInt8) : ByteArray := ⟨l.toArray⟩
theorem str_size (l : List UInt8) : (str l).size = l.length := by show l.toArray.size = _; simp
theorem str_cat (l r : List UInt8) : str l ++ str r = str (l ++ r) := by
  apply ByteArray.ext
  simp [str, ByteArray.data_append]
theorem div_step (la nx : List Nat) (i c m : Nat) (hia : i < la.length) (hin : i < nx.length) (hm : m = c * 65536 + la.getD i 0) (h : valB (nx.drop (i + 1)) * 10 + c = valB (la.drop (i + 1))) :
    valB ((nx.set i (m / 10)).drop i) * 10 + m % 10 = valB (la.drop i) := by
  have e1 : (nx.set i (m / 10)).drop i = (m / 10) :: nx.drop (i + 1) := by
    rw [List.drop_eq_getElem_cons (by rw [List.length_set]; exact hin), List.getElem_set_self, List.drop_set_of_lt (by omega)]
  have e2 : la.drop i = la.getD i 0 :: la.drop (i + 1) := by
    rw [List.drop_eq_getElem_cons hia, List.getD_eq_getElem?_getD, List.getElem?_eq_getElem hia]; rfl
  rw [e1, e2, valB, valB, ← h]
  omega

set_option maxRecDepth 100000 in
set_option maxHeartbeats 4000000 in
theorem btext_calls (A : Option Addr) (n c : Nat) (N : Nat) (w : World) (hn : n ≤ 100) (hnc : n ≤ c) (hcm : c ≤ maxLen) (hN : N < 10 ^ 1000) (hr : RdI w A n (digs N)) :
    Calls Try.prog 37 #[.slice A n c] w (Ret w (.string (str (decT N)))) := by
  have hlen := hr.len
  by_cases h0 : N = 0
  · subst h0
    rw [digs_zero] at hlen
    have hn0 : n = 0 := by simpa using hlen.symm
    subst hn0
    clear hr hlen hN
    go_enter Try.func37, Try.ntmps37
    go_wp2
    go_ret
    exact ⟨rfl, Below.refl _ _⟩
  · have hnp : 0 < n := by rw [← hlen, digs_pos h0]; simp
    have hne : ¬ (n : Int) = 0 := by omega
    have hneb : ((n : Int) == 0) = false := by simp; omega
    have HR := Lib.hid hr
    have HN := Lib.hid hN
    have hdT : decT N = decL N := by unfold decT; rw [if_neg h0]
    rw [hdT]
    clear hr hlen hN hdT
    go_enter Try.func37, Try.ntmps37
    go_wp2
    go_loopw [0, 3] (fun v s wr => ∃ (B : Option Addr) (m e k : Nat) (acc : List UInt8), v = .slice B m e ∧ s = .string (str acc) ∧ m ≤ 100 ∧ m ≤ e ∧ e ≤ maxLen ∧ RdI wr B m (digs k) ∧ Hid (decL k ++ acc = decL N ∧ (0 < k → k * 10 ^ acc.length ≤ N)) ∧ Below w.heap.size w wr) (fun _ s _ => match s with | .string b => 1001 - b.size | _ => 0)
    case atStart => exact ⟨A, n, c, N, [], rfl, rfl, hn, hnc, hcm, HR.out, ⟨by simp, fun _ => by simp⟩, Below.refl _ _⟩
    case round =>
      obtain ⟨B, m, e, k, acc, rfl, rfl, hm, hme, hem, hrd, HK, hbel⟩ := hrel
      have hlen := hrd.len
      by_cases hk : k = 0
      · subst hk
        rw [digs_zero] at hlen
        have hm0 : m = 0 := by simpa using hlen.symm
        subst hm0
        have hacc : acc = decL N := by have h := HK.out.1; rw [decL_zero] at h; simpa using h
        subst hacc
        clear hrd hlen
        go_wp2
        go_ret
        exact ⟨rfl, hbel⟩
      · have hmp : 0 < m := by rw [← hlen, digs_pos hk]; simp
        have bm : (0 : Int) < (m : Int) := by omega
        have hacl : acc.length < 1000 := by
          have h := HK.out.2 (by omega)
          have h2 : 10 ^ acc.length ≤ N := Nat.le_trans (Nat.le_mul_of_pos_left _ (by omega)) h
          exact (Nat.pow_lt_pow_iff_right (by omega)).1 (Nat.lt_of_le_of_lt h2 HN.out)
        obtain ⟨la, hla⟩ : ∃ la, la = digs k := ⟨_, rfl⟩
        rw [← hla] at hrd hlen
        have HD : Hid (∀ t, la.getD t 0 < 65536) := Lib.hid fun t => by rw [hla]; exact (digs_lt k).getD t
        have HV : Hid (valB la = k) := Lib.hid (by rw [hla]; exact val_digs k)
        have hmk := fun W => run_mkI m (by omega) W (by omega)
        have K := Lib.hid (And.intro hrd hbel)
        have HLA := Lib.hid hlen
        have hacl' : (str acc).size ≤ 1000 := by rw [str_size]; omega
        obtain ⟨sa, hsa⟩ : ∃ sa, sa = str acc := ⟨_, rfl⟩
        have HSA := Lib.hid hsa
        rw [← hsa] at hacl' ⊢
        obtain ⟨wq, rfl⟩ : ∃ wq, wq = wr := ⟨_, rfl⟩
        clear hrd hbel hla hlen hsa
        go_wp2
        go_loopw [5, 6] (fun cv i wr => ∃ (t d : Nat) (nx : List Nat), t ≤ m ∧ d < 10 ∧ cv = .int .i64 (d : Int) ∧ i = .int .i64 ((t : Int) - 1) ∧ Blk wr wq.heap.size (nx.map WI) 3 ∧ Hid (nx.length = m ∧ Dg nx ∧ valB (nx.drop t) * 10 + d = valB (la.drop t)) ∧ Below wq.heap.size wq wr) (fun _ i _ => (intOf i + 1).toNat)
        case atStart => exact ⟨m, 0, List.replicate m 0, Nat.le_refl _, by omega, rfl, rfl, blk_made wq m, ⟨by simp, fun d hd => by simp at hd; omega, by rw [List.drop_of_length_le (by simp), List.drop_of_length_le (by rw [HLA.out]; exact Nat.le_refl _)]; rfl⟩, (Below.refl _ wq).alloc (Nat.le_refl _) _⟩
        case round =>
          obtain ⟨t, d, nx, ht, hd, rfl, rfl, hb, HX, hbel⟩ := hrel
          obtain ⟨x1, x2, x3⟩ := HX.out
          by_cases ht0 : 0 < t
          · obtain ⟨q, hq⟩ : ∃ q, q = t - 1 := ⟨_, rfl⟩
            have hqi : (t : Int) - 1 = (q : Int) := by omega
            rw [hqi]
            have htq : t = q + 1 := by omega
            rw [htq] at x3
            obtain ⟨ba, oa, rfl, c1⟩ := (K.out.1.below hbel).at_ (k := q) (by omega)
            obtain ⟨x, hx⟩ : ∃ x, x = la.getD q 0 := ⟨_, rfl⟩
            rw [← hx] at c1
            have lx : x < 65536 := by rw [hx]; exact HD.out q
            have c2 := hb.cell q
            rw [mapI_at nx q (by omega)] at c2
            have f2 := hb.free q
            generalize nx.getD q 0 = old at c2
            obtain ⟨d1, hd1⟩ : ∃ d1, d1 = d * 65536 := ⟨_, rfl⟩
            obtain ⟨y, hy⟩ : ∃ y, y = d1 + x := ⟨_, rfl⟩
            obtain ⟨y1, hy1⟩ : ∃ y1, y1 = y / 10 := ⟨_, rfl⟩
            obtain ⟨y2, hy2⟩ : ∃ y2, y2 = y % 10 := ⟨_, rfl⟩
            have hst := div_step la nx q d y (by rw [HLA.out]; omega) (by omega) (by rw [← hx]; omega) x3
            rw [← hy1, ← hy2] at hst
            have hset := hb.set q (WI y1)
            rw [← List.map_set] at hset
            have R := Lib.hid (And.intro hset (hbel.setCell (p := ⟨wq.heap.size, q, none⟩) (Nat.le_refl _) (WI y1)))
            have HX2 : Hid ((nx.set q y1).length = m ∧ Dg (nx.set q y1) ∧ valB ((nx.set q y1).drop q) * 10 + y2 = valB (la.drop q)) := Lib.hid ⟨by rw [List.length_set]; exact x1, x2.set q y1 (by omega), hst⟩
            have s1 : IntKind.i64.wrap ((d : Int) * 65536) = (d1 : Int) := by rw [IntKind.wrap_i64]; omega
            have s1b : (d : Int) * 65536 = (d1 : Int) := by omega
            have s2 : IntKind.i64.wrap ((d1 : Int) + (x : Int)) = (y : Int) := by rw [IntKind.wrap_i64]; omega
            have s2b : (d1 : Int) + (x : Int) = (y : Int) := by omega
            have r1 : (y : Int).tmod 10 = (y2 : Int) := by rw [Int.tmod_eq_emod_of_nonneg (by omega)]; omega
            have r2 : (y : Int).tdiv 10 = (y1 : Int) := by rw [Int.tdiv_eq_ediv_of_nonneg (by omega)]; omega
            have r3 : (y : Int) % 10 = (y2 : Int) := by omega
            have r4 : (y : Int) / 10 = (y1 : Int) := by omega
            have bq : (q : Int) < (m : Int) := by omega
            have hy210 : y2 < 10 := by omega
            have hqm : q + 1 ≤ m := by omega
            have hyb : y ≤ 700000 := by omega
            clear hb hbel HX x1 x2 x3 hx hd1 hy hy1 hy2 hst hset htq hqi hq
            go_wp2
            exact ⟨⟨q, y2, nx.set q y1, by omega, hy210, rfl, rfl, R.out.1, HX2, R.out.2⟩, by simp [intOf]⟩
          · have e0 : t = 0 := by omega
            subst e0
            simp only [List.drop_zero] at x3
            rw [HV.out] at x3
            have hq10 : valB nx = k / 10 ∧ d = k % 10 := by omega
            have hrd2 := rd_blk hb
            rw [x1] at hrd2
            have CT : Hid (∀ W, Below wr.heap.size wr W → Calls Try.prog 38 #[.slice (some ⟨wq.heap.size, 0, none⟩) m m] W fun e w' => ∃ A' m', e = .returned (.slice A' m' m) ∧ m' ≤ m ∧ RdI W A' m' (digs (k / 10)) ∧ w' = W) := Lib.hid fun W h => by
              rw [← hq10.1]
              exact trim_calls (some ⟨wq.heap.size, 0, none⟩) m m nx W x2 (hrd2.below h) (Nat.le_refl _) (by unfold maxLen; omega)
            have hb1 : Below w.heap.size w wr := K.out.2.trans (hbel.mono K.out.2.size)
            obtain ⟨ch, hch⟩ : ∃ ch, ch = UInt8.ofNat (48 + d) := ⟨_, rfl⟩
            have hchn : ch.toNat = 48 + d := by rw [hch, UInt8.toNat_ofNat']; omega
            have HK2 : Hid (decL (k / 10) ++ (ch :: acc) = decL N ∧ (0 < k / 10 → k / 10 * 10 ^ (ch :: acc).length ≤ N)) := Lib.hid ⟨by
              rw [← HK.out.1, decL_pos hk, hch, hq10.2, List.append_assoc]; rfl, fun h => by
              have h2 := HK.out.2 (by omega)
              rw [List.length_cons, Nat.pow_succ, ← Nat.mul_assoc, Nat.mul_right_comm]
              exact Nat.le_trans (Nat.mul_le_mul_right _ (Nat.div_mul_le_self k 10)) h2⟩
            have hrdc : Rd (wr.alloc (.cells #[.int .u8 (48 + (d : Int))] 5)) (some ⟨wr.heap.size, 0, none⟩) 1 [ch] := by
              refine (Blk.new wr #[.int .u8 (48 + (d : Int))] 5).rd 0 1 [ch] rfl (fun j hj => ?_)
              have : j = 0 := by simp at hj; omega
              subst this
              simp only [List.getElem_singleton, hchn]
              rfl
            obtain ⟨s1, hs1⟩ : ∃ s1 : ByteArray, s1 = str [ch] := ⟨_, rfl⟩
            have hcv : (convert 67 9 (.slice (some ⟨wr.heap.size, 0, none⟩) 1 1)).run Try.prog (wr.alloc (.cells #[.int .u8 (48 + (d : Int))] 5)) = .ok (.string s1) (wr.alloc (.cells #[.int .u8 (48 + (d : Int))] 5)) := by
              rw [hs1]; exact conv8 _ _ 1 1 [ch] hrdc
            obtain ⟨s2, hs2⟩ : ∃ s2 : ByteArray, s2 = str (ch :: acc) := ⟨_, rfl⟩
            have hcat : s1 ++ sa = s2 := by rw [hs1, HSA.out, hs2]; exact str_cat [ch] acc
            have hsz1 : s1.size + sa.size ≤ 2000 := by
              have : s1.size = 1 := by rw [hs1, str_size]; rfl
              omega
            have HS2 := Lib.hid hs2
            have HB1 := Lib.hid hb1
            have HSZ : Hid (s2.size = sa.size + 1) := Lib.hid (by rw [hs2, HSA.out, str_size, str_size]; rfl)
            clear hb hbel HX x1 x2 x3 hrd2 hb1 hq10 hrdc hs1 hs2 hch hchn
            go_wp2_with (go_at_call 38; refine (CT.out _ ((Below.refl _ wr).alloc (Nat.le_refl _) _)).mono ?_; rintro e' w' ⟨A9, m9, rfl, hm9, hr9, rfl⟩)
            refine ⟨?_, ?_⟩
            · exact ⟨A9, m9, m, k / 10, ch :: acc, rfl, by rw [HS2.out], by omega, hm9, by unfold maxLen; omega, hr9, HK2, HB1.out.alloc HB1.out.size _⟩
            · have h5 := HSZ.out
              simp
              omega
end Go.Proofs.Ythbbeknbdgkpkaa
