/- Merged texts: SrtJ GcsV. -/
import Derived.Test.YtplnmjdafchjbaaMba
import Derived.Test.YtplnmjdafchjbaaMaw
import Derived.Test.YtplnmjdafchjbaaMaz
import Derived.Test.YtplnmjdafchjbaaMaj
/- slices.BinarySearch over sorted numbers of 64 bits. -/
namespace Go.Proofs.Ytplnmjdafchjbaa
open Go.RowKit
set_option linter.unusedVariables false
set_option linter.unusedSimpArgs false

set_option maxRecDepth 100000 in
set_option maxHeartbeats 1000000 in
theorem snan_calls (x : Int) (w : World) : Calls Try.prog 99 #[.int .u64 x] w fun e w' => e = .returned (.bool false) ∧ w' = w := by
  go_enter Try.func99, Try.ntmps99
  go_wp2
  go_ret
  exact ⟨by simp, rfl⟩
set_option maxRecDepth 100000 in
theorem mem_at {N : List Nat} {x i : Nat} (ha : Asc N) (hlo : ∀ j (h : j < N.length), j < i → N[j] < x) (hhi : ∀ j (h : j < N.length), i ≤ j → x ≤ N[j]) : x ∈ N ↔ ∃ h : i < N.length, N[i] = x := by
  constructor
  · intro hm
    obtain ⟨j, hj, e⟩ := List.getElem_of_mem hm
    have hij : i ≤ j := by
      rcases Nat.lt_or_ge j i with h | h
      · have := hlo j hj h
        omega
      · exact h
    have hi : i < N.length := by omega
    refine ⟨hi, ?_⟩
    have h1 := hhi i hi (Nat.le_refl _)
    rcases Nat.eq_or_lt_of_le hij with h | h
    · subst h
      exact e
    · have h2 := (List.pairwise_iff_getElem.1 ha) i j hi hj h
      omega
  · rintro ⟨h, e⟩
    rw [← e]
    exact List.getElem_mem h
set_option maxRecDepth 100000 in
set_option maxHeartbeats 4000000 in
theorem bsearch_calls (W : World) (A : Option Addr) (n c : Nat) (N : List Nat) (x : Nat) (hr : RdN W A n N) (ha : Asc N) (hn : n ≤ 1000000) :
    Calls Try.prog 70 #[.slice A n c, .int .u64 (x : Int)] W fun e w' => ∃ p : Int, e = .returned (.tuple #[.int .i64 p, .bool (decide (x ∈ N))]) ∧ w' = W := by
  rcases Nat.eq_zero_or_pos n with h0 | h0
  · subst h0
    have hN : N = [] := List.eq_nil_of_length_eq_zero hr.1
    subst hN
    clear hr ha
    go_enter Try.func70, Try.ntmps70
    go_wp2
    go_loopw [7, 8] (fun iv jv wr => iv = .int .i64 0 ∧ jv = .int .i64 0 ∧ wr = W) (fun _ _ _ => 0)
    case atStart => exact ⟨rfl, rfl, rfl⟩
    case round =>
      obtain ⟨rfl, rfl, rfl⟩ := hrel
      go_wp2
      go_ret2
      exact ⟨0, by simp, rfl⟩
  · obtain ⟨b, off, rfl, hb, hc⟩ := hr.2 h0
    obtain ⟨G, hG⟩ : ∃ G : Nat → Nat, ∀ t, G t = N.getD t 0 := ⟨fun t => N.getD t 0, fun _ => rfl⟩
    have hGe : ∀ t (h : t < N.length), G t = N[t] := fun t h => by rw [hG, List.getD_eq_getElem?_getD, List.getElem?_eq_getElem h]; rfl
    have hln := hr.1
    have hcell : ∀ t, t < n → W.cell? ⟨b, off + t, none⟩ = some (.int .u64 (G t : Int)) := fun t ht => by rw [hGe t (by omega)]; exact (hc t (by omega)).1
    have HA := Lib.hid ha
    have HG := Lib.hid hGe
    have HL := Lib.hid hln
    have Hstep : Hid (∀ i j, (∀ t (h : t < N.length), t < i → N[t] < x) → (∀ t (h : t < N.length), j ≤ t → x ≤ N[t]) → i = j → i ≤ n → (x ∈ N ↔ ∃ h : i < N.length, N[i] = x)) := Lib.hid fun i j h1 h2 e _ => mem_at ha h1 (by rw [e]; exact h2)
    clear hr ha hc hG hGe hln hb
    go_enter Try.func70, Try.ntmps70
    go_wp2
    go_loopw [7, 8] (fun iv jv wr => ∃ i j : Nat, iv = .int .i64 (i : Int) ∧ jv = .int .i64 (j : Int) ∧ i ≤ j ∧ j ≤ n ∧ Hid (∀ t (h : t < N.length), t < i → N[t] < x) ∧ Hid (∀ t (h : t < N.length), j ≤ t → x ≤ N[t]) ∧ wr = W) (fun iv jv _ => (intOf jv).toNat - (intOf iv).toNat)
    case atStart => exact ⟨0, n, rfl, rfl, by omega, by omega, Lib.hid fun t _ h => absurd h (by omega), Lib.hid fun t h1 h2 => absurd h2 (by have := HL.out; omega), rfl⟩
    case round =>
      obtain ⟨i, j, rfl, rfl, hij, hjn, H1, H2, rfl⟩ := hrel
      by_cases hlt : i < j
      · have hlt' : (i : Int) < (j : Int) := by omega
        obtain ⟨m, hm⟩ : ∃ z, z = (i + j) / 2 := ⟨_, rfl⟩
        obtain ⟨s, hs⟩ : ∃ z, z = i + j := ⟨_, rfl⟩
        have u0 : (i : Int) + (j : Int) = (s : Int) := by omega
        have u1 : IntKind.u64.wrap (s : Int) = (s : Int) := by rw [IntKind.wrap_u64]; omega
        have u2 : (s : Int) / 2 = (m : Int) := by omega
        have u3 : IntKind.i64.wrap (m : Int) = (m : Int) := by rw [IntKind.wrap_i64]; omega
        have hmn : m < n := by omega
        have hmi : i ≤ m ∧ m < j := by omega
        clear hm hs
        have CL := Lib.hid (less_calls (G m : Int) (x : Int) wr)
        have hasc : Hid (∀ t (h : t < N.length), t < m + 1 → G m < x → N[t] < x) := Lib.hid fun t h1 h2 h3 => by
          have hml : m < N.length := by have := HL.out; omega
          rw [HG.out m hml] at h3
          rcases Nat.lt_or_ge t m with h | h
          · have := (List.pairwise_iff_getElem.1 HA.out) t m h1 hml h
            omega
          · have e : t = m := by omega
            subst e
            exact h3
        have hasc2 : Hid (∀ t (h : t < N.length), m ≤ t → ¬ G m < x → x ≤ N[t]) := Lib.hid fun t h1 h2 h3 => by
          have hml : m < N.length := by have := HL.out; omega
          rw [HG.out m hml] at h3
          rcases Nat.eq_or_lt_of_le h2 with h | h
          · subst h
            omega
          · have := (List.pairwise_iff_getElem.1 HA.out) m t hml h1 h
            omega
        by_cases hgx : G m < x
        · have hv : lI (G m : Int) (x : Int) = true := by simp [lI, Sort.ltInt]; omega
          rw [hv] at CL
          have H3 : Hid (∀ t (h : t < N.length), t < m + 1 → N[t] < x) := Lib.hid fun t h1 h2 => hasc.out t h1 h2 hgx
          go_wp2_with (first
            | (go_at_call 84; refine CL.out.mono ?_; rintro e' w1 ⟨rfl, rfl⟩))
          go_roundw
          case rel => exact ⟨m + 1, j, by go_num, rfl, by omega, by omega, H3, H2, by first | rfl | trivial⟩
          case measure => simp [intOf]; omega
        · have hv : lI (G m : Int) (x : Int) = false := by simp [lI, Sort.ltInt]; omega
          rw [hv] at CL
          have H3 : Hid (∀ t (h : t < N.length), m ≤ t → x ≤ N[t]) := Lib.hid fun t h1 h2 => hasc2.out t h1 h2 hgx
          go_wp2_with (first
            | (go_at_call 84; refine CL.out.mono ?_; rintro e' w1 ⟨rfl, rfl⟩))
          go_roundw
          case rel => exact ⟨i, m, rfl, rfl, by omega, by omega, H1, H3, by first | rfl | trivial⟩
          case measure => simp [intOf]; omega
      · have hlt' : ¬ (i : Int) < (j : Int) := by omega
        have HM := Lib.hid (Hstep.out i j H1.out H2.out (by omega) (by omega))
        clear hij
        by_cases hin : i < n
        · have hin' : (i : Int) < (n : Int) := by omega
          have hil : i < N.length := by have := HL.out; omega
          have HE : Hid (x ∈ N ↔ G i = x) := Lib.hid (by
            rw [HM.out, HG.out i hil]
            exact ⟨fun ⟨_, e⟩ => e, fun e => ⟨hil, e⟩⟩)
          clear hil
          by_cases hgx : G i = x
          · have hgx' : (G i : Int) = (x : Int) := by omega
            have HD : Hid (decide (x ∈ N) = true) := Lib.hid (decide_eq_true (HE.out.2 hgx))
            clear hgx
            go_wp2_with (first
              | (go_at_call 99; refine (snan_calls _ _).mono ?_; rintro e' w1 ⟨rfl, rfl⟩))
            go_ret2
            first
            | exact ⟨⟨(i : Int), by rw [HD.out]; first | done | rfl⟩, rfl⟩
            | exact ⟨(i : Int), by rw [HD.out]; first | done | rfl, rfl⟩
          · have hgx' : ¬ (G i : Int) = (x : Int) := by omega
            have hb2 : ((G i : Int) == (x : Int)) = false := by simp; omega
            have HD : Hid (decide (x ∈ N) = false) := Lib.hid (decide_eq_false fun h => hgx (HE.out.1 h))
            go_wp2_with (first
              | (go_at_call 99; refine (snan_calls _ _).mono ?_; rintro e' w1 ⟨rfl, rfl⟩))
            go_ret2
            first
            | exact ⟨⟨(i : Int), by rw [HD.out]; first | done | rfl⟩, rfl⟩
            | exact ⟨(i : Int), by rw [HD.out]; first | done | rfl, rfl⟩
        · have hin' : ¬ (i : Int) < (n : Int) := by omega
          have HD : Hid (decide (x ∈ N) = false) := Lib.hid (decide_eq_false fun h => by
            obtain ⟨h1, _⟩ := HM.out.1 h
            have := HL.out
            omega)
          go_wp2_with (first
            | (go_at_call 99; refine (snan_calls _ _).mono ?_; rintro e' w1 ⟨rfl, rfl⟩))
          go_ret2
          first
            | exact ⟨⟨(i : Int), by rw [HD.out]; first | done | rfl⟩, rfl⟩
            | exact ⟨(i : Int), by rw [HD.out]; first | done | rfl, rfl⟩
end Go.Proofs.Ytplnmjdafchjbaa

/- Package gcs: boundOf, Values. -/
namespace Go.Proofs.Ytplnmjdafchjbaa
open Go.RowKit
set_option linter.unusedVariables false
set_option linter.unusedSimpArgs false

set_option maxRecDepth 100000 in
set_option maxHeartbeats 1000000 in
theorem bound_calls (n F : Nat) (w : World) (hn : n ≤ 1000000) (hF : F = n * 784931) : Calls Try.prog 20 #[.int .i64 (n : Int)] w fun e w' => e = .returned (.int .u64 (F : Int)) ∧ w' = w := by
  have u0 : IntKind.u64.wrap (n : Int) = (n : Int) := by rw [IntKind.wrap_u64]; omega
  have u1 : IntKind.u64.wrap ((n : Int) * 784931) = (F : Int) := by rw [IntKind.wrap_u64]; omega
  clear hF
  go_enter Try.func20, Try.ntmps20
  go_wp2
  go_ret
  exact ⟨rfl, rfl⟩
set_option maxRecDepth 100000 in
theorem vals_all (b : List UInt8) (hE : cvE b 0 1000 = 0) (r : List Nat × Nat × List Bool) (hr : vgo (cvV b 0 1000 * 784931) (cvV b 0 1000) (unp (cvL b 0 1000)) 0 = r) :
    vals b = if r.2.1 ≠ 0 then ([], r.2.1) else if cln r.2.2 then (r.1, 0) else ([], 3) := by
  by_cases h0 : cvV b 0 1000 = 0
  · rw [h0] at hr
    subst hr
    unfold vals
    rw [if_neg (by omega), if_pos h0]
    by_cases hl : (cvL b 0 1000).length > 0
    · have hcl : cln (unp (cvL b 0 1000)) = false := by
        unfold cln
        rw [decide_eq_false (by rw [unp_len]; omega)]
        simp
      rw [if_pos hl]
      simp [vgo, hcl]
    · have e : cvL b 0 1000 = [] := List.eq_nil_of_length_eq_zero (by omega)
      have hcl : cln (unp (cvL b 0 1000)) = true := by rw [e]; decide
      rw [if_neg hl]
      simp [vgo, hcl]
  · exact vals_loop b _ r hE rfl (by omega) hr
set_option maxRecDepth 100000 in
theorem vals_bad (b : List UInt8) (hE : cvE b 0 1000 ≠ 0) : vals b = ([], cvE b 0 1000) := by
  unfold vals
  rw [if_pos hE]
set_option maxRecDepth 100000 in
set_option maxHeartbeats 8000000 in
theorem values_calls (w : World) (A : Option Addr) (n c : Nat) (b : List UInt8) (hr : Rd w A n b) (hn : n ≤ 10000) :
    Calls Try.prog 14 #[.slice A n c] w fun e w' => ∃ A' c', e = .returned (.tuple #[.slice A' (vals b).1.length c', .int .i64 ((vals b).2 : Int)]) ∧ RdR w' A' (vals b).1.length ((vals b).1.map VN) ∧ Below w.heap.size w w' := by
  have hbl := hr.len
  obtain ⟨R, hR⟩ : ∃ z, z = vals b := ⟨_, rfl⟩
  obtain ⟨L, hL⟩ : ∃ z, z = cvL b 0 1000 := ⟨_, rfl⟩
  have hLl : L.length ≤ 10000 := by
    rw [hL]
    unfold cvL
    simp only [if_true, List.length_drop]
    omega
  obtain ⟨E, hE⟩ : ∃ z, z = cvE b 0 1000 := ⟨_, rfl⟩
  obtain ⟨m, hm⟩ : ∃ z, z = cvV b 0 1000 := ⟨_, rfl⟩
  have hm1 : m ≤ 1000 := by rw [hm]; exact cvV_le b 0 1000
  obtain ⟨F, hF⟩ : ∃ z, z = m * 784931 := ⟨_, rfl⟩
  obtain ⟨B, hB⟩ : ∃ z, z = unp L := ⟨_, rfl⟩
  have HVR : Hid (E = 0 → ∀ r, vgo F m B 0 = r → R = if r.2.1 ≠ 0 then ([], r.2.1) else if cln r.2.2 then (r.1, 0) else ([], 3)) := Lib.hid fun h0 r h => by
    rw [hR]
    refine vals_all b (by omega) r ?_
    rw [hF, hB, hL, hm] at h
    exact h
  have HVB : Hid (E ≠ 0 → R = ([], E)) := Lib.hid fun h0 => by
    rw [hR, hE]
    exact vals_bad b (by omega)
  have CO := Lib.hid (rof_calls A n c b w (by omega) hr)
  have CV : Hid (∀ (W : World) (q : Nat), Rr W q b 0 → Calls Try.prog 32 #[.pointer (some ⟨q, 0, none⟩), .int .u64 1000] W fun en w' => en = .returned (.int .u64 (m : Int)) ∧ Rr w' q L E ∧ Frm (fun i => i = q) W w') := Lib.hid fun W q h => by
    have h1 := rvar_calls W q b 0 h 1000
    rw [← hL, ← hE, ← hm] at h1
    exact h1
  have CT : Hid (∀ (W : World) (q : Nat), Rr W q L 0 → Calls Try.prog 35 #[.pointer (some ⟨q, 0, none⟩), .int .i64 (L.length : Int)] W fun en w' => ∃ A m c, en = .returned (.slice A m c) ∧ Rd w' A m L ∧ m ≤ 10000 ∧ m ≤ c ∧ Frm (fun i => i = q) W w') := Lib.hid fun W q h => by
    refine (take_calls W q L 0 h (L.length : Int) L.length (by simp)).mono ?_
    rintro en w' ⟨A, m, c, rfl, h1, h2, h3⟩
    have e : tkV L 0 L.length = L := by
      unfold tkV
      rw [if_pos ⟨rfl, Nat.le_refl _⟩, List.take_length]
    rw [e] at h1
    exact ⟨A, m, c, rfl, h1.rd, by rw [← h1.len]; exact hLl, (own_cap h1).1, h3⟩
  have CF : Hid (∀ W : World, Calls Try.prog 20 #[.int .i64 (m : Int)] W fun e w' => e = .returned (.int .u64 (F : Int)) ∧ W = w') := Lib.hid fun W => (bound_calls m F W (by omega) hF).mono fun _ _ h => ⟨h.1, h.2.symm⟩
  have CG : Hid (∀ (W : World) (q : Nat) (A : Option Addr) (c : Nat) (k : Nat), Rb W q A c L k → Calls Try.prog 37 #[.pointer (some ⟨q, 0, none⟩), .int .i64 19, .int .i64 65536] W fun e w' => ∃ k', e = .returned (.tuple #[.int .u64 (gtV (B.drop k) 19 65536 : Int), .int .i64 (gtE (B.drop k) 19 65536 : Int)]) ∧ Rb w' q A c L k' ∧ B.drop k' = gtL (B.drop k) 19 65536 ∧ Frm (fun i => i = q) W w') := Lib.hid fun W q A c k h => by
    rw [hB]
    exact rget_calls W q A c L k h 19 65536 (by omega)
  have CC : Hid (∀ (W : World) (q : Nat) (A : Option Addr) (c : Nat) (k : Nat), Rb W q A c L k → Calls Try.prog 38 #[.pointer (some ⟨q, 0, none⟩)] W (Ret W (.bool (cln (B.drop k))))) := Lib.hid fun W q A c k h => by
    rw [hB]
    exact bclean_calls W q A c L k h
  have uM : IntKind.i64.wrap (m : Int) = (m : Int) := by rw [IntKind.wrap_i64]; omega
  have hFl : F ≤ 784931000 := by omega
  rw [← hR]
  clear hR hL hE hm hF hB hr hbl
  go_enter Try.func14, Try.ntmps14
  by_cases hE0 : E = 0
  · subst hE0
    go_upto_region 10 with (first
      | (go_at_call 31; refine CO.out.mono ?_; rintro e' w1 ⟨q, rfl, hq, hR1, hB1⟩; have HB1 := Lib.hid hB1; have D1 := Lib.hid (CV.out w1 q hR1); clear hR1 hB1)
      | (go_at_call 32; refine D1.out.mono ?_; rintro e' w2 ⟨rfl, hR2, hF2⟩; have HR2 := Lib.hid hR2; have HB2 : Hid (Below w.heap.size w w2) := Lib.hid (below_frm HB1.out hF2 (fun i hi => by rw [hi]; exact hq)); clear hR2 hF2)
      | (go_at_call 33; refine (err_calls _ _ _ _ HR2.out).mono ?_; rintro e' w3 ⟨rfl, rfl⟩)
      | (go_at_call 36; refine (left_calls _ _ _ _ HR2.out).mono ?_; rintro e' w3 ⟨rfl, rfl⟩)
      | (go_at_call 35; refine (CT.out _ _ HR2.out).mono ?_; rintro e' w4 ⟨A4, m4, c4, rfl, hr4, hm4, hc4, hF4⟩; have HB4 : Hid (Below w.heap.size w w4) := Lib.hid (below_frm HB2.out hF4 (fun i hi => by rw [hi]; exact hq)); have D4 := Lib.hid (bof_calls A4 m4 c4 L w4 (by omega) hr4); clear hr4 hF4)
      | (go_at_call 34; refine D4.out.mono ?_; rintro e' w5 ⟨r, A5, c5, rfl, hr5, hR5, hA5, hB5⟩; have HR5 := Lib.hid hR5; have HA5 : Hid (∀ g, WS r A5 g → g < w5.heap.size ∧ w.heap.size ≤ g) := Lib.hid (fun g hg => hg.elim (fun h => by rw [h]; exact ⟨hR5.blk.lt, Nat.le_trans HB4.out.size hr5⟩) (fun h => ⟨(hA5 g h).2, Nat.le_trans HB4.out.size (hA5 g h).1⟩)); have HB5 : Hid (Below w.heap.size w w5) := Lib.hid (below_more HB4.out hB5); clear hR5 hA5 hB5)
      | (go_at_call 20; refine (CF.out _).mono ?_; rintro e' w6 ⟨rfl, rfl⟩))
    obtain ⟨base, hbase⟩ : ∃ z, z = w5.heap.size := ⟨_, rfl⟩
    have HA : Hid (∀ g, WS r A5 g → g < base ∧ w.heap.size ≤ g) := Lib.hid (by rw [hbase]; exact HA5.out)
    have HBS : Hid (w.heap.size ≤ base ∧ base ≤ w5.heap.size) := Lib.hid ⟨by rw [hbase]; exact HB5.out.size, by omega⟩
    clear hbase HA5 CO CV CT D1 D4 HB1 HB2 HB4 HR2 hr5
    go_wp2
    go_loopw [31, 9, 10] (fun iv ov av wr => ∃ (i a k : Nat) (A2 : Option Addr) (c2 : Nat) (V : List Nat), iv = .int .i64 (i : Int) ∧ av = .int .u64 (a : Int) ∧ ov = .slice A2 i c2 ∧ i ≤ m ∧ a ≤ F ∧ Hid (Rb wr r A5 c5 L k) ∧ Hid (OwnR wr base 22 A2 i c2 (V.map VN)) ∧ Hid (vgo F m B 0 = cmbG V (vgo F (m - i) (B.drop k) a)) ∧ Hid (Below w.heap.size w wr ∧ base ≤ wr.heap.size)) (fun iv _ _ _ => m - (intOf iv).toNat)
    case atStart => exact ⟨0, 0, 0, none, 0, [], by first | rfl | go_num, by first | rfl | go_num, rfl, by omega, by omega, HR5, Lib.hid (OwnR.nil _ _ _), Lib.hid (by rw [cmbG_nil]; rfl), Lib.hid ⟨HB5.out, HBS.out.2⟩⟩
    case round =>
      clear HR5 HB5
      obtain ⟨i, a, k, A2, c2, V, rfl, rfl, rfl, him, haF, HR, HO, HV, HB⟩ := hrel
      by_cases hlt : i < m
      · have hlt' : (i : Int) < (m : Int) := by omega
        obtain ⟨j, hj⟩ : ∃ z, z = m - (i + 1) := ⟨_, rfl⟩
        have HV1 : Hid (vgo F m B 0 = cmbG V (vgo F (j + 1) (B.drop k) a)) := Lib.hid (by rw [HV.out, show m - i = j + 1 by omega])
        have HJ := Lib.hid hj
        have D := Lib.hid (CG.out wr r A5 c5 k HR.out)
        obtain ⟨l, hl⟩ : ∃ z, z = B.drop k := ⟨_, rfl⟩
        rw [← hl] at D HV1
        obtain ⟨e, he⟩ : ∃ z, z = gtE l 19 65536 := ⟨_, rfl⟩
        obtain ⟨y, hy⟩ : ∃ z, z = gtV l 19 65536 := ⟨_, rfl⟩
        have hy64 : y ≤ 40000000000 := by
          rw [hy]
          unfold gtV
          split
          · omega
          · have h1 := rnV_le l (hld 65536 65536)
            have h2 := btV_pow (rnL l (hld 65536 65536)) (hld 19 32)
            rw [show hld 65536 65536 = 65536 from by decide, show hld 19 32 = 19 from by decide] at *
            omega
        have HY : Hid (gtV l 19 65536 = y ∧ gtE l 19 65536 = e) := Lib.hid ⟨hy.symm, he.symm⟩
        rw [← hy, ← he] at D
        clear hl HV hj he hy
        by_cases he0 : e = 0
        · subst he0
          obtain ⟨z, hz⟩ : ∃ z, z = a + y := ⟨_, rfl⟩
          have u2 : IntKind.u64.wrap ((a : Int) + (y : Int)) = (z : Int) := by rw [IntKind.wrap_u64]; omega
          have HZ := Lib.hid hz
          clear hz
          by_cases hfar : F ≤ z
          · have hfar' : (F : Int) ≤ (z : Int) := by omega
            have HRR : Hid (R = ([], 5)) := Lib.hid (by
              rw [HVR.out (by first | rfl | trivial) _ rfl, HV1.out, cmbG_far F j V l a HY.out.2 (by rw [HY.out.1, ← HZ.out]; exact hfar)]
              rfl)
            go_wp2_with (first
              | (go_at_call 37; refine D.out.mono ?_; rintro e' w3 ⟨k', rfl, hR3, hk3, hF3⟩; have HB3 : Hid (Below w.heap.size w w3) := Lib.hid (below_frm HB.out.1 hF3 (fun i hi => by rw [hi]; exact (HA.out r (.inl rfl)).2)); clear hR3 hk3 hF3))
            go_ret2
            exact ⟨none, 0, by rw [HRR.out]; rfl, by rw [HRR.out]; exact RdR.nil _ _, HB3.out⟩
          · have hfar' : ¬ (F : Int) ≤ (z : Int) := by omega
            have HVG : Hid (∀ l2, l2 = gtL l 19 65536 → vgo F m B 0 = cmbG (V ++ [z]) (vgo F (m - (i + 1)) l2 z)) := Lib.hid fun l2 h2 => by
              rw [HV1.out, cmbG_step F j V l a HY.out.2 (by rw [HY.out.1, ← HZ.out]; omega), HY.out.1, ← HZ.out, h2, HJ.out]
            go_wp2_with (first
              | (go_at_call 37; refine D.out.mono ?_; rintro e' w3 ⟨k', rfl, hR3, hk3, hF3⟩; have HB3 : Hid (Below w.heap.size w w3 ∧ base ≤ w3.heap.size) := Lib.hid ⟨below_frm HB.out.1 hF3 (fun i hi => by rw [hi]; exact (HA.out r (.inl rfl)).2), Nat.le_trans HB.out.2 hF3.size⟩; have HO3 := Lib.hid (HO.out.frm hF3 (fun g hg h => by have h1 := (HO.out.blk g hg).1; have h2 := (HA.out r (.inl rfl)).1; omega)); have HR3 := Lib.hid hR3; have HK3 := Lib.hid hk3; clear hR3 hF3 hk3)
              | ((with_reducible refine at_bsX 35 1 #[(0, .tmp 48)] ?_); refine wpList_bsR rfl 35 22 (VN 0) (VN z) Try.underlying35 infoU rfl rfl (.tmp 48) rfl (by first | rfl | simp [Act.eval]) ?_; intro g w5 hb5 hg5 hl5 d5)
              | ((with_reducible refine at_appX 35 (.tmp 47) (.tmp 49) ?_); refine wpList_appR rfl 35 22 (VN 0) 8 Try.underlying35 infoUb rfl (by decide) (.tmp 47) (.tmp 49) rfl base w5 (Below.refl _ _) (Nat.le_trans HB3.out.2 d5.size) A2 i c2 (V.map VN) (by first | rfl | simp [Act.eval]) (HO3.out.up d5) _ 1 1 [VN z] (by first | rfl | simp [Act.eval]) hb5.rdR (fun u hu => by rw [List.mem_singleton.1 hu]; rfl) (by omega) ?_; intro A3 c3 w6 ho6 hf6 hB6))
            have HB6 : Hid (Below w.heap.size w w6 ∧ base ≤ w6.heap.size) := Lib.hid ⟨(below_more HB3.out.1 d5).trans (hB6.mono HBS.out.1), Nat.le_trans (Nat.le_trans HB3.out.2 d5.size) hB6.size⟩
            have HR6 : Hid (Rb w6 r A5 c5 L k') := Lib.hid ((HR3.out.below d5).frm hf6 (fun x hx hs => by have h1 := (HO3.out.blk x hx).1; have h2 := (HA.out x hs).1; omega))
            have HO6 := Lib.hid ho6
            clear ho6 hf6 hB6 d5 hb5 hg5 hl5
            go_roundw
            case rel => exact ⟨i + 1, z, k', A3, c3, V ++ [z], by first | rfl | go_num, rfl, rfl, by omega, by omega, HR6, Lib.hid (by rw [List.map_append]; exact HO6.out), Lib.hid (HVG.out _ HK3.out), HB6⟩
            case measure => simp [intOf]; omega
        · have he0' : ¬ (e : Int) = 0 := by omega
          have HRR : Hid (R = ([], e)) := Lib.hid (by
            rw [HVR.out (by first | rfl | trivial) _ rfl, HV1.out, cmbG_bad F j V l a (by rw [HY.out.2]; exact he0), HY.out.2]
            show (if e ≠ 0 then _ else _) = _
            rw [if_pos he0])
          go_wp2_with (first
            | (go_at_call 37; refine D.out.mono ?_; rintro e' w3 ⟨k', rfl, hR3, hk3, hF3⟩; have HB3 : Hid (Below w.heap.size w w3) := Lib.hid (below_frm HB.out.1 hF3 (fun i hi => by rw [hi]; exact (HA.out r (.inl rfl)).2)); clear hR3 hk3 hF3))
          go_ret2
          exact ⟨none, 0, by rw [HRR.out]; rfl, by rw [HRR.out]; exact RdR.nil _ _, HB3.out⟩
      · have hlt' : ¬ (i : Int) < (m : Int) := by omega
        have e : i = m := by omega
        subst e
        have HRR : Hid (R = if cln (B.drop k) then (V, 0) else ([], 3)) := Lib.hid (by
          rw [HVR.out (by first | rfl | trivial) _ rfl, HV.out, Nat.sub_self]
          unfold cmbG
          simp [vgo])
        have D := Lib.hid (CC.out wr r A5 c5 k HR.out)
        have HVL : Hid (V.length = i) := Lib.hid (by have := HO.out.1; simpa using this)
        cases hcl : cln (B.drop k)
        · rw [hcl] at D HRR
          have HR3 : Hid (R = ([], 3)) := Lib.hid (by rw [HRR.out]; rfl)
          go_wp2_with (first
            | (go_at_call 38; refine D.out.mono ?_; rintro e' w3 ⟨rfl, hB3⟩; have HB3 := Lib.hid (below_more HB.out.1 hB3); clear hB3))
          go_ret2
          exact ⟨none, 0, by rw [HR3.out]; rfl, by rw [HR3.out]; exact RdR.nil _ _, HB3.out⟩
        · rw [hcl] at D HRR
          have HR3 : Hid (R = (V, 0)) := Lib.hid (by rw [HRR.out]; rfl)
          go_wp2_with (first
            | (go_at_call 38; refine D.out.mono ?_; rintro e' w3 ⟨rfl, hB3⟩; have HB3 := Lib.hid (below_more HB.out.1 hB3); have HO3 := Lib.hid (HO.out.up hB3); clear hB3))
          go_ret2
          exact ⟨A2, c2, by rw [HR3.out]; show _ = Ending.returned (.tuple #[.slice A2 V.length c2, _]); rw [HVL.out]; rfl, by rw [HR3.out]; show RdR _ A2 V.length _; rw [HVL.out]; exact HO3.out.rd, HB3.out⟩
  · have hE0' : ¬ (E : Int) = 0 := by omega
    have HRR : Hid (R = ([], E)) := Lib.hid (HVB.out hE0)
    go_wp2_with (first
      | (go_at_call 31; refine CO.out.mono ?_; rintro e' w1 ⟨q, rfl, hq, hR1, hB1⟩; have HB1 := Lib.hid hB1; have D1 := Lib.hid (CV.out w1 q hR1); clear hR1 hB1)
      | (go_at_call 32; refine D1.out.mono ?_; rintro e' w2 ⟨rfl, hR2, hF2⟩; have HR2 := Lib.hid hR2; have HB2 : Hid (Below w.heap.size w w2) := Lib.hid (below_frm HB1.out hF2 (fun i hi => by rw [hi]; exact hq)); clear hR2 hF2)
      | (go_at_call 33; refine (err_calls _ _ _ _ HR2.out).mono ?_; rintro e' w3 ⟨rfl, rfl⟩))
    go_ret2
    exact ⟨none, 0, by rw [HRR.out]; rfl, by rw [HRR.out]; exact RdR.nil _ _, HB2.out⟩
end Go.Proofs.Ytplnmjdafchjbaa
