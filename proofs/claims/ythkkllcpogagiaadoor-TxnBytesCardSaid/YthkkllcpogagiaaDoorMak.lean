/- Merged texts: RefT. -/
import Derived.Test.YthkkllcpogagiaaDoorMai
import Derived.Test.YthkkllcpogagiaaDoorMaj
import Derived.Test.YthkkllcpogagiaaDoorMag
/- The contract of the document's own Sum of layer 2. -/
namespace Go.Proofs.YthkkllcpogagiaaDoor
open Go.RowKit
set_option linter.unusedVariables false
attribute [local go_sem] size_setCells

set_option maxRecDepth 100000 in
theorem ib32 : (Tryd.prog.info? 41).map (·.size) = some 32 := by kernel_rfl
/-- How many zeros follow. -/
def zs (n : Nat) : Nat := (64 - (n + 9) % 64) % 64
set_option maxRecDepth 100000 in
theorem tail_eq (n : Nat) : tail n = [128] ++ List.replicate (zs n) 0 ++ great (8 * n) 8 := rfl
set_option maxRecDepth 100000 in
theorem zs_lt (n : Nat) : zs n < 64 := Nat.mod_lt _ (by omega)
set_option maxRecDepth 100000 in
theorem zs_end (n j : Nat) (hj : j ≤ zs n) : (n + 1 + j) % 64 = 56 ↔ j = zs n := by
  unfold zs at *
  omega
set_option maxRecDepth 100000 in
theorem great_snoc (N i : Nat) (h : i < 8) : (great N 8).take (i + 1) = (great N 8).take i ++ [UInt8.ofNat (N / 256 ^ (7 - i))] := by
  rw [List.take_succ_eq_append_getElem (by simp; omega), great_get]
/-- The last blocks. -/
def padded (l : List UInt8) : List UInt8 := l ++ tail l.length
set_option maxRecDepth 100000 in
theorem padded_len (l : List UInt8) : ∃ M, (padded l).length = 64 * M ∧ 0 < M := by
  have h := pad_mod l.length
  have h2 := tail_len l.length
  unfold padded
  rw [List.length_append]
  exact ⟨(l.length + (tail l.length).length) / 64, by omega, by omega⟩

set_option maxRecDepth 100000 in
set_option maxHeartbeats 16000000 in
theorem rsum_calls (s : ByteArray) (w : World) (hn : s.size ≤ 100000) :
    Calls Tryd.prog 29 #[.string s] w (Ret w (.agg ((sha s.data.toList).map B8).toArray)) := by
  obtain ⟨l, hl⟩ : ∃ l, l = s.data.toList := ⟨_, rfl⟩
  have hsz : l.length = s.size := by rw [hl, Array.length_toList]; rfl
  rw [← hl]
  obtain ⟨n, hnn⟩ : ∃ n, n = s.size := ⟨_, rfl⟩
  obtain ⟨w0, hw0⟩ : ∃ w0, w0 = w.alloc (.cells ((List.replicate 32 (0 : UInt8)).map B8).toArray 41) := ⟨_, rfl⟩
  have hw0s : w0.heap.size = w.heap.size + 1 := by rw [hw0]; simp
  obtain ⟨c0, row, hconv, hown0⟩ := conv_str w0 s (by unfold maxLen; omega)
  rw [← hl, ← hnn, hw0s] at hown0
  rw [← hnn, hw0s] at hconv
  have hz0 : Blk (w0.drew.alloc (.cells row 5 (row.size, row.size + 1))) w.heap.size ((List.replicate 32 (0 : UInt8)).map B8) 41 := by
    have h := Blk.new w (((List.replicate 32 (0 : UInt8)).map B8).toArray) 41
    rw [← hw0] at h
    exact Blk.alloc (w := w0.drew) h _
  have hB0 : Below w.heap.size w (w0.drew.alloc (.cells row 5 (row.size, row.size + 1))) := by
    have h : Below w.heap.size w w0 := by rw [hw0]; exact (Below.refl _ w).alloc (Nat.le_refl _) _
    exact Below.alloc (w := w0.drew) ⟨h.os, h.tape, h.output, h.size, h.block⟩ h.size _
  have hS0 : w.heap.size + 1 ≤ (w0.drew.alloc (.cells row 5 (row.size, row.size + 1))).heap.size := by simp; omega
  have HSZ := Lib.hid hsz
  obtain ⟨w1, hw1⟩ : ∃ w1, w1 = w0.drew.alloc (.cells row 5 (row.size, row.size + 1)) := ⟨_, rfl⟩
  rw [← hw1] at hz0 hB0 hown0 hconv hS0
  have hlen : s.size = n := hnn.symm
  have hn' : n ≤ 100000 := by omega
  have HO := Lib.hid hown0
  have HZ := Lib.hid hz0
  have HB := Lib.hid hB0
  have HS := Lib.hid hS0
  have HL := Lib.hid (show l.length = n by omega)
  rw [hw0] at hconv
  have hconv2 : (convert 9 28 (.string s)).run Tryd.prog (w.alloc (.cells #[.int .u8 0, .int .u8 0, .int .u8 0, .int .u8 0, .int .u8 0, .int .u8 0, .int .u8 0, .int .u8 0, .int .u8 0, .int .u8 0, .int .u8 0, .int .u8 0, .int .u8 0, .int .u8 0, .int .u8 0, .int .u8 0, .int .u8 0, .int .u8 0, .int .u8 0, .int .u8 0, .int .u8 0, .int .u8 0, .int .u8 0, .int .u8 0, .int .u8 0, .int .u8 0, .int .u8 0, .int .u8 0, .int .u8 0, .int .u8 0, .int .u8 0, .int .u8 0] 41)) = .ok (.slice (some ⟨w.heap.size + 1, 0, none⟩) n c0) w1 := hconv
  clear hconv hw0 hw0s hw1 hz0 hB0 hown0 hS0 hl hsz hnn hn HSZ
  go_enter Tryd.func29, Tryd.ntmps29
  go_wp2_with (at_builtin; refine appB_one _ rfl _ _ rfl (w.heap.size + 1) (some ⟨w.heap.size + 1, 0, none⟩) n c0 l _ 128 rfl rfl rfl HO.out (by omega) HS.out ?_; intro A2 c2 w2 hown2 hbel2)
  have hB2 : Below w.heap.size w w2 := HB.out.trans (hbel2.mono (by omega))
  have hz2 := HZ.out.below hbel2 (by omega)
  have hs2 := Nat.le_trans HS.out hbel2.size
  have J := Lib.hid (And.intro hown2 (And.intro hz2 (And.intro hB2 hs2)))
  clear hown2 hz2 hB2 hs2 hbel2
  have hzl := zs_lt n
  obtain ⟨Z, hZ⟩ : ∃ Z, Z = zs n := ⟨_, rfl⟩
  rw [← hZ] at hzl
  have HZE : Hid (∀ j, j ≤ Z → ((n + 1 + j) % 64 = 56 ↔ j = Z)) := Lib.hid fun j hj => by rw [hZ] at hj ⊢; exact zs_end n j hj
  have HT : Hid (tail n = [128] ++ List.replicate Z 0 ++ great (8 * n) 8) := Lib.hid (by rw [hZ]; exact tail_eq n)
  clear hZ
  go_loopw [3] (fun v wr => ∃ (j : Nat) (B : Option Addr) (d : Nat), j ≤ Z ∧ v = .slice B (n + 1 + j) d ∧ OwnB wr (w.heap.size + 1) B (n + 1 + j) d (l ++ [128] ++ List.replicate j 0) ∧ Blk wr w.heap.size ((List.replicate 32 (0 : UInt8)).map B8) 41 ∧ Below w.heap.size w wr ∧ w.heap.size + 1 ≤ wr.heap.size) (fun v _ => match v with | .slice _ p _ => n + 100 - p | _ => 0)
  case atStart => exact ⟨0, A2, c2, Nat.zero_le _, rfl, by simpa using J.out.1, J.out.2.1, J.out.2.2.1, J.out.2.2.2⟩
  case round =>
    obtain ⟨j, B, d, hj, rfl, hown, hz, hbel, hsz⟩ := hrel
    obtain ⟨p, hp⟩ : ∃ p, p = n + 1 + j := ⟨_, rfl⟩
    rw [← hp] at hown ⊢
    have hmod : (p : Int).tmod 64 = ((p % 64 : Nat) : Int) := by rw [Int.tmod_eq_emod_of_nonneg (by omega)]; omega
    have hend := HZE.out j hj
    rw [← hp] at hend
    obtain ⟨r, hrr⟩ : ∃ r, r = p % 64 := ⟨_, rfl⟩
    rw [← hrr] at hmod hend
    by_cases hlt : j < Z
    · have hne : (r : Int) ≠ 56 := by omega
      have HB1 := Lib.hid (And.intro hz (And.intro hbel hsz))
      have HO1 := Lib.hid hown
      have HP := Lib.hid hp
      have hpb : p ≤ 200000 := by omega
      clear hbel hown hp hrr hz hsz hend
      go_wp2_with (at_builtin; refine appB_one _ rfl _ _ rfl (w.heap.size + 1) B p d _ _ 0 rfl rfl rfl HO1.out (by omega) HB1.out.2.2 ?_; intro A3 c3 w3 hown3 hbel3)
      go_roundw
      case rel =>
        have hpp := HP.out
        obtain ⟨h1, h2, h3⟩ := HB1.out
        refine ⟨j + 1, A3, c3, by omega, by rw [hpp, Nat.add_assoc (n + 1)], ?_, h1.below hbel3 (by omega), h2.trans (hbel3.mono (by omega)), Nat.le_trans h3 hbel3.size⟩
        rw [← Nat.add_assoc, ← hpp, List.replicate_succ', ← List.append_assoc]
        exact hown3
      case measure => have := HP.out; simp; omega
    · have hjZ : j = Z := by omega
      have h56 : r = 56 := hend.2 hjZ
      subst h56
      have HL0 : Hid (l ++ [128] ++ List.replicate j 0 ++ great (8 * n) 8 = padded l) := Lib.hid (by unfold padded; rw [HL.out, HT.out, hjZ]; simp)
      obtain ⟨L0, hL0⟩ : ∃ L0, L0 = l ++ [128] ++ List.replicate j 0 := ⟨_, rfl⟩
      rw [← hL0] at hown HL0
      obtain ⟨N, hN⟩ : ∃ N, N = 8 * n := ⟨_, rfl⟩
      rw [← hN] at HL0
      have hpb : p ≤ 200000 := by omega
      have hN1 : IntKind.u64.wrap (n : Int) = (n : Int) := by rw [IntKind.wrap_u64]; omega
      have hN2 : IntKind.u64.wrap ((n : Int) * 8) = (N : Int) := by rw [IntKind.wrap_u64]; omega
      have hNb : N ≤ 800000 := by omega
      have K := Lib.hid (And.intro hown (And.intro hz (And.intro hbel hsz)))
      clear hown hz hbel hsz hend hrr hp hL0 hN hjZ
      go_wp2
      go_loopw [3, 5] (fun v i wr => ∃ (t : Nat) (B : Option Addr) (d : Nat), t ≤ 8 ∧ i = .int .i64 t ∧ v = .slice B (p + t) d ∧ OwnB wr (w.heap.size + 1) B (p + t) d (L0 ++ (great N 8).take t) ∧ Blk wr w.heap.size ((List.replicate 32 (0 : UInt8)).map B8) 41 ∧ Below w.heap.size w wr ∧ w.heap.size + 1 ≤ wr.heap.size) (fun _ i _ => 8 - (intOf i).toNat)
      case atStart => exact ⟨0, B, d, Nat.zero_le _, rfl, rfl, by simpa using K.out.1, K.out.2.1, K.out.2.2.1, K.out.2.2.2⟩
      case round =>
        clear K
        obtain ⟨t, B, d, ht, rfl, rfl, hown, hz, hbel, hsz⟩ := hrel
        by_cases hlt : t < 8
        · obtain ⟨m, hm⟩ : ∃ m, m = 7 - t := ⟨_, rfl⟩
          have hv7 : IntKind.i64.wrap (7 - (t : Int)) = (m : Int) := by rw [IntKind.wrap_i64]; omega
          have bt : (t : Int) < 8 := by omega
          have hsn := great_snoc N t hlt
          rw [← hm] at hsn
          have HSN := Lib.hid hsn
          have K := Lib.hid (And.intro hown (And.intro hz (And.intro hbel hsz)))
          obtain ⟨q, hq⟩ : ∃ q, q = p + t := ⟨_, rfl⟩
          rw [← hq] at K ⊢
          have HQ := Lib.hid hq
          have hqb : q ≤ 300000 := by omega
          have hm7 : m ≤ 7 := by omega
          clear hown hz hbel hsz hsn hq hm
          go_wp2
          go_loop [6, 7] (fun x j => ∃ k y : Nat, k ≤ m ∧ j = .int .i64 k ∧ x = .int .u64 (y : Int) ∧ Hid (y = N / 256 ^ k)) (fun _ j => m - (intOf j).toNat)
          case atStart => exact ⟨0, N, Nat.zero_le _, rfl, rfl, by show N = N / 256 ^ 0; simp⟩
          case round =>
            obtain ⟨k, y, hk, rfl, rfl, HY⟩ := hrel
            have hyb : y ≤ 800000 := by rw [HY.out]; exact Nat.le_trans (Nat.div_le_self _ _) hNb
            by_cases hkm : k < m
            · obtain ⟨y2, hy2⟩ : ∃ y2, y2 = y / 256 := ⟨_, rfl⟩
              have d1 : (y : Int).tdiv 256 = (y2 : Int) := by rw [Int.tdiv_eq_ediv_of_nonneg (by omega)]; omega
              have d2 : (y : Int) / 256 = (y2 : Int) := by omega
              have d3 : IntKind.u64.wrap (y2 : Int) = (y2 : Int) := by rw [IntKind.wrap_u64]; omega
              have HY2 : Hid (y2 = N / 256 ^ (k + 1)) := Lib.hid (by rw [hy2, HY.out, Nat.div_div_eq_div_mul, Nat.pow_succ])
              have bk : (k : Int) < (m : Int) := by omega
              clear hy2
              go_wp2
              go_round
              case rel => exact ⟨k + 1, y2, by omega, by go_num, rfl, HY2⟩
              case measure => simp [intOf]; omega
            · have e : k = m := by omega
              subst e
              obtain ⟨r, hr⟩ : ∃ r, r = y % 256 := ⟨_, rfl⟩
              have d1 : (y : Int).tmod 256 = (r : Int) := by rw [Int.tmod_eq_emod_of_nonneg (by omega)]; omega
              have d2 : (y : Int) % 256 = (r : Int) := by omega
              have d3 : IntKind.u8.wrap (r : Int) = (r : Int) := by rw [IntKind.wrap_u8]; omega
              have HRR := Lib.hid hr
              have hr256 : r < 256 := by omega
              clear hr
              go_wp2_with (at_builtin; refine appB_one _ rfl _ _ rfl (w.heap.size + 1) B q d _ _ (UInt8.ofNat y) (by rw [ofNat_toNat, ← HRR.out]) rfl rfl K.out.1 (by omega) K.out.2.2.2 ?_; intro A3 c3 w3 hown3 hbel3)
              go_roundw
              case rel =>
                have hpp := HQ.out
                obtain ⟨h0, h1, h2, h3⟩ := K.out
                refine ⟨t + 1, A3, c3, by omega, by go_num, by rw [hpp, Nat.add_assoc], ?_, h1.below hbel3 (by omega), h2.trans (hbel3.mono (by omega)), Nat.le_trans h3 hbel3.size⟩
                rw [← Nat.add_assoc, ← hpp, HSN.out, ← List.append_assoc, ← HY.out]
                exact hown3
              case measure => simp [intOf]; omega
        · have e : t = 8 := by omega
          subst e
          rw [List.take_of_length_le (by simp), HL0.out] at hown
          obtain ⟨F, hF⟩ : ∃ F, F = padded l := ⟨_, rfl⟩
          obtain ⟨M, hM, hM0⟩ := padded_len l
          rw [← hF] at hown hM
          obtain ⟨q, hq⟩ : ∃ q, q = p + 8 := ⟨_, rfl⟩
          rw [← hq] at hown ⊢
          have hqM : q = 64 * M := by rw [← hown.len, hM]
          have hcap := hown.cap.1
          have hrd := hown.rd
          have hfin : fin l = chain h0 F M := by rw [fin, ← padded, ← hF, hM, Nat.mul_div_cancel_left _ (by omega)]
          have HF := Lib.hid hfin
          have K := Lib.hid (And.intro hrd (And.intro hz (And.intro hbel hsz)))
          have HM := Lib.hid hM
          have hq1 : q ≤ 64 * M := by omega
          have hq2 : 64 * M ≤ q := by omega
          have hMb : M ≤ 100000 := by omega
          clear hown hz hbel hsz hq hqM hfin hF hM hrd HL0
          have hSok : ∀ k, (chain h0 F k).ok := fun k => chain_ok h0 F k h0_ok
          have HSO := Lib.hid hSok
          clear hSok
          go_wp2_with (first
            | (go_at_call 40; refine (kfirst_calls _).mono ?_; rintro e' w4 ⟨rfl, hb4⟩
               have hrd4 := K.out.1.below hb4
               have hz4 := K.out.2.1.below hb4 K.out.2.1.lt
               have hbe4 := K.out.2.2.1.trans (hb4.mono K.out.2.2.1.size)
               have hsz4 := Nat.le_trans K.out.2.2.2 hb4.size
               have P := Lib.hid (And.intro hrd4 (And.intro hz4 (And.intro hbe4 hsz4)))
               clear hrd4 hz4 hbe4 hsz4 hb4)
            | (refine at_store 83 (.tmp 8) (.tmp 45) ?_; refine wpList_store_blk rfl 83 (.tmp 8) (.tmp 45) rfl w4.heap.size _ h0.vals _ rfl rfl (Blk.new w4 _ _) rfl (by rw [vals_len]; exact i8) (vals_one h0) ?_; intro w5 hb5 ho5
               have P2 := Lib.hid (And.intro hb5 (((Below.refl _ w4).alloc (Nat.le_refl _) _).trans (ho5.below (Nat.le_refl _))))
               clear hb5 ho5))
          have hgs1 : w.heap.size + 1 ≤ w4.heap.size := P.out.2.2.2
          simp only [Act.put]
          go_loopw [3] (fun v wr => ∃ (t : Nat) (B : Option Addr) (u d : Nat), t ≤ M ∧ v = .slice B u d ∧ u = 64 * (M - t) ∧ u ≤ d ∧ Rd w4 B u (F.drop (64 * t)) ∧ Blk wr w4.heap.size (chain h0 F t).vals 83 ∧ Below w4.heap.size w4 wr) (fun v _ => match v with | .slice _ u _ => u | _ => 0)
          case atStart => exact ⟨0, B, q, d, Nat.zero_le _, rfl, by omega, hcap, by simpa using P.out.1, P2.out.1, P2.out.2⟩
          case round =>
            obtain ⟨t, B, u, d, ht, rfl, hu, hud, hrd, hb, hbel⟩ := hrel
            by_cases hlt : t < M
            · obtain ⟨S, hS⟩ : ∃ S, S = chain h0 F t := ⟨_, rfl⟩
              have hSk : S.ok := by rw [hS]; exact HSO.out t
              rw [← hS] at hb
              have hnext : chain h0 F (t + 1) = comp S ((F.drop (64 * t)).take 64) := by rw [chain, ← hS]
              have hu64 : 64 ≤ u := by omega
              have bu : (0 : Int) < (u : Int) := by omega
              have hFl : F.length = 64 * M := HM.out
              have hr1 : Rd wr (sub B d 0) 64 ((F.drop (64 * t)).take 64) := by
                have h := (hrd.below hbel).mid (c := d) 0 64 hud hu64
                simpa using h
              have hr2 := hrd.drop (c := d) 64 hud
              rw [List.drop_drop, show 64 * t + 64 = 64 * (t + 1) from by omega] at hr2
              have hsl1 := fun W => run_subH (P := Tryd.prog) 28 5 Tryd.underlying28 size8 B u d 64 64 rfl (by omega) W
              have hsl2 := fun W => run_subL (P := Tryd.prog) 28 5 Tryd.underlying28 size8 B u d 64 64 rfl hu64 W
              obtain ⟨V, hV⟩ : ∃ V, V = (comp S ((F.drop (64 * t)).take 64)).vals := ⟨_, rfl⟩
              have hVl : V.length = 8 := by rw [hV]; exact vals_len _
              have hV1 : ∀ v ∈ V, v.oneCell' = true := by rw [hV]; exact vals_one _
              have CS : Hid (Calls Tryd.prog 41 #[.agg S.arr, .slice (sub B d 0) 64 d] wr.drew (Ret wr.drew (.agg V.toArray))) := Lib.hid (by
                rw [hV]
                exact step_calls S _ (sub B d 0) d wr.drew hSk (by rw [List.length_take, List.length_drop, hFl]; omega) hr1)
              generalize sub B d 0 = B1 at *
              generalize sub B d 64 = B2 at *
              have hstc : Hid (∀ w6 : World, Below wr.drew.heap.size wr.drew w6 → (storeCells ⟨w4.heap.size, 0, none⟩ V).run Tryd.prog w6 = .ok () (w6.setCells w4.heap.size 0 V)) := Lib.hid fun w6 h6 => run_stc (Blk.below (w := wr.drew) hb h6 hb.lt) V (by rw [hVl, vals_len]) hV1
              have HREL : Hid (∀ w6 : World, Below wr.drew.heap.size wr.drew w6 → ∃ (t_1 : Nat) (B' : Option Addr) (u' d' : Nat), t_1 ≤ M ∧ Value.slice B2 (u - 64) (d - 64) = .slice B' u' d' ∧ u' = 64 * (M - t_1) ∧ u' ≤ d' ∧ Rd w4 B' u' (F.drop (64 * t_1)) ∧ Blk (w6.setCells w4.heap.size 0 V) w4.heap.size (chain h0 F t_1).vals 83 ∧ Below w4.heap.size w4 (w6.setCells w4.heap.size 0 V)) := Lib.hid (by
                intro w6 hbel6
                have hbw : Below wr.heap.size wr w6 := ⟨hbel6.os, hbel6.tape, hbel6.output, hbel6.size, hbel6.block⟩
                have h6 := hb.below hbw hb.lt
                have ho := Only.setCells (g := w4.heap.size) V w6 w6 0 (Only.refl _ _)
                have hnn := Blk.setCells V w6 _ 0 h6 (by rw [hVl, vals_len]; omega)
                rw [over_all _ _ (by rw [hVl, vals_len])] at hnn
                exact ⟨t + 1, B2, u - 64, d - 64, by omega, rfl, by omega, by omega, hr2, by rw [hnext, ← hV]; exact hnn, (hbel.trans (hbw.mono hbel.size)).trans (ho.below (Nat.le_refl _))⟩)
              have hV8 := Lib.hid hVl
              obtain ⟨sa, sb, sc, sd, se, sf, sg, sh⟩ := S
              have c0 : wr.cell? ⟨w4.heap.size, 0, none⟩ = some (.int .u32 (sa : Int)) := hb.cell 0
              have c1 : wr.cell? ⟨w4.heap.size, 1, none⟩ = some (.int .u32 (sb : Int)) := hb.cell 1
              have c2 : wr.cell? ⟨w4.heap.size, 2, none⟩ = some (.int .u32 (sc : Int)) := hb.cell 2
              have c3 : wr.cell? ⟨w4.heap.size, 3, none⟩ = some (.int .u32 (sd : Int)) := hb.cell 3
              have c4 : wr.cell? ⟨w4.heap.size, 4, none⟩ = some (.int .u32 (se : Int)) := hb.cell 4
              have c5 : wr.cell? ⟨w4.heap.size, 5, none⟩ = some (.int .u32 (sf : Int)) := hb.cell 5
              have c6 : wr.cell? ⟨w4.heap.size, 6, none⟩ = some (.int .u32 (sg : Int)) := hb.cell 6
              have c7 : wr.cell? ⟨w4.heap.size, 7, none⟩ = some (.int .u32 (sh : Int)) := hb.cell 7
              have HU := Lib.hid hu
              clear hS hSk hb hbel hrd hr1 hr2 hnext hV hV1 hu hFl
              go_wp2
              go_region_with (go_at_call 41; refine CS.out.mono ?_; rintro e' w6 ⟨rfl, hbel6⟩; have hst := hstc.out w6 hbel6)
              all_goals clear hst
              all_goals go_wp2
              all_goals go_roundw
              all_goals first | exact HREL.out w6 hbel6 | (simp; omega)
            · have e : t = M := by omega
              subst e
              have hu0 : u = 0 := by omega
              subst hu0
              obtain ⟨S, hS⟩ : ∃ S, S = chain h0 F t := ⟨_, rfl⟩
              rw [← hS] at hb
              have hSl : ∀ k, S.list.getD k 0 < 4294967296 := fun k => by
                have h := HSO.out t
                rw [← hS] at h
                rw [List.getD_eq_getElem?_getD]
                cases hx : S.list[k]? with
                | none => simp
                | some x => exact h x (List.mem_of_getElem? hx)
              have hsha : sha l = S.bytes := by rw [sha, HF.out, hS]
              have HSH := Lib.hid hsha
              have HSL := Lib.hid hSl
              have Q1 := Lib.hid hb
              have Q2 := Lib.hid hbel
              clear hS hb hbel hsha hSl hrd hu hud
              obtain ⟨wq, rfl⟩ : ∃ wq, wq = wr := ⟨_, rfl⟩
              go_wp2
              have hq0 : Blk (wq.alloc (.cells #[.int .u8 0, .int .u8 0, .int .u8 0, .int .u8 0, .int .u8 0, .int .u8 0, .int .u8 0, .int .u8 0, .int .u8 0, .int .u8 0, .int .u8 0, .int .u8 0, .int .u8 0, .int .u8 0, .int .u8 0, .int .u8 0, .int .u8 0, .int .u8 0, .int .u8 0, .int .u8 0, .int .u8 0, .int .u8 0, .int .u8 0, .int .u8 0, .int .u8 0, .int .u8 0, .int .u8 0, .int .u8 0, .int .u8 0, .int .u8 0, .int .u8 0, .int .u8 0] 41)) wq.heap.size ((hpart S.list 0).map B8) 41 := Blk.new wq _ _
              have hqb : Below wq.heap.size wq (wq.alloc (.cells #[.int .u8 0, .int .u8 0, .int .u8 0, .int .u8 0, .int .u8 0, .int .u8 0, .int .u8 0, .int .u8 0, .int .u8 0, .int .u8 0, .int .u8 0, .int .u8 0, .int .u8 0, .int .u8 0, .int .u8 0, .int .u8 0, .int .u8 0, .int .u8 0, .int .u8 0, .int .u8 0, .int .u8 0, .int .u8 0, .int .u8 0, .int .u8 0, .int .u8 0, .int .u8 0, .int .u8 0, .int .u8 0, .int .u8 0, .int .u8 0, .int .u8 0, .int .u8 0] 41)) := (Below.refl _ wq).alloc (Nat.le_refl _) _
              have hgl := Q1.out.lt
              have Q3 := Lib.hid hq0
              have Q4 := Lib.hid hqb
              clear hq0 hqb
              go_loopw [10] (fun i wr => ∃ k : Nat, k ≤ 8 ∧ i = .int .i64 k ∧ Blk wr wq.heap.size ((hpart S.list k).map B8) 41 ∧ Below wq.heap.size wq wr) (fun i _ => 8 - (intOf i).toNat)
              case atStart => exact ⟨0, by omega, rfl, Q3.out, Q4.out⟩
              case round =>
                obtain ⟨k, hk, rfl, hb, hbel⟩ := hrel
                have hcs : ∀ k, k < 8 → wr.cell? ⟨w4.heap.size, k, none⟩ = some (.int .u32 (S.list.getD k 0 : Int)) := fun k hk => by
                  have h1 := hbel.cell (p := ⟨w4.heap.size, k, none⟩) hgl
                  rw [h1, Q1.out.cell, vals_at S k hk]
                by_cases hlt : k < 8
                · obtain ⟨x, hx⟩ : ∃ x, x = S.list.getD k 0 := ⟨_, rfl⟩
                  have hxl : x < 4294967296 := by rw [hx]; exact HSL.out k
                  have cx := hcs k hlt
                  rw [← hx] at cx
                  obtain ⟨q, hq⟩ : ∃ q, q = 4 * k := ⟨_, rfl⟩
                  have v0 : IntKind.i64.wrap (4 * (k : Int)) = (q : Int) := by rw [IntKind.wrap_i64]; omega
                  have hl32 : ((hpart S.list k).map B8).length = 32 := by rw [List.length_map, hpart_len _ _ (list_len S) hk]
                  have g0 := hb.cell q
                  rw [List.getElem?_eq_getElem (by omega)] at g0
                  have g1 := hb.cell (q + 1)
                  rw [List.getElem?_eq_getElem (by omega)] at g1
                  have g2 := hb.cell (q + 2)
                  rw [List.getElem?_eq_getElem (by omega)] at g2
                  have g3 := hb.cell (q + 3)
                  rw [List.getElem?_eq_getElem (by omega)] at g3
                  generalize ((hpart S.list k).map B8)[q] = o0 at g0
                  generalize ((hpart S.list k).map B8)[q + 1] = o1 at g1
                  generalize ((hpart S.list k).map B8)[q + 2] = o2 at g2
                  generalize ((hpart S.list k).map B8)[q + 3] = o3 at g3
                  have f0 := hb.free q
                  have f1 := hb.free (q + 1)
                  have f2 := hb.free (q + 2)
                  have f3 := hb.free (q + 3)
                  obtain ⟨y0, hy0⟩ : ∃ y, y = x / 16777216 := ⟨_, rfl⟩
                  obtain ⟨x1, hx1⟩ : ∃ y, y = x / 65536 := ⟨_, rfl⟩
                  obtain ⟨y1, hy1⟩ : ∃ y, y = x1 % 256 := ⟨_, rfl⟩
                  obtain ⟨x2, hx2⟩ : ∃ y, y = x / 256 := ⟨_, rfl⟩
                  obtain ⟨y2, hy2⟩ : ∃ y, y = x2 % 256 := ⟨_, rfl⟩
                  obtain ⟨y3, hy3⟩ : ∃ y, y = x % 256 := ⟨_, rfl⟩
                  have hgr : (great x 4).map B8 = [.int .u8 (y0 : Int), .int .u8 (y1 : Int), .int .u8 (y2 : Int), .int .u8 (y3 : Int)] := by
                    have e : great x 4 = [UInt8.ofNat (x / 16777216), UInt8.ofNat (x / 65536), UInt8.ofNat (x / 256), UInt8.ofNat x] := by
                      simp [great, little, List.range_succ]
                    rw [e]
                    simp only [List.map_cons, List.map_nil, B8, ofNat_toNat]
                    rw [hy1, hy2, hy3, hx1, hx2, hy0, Nat.mod_eq_of_lt (by omega : x / 16777216 < 256)]
                  have hst := hpart_step S.list k (list_len S) hlt
                  rw [← hx, ← hq, hgr] at hst
                  have hfit := Blk.setCells (g := wq.heap.size) [.int .u8 (y0 : Int), .int .u8 (y1 : Int), .int .u8 (y2 : Int), .int .u8 (y3 : Int)] wr _ q hb (by rw [hl32]; simp; omega)
                  rw [hst] at hfit
                  have hbl := below_setCells (b := wq.heap.size) (Nat.le_refl _) [.int .u8 (y0 : Int), .int .u8 (y1 : Int), .int .u8 (y2 : Int), .int .u8 (y3 : Int)] wq wr q hbel
                  have a0 : (x : Int).tdiv 16777216 = (y0 : Int) := by rw [Int.tdiv_eq_ediv_of_nonneg (by omega)]; omega
                  have a1 : (x : Int) / 16777216 = (y0 : Int) := by omega
                  have a2 : IntKind.u32.wrap (y0 : Int) = (y0 : Int) := by rw [IntKind.wrap_u32]; omega
                  have a3 : IntKind.u8.wrap (y0 : Int) = (y0 : Int) := by rw [IntKind.wrap_u8]; omega
                  have b0 : (x : Int).tdiv 65536 = (x1 : Int) := by rw [Int.tdiv_eq_ediv_of_nonneg (by omega)]; omega
                  have b1 : (x : Int) / 65536 = (x1 : Int) := by omega
                  have b2 : IntKind.u32.wrap (x1 : Int) = (x1 : Int) := by rw [IntKind.wrap_u32]; omega
                  have b3 : (x1 : Int).tmod 256 = (y1 : Int) := by rw [Int.tmod_eq_emod_of_nonneg (by omega)]; omega
                  have b4 : (x1 : Int) % 256 = (y1 : Int) := by omega
                  have b5 : IntKind.u8.wrap (y1 : Int) = (y1 : Int) := by rw [IntKind.wrap_u8]; omega
                  have d0 : (x : Int).tdiv 256 = (x2 : Int) := by rw [Int.tdiv_eq_ediv_of_nonneg (by omega)]; omega
                  have d1 : (x : Int) / 256 = (x2 : Int) := by omega
                  have d2 : IntKind.u32.wrap (x2 : Int) = (x2 : Int) := by rw [IntKind.wrap_u32]; omega
                  have d3 : (x2 : Int).tmod 256 = (y2 : Int) := by rw [Int.tmod_eq_emod_of_nonneg (by omega)]; omega
                  have d4 : (x2 : Int) % 256 = (y2 : Int) := by omega
                  have d5 : IntKind.u8.wrap (y2 : Int) = (y2 : Int) := by rw [IntKind.wrap_u8]; omega
                  have e3 : (x : Int).tmod 256 = (y3 : Int) := by rw [Int.tmod_eq_emod_of_nonneg (by omega)]; omega
                  have e4 : (x : Int) % 256 = (y3 : Int) := by omega
                  have e5 : IntKind.u8.wrap (y3 : Int) = (y3 : Int) := by rw [IntKind.wrap_u8]; omega
                  have bq : (q : Int) + 3 < 32 := by omega
                  have bk : (k : Int) < 8 := by omega
                  have hgn : w4.heap.size ≠ wq.heap.size := by omega
                  have U1 := Lib.hid hfit
                  have U2 := Lib.hid hbl
                  clear hfit hbl hst hgr hy0 hx1 hy1 hx2 hy2 hy3 hb hbel hcs hx hl32 hxl hq
                  go_wp2
                  exact ⟨⟨k + 1, by omega, by go_num, U1.out, U2.out⟩, by simp [intOf]; omega⟩
                · have e : k = 8 := by omega
                  subst e
                  rw [hpart_all] at hb
                  obtain ⟨V9, hV9⟩ : ∃ V, V = S.bytes.map B8 := ⟨_, rfl⟩
                  have hV9l : V9.length = 32 := by rw [hV9, List.length_map, St.bytes_len]
                  have hV91 : ∀ v ∈ V9, v.oneCell' = true := by rw [hV9]; exact b8_one _
                  rw [← hV9] at hb
                  have hi9 : (Tryd.prog.info? 41).map (·.size) = some V9.length := by rw [hV9l]; exact ib32
                  have hP := P.out
                  have hq := Q2.out
                  have hz9 : Blk wr w.heap.size ((List.replicate 32 (0 : UInt8)).map B8) 41 := ((hP.2.1.below hq (by omega)).below hbel (by omega))
                  have hbw : Below w.heap.size w wr := (hP.2.2.1.trans (hq.mono (by omega))).trans (hbel.mono (by have := hq.size; omega))
                  have U1 := Lib.hid hb
                  have U2 := Lib.hid hz9
                  have U3 := Lib.hid hV9
                  have U4 := Lib.hid hV9l
                  have U5 := Lib.hid hi9
                  have U6 := Lib.hid hbw
                  have hgq : w.heap.size < wq.heap.size := by have := hq.size; omega
                  clear hb hz9 hV9 hV9l hi9 hbw hbel hcs hP hq
                  go_wp2_with (first
                    | (refine at_load 41 (.tmp 9) ?_; refine wpList_load_mid rfl 41 (.tmp 9) rfl wq.heap.size 0 rfl V9 _ U1.out.range Tryd.underlying41 rfl U5.out ?_)
                    | (refine at_store 41 (.tmp 2) (.tmp 96) ?_; refine wpList_store_blk rfl 41 (.tmp 2) (.tmp 96) rfl w.heap.size _ V9 _ rfl rfl U2.out (by rw [U4.out]; rfl) U5.out hV91 ?_; intro w9 hb9 ho9))
                  refine bodyPost_ret (v := .agg V9.toArray) ?_ rfl ⟨by rw [U3.out, HSH.out], U6.out.trans (ho9.below (Nat.le_refl _))⟩
                  exact results_cell_row Tryd.results29 _ _ w.heap.size 41 _ (0, 0) _ (by rfl) hb9 Tryd.underlying41 rfl (by rw [List.size_toArray]; exact U5.out)

set_option maxRecDepth 100000 in
set_option maxHeartbeats 2000000 in
theorem rtwice_calls (s : ByteArray) (w : World) (hn : s.size ≤ 100000) :
    Calls Tryd.prog 12 #[.string s] w (Ret w (.agg ((sha (sha s.data.toList)).map B8).toArray)) := by
  obtain ⟨V, hV⟩ : ∃ V, V = (sha s.data.toList).map B8 := ⟨_, rfl⟩
  obtain ⟨V2, hV2⟩ : ∃ V, V = (sha (sha s.data.toList)).map B8 := ⟨_, rfl⟩
  have hVl : V.length = 32 := by rw [hV, List.length_map, sha_len]
  have hV1 : ∀ v ∈ V, v.oneCell' = true := by rw [hV]; exact b8_one _
  have hi1 : (Tryd.prog.info? 41).map (·.size) = some V.length := by rw [hVl]; exact ib32
  have hV2l : V2.length = 32 := by rw [hV2, List.length_map, sha_len]
  have hV21 : ∀ v ∈ V2, v.oneCell' = true := by rw [hV2]; exact b8_one _
  have hi2 : (Tryd.prog.info? 41).map (·.size) = some V2.length := by rw [hV2l]; exact ib32
  have C1 : Hid (∀ W, Calls Tryd.prog 29 #[.string s] W (Ret W (.agg V.toArray))) := Lib.hid fun W => by rw [hV]; exact rsum_calls s W hn
  obtain ⟨s2, hs2⟩ : ∃ s2 : ByteArray, s2 = ⟨(sha s.data.toList).toArray⟩ := ⟨_, rfl⟩
  have C2 : Hid (∀ W, Calls Tryd.prog 29 #[.string s2] W (Ret W (.agg V2.toArray))) := Lib.hid fun W => by
    have h := rsum_calls s2 W (by rw [hs2]; show (sha s.data.toList).toArray.size ≤ 100000; rw [List.size_toArray, sha_len]; omega)
    rw [hV2]
    rw [show s2.data.toList = sha s.data.toList from by rw [hs2]] at h
    exact h
  have HCV : Hid (∀ W g, Blk W g V 41 → (convert 28 9 (.slice (some ⟨g, 0, none⟩) 32 32)).run Tryd.prog W = .ok (.string s2) W) := Lib.hid fun W g h => by
    rw [hs2]
    refine conv8 W _ 32 32 (sha s.data.toList) (h.rd 0 32 _ (sha_len _) (fun j hj => ?_))
    rw [hV, Nat.zero_add, List.getElem?_map, List.getElem?_eq_getElem hj]
    rfl
  have hsl := fun W g => run_sl_all (P := Tryd.prog) 41 5 32 Tryd.underlying41 size8 g 0 (by omega) W
  have H0 := Lib.hid (Blk.new w ((List.replicate 32 (0 : UInt8)).map B8).toArray 41)
  have HV2 := Lib.hid hV2
  have HL := Lib.hid (And.intro hVl hV2l)
  have HI := Lib.hid (And.intro hi1 hi2)
  clear hV hV2 hs2 hn hVl hV2l hi1 hi2
  go_enter Tryd.func12, Tryd.ntmps12
  go_wp2_with (first
    | (go_at_call_of 29 s; refine (C1.out _).mono ?_; rintro e' w1 ⟨rfl, hb1⟩
       have J1 := Lib.hid (H0.out.below hb1 (by simp))
       have J2 := Lib.hid (Below.trans ((Below.refl _ w).alloc (Nat.le_refl _) _) (hb1.mono (by simp)))
       clear hb1)
    | (refine at_store 41 (.tmp 3) (.tmp 5) ?_; refine wpList_store_blk rfl 41 (.tmp 3) (.tmp 5) rfl w1.heap.size _ V _ rfl rfl (Blk.new w1 _ _) (by rw [HL.out.1]; rfl) HI.out.1 hV1 ?_; intro w2 hb2 ho2
       have hcv := HCV.out w2 w1.heap.size hb2
       have J3 := Lib.hid (ho2.blk (J1.out.alloc _) (by have := J1.out.lt; omega))
       have J4 := Lib.hid ((J2.out.alloc J2.out.size _).trans (ho2.below J2.out.size))
       clear hb2 ho2)
    | (go_at_call_of 29 s2; refine (C2.out _).mono ?_; rintro e' w3 ⟨rfl, hb3⟩
       have J5 := Lib.hid (J3.out.below hb3 J3.out.lt)
       have J6 := Lib.hid (J4.out.trans (hb3.mono J4.out.size))
       clear hb3)
    | (refine at_store 41 (.tmp 2) (.tmp 8) ?_; refine wpList_store_blk rfl 41 (.tmp 2) (.tmp 8) rfl w.heap.size _ V2 _ rfl rfl J5.out (by rw [HL.out.2]; rfl) HI.out.2 hV21 ?_; intro w9 hb9 ho9))
  refine bodyPost_ret (v := .agg V2.toArray) ?_ rfl ⟨by rw [HV2.out], J6.out.trans (ho9.below (Nat.le_refl _))⟩
  exact results_cell_row Tryd.results12 _ _ w.heap.size 41 _ (0, 0) _ (by rfl) hb9 Tryd.underlying41 rfl (by rw [List.size_toArray]; exact HI.out.2)
end Go.Proofs.YthkkllcpogagiaaDoor
