/- Package rice: Steps. -/
import Derived.Test.YtkmedbdaobficaaRicD
import Derived.Test.YtkmedbdaobficaaRicB
import Derived.Test.YtkmedbdaobficaaBitC
namespace Go.Proofs.Ytkmedbdaobficaa
open Go.RowKit
set_option linter.unusedVariables false
set_option linter.unusedSimpArgs false

set_option maxRecDepth 100000 in
set_option maxHeartbeats 4000000 in
theorem rsteps_calls {BW : World → Nat → (Nat → Prop) → List Bool → Prop} {BR : World → Nat → Nat → (Nat → Prop) → List Bool → Prop} (K : BitOk BW BR) (w : World) (A : Option Addr) (n c : Nat) (N : List Nat) (p : Int) (hr : RdN w A n N) (hn : n ≤ 100000) (hst : stL p 0 N ≤ 100000) :
    Calls Try.prog 24 #[.int .i64 p, .slice A n c] w fun e w' => ∃ A' n' c', e = .returned (.tuple #[.slice A' n' c', .int .i64 ((stp p 0 N).2 : Int)]) ∧ Rd w' A' n' (stB (stp p 0 N)) ∧ n' ≤ c' ∧ c' ≤ maxLen ∧ Below w.heap.size w w' := by
  have hln := hr.len
  have HR := Lib.hid hr
  have hst0 : stL p (prv N 0) (N.drop 0) ≤ 100000 := hst
  have CN : Hid (∀ W : World, Calls Try.prog 8 #[] W fun e w' => ∃ p S, e = .returned (.pointer (some ⟨p, 0, none⟩)) ∧ BW w' p S [] ∧ Below W.heap.size W w' ∧ ∀ i, S i → W.heap.size ≤ i) := Lib.hid K.new
  have CB : Hid (∀ (W : World) (x : Nat) (S : Nat → Prop) (l : List Bool), BW W x S l → l.length ≤ 1000000 → Calls Try.prog 14 #[.pointer (some ⟨x, 0, none⟩)] W fun e w' => ∃ A n c, e = .returned (.slice A n c) ∧ Rd w' A n (pack l) ∧ n ≤ c ∧ c ≤ maxLen ∧ Below W.heap.size W w') := Lib.hid fun W x S l => K.bytes W x S l
  have C4 : Hid (∀ (W : World) (x : Nat) (m : Nat), m < 18446744073709551616 → 65536 < rq p m → Calls Try.prog 11 #[.pointer (some ⟨x, 0, none⟩), .int .i64 p, .int .u64 (m : Int)] W (Ret W (.int .i64 4))) := Lib.hid fun W x m => rputB_calls W x p m
  have C5 : Hid (∀ (W : World) (x : Nat) (S : Nat → Prop) (l : List Bool) (m : Nat), BW W x S l → m < 18446744073709551616 → rq p m ≤ 65536 → l.length ≤ 900000 → Calls Try.prog 11 #[.pointer (some ⟨x, 0, none⟩), .int .i64 p, .int .u64 (m : Int)] W fun e w' => ∃ S', e = .returned (.int .i64 0) ∧ BW w' x S' (l ++ rcode p m) ∧ Frm S W w' ∧ ∀ i, S' i → S i ∨ W.heap.size ≤ i) := Lib.hid fun W x S l m h1 h2 h3 h4 => rput_calls K W x S l p m h1 h2 h3 h4
  clear hr hst K
  go_enter Try.func24, Try.ntmps24
  go_upto_region 2 with (first
    | (go_at_call 8; refine (CN.out _).mono ?_; rintro e' w1 ⟨x, S, rfl, hW1, hB1, hS1⟩))
  have HW1 := Lib.hid (And.intro hW1 (And.intro hB1 hS1))
  clear hW1 hB1 hS1
  go_wp2
  go_loopw [7, 9, 10, 14] (fun bv nv ev kv wr => ∃ (t b : Nat) (V : List Bool) (T : Nat → Prop), kv = .int .i64 (t : Int) ∧ bv = .int .u64 (b : Int) ∧ b = prv N t ∧ t ≤ n ∧ V.length + stL p (prv N t) (N.drop t) ≤ 100000 ∧ stp p 0 N = cmb V (stp p (prv N t) (N.drop t)) ∧ BW wr x T V ∧ Below w.heap.size w wr ∧ ∀ i, T i → w.heap.size ≤ i) (fun _ _ _ kv _ => n - (intOf kv).toNat)
  case atStart => exact ⟨0, 0, [], S, by first | rfl | go_num, rfl, rfl, by omega, by simpa using hst0, by rw [cmb_nil]; rfl, HW1.out.1, HW1.out.2.1, HW1.out.2.2⟩
  case round =>
    obtain ⟨t, b, V, T, rfl, rfl, hb, htn, hVl, hst, hW, hB, hT⟩ := hrel
    by_cases hlt : t < n
    · have hlt' : (t : Int) < (n : Int) := by omega
      obtain ⟨bb, off, hl, rfl, sc, hm64⟩ := HR.out.at_ hB hlt
      have hdr : N.drop t = N[t] :: N.drop (t + 1) := List.drop_eq_getElem_cons hl
      have hgd : N.getD t 0 = N[t] := by rw [List.getD_eq_getElem?_getD, List.getElem?_eq_getElem hl]; rfl
      obtain ⟨m, hm⟩ : ∃ z, z = N[t] := ⟨_, rfl⟩
      have hprv : prv N (t + 1) = m := by unfold prv; rw [if_neg (by omega), Nat.add_sub_cancel, hgd, hm]
      rw [hdr, ← hm, stp_cons] at hst
      rw [hdr, ← hm, stL] at hVl
      rw [← hm] at sc hm64
      rw [← hb] at hst hVl
      have HH := Lib.hid (And.intro hW (And.intro hB hT))
      clear hW hB hT hdr hgd hm hb
      by_cases hge : m < b
      · have g2 : (m : Int) < (b : Int) := by omega
        have HE : Hid (stp p 0 N = ([], 5)) := Lib.hid (by rw [hst, if_pos hge]; rfl)
        clear hst hVl hprv
        go_wp2
        go_ret2
        exact ⟨none, 0, 0, by rw [HE.out]; rfl, by rw [HE.out]; exact ⟨rfl, fun h => absurd h (by omega)⟩, by omega, by unfold maxLen; omega, HH.out.2.1⟩
      · have g2 : ¬ (m : Int) < (b : Int) := by omega
        obtain ⟨d, hd⟩ : ∃ z, z = m - b := ⟨_, rfl⟩
        have u2 : IntKind.u64.wrap ((m : Int) - (b : Int)) = (d : Int) := by rw [IntKind.wrap_u64]; omega
        have hd64 : d < 18446744073709551616 := by omega
        rw [← hd] at hst hVl
        clear hd
        by_cases hbig : 65536 < rq p d
        · have HE : Hid (stp p 0 N = ([], 4)) := Lib.hid (by rw [hst, if_neg hge, if_pos hbig]; rfl)
          have CP : Hid (Calls Try.prog 11 #[.pointer (some ⟨x, 0, none⟩), .int .i64 p, .int .u64 (d : Int)] wr (Ret wr (.int .i64 4))) := Lib.hid (C4.out wr x d hd64 hbig)
          clear hst hVl hprv hbig
          go_wp2_with (first
            | (go_at_call 11; refine CP.out.mono ?_; rintro e' w2 ⟨rfl, hB2⟩))
          go_ret2
          exact ⟨none, 0, 0, by rw [HE.out]; rfl, by rw [HE.out]; exact ⟨rfl, fun h => absurd h (by omega)⟩, by omega, by unfold maxLen; omega, below_more HH.out.2.1 hB2⟩
        · rw [if_pos (by omega)] at hVl
          have hcl := rcode_len p d
          have hk3 := hld_le p 32
          have hV2l : (V ++ rcode p d).length + stL p (prv N (t + 1)) (N.drop (t + 1)) ≤ 100000 := by rw [List.length_append, hprv]; omega
          have HST : Hid (stp p 0 N = cmb (V ++ rcode p d) (stp p (prv N (t + 1)) (N.drop (t + 1)))) := Lib.hid (by rw [hst, if_neg hge, if_neg hbig, cmb_cmb, hprv])
          have HP : Hid (m = prv N (t + 1)) := Lib.hid hprv.symm
          have CP := Lib.hid (C5.out wr x T V d HH.out.1 hd64 (by omega) (by omega))
          have HV2 := Lib.hid hV2l
          clear hst hVl hprv hbig hcl hV2l
          go_wp2_with (first
            | (go_at_call 11; refine CP.out.mono ?_; rintro e' w2 ⟨T2, rfl, hW2, hF2, hT2⟩))
          go_roundw
          case rel =>
            refine ⟨t + 1, m, V ++ rcode p d, T2, by go_num, rfl, HP.out, by omega, HV2.out, HST.out, hW2, below_frmB HH.out.2.1 hF2 HH.out.2.1.size HH.out.2.2, fun i hi => (hT2 i hi).elim (fun h => HH.out.2.2 i h) (fun h => Nat.le_trans HH.out.2.1.size h)⟩
          case measure => simp [intOf]; omega
    · have hlt' : ¬ (t : Int) < (n : Int) := by omega
      have e : t = n := by omega
      have HE : Hid (stp p 0 N = (V, 0)) := Lib.hid (by rw [hst, List.drop_of_length_le (by omega)]; unfold stp cmb; simp)
      have CP := Lib.hid (CB.out wr x T V hW (by omega))
      have HB := Lib.hid hB
      clear hst hVl hb hW hB hT e
      go_wp2_with (first
        | (go_at_call 14; refine CP.out.mono ?_; rintro e' w2 ⟨A2, n2, c2, rfl, h1, h2, h3, hB2⟩))
      go_ret2
      exact ⟨A2, n2, c2, by rw [HE.out]; rfl, by rw [HE.out]; exact h1, h2, h3, below_more HB.out hB2⟩
end Go.Proofs.Ytkmedbdaobficaa
