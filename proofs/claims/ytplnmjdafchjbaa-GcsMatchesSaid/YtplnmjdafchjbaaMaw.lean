/- Merged texts: RicN RicZ GcsM GcsN. -/
import Derived.Test.YtplnmjdafchjbaaMau
import Derived.Test.YtplnmjdafchjbaaMar
import Derived.Test.YtplnmjdafchjbaaMav
import Derived.Test.YtplnmjdafchjbaaMad
/- Package rice: Put and Steps, over what bit's writers alone are to answer. -/
namespace Go.Proofs.Ytplnmjdafchjbaa
open Go.RowKit
set_option linter.unusedVariables false
set_option linter.unusedSimpArgs false

/-- What a writer of bits is to answer. -/
structure BitWO (BW : World → Nat → (Nat → Prop) → List Bool → Prop) : Prop where
  new : ∀ W : World, Calls Try.prog 49 #[] W fun e w' => ∃ p S, e = .returned (.pointer (some ⟨p, 0, none⟩)) ∧ BW w' p S [] ∧ Below W.heap.size W w' ∧ ∀ i, S i → W.heap.size ≤ i
  put : ∀ (W : World) (p : Nat) (S : Nat → Prop) (l : List Bool) (n : Nat) (k : Int), BW W p S l → l.length ≤ 1000000 → n < 18446744073709551616 → -9223372036854775808 ≤ k → k ≤ 9223372036854775807 →
    Calls Try.prog 90 #[.pointer (some ⟨p, 0, none⟩), .int .u64 (n : Int), .int .i64 k] W fun e w' => ∃ S', e = .returned (.tuple #[]) ∧ BW w' p S' (l ++ bN n (hld k 64)) ∧ Frm S W w' ∧ ∀ i, S' i → S i ∨ W.heap.size ≤ i
  ones : ∀ (W : World) (p : Nat) (S : Nat → Prop) (l : List Bool) (n : Int), BW W p S l → l.length ≤ 1000000 → -9223372036854775808 ≤ n → n ≤ 9223372036854775807 →
    Calls Try.prog 89 #[.pointer (some ⟨p, 0, none⟩), .int .i64 n] W fun e w' => ∃ S', e = .returned (.tuple #[]) ∧ BW w' p S' (l ++ List.replicate (hld n 65536) true) ∧ Frm S W w' ∧ ∀ i, S' i → S i ∨ W.heap.size ≤ i
  bytes : ∀ (W : World) (p : Nat) (S : Nat → Prop) (l : List Bool), BW W p S l → l.length ≤ 1000000 → Calls Try.prog 51 #[.pointer (some ⟨p, 0, none⟩)] W fun e w' => ∃ A n c, e = .returned (.slice A n c) ∧ Rd w' A n (pack l) ∧ n ≤ c ∧ c ≤ maxLen ∧ Below W.heap.size W w'
set_option maxRecDepth 100000 in
theorem bitWO : BitWO BWx where
  new := fun W => (bwnew_calls W).mono fun e w' ⟨h1, h2, h3⟩ => ⟨_, WS W.heap.size none, h1, ⟨none, 0, h2, fun _ => Iff.rfl⟩, h3, fun i hi => by
    rcases hi with rfl | hi
    · exact Nat.le_refl _
    · simp [blkOf] at hi⟩
  put := by
    rintro W p S l n k ⟨A, c, h, hS⟩ hl hn h1 h2
    refine (bput_calls W p A c l n k h hl hn).mono ?_
    rintro e w' ⟨A', c', rfl, hw, hf, hn⟩
    obtain ⟨S', k1, k2, k3⟩ := bw_to (c := c) (l := l) hS hw hf hn
    exact ⟨S', rfl, k1, k2, k3⟩
  ones := by
    rintro W p S l n ⟨A, c, h, hS⟩ hl h1 h2
    refine (bones_calls W p A c l n h hl).mono ?_
    rintro e w' ⟨A', c', rfl, hw, hf, hn⟩
    obtain ⟨S', k1, k2, k3⟩ := bw_to (c := c) (l := l) hS hw hf hn
    exact ⟨S', rfl, k1, k2, k3⟩
  bytes := by
    rintro W p S l ⟨A, c, h, hS⟩ hl
    refine (bwbytes_calls W p A c l h hl).mono ?_
    rintro e w' ⟨A', n', c', rfl, ho, hb⟩
    exact ⟨A', n', c', rfl, ho.rd, (own_cap ho).1, (own_cap ho).2, hb⟩
set_option maxRecDepth 100000 in
set_option maxHeartbeats 4000000 in
theorem rput2_calls {BW : World → Nat → (Nat → Prop) → List Bool → Prop} (K : BitWO BW) (W : World) (w : Nat) (S : Nat → Prop) (l : List Bool) (p : Int) (n : Nat) (hW : BW W w S l) (hn : n < 18446744073709551616) (hb : rq p n ≤ 65536) (hl : l.length ≤ 900000) :
    Calls Try.prog 50 #[.pointer (some ⟨w, 0, none⟩), .int .i64 p, .int .u64 (n : Int)] W fun e w' => ∃ S', e = .returned (.int .i64 0) ∧ BW w' w S' (l ++ rcode p n) ∧ Frm S W w' ∧ ∀ i, S' i → S i ∨ W.heap.size ≤ i := by
  obtain ⟨k, hk⟩ : ∃ z, z = hld p 32 := ⟨_, rfl⟩
  have hk3 : k ≤ 32 := by rw [hk]; exact hld_le _ _
  have CC : Hid (∀ W, Calls Try.prog 60 #[.int .i64 p] W (fun e w' => e = .returned (.int .i64 (k : Int)) ∧ W = w')) := Lib.hid fun W => by rw [hk]; exact rclamp_calls p W
  obtain ⟨q, hq⟩ : ∃ z, z = n / 2 ^ k := ⟨_, rfl⟩
  have q6 : (n : Int) / 2 ^ k = (q : Int) := by rw [hq, Int.natCast_ediv, Int.natCast_pow]; rfl
  have hqr : rq p n = q := by unfold rq; rw [← hk, ← hq]
  have hqn : q ≤ 65536 := by omega
  have hqb : ¬ (65536 : Int) < (q : Int) := by omega
  have a1 : IntKind.i64.wrap (q : Int) = (q : Int) := by rw [IntKind.wrap_i64]; omega
  obtain ⟨l1, hl1⟩ : ∃ z, z = l ++ List.replicate q true := ⟨_, rfl⟩
  obtain ⟨l2, hl2⟩ : ∃ z, z = l1 ++ [false] := ⟨_, rfl⟩
  obtain ⟨l3, hl3⟩ : ∃ z, z = l2 ++ bN n k := ⟨_, rfl⟩
  have hll1 : l1.length ≤ 965536 := by rw [hl1, List.length_append, List.length_replicate]; omega
  have hll2 : l2.length ≤ 965537 := by rw [hl2, List.length_append]; simp; omega
  have hE : l ++ rcode p n = l3 := by rw [hl3, hl2, hl1]; unfold rcode; rw [hqr, ← hk]; simp
  have hkk : hld (k : Int) 64 = k := by unfold hld; rw [if_neg (by omega), if_neg (by omega)]; omega
  have hqq : hld (q : Int) 65536 = q := by unfold hld; rw [if_neg (by omega), if_neg (by omega)]; omega
  have C1 : Hid (Calls Try.prog 89 #[.pointer (some ⟨w, 0, none⟩), .int .i64 (q : Int)] W fun e w' => ∃ S', e = .returned (.tuple #[]) ∧ BW w' w S' l1 ∧ Frm S W w' ∧ ∀ i, S' i → S i ∨ W.heap.size ≤ i) := Lib.hid (by
    have := K.ones W w S l q hW (by omega) (by omega) (by omega)
    rw [hqq, ← hl1] at this
    exact this)
  have C2 : Hid (∀ W S, BW W w S l1 → Calls Try.prog 90 #[.pointer (some ⟨w, 0, none⟩), .int .u64 0, .int .i64 1] W fun e w' => ∃ S', e = .returned (.tuple #[]) ∧ BW w' w S' l2 ∧ Frm S W w' ∧ ∀ i, S' i → S i ∨ W.heap.size ≤ i) := Lib.hid fun W S h => by
    have := K.put W w S l1 0 1 h (by omega) (by omega) (by omega) (by omega)
    rw [show bN 0 (hld 1 64) = [false] from by decide, ← hl2] at this
    exact this
  have C3 : Hid (∀ W S, BW W w S l2 → Calls Try.prog 90 #[.pointer (some ⟨w, 0, none⟩), .int .u64 (n : Int), .int .i64 (k : Int)] W fun e w' => ∃ S', e = .returned (.tuple #[]) ∧ BW w' w S' l3 ∧ Frm S W w' ∧ ∀ i, S' i → S i ∨ W.heap.size ≤ i) := Lib.hid fun W S h => by
    have := K.put W w S l2 n k h (by omega) hn (by omega) (by omega)
    rw [hkk, ← hl3] at this
    exact this
  rw [hE]
  clear hk hq hb hW hl1 hl2 hl3 hE hqr hkk hqq hll1 hll2 K
  go_enter Try.func50, Try.ntmps50
  go_wp2_with (first
    | (go_at_call 60; refine (CC.out _).mono ?_; rintro e' w' ⟨rfl, rfl⟩)
    | (go_at_call 89; refine C1.out.mono ?_; rintro e' w1 ⟨S1, rfl, hW1, hF1, hS1⟩)
    | (with_reducible go_at_call 90; (with_reducible refine (C2.out _ S1 hW1).mono ?_); rintro e' w2 ⟨S2, rfl, hW2, hF2, hS2⟩)
    | (with_reducible go_at_call 90; (with_reducible refine (C3.out _ S2 hW2).mono ?_); rintro e' w3 ⟨S3, rfl, hW3, hF3, hS3⟩))
  go_ret
  have hs1 := hF1.size
  have hs2 := hF2.size
  exact ⟨S3, rfl, hW3, (hF1.step hF2 hS1).step hF3 (fun i hi => (hS2 i hi).elim (fun h => hS1 i h) (fun h => .inr (Nat.le_trans hs1 h))), fun i hi => (hS3 i hi).elim (fun h => (hS2 i h).elim (fun h => hS1 i h) (fun h => .inr (Nat.le_trans hs1 h))) (fun h => .inr (Nat.le_trans (Nat.le_trans hs1 hs2) h))⟩
set_option maxRecDepth 100000 in
set_option maxHeartbeats 4000000 in
theorem rsteps2_calls {BW : World → Nat → (Nat → Prop) → List Bool → Prop} (K : BitWO BW) (w : World) (A : Option Addr) (n c : Nat) (N : List Nat) (p : Int) (hr : RdN w A n N) (hn : n ≤ 100000) (hst : stL p 0 N ≤ 100000) :
    Calls Try.prog 23 #[.int .i64 p, .slice A n c] w fun e w' => ∃ A' n' c', e = .returned (.tuple #[.slice A' n' c', .int .i64 ((stp p 0 N).2 : Int)]) ∧ Rd w' A' n' (stB (stp p 0 N)) ∧ n' ≤ c' ∧ c' ≤ maxLen ∧ Below w.heap.size w w' := by
  have hln := hr.len
  have HR := Lib.hid hr
  have hst0 : stL p (prv N 0) (N.drop 0) ≤ 100000 := hst
  have CN : Hid (∀ W : World, Calls Try.prog 49 #[] W fun e w' => ∃ p S, e = .returned (.pointer (some ⟨p, 0, none⟩)) ∧ BW w' p S [] ∧ Below W.heap.size W w' ∧ ∀ i, S i → W.heap.size ≤ i) := Lib.hid K.new
  have CB : Hid (∀ (W : World) (x : Nat) (S : Nat → Prop) (l : List Bool), BW W x S l → l.length ≤ 1000000 → Calls Try.prog 51 #[.pointer (some ⟨x, 0, none⟩)] W fun e w' => ∃ A n c, e = .returned (.slice A n c) ∧ Rd w' A n (pack l) ∧ n ≤ c ∧ c ≤ maxLen ∧ Below W.heap.size W w') := Lib.hid fun W x S l => K.bytes W x S l
  have C4 : Hid (∀ (W : World) (x : Nat) (m : Nat), m < 18446744073709551616 → 65536 < rq p m → Calls Try.prog 50 #[.pointer (some ⟨x, 0, none⟩), .int .i64 p, .int .u64 (m : Int)] W (Ret W (.int .i64 4))) := Lib.hid fun W x m => rputB_calls W x p m
  have C5 : Hid (∀ (W : World) (x : Nat) (S : Nat → Prop) (l : List Bool) (m : Nat), BW W x S l → m < 18446744073709551616 → rq p m ≤ 65536 → l.length ≤ 900000 → Calls Try.prog 50 #[.pointer (some ⟨x, 0, none⟩), .int .i64 p, .int .u64 (m : Int)] W fun e w' => ∃ S', e = .returned (.int .i64 0) ∧ BW w' x S' (l ++ rcode p m) ∧ Frm S W w' ∧ ∀ i, S' i → S i ∨ W.heap.size ≤ i) := Lib.hid fun W x S l m h1 h2 h3 h4 => rput2_calls K W x S l p m h1 h2 h3 h4
  clear hr hst K
  go_enter Try.func23, Try.ntmps23
  go_upto_region 2 with (first
    | (go_at_call 49; refine (CN.out _).mono ?_; rintro e' w1 ⟨x, S, rfl, hW1, hB1, hS1⟩))
  have HW1 := Lib.hid (And.intro hW1 (And.intro hB1 hS1))
  clear hW1 hB1 hS1
  go_wp2
  go_loopw [7, 9, 10, 14] (fun bv nv ev kv wr => ∃ (t b : Nat) (V : List Bool) (T : Nat → Prop), kv = .int .i64 (t : Int) ∧ bv = .int .u64 (b : Int) ∧ b = prv N t ∧ t ≤ n ∧ V.length + stL p (prv N t) (N.drop t) ≤ 100000 ∧ stp p 0 N = cmb V (stp p (prv N t) (N.drop t)) ∧ BW wr x T V ∧ Below w.heap.size w wr ∧ ∀ i, T i → w.heap.size ≤ i) (fun _ _ _ kv _ => n - (intOf kv).toNat)
  case atStart => exact ⟨0, 0, [], S, by first | rfl | go_num, rfl, rfl, by omega, by simpa using hst0, by rw [cmb_nil]; rfl, HW1.out.1, HW1.out.2.1, HW1.out.2.2⟩
  case round =>
    obtain ⟨t, b, V, T, rfl, rfl, hb, htn, hVl, hst, hW, hB, hT⟩ := hrel
    by_cases hlt : t < n
    · have hlt' : (t : Int) < (n : Int) := by omega
      obtain ⟨bb, off, hl, rfl, sc, hm64⟩ := HR.out.at_ hB hlt
      have hdr : N.drop t = N[t] :: N.drop (t + 1) := List.drop_eq_getElem_cons hl
      have hgd : N.getD t 0 = N[t] := by rw [List.getD_eq_getElem?_getD, List.getElem?_eq_getElem hl]; rfl
      obtain ⟨m, hm⟩ : ∃ z, z = N[t] := ⟨_, rfl⟩
      have hprv : prv N (t + 1) = m := by unfold prv; rw [if_neg (by omega), Nat.add_sub_cancel, hgd, hm]
      rw [hdr, ← hm, stp_cons] at hst
      rw [hdr, ← hm, stL] at hVl
      rw [← hm] at sc hm64
      rw [← hb] at hst hVl
      have HH := Lib.hid (And.intro hW (And.intro hB hT))
      clear hW hB hT hdr hgd hm hb
      by_cases hge : m < b
      · have g2 : (m : Int) < (b : Int) := by omega
        have HE : Hid (stp p 0 N = ([], 5)) := Lib.hid (by rw [hst, if_pos hge]; rfl)
        clear hst hVl hprv
        go_wp2
        go_ret2
        exact ⟨none, 0, 0, by rw [HE.out]; rfl, by rw [HE.out]; exact ⟨rfl, fun h => absurd h (by omega)⟩, by omega, by unfold maxLen; omega, HH.out.2.1⟩
      · have g2 : ¬ (m : Int) < (b : Int) := by omega
        obtain ⟨d, hd⟩ : ∃ z, z = m - b := ⟨_, rfl⟩
        have u2 : IntKind.u64.wrap ((m : Int) - (b : Int)) = (d : Int) := by rw [IntKind.wrap_u64]; omega
        have hd64 : d < 18446744073709551616 := by omega
        rw [← hd] at hst hVl
        clear hd
        by_cases hbig : 65536 < rq p d
        · have HE : Hid (stp p 0 N = ([], 4)) := Lib.hid (by rw [hst, if_neg hge, if_pos hbig]; rfl)
          have CP : Hid (Calls Try.prog 50 #[.pointer (some ⟨x, 0, none⟩), .int .i64 p, .int .u64 (d : Int)] wr (Ret wr (.int .i64 4))) := Lib.hid (C4.out wr x d hd64 hbig)
          clear hst hVl hprv hbig
          go_wp2_with (first
            | (go_at_call 50; refine CP.out.mono ?_; rintro e' w2 ⟨rfl, hB2⟩))
          go_ret2
          exact ⟨none, 0, 0, by rw [HE.out]; rfl, by rw [HE.out]; exact ⟨rfl, fun h => absurd h (by omega)⟩, by omega, by unfold maxLen; omega, below_more HH.out.2.1 hB2⟩
        · rw [if_pos (by omega)] at hVl
          have hcl := rcode_len p d
          have hk3 := hld_le p 32
          have hV2l : (V ++ rcode p d).length + stL p (prv N (t + 1)) (N.drop (t + 1)) ≤ 100000 := by rw [List.length_append, hprv]; omega
          have HST : Hid (stp p 0 N = cmb (V ++ rcode p d) (stp p (prv N (t + 1)) (N.drop (t + 1)))) := Lib.hid (by rw [hst, if_neg hge, if_neg hbig, cmb_cmb, hprv])
          have HP : Hid (m = prv N (t + 1)) := Lib.hid hprv.symm
          have CP := Lib.hid (C5.out wr x T V d HH.out.1 hd64 (by omega) (by omega))
          have HV2 := Lib.hid hV2l
          clear hst hVl hprv hbig hcl hV2l
          go_wp2_with (first
            | (go_at_call 50; refine CP.out.mono ?_; rintro e' w2 ⟨T2, rfl, hW2, hF2, hT2⟩))
          go_roundw
          case rel =>
            refine ⟨t + 1, m, V ++ rcode p d, T2, by go_num, rfl, HP.out, by omega, HV2.out, HST.out, hW2, below_frmB HH.out.2.1 hF2 HH.out.2.1.size HH.out.2.2, fun i hi => (hT2 i hi).elim (fun h => HH.out.2.2 i h) (fun h => Nat.le_trans HH.out.2.1.size h)⟩
          case measure => simp [intOf]; omega
    · have hlt' : ¬ (t : Int) < (n : Int) := by omega
      have e : t = n := by omega
      have HE : Hid (stp p 0 N = (V, 0)) := Lib.hid (by rw [hst, List.drop_of_length_le (by omega)]; unfold stp cmb; simp)
      have CP := Lib.hid (CB.out wr x T V hW (by omega))
      have HB := Lib.hid hB
      clear hst hVl hb hW hB hT e
      go_wp2_with (first
        | (go_at_call 51; refine CP.out.mono ?_; rintro e' w2 ⟨A2, n2, c2, rfl, h1, h2, h3, hB2⟩))
      go_ret2
      exact ⟨A2, n2, c2, by rw [HE.out]; rfl, by rw [HE.out]; exact h1, h2, h3, below_more HB.out hB2⟩
end Go.Proofs.Ytplnmjdafchjbaa

/- What package rice answers, in one. -/
namespace Go.Proofs.Ytplnmjdafchjbaa
open Go.RowKit
set_option linter.unusedVariables false

end Go.Proofs.Ytplnmjdafchjbaa

/- Plain mathematics of layer 13: the numbers of items, in order, and back from a filter's bytes. -/
namespace Go.Proofs.Ytplnmjdafchjbaa
set_option linter.unusedVariables false

/-- An item's number, of n items. -/
def numb (k l n : Nat) (t : List UInt8) : Nat := hi64 (sipH k l t) (n * 784931)
/-- Items, each once, in the order of the first. -/
def onceS (out : List (List UInt8)) (s : List UInt8) : List (List UInt8) := if s ∈ out then out else out ++ [s]
def once (L : List (List UInt8)) : List (List UInt8) := L.foldl onceS []
set_option maxRecDepth 100000 in
theorem once_snoc (L : List (List UInt8)) (s : List UInt8) : once (L ++ [s]) = onceS (once L) s := by simp [once, List.foldl_append]
set_option maxRecDepth 100000 in
theorem onceS_mem (out : List (List UInt8)) (s x : List UInt8) : x ∈ onceS out s ↔ x ∈ out ∨ x = s := by
  unfold onceS
  split
  · exact ⟨.inl, fun h => h.elim id (fun e => e ▸ by assumption)⟩
  · simp
set_option maxRecDepth 100000 in
theorem once_mem_foldl : ∀ (L out : List (List UInt8)) (x : List UInt8), x ∈ L.foldl onceS out ↔ x ∈ out ∨ x ∈ L
  | [], out, x => by simp
  | s :: L, out, x => by
    rw [List.foldl_cons, once_mem_foldl L, onceS_mem, List.mem_cons]
    constructor
    · rintro ((h | h) | h)
      · exact .inl h
      · exact .inr (.inl h)
      · exact .inr (.inr h)
    · rintro (h | h | h)
      · exact .inl (.inl h)
      · exact .inl (.inr h)
      · exact .inr h
set_option maxRecDepth 100000 in
theorem once_mem (L : List (List UInt8)) (x : List UInt8) : x ∈ once L ↔ x ∈ L := by
  unfold once
  rw [once_mem_foldl]
  simp
set_option maxRecDepth 100000 in
theorem onceS_nodup (out : List (List UInt8)) (s : List UInt8) (h : out.Nodup) : (onceS out s).Nodup := by
  unfold onceS
  split
  · exact h
  · rename_i hs
    rw [List.nodup_append]
    refine ⟨h, by simp, fun a ha b hb e => ?_⟩
    simp at hb
    subst hb
    subst e
    exact hs ha
set_option maxRecDepth 100000 in
theorem once_nodup_foldl : ∀ (L out : List (List UInt8)), out.Nodup → (L.foldl onceS out).Nodup
  | [], _, h => h
  | s :: L, out, h => once_nodup_foldl L _ (onceS_nodup out s h)
set_option maxRecDepth 100000 in
theorem once_nodup (L : List (List UInt8)) : (once L).Nodup := once_nodup_foldl L [] List.nodup_nil
set_option maxRecDepth 100000 in
/-- Lists of the same items have the same items once, but for the order. -/
theorem once_perm (L M : List (List UInt8)) (h : ∀ x, x ∈ L ↔ x ∈ M) : (once L).Perm (once M) :=
  (List.perm_ext_iff_of_nodup (once_nodup L) (once_nodup M)).2 fun x => by rw [once_mem, once_mem, h]
set_option maxRecDepth 100000 in
theorem once_len (L : List (List UInt8)) : (once L).length ≤ L.length := by
  have key : ∀ (L out : List (List UInt8)), (L.foldl onceS out).length ≤ out.length + L.length := by
    intro L
    induction L with
    | nil => intro out; simp
    | cons s L ih =>
      intro out
      have h1 := ih (onceS out s)
      have h2 : (onceS out s).length ≤ out.length + 1 := by
        unfold onceS
        split
        · omega
        · simp
      rw [List.foldl_cons, List.length_cons]
      omega
  have := key L []
  simpa [once] using this
/-- A number is put where it belongs. -/
def ins (x : Nat) : List Nat → List Nat
  | [] => [x]
  | y :: r => if y ≤ x then y :: ins x r else x :: y :: r
set_option maxRecDepth 100000 in
theorem ins_perm (x : Nat) : ∀ l : List Nat, (ins x l).Perm (x :: l)
  | [] => List.Perm.refl _
  | y :: r => by
    unfold ins
    split
    · exact ((ins_perm x r).cons y).trans (List.Perm.swap x y r)
    · exact List.Perm.refl _
def Asc (l : List Nat) : Prop := l.Pairwise (· ≤ ·)
set_option maxRecDepth 100000 in
theorem ins_asc (x : Nat) : ∀ l : List Nat, Asc l → Asc (ins x l)
  | [], _ => List.pairwise_singleton _ _
  | y :: r, h => by
    unfold Asc at h
    rw [List.pairwise_cons] at h
    unfold ins
    split
    · rename_i hyx
      unfold Asc
      rw [List.pairwise_cons]
      refine ⟨fun z hz => ?_, ins_asc x r h.2⟩
      have := (ins_perm x r).mem_iff.1 hz
      rcases List.mem_cons.1 this with rfl | hz
      · exact hyx
      · exact h.1 z hz
    · rename_i hyx
      unfold Asc
      rw [List.pairwise_cons, List.pairwise_cons]
      refine ⟨fun z hz => ?_, h⟩
      rcases List.mem_cons.1 hz with rfl | hz
      · omega
      · have := h.1 z hz; omega
def sortN (l : List Nat) : List Nat := l.foldl (fun out x => ins x out) []
set_option maxRecDepth 100000 in
theorem sort_fold_perm : ∀ (l out : List Nat), (l.foldl (fun out x => ins x out) out).Perm (l ++ out)
  | [], out => List.Perm.refl _
  | x :: l, out => by
    rw [List.foldl_cons]
    refine (sort_fold_perm l (ins x out)).trans ?_
    refine ((ins_perm x out).append_left l).trans ?_
    exact List.perm_middle
set_option maxRecDepth 100000 in
theorem sort_fold_asc : ∀ (l out : List Nat), Asc out → Asc (l.foldl (fun out x => ins x out) out)
  | [], _, h => h
  | x :: l, out, h => sort_fold_asc l _ (ins_asc x out h)
set_option maxRecDepth 100000 in
theorem sort_perm (l : List Nat) : (sortN l).Perm l := by
  have := sort_fold_perm l []
  rwa [List.append_nil] at this
set_option maxRecDepth 100000 in
theorem sort_asc (l : List Nat) : Asc (sortN l) := sort_fold_asc l [] List.Pairwise.nil
set_option maxRecDepth 100000 in
theorem asc_eq {l m : List Nat} (h : l.Perm m) (h1 : Asc l) (h2 : Asc m) : l = m := h.eq_of_pairwise (fun a b _ _ h1 h2 => Nat.le_antisymm h1 h2) h1 h2
set_option maxRecDepth 100000 in
theorem sort_eq {l m : List Nat} (h : l.Perm m) : sortN l = sortN m := asc_eq ((sort_perm l).trans (h.trans (sort_perm m).symm)) (sort_asc l) (sort_asc m)
/-- A list's numbers, in order. -/
def gnums (k l : Nat) (L : List (List UInt8)) : List Nat := sortN ((once L).map (numb k l (once L).length))
set_option maxRecDepth 100000 in
theorem gnums_len (k l : Nat) (L : List (List UInt8)) : (gnums k l L).length = (once L).length := by
  unfold gnums
  rw [(sort_perm _).length_eq, List.length_map]
set_option maxRecDepth 100000 in
theorem gnums_mem (k l : Nat) (L : List (List UInt8)) (t : List UInt8) (h : t ∈ L) : numb k l (once L).length t ∈ gnums k l L := by
  unfold gnums
  rw [(sort_perm _).mem_iff]
  exact List.mem_map.2 ⟨t, (once_mem L t).2 h, rfl⟩
set_option maxRecDepth 100000 in
/-- The order of the items, and how often they occur, play no part. -/
theorem gnums_same (k l : Nat) (L M : List (List UInt8)) (h : ∀ x, x ∈ L ↔ x ∈ M) : gnums k l L = gnums k l M := by
  have hp := once_perm L M h
  unfold gnums
  rw [hp.length_eq]
  exact sort_eq (hp.map _)
/-- A list's filter. -/
def filt (k l : Nat) (L : List (List UInt8)) : List UInt8 := cnt (once L).length ++ stB (stp 19 0 (gnums k l L))
/-- So many numbers, read off bits; the error; what is left. -/
def vgo (F : Nat) : Nat → List Bool → Nat → List Nat × Nat × List Bool
  | 0, s, _ => ([], 0, s)
  | k + 1, s, a => if gtE s 19 65536 ≠ 0 then ([], gtE s 19 65536, s) else if F ≤ a + gtV s 19 65536 then ([], 5, s) else
      if (vgo F k (gtL s 19 65536) (a + gtV s 19 65536)).2.1 ≠ 0 then ([], (vgo F k (gtL s 19 65536) (a + gtV s 19 65536)).2) else ((a + gtV s 19 65536) :: (vgo F k (gtL s 19 65536) (a + gtV s 19 65536)).1, 0, (vgo F k (gtL s 19 65536) (a + gtV s 19 65536)).2.2)
/-- A filter's numbers, and its error. -/
def vals (b : List UInt8) : List Nat × Nat :=
  if cvE b 0 1000 ≠ 0 then ([], cvE b 0 1000)
  else if cvV b 0 1000 = 0 then (if (cvL b 0 1000).length > 0 then ([], 3) else ([], 0))
  else if (vgo (cvV b 0 1000 * 784931) (cvV b 0 1000) (unp (cvL b 0 1000)) 0).2.1 ≠ 0 then ([], (vgo (cvV b 0 1000 * 784931) (cvV b 0 1000) (unp (cvL b 0 1000)) 0).2.1)
  else if cln (vgo (cvV b 0 1000 * 784931) (cvV b 0 1000) (unp (cvL b 0 1000)) 0).2.2 then ((vgo (cvV b 0 1000 * 784931) (cvV b 0 1000) (unp (cvL b 0 1000)) 0).1, 0) else ([], 3)
set_option maxRecDepth 100000 in
/-- Numbers that rise, none beyond F, put by their steps, are read back. -/
theorem vgo_back (F : Nat) (hF : F ≤ 65536 * 524288) : ∀ (N : List Nat) (a : Nat) (X : List Bool), (∀ x ∈ N, x < F) → (a :: N).Pairwise (· ≤ ·) → (stp 19 a N).2 = 0 ∧ vgo F N.length ((stp 19 a N).1 ++ X) a = (N, 0, X)
  | [], a, X, _, _ => ⟨rfl, rfl⟩
  | n :: r, a, X, hN, hp => by
    rw [List.pairwise_cons] at hp
    have han : a ≤ n := hp.1 n List.mem_cons_self
    have hnF : n < F := hN n List.mem_cons_self
    obtain ⟨h1, h2⟩ := vgo_back F hF r n X (fun x hx => hN x (List.mem_cons_of_mem _ hx)) hp.2
    have hk : hld 19 32 = 19 := by decide
    have hq : rq 19 (n - a) ≤ 65536 := by
      unfold rq
      rw [hk]
      have : (n - a) / 2 ^ 19 ≤ (65536 * 524288) / 2 ^ 19 := Nat.div_le_div_right (by omega)
      exact Nat.le_trans this (by decide)
    have hm : hld 65536 65536 = 65536 := by decide
    obtain ⟨g1, g2, g3⟩ := gt_ok 19 (n - a) 65536 ((stp 19 n r).1 ++ X) (by rw [hm]; exact hq)
    have hst : stp 19 a (n :: r) = (rcode 19 (n - a) ++ (stp 19 n r).1, 0) := by
      rw [stp_cons, if_neg (by omega), if_neg (by omega)]
      unfold cmb
      rw [if_neg (by rw [h1]; simp)]
    refine ⟨by rw [hst], ?_⟩
    rw [hst, List.length_cons]
    show vgo F (r.length + 1) ((rcode 19 (n - a) ++ (stp 19 n r).1) ++ X) a = _
    rw [List.append_assoc]
    unfold vgo
    rw [g1, g2, g3, if_neg (by simp), if_neg (by omega), show a + (n - a) = n from by omega, h2, if_neg (by simp)]
end Go.Proofs.Ytplnmjdafchjbaa

/- A list's filter, read back: its numbers. -/
namespace Go.Proofs.Ytplnmjdafchjbaa
set_option linter.unusedVariables false

set_option maxRecDepth 100000 in
theorem numb_lt (k l n : Nat) (t : List UInt8) (hk : k < 2 ^ 64) (hl : l < 2 ^ 64) (hn : 0 < n) : numb k l n t < n * 784931 := by
  unfold numb hi64
  have h := sipH_lt k l t hk hl
  have hp : 0 < n * 784931 := Nat.mul_pos hn (by decide)
  rw [Nat.div_lt_iff_lt_mul (by decide), Nat.mul_comm (n * 784931)]
  exact Nat.mul_lt_mul_of_pos_right h hp
set_option maxRecDepth 100000 in
theorem numb_zero (k l : Nat) (t : List UInt8) : numb k l 0 t = 0 := by
  unfold numb hi64
  simp
set_option maxRecDepth 100000 in
theorem gnums_lt (k l : Nat) (L : List (List UInt8)) (hk : k < 2 ^ 64) (hl : l < 2 ^ 64) : ∀ x ∈ gnums k l L, x < (once L).length * 784931 := fun x hx => by
  unfold gnums at hx
  rw [(sort_perm _).mem_iff] at hx
  obtain ⟨t, ht, rfl⟩ := List.mem_map.1 hx
  exact numb_lt k l _ t hk hl (List.length_pos_of_mem ht)
set_option maxRecDepth 100000 in
theorem nums_asc (k l : Nat) (L : List (List UInt8)) : (0 :: gnums k l L).Pairwise (· ≤ ·) := by
  rw [List.pairwise_cons]
  exact ⟨fun x _ => Nat.zero_le x, sort_asc _⟩
set_option maxRecDepth 100000 in
/-- The bits of steps that rise below F, all in all. -/
theorem stL_asc (F : Nat) : ∀ (N : List Nat) (a : Nat), (∀ x ∈ N, x < F) → (a :: N).Pairwise (· ≤ ·) → a ≤ F → stL 19 a N ≤ (F - a) / 2 ^ 19 + 40 * N.length
  | [], a, _, _, _ => by simp [stL]
  | n :: r, a, hN, hp, ha => by
    rw [List.pairwise_cons] at hp
    have han : a ≤ n := hp.1 n List.mem_cons_self
    have hnF : n < F := hN n List.mem_cons_self
    have ih := stL_asc F r n (fun x hx => hN x (List.mem_cons_of_mem _ hx)) hp.2 (by omega)
    have hk : hld 19 32 = 19 := by decide
    have hq : rq 19 (n - a) = (n - a) / 2 ^ 19 := by unfold rq; rw [hk]
    have hs : (n - a) / 2 ^ 19 + (F - n) / 2 ^ 19 ≤ (F - a) / 2 ^ 19 := by
      have e : F - a = (n - a) + (F - n) := by omega
      rw [e]
      generalize n - a = x
      generalize F - n = y
      omega
    rw [stL, List.length_cons]
    rw [hq]
    split <;> omega
set_option maxRecDepth 100000 in
theorem fill_app (l : List Bool) : ∃ pad, fill l = l ++ pad ∧ cln pad = true := ⟨_, rfl, cln_fill l⟩
set_option maxRecDepth 100000 in
/-- The filter's numbers are the list's. -/
theorem vals_filt (k l : Nat) (L : List (List UInt8)) (hk : k < 2 ^ 64) (hl : l < 2 ^ 64) (hn : (once L).length ≤ 1000) : vals (filt k l L) = (gnums k l L, 0) := by
  obtain ⟨n, hnn⟩ : ∃ n, n = (once L).length := ⟨_, rfl⟩
  have hlen : (gnums k l L).length = n := by rw [gnums_len, hnn]
  have hF : n * 784931 ≤ 65536 * 524288 := by omega
  have hlt := gnums_lt k l L hk hl
  rw [← hnn] at hlt
  obtain ⟨pad, hpad, hcl⟩ := fill_app (stp 19 0 (gnums k l L)).1
  obtain ⟨h1, h2⟩ := vgo_back (n * 784931) hF (gnums k l L) 0 pad hlt (nums_asc k l L)
  have hst : stB (stp 19 0 (gnums k l L)) = pack (stp 19 0 (gnums k l L)).1 := by unfold stB; rw [if_neg (by rw [h1]; simp)]
  have hf := first_cnt n 1000 (by omega) (by omega) (stB (stp 19 0 (gnums k l L)))
  unfold filt
  rw [← hnn]
  have hE : cvE (cnt n ++ stB (stp 19 0 (gnums k l L))) 0 1000 = 0 := by unfold cvE; rw [if_pos rfl, hf]
  have hV : cvV (cnt n ++ stB (stp 19 0 (gnums k l L))) 0 1000 = n := by unfold cvV; rw [if_pos rfl, hf]
  have hL : cvL (cnt n ++ stB (stp 19 0 (gnums k l L))) 0 1000 = pack (stp 19 0 (gnums k l L)).1 := by
    unfold cvL
    rw [if_pos rfl, hf, hst]
    show (cnt n ++ _).drop (1 + more n) = _
    rw [← cnt_len n]
    exact List.drop_left
  unfold vals
  rw [hE, if_neg (by simp), hV, hL]
  by_cases h0 : n = 0
  · have hnil : gnums k l L = [] := List.eq_nil_of_length_eq_zero (by rw [hlen, h0])
    rw [if_pos h0, hnil]
    rfl
  · rw [if_neg h0, unp_pack, hpad]
    rw [hlen] at h2
    rw [h2, if_neg (by simp), if_pos hcl]
set_option maxRecDepth 100000 in
theorem filt_nil (k l : Nat) : filt k l [] = [0] := by
  unfold filt
  rw [show gnums k l [] = [] from rfl, show once [] = [] from rfl]
  decide
end Go.Proofs.Ytplnmjdafchjbaa
