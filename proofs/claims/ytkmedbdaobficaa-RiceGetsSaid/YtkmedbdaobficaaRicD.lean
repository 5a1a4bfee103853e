/- Package rice: clamp, Size, Put. -/
import Derived.Test.YtkmedbdaobficaaRicK
import Derived.Test.YtkmedbdaobficaaCodR
namespace Go.Proofs.Ytkmedbdaobficaa
open Go.RowKit
set_option linter.unusedVariables false
set_option linter.unusedSimpArgs false

set_option maxRecDepth 100000 in
set_option maxHeartbeats 2000000 in
theorem rclamp_calls (n : Int) (w : World) :
    Calls Try.prog 26 #[.int .i64 n] w (fun e w' => e = .returned (.int .i64 (hld n 32 : Int)) ∧ w = w') := by
  by_cases h0 : n < 0
  · have e : hld n 32 = 0 := by unfold hld; rw [if_pos h0]
    have h1 : ¬ 0 < n := by omega
    have h2 : n ≤ 0 := by omega
    have h3 : ¬ 0 ≤ n := by omega
    rw [e]
    go_enter Try.func26, Try.ntmps26
    go_wp2
    go_ret
    exact ⟨by first | rfl | (simp; omega) | (simp [Int.max_def, Int.min_def, h0, h1, h2, h3]; omega), rfl⟩
  · by_cases h1 : (32 : Int) < n
    · have e : hld n 32 = 32 := by unfold hld; rw [if_neg h0, if_pos (show ((32 : Nat) : Int) < n by omega)]
      have h2 : ¬ n ≤ (32 : Int) := by omega
      have h3 : 0 ≤ n := by omega
      rw [e]
      go_enter Try.func26, Try.ntmps26
      go_wp2
      go_ret
      exact ⟨by first | rfl | (simp; omega) | (simp [Int.max_def, Int.min_def, h0, h1, h2, h3]; omega), rfl⟩
    · have e : (hld n 32 : Int) = n := by unfold hld; rw [if_neg h0, if_neg (show ¬ ((32 : Nat) : Int) < n by omega)]; omega
      have h2 : n ≤ (32 : Int) := by omega
      have h3 : 0 ≤ n := by omega
      rw [e]
      go_enter Try.func26, Try.ntmps26
      go_wp2
      go_ret
      exact ⟨by first | rfl | (simp; omega) | (simp [Int.max_def, Int.min_def, h0, h1, h2, h3]; omega), rfl⟩
set_option maxRecDepth 100000 in
set_option maxHeartbeats 2000000 in
theorem rsize_calls (W : World) (p : Int) (n : Nat) (hn : n < 18446744073709551616) : Calls Try.prog 16 #[.int .i64 p, .int .u64 (n : Int)] W (Ret W (.int .u64 (rsz p n : Int))) := by
  obtain ⟨k, hk⟩ : ∃ z, z = hld p 32 := ⟨_, rfl⟩
  have hk3 : k ≤ 32 := by rw [hk]; exact hld_le _ _
  have CC : Hid (∀ W, Calls Try.prog 26 #[.int .i64 p] W (fun e w' => e = .returned (.int .i64 (k : Int)) ∧ W = w')) := Lib.hid fun W => by rw [hk]; exact rclamp_calls p W
  obtain ⟨q, hq⟩ : ∃ z, z = n / 2 ^ k := ⟨_, rfl⟩
  have q6 : (n : Int) / 2 ^ k = (q : Int) := by rw [hq, Int.natCast_ediv, Int.natCast_pow]; rfl
  have hq64 : q < 18446744073709551616 := by rw [hq]; exact Nat.lt_of_le_of_lt (Nat.div_le_self _ _) hn
  have hr : rsz p n = if 18446744073709551615 < q + (k + 1) then 18446744073709551615 else q + (k + 1) := by unfold rsz rq; rw [← hk, ← hq]
  obtain ⟨d, hd⟩ : ∃ z, z = 18446744073709551615 - q := ⟨_, rfl⟩
  obtain ⟨u, hu⟩ : ∃ z, z = k + 1 := ⟨_, rfl⟩
  have a0 : IntKind.u64.wrap (k : Int) = (k : Int) := by rw [IntKind.wrap_u64]; omega
  have a1 : IntKind.u64.wrap ((k : Int) + 1) = (u : Int) := by rw [IntKind.wrap_u64]; omega
  have a2 : IntKind.u64.wrap (18446744073709551615 - (q : Int)) = (d : Int) := by rw [IntKind.wrap_u64]; omega
  by_cases hlt : 18446744073709551615 < q + (k + 1)
  · have e : rsz p n = 18446744073709551615 := by rw [hr, if_pos hlt]
    have a3 : IntKind.u64.wrap ((q : Int) + (d : Int)) = 18446744073709551615 := by rw [IntKind.wrap_u64]; omega
    have g1 : ¬ u < d := by omega
    have g2 : ¬ (u : Int) < (d : Int) := by omega
    have g3 : ¬ u ≤ d := by omega
    have g4 : ¬ (u : Int) ≤ (d : Int) := by omega
    have g5 : min u d = d := by omega
    have g6 : min (u : Int) (d : Int) = (d : Int) := by omega
    rw [e]
    clear hk hq hr hd hu hlt e
    go_enter Try.func16, Try.ntmps16
    go_wp2_with (first
      | (go_at_call 26; refine (CC.out _).mono ?_; rintro e' w' ⟨rfl, rfl⟩))
    go_ret
    exact ⟨rfl, Below.refl _ _⟩
  · obtain ⟨z, hz⟩ : ∃ z, z = q + (k + 1) := ⟨_, rfl⟩
    have e : rsz p n = z := by rw [hr, if_neg hlt, hz]
    have a3 : IntKind.u64.wrap ((q : Int) + (u : Int)) = (z : Int) := by rw [IntKind.wrap_u64]; omega
    have g3 : u ≤ d := by omega
    have g4 : (u : Int) ≤ (d : Int) := by omega
    have g1 : ¬ d < u := by omega
    have g2 : ¬ (d : Int) < (u : Int) := by omega
    have g5 : min u d = u := by omega
    have g6 : min (u : Int) (d : Int) = (u : Int) := by omega
    rw [e]
    clear hk hq hr hd hu hlt e hz
    go_enter Try.func16, Try.ntmps16
    go_wp2_with (first
      | (go_at_call 26; refine (CC.out _).mono ?_; rintro e' w' ⟨rfl, rfl⟩))
    go_ret
    exact ⟨rfl, Below.refl _ _⟩
set_option maxRecDepth 100000 in
set_option maxHeartbeats 2000000 in
theorem rputB_calls (W : World) (w : Nat) (p : Int) (n : Nat) (hn : n < 18446744073709551616) (hb : 65536 < rq p n) :
    Calls Try.prog 11 #[.pointer (some ⟨w, 0, none⟩), .int .i64 p, .int .u64 (n : Int)] W (Ret W (.int .i64 4)) := by
  obtain ⟨k, hk⟩ : ∃ z, z = hld p 32 := ⟨_, rfl⟩
  have hk3 : k ≤ 32 := by rw [hk]; exact hld_le _ _
  have CC : Hid (∀ W, Calls Try.prog 26 #[.int .i64 p] W (fun e w' => e = .returned (.int .i64 (k : Int)) ∧ W = w')) := Lib.hid fun W => by rw [hk]; exact rclamp_calls p W
  obtain ⟨q, hq⟩ : ∃ z, z = n / 2 ^ k := ⟨_, rfl⟩
  have q6 : (n : Int) / 2 ^ k = (q : Int) := by rw [hq, Int.natCast_ediv, Int.natCast_pow]; rfl
  have hqb : (65536 : Int) < (q : Int) := by unfold rq at hb; rw [← hk, ← hq] at hb; omega
  clear hk hq hb
  go_enter Try.func11, Try.ntmps11
  go_wp2_with (first
    | (go_at_call 26; refine (CC.out _).mono ?_; rintro e' w' ⟨rfl, rfl⟩))
  go_ret
  exact ⟨rfl, Below.refl _ _⟩
set_option maxRecDepth 100000 in
set_option maxHeartbeats 4000000 in
theorem rput_calls {BW : World → Nat → (Nat → Prop) → List Bool → Prop} {BR : World → Nat → Nat → (Nat → Prop) → List Bool → Prop} (K : BitOk BW BR) (W : World) (w : Nat) (S : Nat → Prop) (l : List Bool) (p : Int) (n : Nat) (hW : BW W w S l) (hn : n < 18446744073709551616) (hb : rq p n ≤ 65536) (hl : l.length ≤ 900000) :
    Calls Try.prog 11 #[.pointer (some ⟨w, 0, none⟩), .int .i64 p, .int .u64 (n : Int)] W fun e w' => ∃ S', e = .returned (.int .i64 0) ∧ BW w' w S' (l ++ rcode p n) ∧ Frm S W w' ∧ ∀ i, S' i → S i ∨ W.heap.size ≤ i := by
  obtain ⟨k, hk⟩ : ∃ z, z = hld p 32 := ⟨_, rfl⟩
  have hk3 : k ≤ 32 := by rw [hk]; exact hld_le _ _
  have CC : Hid (∀ W, Calls Try.prog 26 #[.int .i64 p] W (fun e w' => e = .returned (.int .i64 (k : Int)) ∧ W = w')) := Lib.hid fun W => by rw [hk]; exact rclamp_calls p W
  obtain ⟨q, hq⟩ : ∃ z, z = n / 2 ^ k := ⟨_, rfl⟩
  have q6 : (n : Int) / 2 ^ k = (q : Int) := by rw [hq, Int.natCast_ediv, Int.natCast_pow]; rfl
  have hqr : rq p n = q := by unfold rq; rw [← hk, ← hq]
  have hqn : q ≤ 65536 := by omega
  have hqb : ¬ (65536 : Int) < (q : Int) := by omega
  have a1 : IntKind.i64.wrap (q : Int) = (q : Int) := by rw [IntKind.wrap_i64]; omega
  obtain ⟨l1, hl1⟩ : ∃ z, z = l ++ List.replicate q true := ⟨_, rfl⟩
  obtain ⟨l2, hl2⟩ : ∃ z, z = l1 ++ [false] := ⟨_, rfl⟩
  obtain ⟨l3, hl3⟩ : ∃ z, z = l2 ++ bN n k := ⟨_, rfl⟩
  have hll1 : l1.length ≤ 965536 := by rw [hl1, List.length_append, List.length_replicate]; omega
  have hll2 : l2.length ≤ 965537 := by rw [hl2, List.length_append]; simp; omega
  have hE : l ++ rcode p n = l3 := by rw [hl3, hl2, hl1]; unfold rcode; rw [hqr, ← hk]; simp
  have hkk : hld (k : Int) 64 = k := by unfold hld; rw [if_neg (by omega), if_neg (by omega)]; omega
  have hqq : hld (q : Int) 65536 = q := by unfold hld; rw [if_neg (by omega), if_neg (by omega)]; omega
  have C1 : Hid (Calls Try.prog 27 #[.pointer (some ⟨w, 0, none⟩), .int .i64 (q : Int)] W fun e w' => ∃ S', e = .returned (.tuple #[]) ∧ BW w' w S' l1 ∧ Frm S W w' ∧ ∀ i, S' i → S i ∨ W.heap.size ≤ i) := Lib.hid (by
    have := K.ones W w S l q hW (by omega) (by omega) (by omega)
    rw [hqq, ← hl1] at this
    exact this)
  have C2 : Hid (∀ W S, BW W w S l1 → Calls Try.prog 28 #[.pointer (some ⟨w, 0, none⟩), .int .u64 0, .int .i64 1] W fun e w' => ∃ S', e = .returned (.tuple #[]) ∧ BW w' w S' l2 ∧ Frm S W w' ∧ ∀ i, S' i → S i ∨ W.heap.size ≤ i) := Lib.hid fun W S h => by
    have := K.put W w S l1 0 1 h (by omega) (by omega) (by omega) (by omega)
    rw [show bN 0 (hld 1 64) = [false] from by decide, ← hl2] at this
    exact this
  have C3 : Hid (∀ W S, BW W w S l2 → Calls Try.prog 28 #[.pointer (some ⟨w, 0, none⟩), .int .u64 (n : Int), .int .i64 (k : Int)] W fun e w' => ∃ S', e = .returned (.tuple #[]) ∧ BW w' w S' l3 ∧ Frm S W w' ∧ ∀ i, S' i → S i ∨ W.heap.size ≤ i) := Lib.hid fun W S h => by
    have := K.put W w S l2 n k h (by omega) hn (by omega) (by omega)
    rw [hkk, ← hl3] at this
    exact this
  rw [hE]
  clear hk hq hb hW hl1 hl2 hl3 hE hqr hkk hqq hll1 hll2 K
  go_enter Try.func11, Try.ntmps11
  go_wp2_with (first
    | (go_at_call 26; refine (CC.out _).mono ?_; rintro e' w' ⟨rfl, rfl⟩)
    | (go_at_call 27; refine C1.out.mono ?_; rintro e' w1 ⟨S1, rfl, hW1, hF1, hS1⟩)
    | (with_reducible go_at_call 28; (with_reducible refine (C2.out _ S1 hW1).mono ?_); rintro e' w2 ⟨S2, rfl, hW2, hF2, hS2⟩)
    | (with_reducible go_at_call 28; (with_reducible refine (C3.out _ S2 hW2).mono ?_); rintro e' w3 ⟨S3, rfl, hW3, hF3, hS3⟩))
  go_ret
  have hs1 := hF1.size
  have hs2 := hF2.size
  exact ⟨S3, rfl, hW3, (hF1.step hF2 hS1).step hF3 (fun i hi => (hS2 i hi).elim (fun h => hS1 i h) (fun h => .inr (Nat.le_trans hs1 h))), fun i hi => (hS3 i hi).elim (fun h => (hS2 i h).elim (fun h => hS1 i h) (fun h => .inr (Nat.le_trans hs1 h))) (fun h => .inr (Nat.le_trans (Nat.le_trans hs1 hs2) h))⟩
end Go.Proofs.Ytkmedbdaobficaa
