/- Merged texts: SrtE. -/
import Derived.Test.YtplnmjdafchjbaaMba
import Derived.Sort.LotD5
import Derived.Laws.Bits64
import Derived.Laws.Bits64b
/- Sorting numbers of 64 bits: math/bits.Len, nextPowerOfTwo, xorshift, breakPatternsOrdered. -/
namespace Go.Proofs.Ytplnmjdafchjbaa
open Go.RowKit
set_option linter.unusedVariables false
set_option linter.unusedSimpArgs false

set_option maxRecDepth 1000000 in
theorem lentab : ∀ (x : Nat) (hx : x < 256), (wrap64 ((({data := #[0, 1, 2, 2, 3, 3, 3, 3, 4, 4, 4, 4, 4, 4, 4, 4, 5, 5, 5, 5, 5, 5, 5, 5, 5, 5, 5, 5, 5, 5, 5, 5, 6, 6, 6, 6, 6, 6, 6, 6, 6, 6, 6, 6, 6, 6, 6, 6, 6, 6, 6, 6, 6, 6, 6, 6, 6, 6, 6, 6, 6, 6, 6, 6, 7, 7, 7, 7, 7, 7, 7, 7, 7, 7, 7, 7, 7, 7, 7, 7, 7, 7, 7, 7, 7, 7, 7, 7, 7, 7, 7, 7, 7, 7, 7, 7, 7, 7, 7, 7, 7, 7, 7, 7, 7, 7, 7, 7, 7, 7, 7, 7, 7, 7, 7, 7, 7, 7, 7, 7, 7, 7, 7, 7, 7, 7, 7, 7, 8, 8, 8, 8, 8, 8, 8, 8, 8, 8, 8, 8, 8, 8, 8, 8, 8, 8, 8, 8, 8, 8, 8, 8, 8, 8, 8, 8, 8, 8, 8, 8, 8, 8, 8, 8, 8, 8, 8, 8, 8, 8, 8, 8, 8, 8, 8, 8, 8, 8, 8, 8, 8, 8, 8, 8, 8, 8, 8, 8, 8, 8, 8, 8, 8, 8, 8, 8, 8, 8, 8, 8, 8, 8, 8, 8, 8, 8, 8, 8, 8, 8, 8, 8, 8, 8, 8, 8, 8, 8, 8, 8, 8, 8, 8, 8, 8, 8, 8, 8, 8, 8, 8, 8, 8, 8, 8, 8, 8, 8, 8, 8, 8, 8, 8, 8, 8, 8, 8, 8, 8, 8, 8, 8, 8, 8, 8, 8]} : ByteArray)[x]'hx).toNat : Int)) = ((Sort.bitsLen x : Nat) : Int) := by decide +kernel
set_option maxRecDepth 100000 in
theorem bits_shift (n k : Nat) (h : 2 ^ k ≤ n) : Sort.bitsLen n = k + Sort.bitsLen (n / 2 ^ k) := by
  have hp : 0 < 2 ^ k := Nat.pow_pos (by decide)
  have h1 : 1 ≤ n / 2 ^ k := (Nat.one_le_div_iff hp).2 h
  have hb : 1 ≤ Sort.bitsLen (n / 2 ^ k) := by
    rcases Nat.eq_zero_or_pos (Sort.bitsLen (n / 2 ^ k)) with h0 | h0
    · have := (Sort.bitsLen_le_iff (n / 2 ^ k) 0).1 (by omega)
      simp at this
      omega
    · exact h0
  apply Nat.le_antisymm
  · rw [Sort.bitsLen_le_iff, Nat.pow_add]
    have := Sort.lt_two_pow_bitsLen (n / 2 ^ k)
    rw [Nat.div_lt_iff_lt_mul hp] at this
    rw [Nat.mul_comm]
    exact this
  · rcases Nat.lt_or_ge (Sort.bitsLen n) (k + Sort.bitsLen (n / 2 ^ k)) with h0 | h0
    · exfalso
      obtain ⟨b, hb'⟩ : ∃ b, Sort.bitsLen (n / 2 ^ k) = b + 1 := ⟨Sort.bitsLen (n / 2 ^ k) - 1, by omega⟩
      have h2 : Sort.bitsLen n ≤ k + b := by omega
      rw [Sort.bitsLen_le_iff, Nat.pow_add] at h2
      have h3 : n / 2 ^ k < 2 ^ b := by
        rw [Nat.div_lt_iff_lt_mul hp, Nat.mul_comm]
        exact h2
      have h4 := (Sort.bitsLen_le_iff (n / 2 ^ k) b).2 h3
      omega
    · exact h0
set_option maxRecDepth 1000000 in
set_option maxHeartbeats 2000000 in
theorem len64_calls (n : Nat) (w : World) (hn : n ≤ 1000000) : Calls Try.prog 88 #[.int .u64 (n : Int)] w fun e w' => e = .returned (.int .i64 (Sort.bitsLen n : Nat)) ∧ w' = w := by
  have h1 : ¬ (4294967296 : Int) ≤ (n : Int) := by omega
  by_cases hb : 65536 ≤ n
  · have h2 : (65536 : Int) ≤ (n : Int) := by omega
    obtain ⟨x, hx⟩ : ∃ x, x = n / 65536 := ⟨_, rfl⟩
    have u1 : (n : Int) / 65536 = (x : Int) := by omega
    have h3 : ¬ (256 : Int) ≤ (x : Int) := by omega
    have h4 : IntKind.u8.wrap (x : Int) = (x : Int) := by rw [IntKind.wrap_u8]; omega
    have HV : Hid (Sort.bitsLen n = 16 + Sort.bitsLen x) := Lib.hid (by rw [bits_shift n 16 (by omega), hx])
    have hx' : x < 256 := by omega
    have HT := Lib.hid (lentab x hx')
    have hlen : Sort.bitsLen x ≤ 8 := (Sort.bitsLen_le_iff x 8).2 hx'
    clear hx
    go_enter Try.func88, Try.ntmps88
    go_wp2
    go_ret
    have e := HT.out
    refine ⟨?_, rfl⟩
    rw [HV.out]
    congr 2
    erw [e]
    simp [wrap64]
    omega
  · have h2 : ¬ (65536 : Int) ≤ (n : Int) := by omega
    by_cases hc : 256 ≤ n
    · have h3 : (256 : Int) ≤ (n : Int) := by omega
      obtain ⟨x, hx⟩ : ∃ x, x = n / 256 := ⟨_, rfl⟩
      have u1 : (n : Int) / 256 = (x : Int) := by omega
      have h4 : IntKind.u8.wrap (x : Int) = (x : Int) := by rw [IntKind.wrap_u8]; omega
      have HV : Hid (Sort.bitsLen n = 8 + Sort.bitsLen x) := Lib.hid (by rw [bits_shift n 8 (by omega), hx])
      have hx' : x < 256 := by omega
      have HT := Lib.hid (lentab x hx')
      have hlen : Sort.bitsLen x ≤ 8 := (Sort.bitsLen_le_iff x 8).2 hx'
      clear hx
      go_enter Try.func88, Try.ntmps88
      go_upto_region 10 with fail
      clear u1 h3 hc h2 h1 hb hn
      go_wp2
      go_ret
      have e := HT.out
      refine ⟨?_, rfl⟩
      rw [HV.out]
      congr 2
      erw [e]
      simp [wrap64]
      omega
    · have h3 : ¬ (256 : Int) ≤ (n : Int) := by omega
      have h4 : IntKind.u8.wrap (n : Int) = (n : Int) := by rw [IntKind.wrap_u8]; omega
      have hx' : n < 256 := by omega
      have HT := Lib.hid (lentab n hx')
      have hlen : Sort.bitsLen n ≤ 8 := (Sort.bitsLen_le_iff n 8).2 hx'
      go_enter Try.func88, Try.ntmps88
      go_wp2
      go_ret
      have e := HT.out
      exact ⟨congrArg (fun z => Ending.returned (Value.int .i64 z)) ((congrArg wrap64 e).trans (by simp [wrap64]; omega)), rfl⟩
set_option maxRecDepth 100000 in
set_option maxHeartbeats 2000000 in
theorem blen_calls (n : Nat) (w : World) (hn : n ≤ 1000000) : Calls Try.prog 48 #[.int .u64 (n : Int)] w fun e w' => e = .returned (.int .i64 (Sort.bitsLen n : Nat)) ∧ w' = w := by
  go_enter Try.func48, Try.ntmps48
  go_wp2_with (first
    | (go_at_call 88; refine (len64_calls n w hn).mono ?_; rintro e' w1 ⟨rfl, rfl⟩))
  go_ret
  exact ⟨rfl, rfl⟩
set_option maxRecDepth 100000 in
theorem pow_u64 (k : Nat) (hk : k ≤ 62) : IntKind.u64.wrap ((2 : Int) ^ k) = ((2 ^ k : Nat) : Int) := by
  have h : (2 : Nat) ^ k < 2 ^ 64 := Nat.pow_lt_pow_right (by decide) (by omega)
  rw [IntKind.wrap_u64, Int.natCast_pow]
  have h2 : ((2 ^ k : Nat) : Int) < 18446744073709551616 := by omega
  rw [Int.natCast_pow] at h2
  exact Int.emod_eq_of_lt (Int.le_of_lt (Int.pow_pos (by decide))) h2
set_option maxRecDepth 100000 in
set_option maxHeartbeats 2000000 in
theorem npot_calls (n : Nat) (w : World) (hn : n ≤ 1000000) : Calls Try.prog 104 #[.int .i64 (n : Int)] w fun e w' => e = .returned (.int .u64 ((2 ^ Sort.bitsLen n : Nat) : Int)) ∧ w' = w := by
  have hk : Sort.bitsLen n ≤ 62 := (Sort.bitsLen_le_iff n 62).2 (by omega)
  have hp := pow_u64 _ hk
  have u1 : IntKind.u64.wrap (n : Int) = (n : Int) := by rw [IntKind.wrap_u64]; omega
  obtain ⟨M, hM⟩ : ∃ M : Int, M = ((2 ^ Sort.bitsLen n : Nat) : Int) := ⟨_, rfl⟩
  rw [← hM] at hp ⊢
  have HB := Lib.hid (blen_calls n w hn)
  obtain ⟨k, hk'⟩ : ∃ k, k = Sort.bitsLen n := ⟨_, rfl⟩
  rw [← hk'] at hp hk HB
  clear hM hk'
  go_enter Try.func104, Try.ntmps104
  go_wp2_with (first
    | (go_at_call 48; refine HB.out.mono ?_; rintro e' w1 ⟨rfl, rfl⟩))
  go_ret
  exact ⟨rfl, rfl⟩
set_option maxRecDepth 100000 in
theorem set_set (w : World) (b o : Nat) (v v' : Value) : (w.setCell ⟨b, o, none⟩ v).setCell ⟨b, o, none⟩ v' = w.setCell ⟨b, o, none⟩ v' := by
  rw [Sort.setCell_eq, Sort.setCell_eq, Sort.mapBlock_mapBlock, Sort.setCell_eq]
  exact Sort.mapBlock_congr _ _ _ _ fun c _ _ _ => by simp
set_option maxRecDepth 100000 in
set_option maxHeartbeats 2000000 in
theorem xor_calls (g X : Nat) (w : World) (hX : X < 18446744073709551616) (hc : w.cell? ⟨g, 0, none⟩ = some (.int .u64 (X : Int))) (hf : w.frozen? ⟨g, 0, none⟩ = false) :
    Calls Try.prog 105 #[.pointer (some ⟨g, 0, none⟩)] w fun e w' => e = .returned (.int .u64 (Sort.xorNextN X : Nat)) ∧ ∃ q, w' = (w.setCell ⟨g, 0, none⟩ (.int .u64 (Sort.xorNextN X : Nat))).drewN q := by
  obtain ⟨A, hA⟩ : ∃ A : Nat, A = X ^^^ (X * 8192 % 18446744073709551616) := ⟨_, rfl⟩
  obtain ⟨B, hB⟩ : ∃ B : Nat, B = A ^^^ (A / 128) := ⟨_, rfl⟩
  obtain ⟨C, hC⟩ : ∃ C : Nat, C = B ^^^ (B * 131072 % 18446744073709551616) := ⟨_, rfl⟩
  have lA : A < 18446744073709551616 := by rw [hA]; exact Nat.xor_lt_two_pow (n := 64) (by omega) (by omega)
  have lB : B < 18446744073709551616 := by rw [hB]; exact Nat.xor_lt_two_pow (n := 64) (by omega) (by omega)
  have e1 : bits .xor .u64 (X : Int) (IntKind.u64.wrap ((X : Int) * 8192)) = (A : Int) := by
    rw [IntKind.wrap_u64, show (X : Int) * 8192 % 18446744073709551616 = ((X * 8192 % 18446744073709551616 : Nat) : Int) by omega, bits_xor_u64_nat _ _ hX (by omega), hA]
  have e2 : bits .xor .u64 (A : Int) ((A : Int) / 128) = (B : Int) := by
    rw [show (A : Int) / 128 = ((A / 128 : Nat) : Int) by omega, bits_xor_u64_nat _ _ lA (by omega), hB]
  have e3 : bits .xor .u64 (B : Int) (IntKind.u64.wrap ((B : Int) * 131072)) = (C : Int) := by
    rw [IntKind.wrap_u64, show (B : Int) * 131072 % 18446744073709551616 = ((B * 131072 % 18446744073709551616 : Nat) : Int) by omega, bits_xor_u64_nat _ _ lB (by omega), hC]
  have hv : Sort.xorNextN X = C := by
    unfold Sort.xorNextN
    simp only []
    rw [← hA, ← hB, ← hC]
  rw [hv]
  clear hA hB hC hv
  have hss := set_set w g 0
  go_enter Try.func105, Try.ntmps105
  go_wp2
  go_region
  all_goals go_wp2
  all_goals go_region
  all_goals go_wp2
  all_goals go_region
  all_goals go_wp2
  go_ret
  exact ⟨rfl, 3, rfl⟩

/-- A cell of a block made meanwhile, with a number of 64 bits. -/
def Rnd (w0 : World) (blk off n : Nat) (d : Array Int) (g r : Nat) (W : World) : Prop :=
  Rw w0 blk off n d W ∧ W.cell? ⟨g, 0, none⟩ = some (.int .u64 (r : Int)) ∧ W.frozen? ⟨g, 0, none⟩ = false ∧ w0.heap.size ≤ g ∧ g < W.heap.size
set_option maxRecDepth 100000 in
theorem Rnd.set {w0 W : World} {blk off n g r : Nat} {d : Array Int} (h : Rnd w0 blk off n d g r W) (t q : Nat) : Rnd w0 blk off n d g t ((W.setCell ⟨g, 0, none⟩ (.int .u64 (t : Int))).drewN q) :=
  ⟨(h.1.setNew _ h.2.2.2.1).drewN q, by rw [World.cell?_drewN]; exact World.cell?_setCell_same _ _ _ h.2.1, by rw [World.frozen?_drewN, World.frozen?_setCell]; exact h.2.2.1, h.2.2.2.1, by simpa using h.2.2.2.2⟩
set_option maxRecDepth 100000 in
theorem Rnd.swap {w0 W : World} {blk off n g r : Nat} {d : Array Int} (h : Rnd w0 blk off n d g r W) {G : Nat → Int} (hG : Hid (∀ t, G t = d[t]!)) (i j : Nat) (hi : i < n) (hj : j < n) :
    Rnd w0 blk off n (Sort.swp d i j) g r ((W.setCell ⟨blk, off + i, none⟩ (.int .u64 (G j))).setCell ⟨blk, off + j, none⟩ (.int .u64 (G i))).drew := by
  have hne : g ≠ blk := by
    have := h.1.2.1
    have := h.2.2.2.1
    omega
  refine ⟨h.1.swap hG i j hi hj, ?_, ?_, h.2.2.2.1, by simpa using h.2.2.2.2⟩
  · show ((W.setCell ⟨blk, off + i, none⟩ _).setCell ⟨blk, off + j, none⟩ _).cell? _ = _
    rw [World.cell?_setCell_other _ _ _ _ (by intro e; simp only [Addr.mk.injEq] at e; exact hne e.1.symm), World.cell?_setCell_other _ _ _ _ (by intro e; simp only [Addr.mk.injEq] at e; exact hne e.1.symm)]
    exact h.2.1
  · show ((W.setCell ⟨blk, off + i, none⟩ _).setCell ⟨blk, off + j, none⟩ _).frozen? _ = _
    rw [World.frozen?_setCell, World.frozen?_setCell]
    exact h.2.2.1
set_option maxRecDepth 100000 in
theorem Rnd.new {w0 W : World} {blk off n : Nat} {d : Array Int} (h : Rw w0 blk off n d W) (r : Nat) (T : TypeId) : Rnd w0 blk off n d W.heap.size r (W.alloc (.cells #[.int .u64 (r : Int)] T)) :=
  ⟨h.alloc _, by simp, by simp, h.le, by simp⟩
def brkR (a L M : Nat) : Nat → Nat → UInt64 × Array Int → Array Int
  | 0, _, st => st.2
  | k + 1, i, st => brkR a L M k (i + 1) (Sort.breakStep a L M st i)
set_option maxRecDepth 100000 in
set_option maxHeartbeats 4000000 in
theorem brk_says : BrkSays := by
  intro w0 W blk off n cap a b d hR hab hb hn
  obtain ⟨L, hL⟩ : ∃ z, z = b - a := ⟨_, rfl⟩
  obtain ⟨M, hM⟩ : ∃ z, z = 2 ^ Sort.bitsLen L := ⟨_, rfl⟩
  obtain ⟨q, hq⟩ : ∃ z, z = L / 4 := ⟨_, rfl⟩
  obtain ⟨m, hm⟩ : ∃ z, z = a + q * 2 := ⟨_, rfl⟩
  obtain ⟨i0, hi0⟩ : ∃ z, z = m - 1 := ⟨_, rfl⟩
  obtain ⟨m1, hm1⟩ : ∃ z, z = m + 1 := ⟨_, rfl⟩
  obtain ⟨X, hX⟩ : ∃ X, X = Sort.breakPatterns d a b := ⟨_, rfl⟩
  have HX : Hid (brkR a L M 3 i0 (UInt64.ofNat L, d) = X) := Lib.hid (by
    rw [hX]
    unfold Sort.breakPatterns
    simp only []
    rw [← hL, if_pos (by omega), Nat.one_shiftLeft, ← hM, ← hq, ← hm, ← hi0]
    rfl)
  rw [← hX]
  have hM1 : 1 ≤ M := by rw [hM]; exact Nat.pow_pos (by decide)
  have hM2 : M ≤ 2 * L := by rw [hM]; exact Sort.two_pow_bitsLen_le (by omega)
  have hLn : L ≤ n := by omega
  have HN := Lib.hid (fun (w : World) => npot_calls L w (by omega))
  rw [← hM] at HN
  have e0 : (b : Int) - (a : Int) = (L : Int) := by omega
  have e1 : (8 : Int) ≤ (L : Int) := by omega
  have e2 : (L : Int) / 4 = (q : Int) := by omega
  have e2' : (L : Int).tdiv 4 = (q : Int) := by
    rw [hq]
    exact (Int.ofNat_tdiv L 4).symm
  have e3 : (a : Int) + (q : Int) * 2 = (m : Int) := by omega
  have e4 : (m : Int) - 1 = (i0 : Int) := by omega
  have e5 : (m : Int) + 1 = (m1 : Int) := by omega
  have u0 : IntKind.u64.wrap (L : Int) = (L : Int) := by rw [IntKind.wrap_u64]; omega
  have u1 : IntKind.u64.wrap ((M : Int) - 1) = ((M - 1 : Nat) : Int) := by rw [IntKind.wrap_u64]; omega
  obtain ⟨N, hN⟩ : ∃ z, z = M - 1 := ⟨_, rfl⟩
  rw [← hN] at u1
  have hNM := Lib.hid (And.intro hN (And.intro hM1 hM2))
  have hmb : m1 < b ∧ m1 = i0 + 2 ∧ q ≤ n ∧ L < 2000000 ∧ a + L = b ∧ N < 2 * L := by omega
  have hNW := Lib.hid (Rnd.new hR L 150)
  obtain ⟨g, hg⟩ : ∃ z, z = W.heap.size := ⟨_, rfl⟩
  rw [← hg] at hNW
  have hg' := hg.symm
  clear hX hL hM hq hm hi0 hm1 hM1 hM2 hN hR hg hab
  go_enter Try.func80, Try.ntmps80
  go_upto_region 5 with (first
    | (go_at_call 104; refine (HN.out _).mono ?_; rintro e' w1 ⟨rfl, rfl⟩))
  go_loopw [9] (fun iv wr => ∃ (k i : Nat) (r : UInt64) (dk : Array Int), iv = .int .i64 (i : Int) ∧ i + k = m1 + 1 ∧ k ≤ 3 ∧ Hid (Rnd w0 blk off n dk g r.toNat wr) ∧ Hid (brkR a L M k i (r, dk) = X)) (fun iv _ => m1 + 1 - (intOf iv).toNat)
  case atStart => exact ⟨3, i0, UInt64.ofNat L, d, rfl, by omega, by omega, by
    have e : (UInt64.ofNat L).toNat = L := by simp; omega
    rw [e]
    exact hNW, HX⟩
  case round =>
    clear hNW HX HN
    obtain ⟨k, i, r, dk, rfl, hik, hk3, HR, HX⟩ := hrel
    cases k with
    | zero =>
      have hle : ¬ (i : Int) ≤ (m1 : Int) := by omega
      have HZ : Hid (dk = X) := HX
      go_wp2
      go_end0
      exact ⟨rfl, by rw [← HZ.out]; exact HR.out.1⟩
    | succ k =>
      have hle : (i : Int) ≤ (m1 : Int) := by omega
      have HY : Hid (brkR a L M k (i + 1) (Sort.breakStep a L M (r, dk) i) = X) := HX
      clear HX
      have hrl := r.toNat_lt
      have CX := Lib.hid (xor_calls g r.toNat wr hrl HR.out.2.1 HR.out.2.2.1)
      obtain ⟨R, hRr⟩ : ∃ z, z = Sort.xorNextN r.toNat := ⟨_, rfl⟩
      have hRl : R < 18446744073709551616 := by rw [hRr]; exact Sort.xorNextN_lt _ hrl
      rw [← hRr] at CX
      obtain ⟨O, hO⟩ : ∃ z, z = R &&& N := ⟨_, rfl⟩
      have hON : O ≤ N := by rw [hO]; exact Nat.and_le_right
      have u2 : bits .and .u64 (R : Int) (N : Int) = (O : Int) := by rw [bits_and_u64_nat _ _ hRl (by omega), hO]
      have u3 : IntKind.i64.wrap (O : Int) = (O : Int) := by rw [IntKind.wrap_i64]; omega
      have hRx : R = (Sort.xorNext r).toNat := by rw [hRr, Sort.xorNext_toNat]
      have HE : Hid (R = (Sort.xorNext r).toNat ∧ O = (Sort.xorNext r).toNat &&& (M - 1)) := Lib.hid ⟨hRx, by rw [hO, hRx, hNM.out.1]⟩
      clear hRr hO hRx
      by_cases hge : O ≥ L
      · have hLO : (L : Int) ≤ (O : Int) := by omega
        obtain ⟨p, hp⟩ : ∃ z, z = a + (O - L) := ⟨_, rfl⟩
        obtain ⟨o, ho⟩ : ∃ z, z = O - L := ⟨_, rfl⟩
        have e6 : (O : Int) - (L : Int) = (o : Int) := by omega
        have e7 : (a : Int) + (o : Int) = (p : Int) := by omega
        clear ho
        have hpn : p < n := by omega
        have hin : i < n := by omega
        have HP := Lib.hid hp
        clear hp
        go_upto_region 10 with (first
          | (go_at_call 105; refine CX.out.mono ?_; rintro e' w1 ⟨rfl, q1, hw1⟩; have HR1 : Hid (Rnd w0 blk off n dk g R w1) := Lib.hid (by rw [hw1]; exact HR.out.set R q1); clear hw1 HR))
        obtain ⟨G, HG, hc, hf⟩ := HR1.out.1.fam
        have HS := Lib.hid (HR1.out.swap HG i p hin hpn)
        obtain ⟨u9, hu9⟩ := HR1.out.1.snd i p hpn (.int .u64 (G p))
        go_region
        all_goals
          generalize ((w1.setCell ⟨blk, off + i, none⟩ (.int .u64 (G p))).setCell ⟨blk, off + p, none⟩ (.int .u64 (G i))).drew = W2 at HS ⊢
        clear hc hf hu9 HR1
        have HZ : Hid (brkR a L M k (i + 1) (Sort.xorNext r, Sort.swp dk i p) = X) := Lib.hid (by
          rw [← HY.out]
          congr 1
          unfold Sort.breakStep
          simp only []
          rw [← HE.out.2, if_pos hge, HP.out])
        rw [HE.out.1] at HS
        go_wp2
        go_roundw
        case rel => exact ⟨k, i + 1, Sort.xorNext r, Sort.swp dk i p, by go_num, by omega, by omega, HS, HZ⟩
        case measure => simp [intOf]; omega
      · have hLO : ¬ (L : Int) ≤ (O : Int) := by omega
        obtain ⟨p, hp⟩ : ∃ z, z = a + O := ⟨_, rfl⟩
        have e7 : (a : Int) + (O : Int) = (p : Int) := by omega
        have hpn : p < n := by omega
        have hin : i < n := by omega
        have HP := Lib.hid hp
        clear hp
        go_upto_region 10 with (first
          | (go_at_call 105; refine CX.out.mono ?_; rintro e' w1 ⟨rfl, q1, hw1⟩; have HR1 : Hid (Rnd w0 blk off n dk g R w1) := Lib.hid (by rw [hw1]; exact HR.out.set R q1); clear hw1 HR))
        obtain ⟨G, HG, hc, hf⟩ := HR1.out.1.fam
        have HS := Lib.hid (HR1.out.swap HG i p hin hpn)
        obtain ⟨u9, hu9⟩ := HR1.out.1.snd i p hpn (.int .u64 (G p))
        go_region
        all_goals
          generalize ((w1.setCell ⟨blk, off + i, none⟩ (.int .u64 (G p))).setCell ⟨blk, off + p, none⟩ (.int .u64 (G i))).drew = W2 at HS ⊢
        clear hc hf hu9 HR1
        have HZ : Hid (brkR a L M k (i + 1) (Sort.xorNext r, Sort.swp dk i p) = X) := Lib.hid (by
          rw [← HY.out]
          congr 1
          unfold Sort.breakStep
          simp only []
          rw [← HE.out.2, if_neg hge, HP.out])
        rw [HE.out.1] at HS
        go_wp2
        go_roundw
        case rel => exact ⟨k, i + 1, Sort.xorNext r, Sort.swp dk i p, by go_num, by omega, by omega, HS, HZ⟩
        case measure => simp [intOf]; omega
end Go.Proofs.Ytplnmjdafchjbaa
