/- Package bit: New, Put, Ones, Len, Bytes. -/
import Derived.Test.YtkmedbdaobficaaBitE
namespace Go.Proofs.Ytkmedbdaobficaa
open Go.RowKit
set_option linter.unusedVariables false
set_option linter.unusedSimpArgs false

set_option maxRecDepth 100000 in
theorem Wb.frm {w w' : World} {p c : Nat} {A : Option Addr} {l : List Bool} {S : Nat → Prop} (h : Wb w p A c l) (hf : Frm S w w') (hp : ¬ S p) (hA : ∀ g, blkOf A = some g → ¬ S g) : Wb w' p A c l :=
  ⟨hf.blk h.1 hp, h.2.1.frm hf hA, h.2.2⟩
set_option maxRecDepth 100000 in
theorem Wb.lt {w : World} {p c : Nat} {A : Option Addr} {l : List Bool} (h : Wb w p A c l) : ∀ i, WS p A i → i < w.heap.size := fun i hi => by
  rcases hi with rfl | hi
  · exact h.1.lt
  · exact (h.2.1.lt hi).1
set_option maxRecDepth 100000 in
theorem ws_step {p : Nat} {B : Nat} {A A' : Option Addr} (hn : ∀ g, blkOf A' = some g → blkOf A = some g ∨ B ≤ g) : ∀ i, WS p A' i → WS p A i ∨ B ≤ i := fun i hi => by
  rcases hi with rfl | hi
  · exact .inl (.inl rfl)
  · rcases hn i hi with h1 | h1
    · exact .inl (.inr h1)
    · exact .inr h1
set_option maxRecDepth 100000 in
set_option maxHeartbeats 2000000 in
theorem bones_calls (w : World) (p : Nat) (A : Option Addr) (c : Nat) (l : List Bool) (n : Int) (hW : Wb w p A c l) (hl : l.length ≤ 1000000) :
    Calls Try.prog 27 #[.pointer (some ⟨p, 0, none⟩), .int .i64 n] w fun e w' => ∃ A' c', e = .returned (.tuple #[]) ∧ Wb w' p A' c' (l ++ List.replicate (hld n 65536) true) ∧ Frm (WS p A) w w' ∧ ∀ g, blkOf A' = some g → blkOf A = some g ∨ w.heap.size ≤ g := by
  obtain ⟨K, hK⟩ : ∃ z, z = hld n 65536 := ⟨_, rfl⟩
  have hKl : K ≤ 65536 := hK ▸ hld_le n 65536
  have CC : Hid (∀ W, Calls Try.prog 38 #[.int .i64 n, .int .i64 65536] W (fun e w' => e = .returned (.int .i64 (K : Int)) ∧ W = w')) := Lib.hid fun W => by rw [hK]; exact bclamp_calls n 65536 (by omega) W
  have HW := Lib.hid hW
  rw [← hK]
  clear hW hK
  go_enter Try.func27, Try.ntmps27
  go_wp2_with (go_at_call 38; refine (CC.out _).mono ?_; rintro e' w' ⟨rfl, rfl⟩)
  go_loopw [6] (fun cv wr => ∃ (i : Nat) (A' : Option Addr) (c' : Nat), i ≤ K ∧ cv = .int .i64 (i : Int) ∧ Wb wr p A' c' (l ++ List.replicate i true) ∧ Frm (WS p A) w wr ∧ (∀ g, blkOf A' = some g → blkOf A = some g ∨ w.heap.size ≤ g)) (fun cv _ => K - (intOf cv).toNat)
  case atStart => exact ⟨0, A, c, Nat.zero_le _, rfl, by simpa using HW.out, Frm.refl _ _, fun g hg => .inl hg⟩
  case round =>
    obtain ⟨i, A', c', hi, rfl, hWr, hf, hn⟩ := hrel
    by_cases hlt : i < K
    · have hlt' : (i : Int) < (K : Int) := by omega
      have CP := Lib.hid (push_calls wr p A' c' _ true hWr (by simp; omega))
      have HF := Lib.hid (And.intro hf hn)
      clear hWr hf hn
      go_wp2_with (go_at_call 39; refine CP.out.mono ?_; rintro e' w2 ⟨A2, c2, rfl, hW2, hf2, hn2⟩)
      go_roundw
      case rel =>
        refine ⟨i + 1, A2, c2, by omega, by go_num, ?_, ?_, ?_⟩
        · rw [List.replicate_succ', ← List.append_assoc]; exact hW2
        · exact HF.out.1.step hf2 (ws_step HF.out.2)
        · intro g hg
          rcases hn2 g hg with h1 | h1
          · exact HF.out.2 g h1
          · exact .inr (Nat.le_trans HF.out.1.size h1)
      case measure => simp [intOf]; omega
    · have hlt' : ¬ (i : Int) < (K : Int) := by omega
      have e : i = K := by omega
      subst e
      have HH := Lib.hid (And.intro hWr (And.intro hf hn))
      clear hWr hf hn
      go_wp2
      refine bodyPost_end (v := .tuple #[]) (by simp [results, Try.results27]) rfl (by first | exact ⟨A', c', rfl, HH.out⟩ | exact ⟨rfl, A', ⟨c', HH.out.1⟩, HH.out.2⟩)
set_option maxRecDepth 100000 in
theorem u8_low (Y : Nat) : IntKind.u8.wrap (Y : Int) = ((Y % 256 : Nat) : Int) := by rw [IntKind.wrap_u8]; omega
set_option maxRecDepth 100000 in
theorem low_bit (Y : Nat) : bits .and .u8 ((Y % 256 : Nat) : Int) 1 = ((decide (Y % 2 = 1)).toNat : Int) := by
  have h := bit_nat (Y % 256) 0 (Nat.mod_lt _ (by omega))
  rw [Nat.pow_zero, Nat.div_one, Nat.mod_mod_of_dvd _ (by decide)] at h
  rw [h]
  by_cases h1 : Y % 2 = 1
  · rw [decide_eq_true h1, h1]; rfl
  · rw [decide_eq_false h1]; have : Y % 2 = 0 := by omega
    rw [this]; rfl
set_option maxRecDepth 100000 in
set_option maxHeartbeats 2000000 in
theorem bput_calls (w : World) (p : Nat) (A : Option Addr) (c : Nat) (l : List Bool) (n : Nat) (k : Int) (hW : Wb w p A c l) (hl : l.length ≤ 1000000) (hn64 : n < 18446744073709551616) :
    Calls Try.prog 28 #[.pointer (some ⟨p, 0, none⟩), .int .u64 (n : Int), .int .i64 k] w fun e w' => ∃ A' c', e = .returned (.tuple #[]) ∧ Wb w' p A' c' (l ++ bN n (hld k 64)) ∧ Frm (WS p A) w w' ∧ ∀ g, blkOf A' = some g → blkOf A = some g ∨ w.heap.size ≤ g := by
  obtain ⟨K, hK⟩ : ∃ z, z = hld k 64 := ⟨_, rfl⟩
  have hKl : K ≤ 64 := hK ▸ hld_le k 64
  have CC : Hid (∀ W, Calls Try.prog 38 #[.int .i64 k, .int .i64 64] W (fun e w' => e = .returned (.int .i64 (K : Int)) ∧ W = w')) := Lib.hid fun W => by rw [hK]; exact bclamp_calls k 64 (by omega) W
  have HW := Lib.hid hW
  rw [← hK]
  clear hW hK
  go_enter Try.func28, Try.ntmps28
  go_wp2_with (go_at_call 38; refine (CC.out _).mono ?_; rintro e' w' ⟨rfl, rfl⟩)
  go_loopw [10] (fun cv wr => ∃ (i : Nat) (A' : Option Addr) (c' : Nat), i ≤ K ∧ cv = .int .i64 (i : Int) ∧ Wb wr p A' c' (l ++ (bN n K).take i) ∧ Frm (WS p A) w wr ∧ (∀ g, blkOf A' = some g → blkOf A = some g ∨ w.heap.size ≤ g)) (fun cv _ => K - (intOf cv).toNat)
  case atStart => exact ⟨0, A, c, Nat.zero_le _, rfl, by simpa using HW.out, Frm.refl _ _, fun g hg => .inl hg⟩
  case round =>
    obtain ⟨i, A', c', hi, rfl, hWr, hf, hn⟩ := hrel
    by_cases hlt : i < K
    · have hlt' : (i : Int) < (K : Int) := by omega
      obtain ⟨K1, hK1⟩ : ∃ z, z = K - 1 := ⟨_, rfl⟩
      obtain ⟨s, hs⟩ : ∃ z, z = K1 - i := ⟨_, rfl⟩
      obtain ⟨Y, hY⟩ : ∃ z, z = n / 2 ^ s := ⟨_, rfl⟩
      have hs64 : s < 64 := by omega
      have a1 : (K : Int) - 1 = (K1 : Int) := by omega
      have a2 : (K1 : Int) - (i : Int) = (s : Int) := by omega
      have a3 : (n : Int) / 2 ^ s = (Y : Int) := by rw [hY, Int.natCast_ediv, Int.natCast_pow]; rfl
      obtain ⟨v, hv⟩ : ∃ v : Bool, v = decide (Y % 2 = 1) := ⟨_, rfl⟩
      obtain ⟨X, hX⟩ : ∃ z, z = Y % 256 := ⟨_, rfl⟩
      have a4 : IntKind.u8.wrap (Y : Int) = (X : Int) := by rw [hX]; exact u8_low Y
      obtain ⟨z, hz⟩ : ∃ z, z = v.toNat := ⟨_, rfl⟩
      have a5 : bits .and .u8 (X : Int) 1 = (z : Int) := by rw [hX, hz, hv]; exact low_bit Y
      have HT : Hid ((bN n K).take (i + 1) = (bN n K).take i ++ [v]) := Lib.hid (by rw [bN_take n K i hlt, hv, hY, hs, hK1])
      have CP : Hid (Calls Try.prog 39 #[.pointer (some ⟨p, 0, none⟩), .int .u8 (z : Int)] wr fun e w' => ∃ A2 c2, e = .returned (.tuple #[]) ∧ Wb w' p A2 c2 (l ++ (bN n K).take i ++ [v]) ∧ Frm (WS p A') wr w' ∧ ∀ g, blkOf A2 = some g → blkOf A' = some g ∨ wr.heap.size ≤ g) :=
        Lib.hid (by rw [hz]; exact push_calls wr p A' c' _ v hWr (by rw [List.length_append, List.length_take]; omega))
      have HF := Lib.hid (And.intro hf hn)
      clear hWr hf hn hK1 hs hY hv hX hz
      go_wp2_with (go_at_call 39; refine CP.out.mono ?_; rintro e' w2 ⟨A2, c2, rfl, hW2, hf2, hn2⟩)
      go_roundw
      case rel =>
        refine ⟨i + 1, A2, c2, by omega, by go_num, ?_, ?_, ?_⟩
        · rw [HT.out, ← List.append_assoc]; exact hW2
        · exact HF.out.1.step hf2 (ws_step HF.out.2)
        · intro g hg
          rcases hn2 g hg with h1 | h1
          · exact HF.out.2 g h1
          · exact .inr (Nat.le_trans HF.out.1.size h1)
      case measure => simp [intOf]; omega
    · have hlt' : ¬ (i : Int) < (K : Int) := by omega
      have e : i = K := by omega
      subst e
      rw [List.take_of_length_le (by rw [bN_len]; omega)] at hWr
      have HH := Lib.hid (And.intro hWr (And.intro hf hn))
      clear hWr hf hn
      go_wp2
      refine bodyPost_end (v := .tuple #[]) (by simp [results, Try.results28]) rfl (by first | exact ⟨A', c', rfl, HH.out⟩ | exact ⟨rfl, A', ⟨c', HH.out.1⟩, HH.out.2⟩)
set_option maxRecDepth 100000 in
theorem bwlen_calls (w : World) (p : Nat) (A : Option Addr) (c : Nat) (l : List Bool) (hW : Wb w p A c l) :
    Calls Try.prog 13 #[.pointer (some ⟨p, 0, none⟩)] w (Ret w (.int .i64 (l.length : Int))) := by
  have hc1 : w.cell? ⟨p, 1, none⟩ = some (.int .i64 (l.length : Int)) := hW.1.cell 1
  clear hW
  go_enter Try.func13, Try.ntmps13
  go_wp2
  go_ret
  exact ⟨rfl, Below.refl _ _⟩
set_option maxRecDepth 100000 in
set_option maxHeartbeats 400000 in
theorem bwbytes_calls (w : World) (p : Nat) (A : Option Addr) (c : Nat) (l : List Bool) (hW : Wb w p A c l) (hl : l.length ≤ 1000000) :
    Calls Try.prog 14 #[.pointer (some ⟨p, 0, none⟩)] w (Mk w (pack l)) := by
  obtain ⟨N, hN⟩ : ∃ z, z = (l.length + 7) / 8 := ⟨_, rfl⟩
  have hc0 : w.cell? ⟨p, 0, none⟩ = some (.slice A N c) := by rw [hN]; exact hW.1.cell 0
  have ho := hW.2.1
  rw [← hN] at ho
  have HC := Lib.hid (clone_calls A N c (pack l) w (by omega) ho.rd)
  clear hW ho hN
  go_enter Try.func14, Try.ntmps14
  go_wp2_with (go_at_call 31; refine HC.out.mono ?_; rintro e' w1 ⟨A1, n1, c1, rfl, ho1, hb1⟩)
  go_ret
  exact ⟨A1, n1, c1, rfl, ho1, hb1⟩
set_option maxRecDepth 100000 in
set_option maxHeartbeats 400000 in
theorem bwnew_calls (w : World) : Calls Try.prog 8 #[] w fun e w' => e = .returned (.pointer (some ⟨w.heap.size, 0, none⟩)) ∧ Wb w' w.heap.size none 0 [] ∧ Below w.heap.size w w' := by
  go_enter Try.func8, Try.ntmps8
  go_wp2
  go_ret
  exact ⟨rfl, ⟨Blk.new _ _ _, Own.nil _ _, by simp [blkOf]⟩, (Below.refl _ _).alloc (Nat.le_refl _) _⟩
end Go.Proofs.Ytkmedbdaobficaa
