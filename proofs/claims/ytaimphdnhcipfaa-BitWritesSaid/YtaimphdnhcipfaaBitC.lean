/- The contracts of layer 11's own held and awake, over what package bit is to answer. -/
import Derived.Test.YtaimphdnhcipfaaBitB
import Derived.Test.YtaimphdnhcipfaaBitK
import Derived.Test.YtaimphdnhcipfaaBitO
import Derived.Test.YtaimphdnhcipfaaStp
namespace Go.Proofs.Ytaimphdnhcipfaa
open Go.RowKit
set_option linter.unusedVariables false
set_option linter.unusedSimpArgs false

set_option maxRecDepth 100000 in
theorem blk_up {w W : World} {g : Nat} {cs : List Value} {t : TypeId} (h : Blk w g cs t) (hb : Below w.heap.size w W) : Blk W g cs t := h.below hb h.lt
set_option maxRecDepth 100000 in
theorem below_frmB {B : Nat} {S : Nat → Prop} {w W W' : World} (h : Below B w W) (hf : Frm S W W') (hs : B ≤ W.heap.size) (hS : ∀ i, S i → B ≤ i) : Below B w W' := h.trans (hf.below hs hS)
set_option maxRecDepth 100000 in
set_option maxHeartbeats 2000000 in
theorem bheld_calls (n : Int) (h : Nat) (hh : h ≤ 1000) (w : World) :
    Calls Try.prog 12 #[.int .i64 n, .int .i64 0, .int .i64 (h : Int)] w (Ret w (.int .i64 (hld n h : Int))) := by
  obtain ⟨z, hz⟩ : ∃ z, z = hld n h := ⟨_, rfl⟩
  have HZ := Lib.hid hz
  by_cases h0 : n < 0
  · have e : hld n h = 0 := by unfold hld; rw [if_pos h0]
    have h1 : ¬ 0 < n := by omega
    have h2 : n ≤ 0 := by omega
    have h3 : ¬ 0 ≤ n := by omega
    rw [e]
    clear hz
    go_enter Try.func12, Try.ntmps12
    go_wp2
    go_ret
    exact ⟨by first | rfl | (simp; omega) | (simp [Int.max_def, Int.min_def, h0, h1, h2, h3]; omega), Below.refl _ _⟩
  · by_cases h1 : (h : Int) < n
    · have e : hld n h = h := by unfold hld; rw [if_neg h0, if_pos h1]
      have h2 : ¬ n ≤ (h : Int) := by omega
      have h3 : 0 ≤ n := by omega
      rw [e]
      clear hz
      go_enter Try.func12, Try.ntmps12
      go_wp2
      go_ret
      exact ⟨by first | rfl | (simp; omega) | (simp [Int.max_def, Int.min_def, h0, h1, h2, h3]; omega), Below.refl _ _⟩
    · have e : (hld n h : Int) = n := by unfold hld; rw [if_neg h0, if_neg h1]; omega
      have h2 : n ≤ (h : Int) := by omega
      have h3 : 0 ≤ n := by omega
      rw [e]
      clear hz
      go_enter Try.func12, Try.ntmps12
      go_wp2
      go_ret
      exact ⟨by first | rfl | (simp; omega) | (simp [Int.max_def, Int.min_def, h0, h1, h2, h3]; omega), Below.refl _ _⟩
set_option maxRecDepth 100000 in
theorem pack_awake : pack ([] ++ bN 5 (hld 3 64) ++ List.replicate (hld 2 65536) true ++ bN 0 (hld 1 64)) = [184] := by decide
set_option maxRecDepth 100000 in
theorem len_awake : ([] ++ bN 5 (hld 3 64) ++ List.replicate (hld 2 65536) true ++ bN 0 (hld 1 64) : List Bool).length = 6 := by decide
set_option maxRecDepth 100000 in
set_option maxHeartbeats 2000000 in
theorem awake11_calls {BW : World → Nat → (Nat → Prop) → List Bool → Prop} {BR : World → Nat → Nat → (Nat → Prop) → List Bool → Prop} (K : BitOk BW BR) (w : World) : Calls Try.prog 16 #[] w (Ret w (.bool true)) := by
  obtain ⟨L1, h1⟩ : ∃ z, z = ([] : List Bool) ++ bN 5 (hld 3 64) := ⟨_, rfl⟩
  obtain ⟨L2, h2⟩ : ∃ z, z = L1 ++ List.replicate (hld 2 65536) true := ⟨_, rfl⟩
  obtain ⟨L3, h3⟩ : ∃ z, z = L2 ++ bN 0 (hld 1 64) := ⟨_, rfl⟩
  have hpk : pack L3 = [184] := by rw [h3, h2, h1]; exact pack_awake
  have hln : L3.length = 6 := by rw [h3, h2, h1]; exact len_awake
  have l1 : L1.length ≤ 100 := by rw [h1]; decide
  have l2 : L2.length ≤ 100 := by rw [h2, h1]; decide
  have CN : Hid (∀ W : World, Calls Try.prog 7 #[] W fun e w' => ∃ p S, e = .returned (.pointer (some ⟨p, 0, none⟩)) ∧ BW w' p S [] ∧ Below W.heap.size W w' ∧ ∀ i, S i → W.heap.size ≤ i) := Lib.hid K.new
  have C1 : Hid (∀ (W : World) p S, BW W p S [] → Calls Try.prog 10 #[.pointer (some ⟨p, 0, none⟩), .int .u64 5, .int .i64 3] W fun e w' => ∃ S', e = .returned (.tuple #[]) ∧ BW w' p S' L1 ∧ Frm S W w' ∧ ∀ i, S' i → S i ∨ W.heap.size ≤ i) := Lib.hid fun W p S h => by rw [h1]; exact K.put W p S [] 5 3 h (by simp) (by omega) (by omega) (by omega)
  have C2 : Hid (∀ (W : World) p S, BW W p S L1 → Calls Try.prog 8 #[.pointer (some ⟨p, 0, none⟩), .int .i64 2] W fun e w' => ∃ S', e = .returned (.tuple #[]) ∧ BW w' p S' L2 ∧ Frm S W w' ∧ ∀ i, S' i → S i ∨ W.heap.size ≤ i) := Lib.hid fun W p S h => by rw [h2]; exact K.ones W p S L1 2 h (by omega) (by omega) (by omega)
  have C3 : Hid (∀ (W : World) p S, BW W p S L2 → Calls Try.prog 10 #[.pointer (some ⟨p, 0, none⟩), .int .u64 0, .int .i64 1] W fun e w' => ∃ S', e = .returned (.tuple #[]) ∧ BW w' p S' L3 ∧ Frm S W w' ∧ ∀ i, S' i → S i ∨ W.heap.size ≤ i) := Lib.hid fun W p S h => by rw [h3]; exact K.put W p S L2 0 1 h (by omega) (by omega) (by omega) (by omega)
  have C4 : Hid (∀ (W : World) p S, BW W p S L3 → Calls Try.prog 14 #[.pointer (some ⟨p, 0, none⟩)] W fun e w' => ∃ A n c, e = .returned (.slice A n c) ∧ (convert 34 9 (.slice A n c)).run Try.prog w' = .ok (.string ⟨#[184]⟩) w' ∧ BW w' p S L3 ∧ Below W.heap.size W w') := Lib.hid fun W p S h => by
    refine (K.bytes W p S L3 h (by omega)).mono ?_
    rintro e w' ⟨A, n, c, rfl, k1, _, _, k2⟩
    rw [hpk] at k1
    exact ⟨A, n, c, rfl, conv8 w' A n c _ k1, K.wfrm h (X := fun _ => False) (Frm.of_below k2) (fun _ h => h.elim), k2⟩
  have C5 : Hid (∀ (W : World) p S, BW W p S L3 → Calls Try.prog 13 #[.pointer (some ⟨p, 0, none⟩)] W (Ret W (.int .i64 6))) := Lib.hid fun W p S h => by
    have := K.len W p S L3 h (by omega)
    rw [hln] at this
    exact this
  clear K hpk hln l1 l2 h1 h2 h3
  go_enter Try.func16, Try.ntmps16
  go_upto_region 2 with (first
    | (go_at_call 7; refine (CN.out _).mono ?_; rintro e' w1 ⟨p, S, rfl, hW, hB, hS⟩))
  go_upto_region 5 with (first
    | (go_at_call 10; refine (C1.out _ p S hW).mono ?_; rintro e' w2 ⟨S2, rfl, hW2, hF2, hS2⟩))
  have hB2 := below_frmB hB hF2 hB.size hS
  have hT2 : ∀ i, S2 i → w.heap.size ≤ i := fun i hi => (hS2 i hi).elim (hS i) (fun h => Nat.le_trans hB.size h)
  clear hW hF2 hS2 hB hS
  go_upto_region 6 with (first
    | (go_at_call 8; refine (C2.out _ p S2 hW2).mono ?_; rintro e' w3 ⟨S3, rfl, hW3, hF3, hS3⟩))
  have hB3 := below_frmB hB2 hF3 hB2.size hT2
  have hT3 : ∀ i, S3 i → w.heap.size ≤ i := fun i hi => (hS3 i hi).elim (hT2 i) (fun h => Nat.le_trans hB2.size h)
  clear hW2 hF3 hS3 hB2 hT2
  go_upto_region 7 with (first
    | (go_at_call 10; refine (C3.out _ p S3 hW3).mono ?_; rintro e' w4 ⟨S4, rfl, hW4, hF4, hS4⟩))
  have hB4 := below_frmB hB3 hF4 hB3.size hT3
  clear hW3 hF4 hS4 hB3 hT3
  go_wp2_with (first
    | (go_at_call 14; refine (C4.out _ p S4 hW4).mono ?_; rintro e' w5 ⟨A5, n5, c5, rfl, hcv, hW5, hB5⟩)
    | (go_at_call 13; refine (C5.out _ p S4 hW5).mono ?_; rintro e' w6 ⟨rfl, hB6⟩))
  go_ret
  exact ⟨rfl, below_more (below_more hB4 hB5) hB6⟩
end Go.Proofs.Ytaimphdnhcipfaa
