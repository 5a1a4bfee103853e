/- Contracts of codec.firstCount and of a reader's Var, Num, Text. -/
import Derived.Test.YthpigninbeommaaCodR
namespace Go.Proofs.Ythpigninbeommaa
open Go.RowKit
set_option linter.unusedVariables false

set_option maxRecDepth 100000 in
theorem cval_zero {c : UInt8} {r : List UInt8} (h : foll c = 0) : cval c r = c.toNat := by simp [cval, h]
set_option maxRecDepth 100000 in
theorem cval_pos {c : UInt8} {r : List UInt8} (h : foll c ≠ 0) : cval c r = numL (r.take (foll c)) := by simp [cval, h]
set_option maxRecDepth 100000 in
theorem tkV_len (l : List UInt8) (e n : Nat) : (tkV l e n).length ≤ n := by
  unfold tkV
  split
  · rw [List.length_take]; omega
  · simp
set_option maxRecDepth 100000 in
set_option maxHeartbeats 400000 in
theorem rnum_calls (w : World) (q : Nat) (l : List UInt8) (e : Nat) {S : Nat → Prop} (hR : Rr w q l e S) (k : Int) (m : Nat) (hm : cw k = m) (hS : S q := by rfl) :
    Calls Try.prog 10 #[.pointer (some ⟨q, 0, none⟩), .int .i64 k] w fun en w' => en = .returned (.int .u64 (numL (tkV l e m) : Int)) ∧ Rr w' q (tkL l e m) (tkE l e m) S ∧ Frm (fun i => i = q) w w' := by
  have hm8 : m ≤ 8 := by have := cw_bd k; omega
  by_cases h8 : 8 < k
  · have CT := Lib.hid (take_calls w q l e hR 8 m (by unfold cw at hm; omega) hS)
    clear hR hm
    go_enter Try.func10, Try.ntmps10
    go_wp2_with (first
      | (go_at_call 20; refine CT.out.mono ?_; rintro e' w1 ⟨A1, n1, c1, rfl, ho1, hr1, hf1⟩; have HN := Lib.hid (num_calls A1 n1 c1 _ w1 ho1.rd); clear ho1)
      | (go_at_call 19; refine HN.out.mono ?_; rintro e' w2 ⟨rfl, rfl⟩))
    go_ret
    rw [List.take_of_length_le (Nat.le_trans (tkV_len l e m) hm8)]
    exact ⟨rfl, hr1, hf1⟩
  · have CT := Lib.hid (take_calls w q l e hR k m (by unfold cw at hm; split at hm <;> (try split at hm) <;> omega) hS)
    clear hR hm
    go_enter Try.func10, Try.ntmps10
    go_wp2_with (first
      | (go_at_call 20; refine CT.out.mono ?_; rintro e' w1 ⟨A1, n1, c1, rfl, ho1, hr1, hf1⟩; have HN := Lib.hid (num_calls A1 n1 c1 _ w1 ho1.rd); clear ho1)
      | (go_at_call 19; refine HN.out.mono ?_; rintro e' w2 ⟨rfl, rfl⟩))
    go_ret
    rw [List.take_of_length_le (Nat.le_trans (tkV_len l e m) hm8)]
    exact ⟨rfl, hr1, hf1⟩
set_option maxRecDepth 100000 in
theorem cvV_le (l : List UInt8) (e most : Nat) : cvV l e most ≤ most := by
  unfold cvV
  split
  · exact (first_le l most).2.1
  · exact Nat.zero_le _
set_option maxRecDepth 100000 in
/-- The error of Text is one if Var's is. -/
theorem Rr.cells {w : World} {q e : Nat} {l : List UInt8} {S : Nat → Prop} (h : Rr w q l e S) : w.cell? ⟨q, 1, none⟩ = some (.int .i64 (e : Int)) ∧ w.frozen? ⟨q, 0, none⟩ = false ∧ ∃ v, w.cell? ⟨q, 0, none⟩ = some v := by
  obtain ⟨A, c, hb, _⟩ := h
  exact ⟨hb.cell 1, hb.free 0, _, hb.cell 0⟩
set_option maxRecDepth 100000 in
theorem Rr.back {w w' : World} {q e' c : Nat} {A : Option Addr} {l l' : List UInt8} {S : Nat → Prop} (hS : S q) (hd : RdF w S A l.length l) (h1 : l.length ≤ c) (h2 : c ≤ maxLen) (h3 : l.length ≤ 140737488355328) (hf : Frm (fun i => i = q) w w') (h : Rr w' q l' e' S) :
    Rr (w'.setCell ⟨q, 0, none⟩ (.slice A l.length c)) q l e' S := by
  obtain ⟨A', c', hb, _⟩ := h
  exact ⟨A, c, hb.set 0 _, hd.frm ((hf.mono (T := S) (fun i hi => hi ▸ hS)).setCell q 0 _ hS), h1, h2, h3⟩
end Go.Proofs.Ythpigninbeommaa
