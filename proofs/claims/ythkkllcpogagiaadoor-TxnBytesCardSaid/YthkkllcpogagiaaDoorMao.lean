/- Merged texts: CodT. -/
import Derived.Test.YthkkllcpogagiaaDoorMan
/- Contracts of codec.firstCount and of a reader's Var, Num, Text. -/
namespace Go.Proofs.YthkkllcpogagiaaDoor
open Go.RowKit
set_option linter.unusedVariables false

set_option maxRecDepth 100000 in
theorem cval_zero {c : UInt8} {r : List UInt8} (h : foll c = 0) : cval c r = c.toNat := by simp [cval, h]
set_option maxRecDepth 100000 in
theorem cval_pos {c : UInt8} {r : List UInt8} (h : foll c ≠ 0) : cval c r = numL (r.take (foll c)) := by simp [cval, h]
set_option maxRecDepth 100000 in
set_option maxHeartbeats 1000000 in
theorem fcount_calls (A : Option Addr) (n c : Nat) (l : List UInt8) (most : Nat) (w : World) (hn : n ≤ 140737488355328) (hnc : n ≤ c) (hr : Rd w A n l) :
    Calls Tryd.prog 38 #[.slice A n c, .int .u64 (most : Int)] w fun e w' => e = .returned (.tuple #[.int .u64 ((first l most).1 : Int), .int .i64 ((first l most).2.1 : Int), .int .i64 ((first l most).2.2 : Int)]) ∧ w = w' := by
  match l with
  | [] =>
    have h0 : n = 0 := by have := hr.len; simp at this; omega
    subst h0
    clear hr
    go_enter Tryd.func38, Tryd.ntmps38
    go_wp2
    refine bodyPost_ret (v := .tuple #[.int .u64 0, .int .i64 0, .int .i64 2]) (by simp [results, Tryd.results38, go_sem]) rfl ⟨rfl, rfl⟩
  | c0 :: r =>
    have hl : r.length + 1 = n := by have := hr.len; simpa using this
    obtain ⟨b, off, rfl, _, hcs⟩ := hr.2 (by omega)
    have hcell : w.cell? ⟨b, off, none⟩ = some (.int .u8 (c0.toNat : Int)) := hcs 0 (by simp)
    have hb8 := c0.toNat_lt
    clear hcs
    obtain ⟨m, hm⟩ : ∃ m, m = foll c0 := ⟨_, rfl⟩
    have hm8 : m ≤ 8 := hm ▸ foll_le c0
    have CF : Hid (∀ W, Calls Tryd.prog 43 #[.int .u8 (c0.toNat : Int)] W (fun e w' => e = .returned (.int .i64 (m : Int)) ∧ W = w')) := Lib.hid fun W => by rw [hm]; exact following_calls c0 W
    show Calls _ _ _ _ fun e w' => e = .returned (.tuple #[.int .u64 ((if r.length < foll c0 then (0, 0, 2) else if foll c0 ≠ more (cval c0 r) then (0, 0, 3) else if most < cval c0 r then (0, 0, 4) else (cval c0 r, 1 + foll c0, 0) : Nat × Nat × Nat).1 : Int), .int .i64 ((if r.length < foll c0 then (0, 0, 2) else if foll c0 ≠ more (cval c0 r) then (0, 0, 3) else if most < cval c0 r then (0, 0, 4) else (cval c0 r, 1 + foll c0, 0) : Nat × Nat × Nat).2.1 : Int), .int .i64 ((if r.length < foll c0 then (0, 0, 2) else if foll c0 ≠ more (cval c0 r) then (0, 0, 3) else if most < cval c0 r then (0, 0, 4) else (cval c0 r, 1 + foll c0, 0) : Nat × Nat × Nat).2.2 : Int)]) ∧ w = w'
    by_cases h1 : r.length < foll c0
    · simp only [if_pos h1]
      rw [← hm] at h1
      clear hr hm
      go_enter Tryd.func38, Tryd.ntmps38
      go_wp2_with (go_at_call 43; refine (CF.out _).mono ?_; rintro e' w' ⟨rfl, rfl⟩)
      refine bodyPost_ret (v := .tuple #[.int .u64 0, .int .i64 0, .int .i64 2]) (by simp [results, Tryd.results38, go_sem]) rfl ⟨rfl, rfl⟩
    · simp only [if_neg h1]
      obtain ⟨v, hv⟩ : ∃ v, v = cval c0 r := ⟨_, rfl⟩
      obtain ⟨k, hk⟩ : ∃ k, k = more v := ⟨_, rfl⟩
      obtain ⟨hB, hh⟩ : ∃ hB, hB = headB v := ⟨_, rfl⟩
      have CS : Hid (∀ W, Calls Tryd.prog 32 #[.int .u64 (v : Int)] W (fun e w' => e = .returned (.tuple #[.int .u8 (hB.toNat : Int), .int .i64 (k : Int)]) ∧ W = w')) := Lib.hid fun W => by rw [hk, hh]; exact shape_calls v W
      have hs := fun W => run_subLH (P := Tryd.prog) 28 5 Tryd.underlying28 size8 (some ⟨b, off, none⟩) n c 1 (1 + m) 1 (1 + (m : Int)) rfl (by omega) (by omega) (by omega) W
      have CN : Hid (m ≠ 0 → Calls Tryd.prog 36 #[.slice (sub (some ⟨b, off, none⟩) c 1) m (c - 1)] w fun e w' => e = .returned (.int .u64 (v : Int)) ∧ w = w') := Lib.hid fun h0 => by
        have h := num_calls _ _ (c - 1) _ w (hr.mid 1 (1 + m) hnc (by omega))
        rw [show numL ((((c0 :: r).drop 1).take (1 + m - 1)).take 8) = v from by rw [hv, cval_pos (by omega), ← hm, List.drop_succ_cons, List.drop_zero, show 1 + m - 1 = m from by omega, List.take_take, Nat.min_eq_right hm8], show 1 + m - 1 = m from by omega] at h
        exact h
      have HV : Hid (m = 0 → v = c0.toNat) := Lib.hid fun h0 => by rw [hv]; exact cval_zero (by omega)
      rw [← hv, ← hm, ← hk]
      rw [← hm] at h1
      clear hr hm hv hk hh
      by_cases h0 : m = 0
      · have hv := HV.out h0
        subst h0
        clear HV
        subst hv
        by_cases h2 : 0 = k
        · subst h2
          by_cases h3 : most < c0.toNat
          · simp only [if_pos h3, ne_eq, not_true_eq_false, if_false]
            go_enter Tryd.func38, Tryd.ntmps38
            go_wp2_with (first | (go_at_call 43; refine (CF.out _).mono ?_; rintro e' w' ⟨rfl, rfl⟩) | (go_at_call 32; refine (CS.out _).mono ?_; rintro e' w' ⟨rfl, rfl⟩))
            refine bodyPost_ret (v := .tuple #[.int .u64 0, .int .i64 0, .int .i64 4]) (by simp [results, Tryd.results38, go_sem]) rfl ⟨rfl, rfl⟩
          · simp only [if_neg h3, ne_eq, not_true_eq_false, if_false]
            go_enter Tryd.func38, Tryd.ntmps38
            go_wp2_with (first | (go_at_call 43; refine (CF.out _).mono ?_; rintro e' w' ⟨rfl, rfl⟩) | (go_at_call 32; refine (CS.out _).mono ?_; rintro e' w' ⟨rfl, rfl⟩))
            refine bodyPost_ret (v := .tuple #[.int .u64 (c0.toNat : Int), .int .i64 1, .int .i64 0]) (by simp [results, Tryd.results38, go_sem]) rfl ⟨rfl, rfl⟩
        · have h2' : ¬ (0 : Int) = (k : Int) := by omega
          simp only [ne_eq, h2, not_false_eq_true, if_true]
          go_enter Tryd.func38, Tryd.ntmps38
          go_wp2_with (first | (go_at_call 43; refine (CF.out _).mono ?_; rintro e' w' ⟨rfl, rfl⟩) | (go_at_call 32; refine (CS.out _).mono ?_; rintro e' w' ⟨rfl, rfl⟩))
          refine bodyPost_ret (v := .tuple #[.int .u64 0, .int .i64 0, .int .i64 3]) (by simp [results, Tryd.results38, go_sem]) rfl ⟨rfl, rfl⟩
      · have CN' := Lib.hid (CN.out h0)
        clear HV CN
        have hmp : 0 < m := by omega
        by_cases h2 : m = k
        · subst h2
          by_cases h3 : most < v
          · simp only [if_pos h3, ne_eq, not_true_eq_false, if_false]
            go_enter Tryd.func38, Tryd.ntmps38
            go_wp2_with (first | (go_at_call 43; refine (CF.out _).mono ?_; rintro e' w' ⟨rfl, rfl⟩) | (go_at_call 32; refine (CS.out _).mono ?_; rintro e' w' ⟨rfl, rfl⟩) | (go_at_call 36; refine CN'.out.mono ?_; rintro e' w' ⟨rfl, rfl⟩))
            refine bodyPost_ret (v := .tuple #[.int .u64 0, .int .i64 0, .int .i64 4]) (by simp [results, Tryd.results38, go_sem]) rfl ⟨rfl, rfl⟩
          · simp only [if_neg h3, ne_eq, not_true_eq_false, if_false]
            go_enter Tryd.func38, Tryd.ntmps38
            go_wp2_with (first | (go_at_call 43; refine (CF.out _).mono ?_; rintro e' w' ⟨rfl, rfl⟩) | (go_at_call 32; refine (CS.out _).mono ?_; rintro e' w' ⟨rfl, rfl⟩) | (go_at_call 36; refine CN'.out.mono ?_; rintro e' w' ⟨rfl, rfl⟩))
            refine bodyPost_ret (v := .tuple #[.int .u64 (v : Int), .int .i64 ((1 + m : Nat) : Int), .int .i64 0]) (by simp [results, Tryd.results38, go_sem]) rfl ⟨rfl, rfl⟩
        · have h2' : ¬ (m : Int) = (k : Int) := by omega
          simp only [ne_eq, h2, not_false_eq_true, if_true]
          go_enter Tryd.func38, Tryd.ntmps38
          go_wp2_with (first | (go_at_call 43; refine (CF.out _).mono ?_; rintro e' w' ⟨rfl, rfl⟩) | (go_at_call 32; refine (CS.out _).mono ?_; rintro e' w' ⟨rfl, rfl⟩) | (go_at_call 36; refine CN'.out.mono ?_; rintro e' w' ⟨rfl, rfl⟩))
          refine bodyPost_ret (v := .tuple #[.int .u64 0, .int .i64 0, .int .i64 3]) (by simp [results, Tryd.results38, go_sem]) rfl ⟨rfl, rfl⟩

set_option maxRecDepth 100000 in
set_option maxHeartbeats 400000 in
theorem rvar_calls (w : World) (q : Nat) (l : List UInt8) (e : Nat) {S : Nat → Prop} (hR : Rr w q l e S) (most : Nat) (hS : S q := by rfl) :
    Calls Tryd.prog 25 #[.pointer (some ⟨q, 0, none⟩), .int .u64 (most : Int)] w fun en w' => en = .returned (.int .u64 (cvV l e most : Int)) ∧ Rr w' q (cvL l e most) (cvE l e most) S ∧ Frm (fun i => i = q) w w' := by
  have HR := Lib.hid hR
  obtain ⟨A, c, hb, hrd, hlc, hcm, h47⟩ := hR
  have hc0 : w.cell? ⟨q, 0, none⟩ = some (.slice A l.length c) := hb.cell 0
  have hf0 : w.frozen? ⟨q, 0, none⟩ = false := hb.free 0
  have hc1 : w.cell? ⟨q, 1, none⟩ = some (.int .i64 (e : Int)) := hb.cell 1
  have hf1 : w.frozen? ⟨q, 1, none⟩ = false := hb.free 1
  have HB := Lib.hid (And.intro hb hrd)
  clear hb
  unfold cvV cvL cvE
  by_cases he : e = 0
  · subst he
    simp only [if_true]
    have hle := first_le l most
    have CF := Lib.hid (fcount_calls A l.length c l most w h47 hlc hrd.rd)
    obtain ⟨F, hF⟩ : ∃ F, F = first l most := ⟨_, rfl⟩
    rw [← hF] at CF hle ⊢
    obtain ⟨v, s, x⟩ := F
    simp only at CF hle ⊢
    have hsl : s ≤ l.length := hle.1
    have hs2 := fun W => run_subL (P := Tryd.prog) 28 5 Tryd.underlying28 size8 A l.length c s (s : Int) rfl hsl W
    clear hrd hF hle
    go_enter Tryd.func25, Tryd.ntmps25
    go_wp2_with (go_at_call 38; refine CF.out.mono ?_; rintro e' w' ⟨rfl, rfl⟩)
    go_ret
    have hf : Frm (fun i => i = q) w ((w.setCell ⟨q, 0, none⟩ (.slice (sub A c s) (l.length - s) (c - s))).setCell ⟨q, 1, none⟩ (.int .i64 (x : Int))) := ((Frm.refl (fun i => i = q) w).setCell q 0 _ rfl).setCell q 1 _ rfl
    have hset := (HB.out.1.set 0 (.slice (sub A c s) (l.length - s) (c - s))).set 1 (.int .i64 (x : Int))
    have hfS := hf.mono (T := S) (fun i hi => hi ▸ hS)
    exact ⟨rfl, Rr.mk hset ((HB.out.2.frm hfS).drop s hlc) (by omega) (by omega) (by omega), hf⟩
  · simp only [if_neg he]
    go_enter Tryd.func25, Tryd.ntmps25
    go_wp2
    go_ret
    exact ⟨rfl, HR.out, Frm.refl _ _⟩
set_option maxRecDepth 100000 in
theorem tkV_len (l : List UInt8) (e n : Nat) : (tkV l e n).length ≤ n := by
  unfold tkV
  split
  · rw [List.length_take]; omega
  · simp
set_option maxRecDepth 100000 in
set_option maxHeartbeats 400000 in
theorem rnum_calls (w : World) (q : Nat) (l : List UInt8) (e : Nat) {S : Nat → Prop} (hR : Rr w q l e S) (k : Int) (m : Nat) (hm : cw k = m) (hS : S q := by rfl) :
    Calls Tryd.prog 23 #[.pointer (some ⟨q, 0, none⟩), .int .i64 k] w fun en w' => en = .returned (.int .u64 (numL (tkV l e m) : Int)) ∧ Rr w' q (tkL l e m) (tkE l e m) S ∧ Frm (fun i => i = q) w w' := by
  have hm8 : m ≤ 8 := by have := cw_bd k; omega
  by_cases h8 : 8 < k
  · have CT := Lib.hid (take_calls w q l e hR 8 m (by unfold cw at hm; omega) hS)
    clear hR hm
    go_enter Tryd.func23, Tryd.ntmps23
    go_wp2_with (first
      | (go_at_call 37; refine CT.out.mono ?_; rintro e' w1 ⟨A1, n1, c1, rfl, ho1, hr1, hf1⟩; have HN := Lib.hid (num_calls A1 n1 c1 _ w1 ho1.rd); clear ho1)
      | (go_at_call 36; refine HN.out.mono ?_; rintro e' w2 ⟨rfl, rfl⟩))
    go_ret
    rw [List.take_of_length_le (Nat.le_trans (tkV_len l e m) hm8)]
    exact ⟨rfl, hr1, hf1⟩
  · have CT := Lib.hid (take_calls w q l e hR k m (by unfold cw at hm; split at hm <;> (try split at hm) <;> omega) hS)
    clear hR hm
    go_enter Tryd.func23, Tryd.ntmps23
    go_wp2_with (first
      | (go_at_call 37; refine CT.out.mono ?_; rintro e' w1 ⟨A1, n1, c1, rfl, ho1, hr1, hf1⟩; have HN := Lib.hid (num_calls A1 n1 c1 _ w1 ho1.rd); clear ho1)
      | (go_at_call 36; refine HN.out.mono ?_; rintro e' w2 ⟨rfl, rfl⟩))
    go_ret
    rw [List.take_of_length_le (Nat.le_trans (tkV_len l e m) hm8)]
    exact ⟨rfl, hr1, hf1⟩
set_option maxRecDepth 100000 in
theorem cvV_le (l : List UInt8) (e most : Nat) : cvV l e most ≤ most := by
  unfold cvV
  split
  · exact (first_le l most).2.1
  · exact Nat.zero_le _
set_option maxRecDepth 100000 in
/-- The error of Text is one if Var's is. -/
theorem Rr.cells {w : World} {q e : Nat} {l : List UInt8} {S : Nat → Prop} (h : Rr w q l e S) : w.cell? ⟨q, 1, none⟩ = some (.int .i64 (e : Int)) ∧ w.frozen? ⟨q, 0, none⟩ = false ∧ ∃ v, w.cell? ⟨q, 0, none⟩ = some v := by
  obtain ⟨A, c, hb, _⟩ := h
  exact ⟨hb.cell 1, hb.free 0, _, hb.cell 0⟩
set_option maxRecDepth 100000 in
theorem Rr.back {w w' : World} {q e' c : Nat} {A : Option Addr} {l l' : List UInt8} {S : Nat → Prop} (hS : S q) (hd : RdF w S A l.length l) (h1 : l.length ≤ c) (h2 : c ≤ maxLen) (h3 : l.length ≤ 140737488355328) (hf : Frm (fun i => i = q) w w') (h : Rr w' q l' e' S) :
    Rr (w'.setCell ⟨q, 0, none⟩ (.slice A l.length c)) q l e' S := by
  obtain ⟨A', c', hb, _⟩ := h
  exact ⟨A, c, hb.set 0 _, hd.frm ((hf.mono (T := S) (fun i hi => hi ▸ hS)).setCell q 0 _ hS), h1, h2, h3⟩
set_option maxRecDepth 100000 in
set_option maxHeartbeats 1000000 in
theorem rtext_calls (w : World) (q : Nat) (l : List UInt8) (e : Nat) {S : Nat → Prop} (hR : Rr w q l e S) (k : Int) (most : Nat) (hk : k.toNat = most) (h63 : k ≤ 9223372036854775807) (hS : S q := by rfl) :
    Calls Tryd.prog 26 #[.pointer (some ⟨q, 0, none⟩), .int .i64 k] w fun en w' => ∃ A m c, en = .returned (.slice A m c) ∧ Own w' w.heap.size A m c (txV l e most) ∧ Rr w' q (txL l e most) (txE l e most) S ∧ Frm (fun i => i = q) w w' := by
  have CV := Lib.hid (rvar_calls w q l e hR most hS)
  obtain ⟨A, c, hb, hrd, hlc, hcm, h47⟩ := hR
  have hc0 : w.cell? ⟨q, 0, none⟩ = some (.slice A l.length c) := hb.cell 0
  have HB := Lib.hid (And.intro hb hrd)
  have hq := hb.lt
  clear hb hrd
  have hvl := cvV_le l e most
  obtain ⟨v, hv⟩ : ∃ v, v = cvV l e most := ⟨_, rfl⟩
  have hmx : (if k < 0 then (0 : Int) else k) = (most : Int) := by split <;> omega
  have hw1 : IntKind.u64.wrap (most : Int) = (most : Int) := by rw [IntKind.wrap_u64]; omega
  have hw2 : IntKind.i64.wrap (v : Int) = (v : Int) := by rw [IntKind.wrap_i64]; omega
  have CT : Hid (∀ W, Rr W q (cvL l e most) (cvE l e most) S → Calls Tryd.prog 37 #[.pointer (some ⟨q, 0, none⟩), .int .i64 (v : Int)] W fun en w' => ∃ A m c, en = .returned (.slice A m c) ∧ Own w' W.heap.size A m c (txV l e most) ∧ Rr w' q (tkL (cvL l e most) (cvE l e most) (cvV l e most)) (txE l e most) S ∧ Frm (fun i => i = q) W w') := Lib.hid fun W h => by
    have := take_calls W q _ _ h (v : Int) v (by simp) hS
    rw [hv] at this ⊢
    exact this
  rw [← hv] at CV
  unfold txL
  obtain ⟨x, hxe⟩ : ∃ x, x = txE l e most := ⟨_, rfl⟩
  rw [← hxe] at CT ⊢
  clear hv hxe hvl
  by_cases hneg : k < 0
  · have hm0 : most = 0 := by omega
    clear hk hmx hw1
    by_cases hx : x = 0
    · rw [if_pos hx]
      subst hx hm0
      go_enter Tryd.func26, Tryd.ntmps26
      go_wp2_with (first
        | (go_at_call 25; refine CV.out.mono ?_; rintro e' w1 ⟨rfl, hr1, hf1⟩; have HT := Lib.hid (CT.out w1 hr1); have hs1 := hf1.size)
        | (go_at_call 37; refine HT.out.mono ?_; rintro e' w2 ⟨A2, n2, c2, rfl, ho2, hr2, hf2⟩; have hd1 := hr2.cells.1; have hd0 := hr2.cells.2.1; obtain ⟨v0, hdv⟩ := hr2.cells.2.2))
      go_ret
      exact ⟨A2, n2, c2, rfl, ho2.base (fun g hg => Nat.le_trans hs1 (ho2.lt hg).2), hr2, hf1.trans hf2⟩
    · rw [if_neg hx]
      subst hm0
      go_enter Tryd.func26, Tryd.ntmps26
      go_wp2_with (first
        | (go_at_call 25; refine CV.out.mono ?_; rintro e' w1 ⟨rfl, hr1, hf1⟩; have HT := Lib.hid (CT.out w1 hr1); have hs1 := hf1.size)
        | (go_at_call 37; refine HT.out.mono ?_; rintro e' w2 ⟨A2, n2, c2, rfl, ho2, hr2, hf2⟩; have hd1 := hr2.cells.1; have hd0 := hr2.cells.2.1; obtain ⟨v0, hdv⟩ := hr2.cells.2.2))
      go_ret
      exact ⟨A2, n2, c2, rfl, (ho2.base (fun g hg => Nat.le_trans hs1 (ho2.lt hg).2)).frm (S := fun i => i = q) ((Frm.refl (fun i => i = q) w2).setCell q 0 _ rfl) (fun g hg e => by have := (ho2.lt hg).2; omega), Rr.back hS HB.out.2 hlc hcm h47 (hf1.trans hf2) hr2, (hf1.trans hf2).setCell q 0 _ rfl⟩
  · have hkm : k = (most : Int) := by omega
    subst hkm
    clear hk hmx
    by_cases hx : x = 0
    · rw [if_pos hx]
      subst hx
      go_enter Tryd.func26, Tryd.ntmps26
      go_wp2_with (first
        | (go_at_call 25; refine CV.out.mono ?_; rintro e' w1 ⟨rfl, hr1, hf1⟩; have HT := Lib.hid (CT.out w1 hr1); have hs1 := hf1.size)
        | (go_at_call 37; refine HT.out.mono ?_; rintro e' w2 ⟨A2, n2, c2, rfl, ho2, hr2, hf2⟩; have hd1 := hr2.cells.1; have hd0 := hr2.cells.2.1; obtain ⟨v0, hdv⟩ := hr2.cells.2.2))
      go_ret
      exact ⟨A2, n2, c2, rfl, ho2.base (fun g hg => Nat.le_trans hs1 (ho2.lt hg).2), hr2, hf1.trans hf2⟩
    · rw [if_neg hx]
      go_enter Tryd.func26, Tryd.ntmps26
      go_wp2_with (first
        | (go_at_call 25; refine CV.out.mono ?_; rintro e' w1 ⟨rfl, hr1, hf1⟩; have HT := Lib.hid (CT.out w1 hr1); have hs1 := hf1.size)
        | (go_at_call 37; refine HT.out.mono ?_; rintro e' w2 ⟨A2, n2, c2, rfl, ho2, hr2, hf2⟩; have hd1 := hr2.cells.1; have hd0 := hr2.cells.2.1; obtain ⟨v0, hdv⟩ := hr2.cells.2.2))
      go_ret
      exact ⟨A2, n2, c2, rfl, (ho2.base (fun g hg => Nat.le_trans hs1 (ho2.lt hg).2)).frm (S := fun i => i = q) ((Frm.refl (fun i => i = q) w2).setCell q 0 _ rfl) (fun g hg e => by have := (ho2.lt hg).2; omega), Rr.back hS HB.out.2 hlc hcm h47 (hf1.trans hf2) hr2, (hf1.trans hf2).setCell q 0 _ rfl⟩
end Go.Proofs.YthkkllcpogagiaaDoor
