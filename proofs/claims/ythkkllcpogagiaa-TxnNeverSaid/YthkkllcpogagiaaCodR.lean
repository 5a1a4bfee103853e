/- Contracts of a reader's methods: Of, Err, Left, End, Take, Var. -/
import Derived.Test.YthkkllcpogagiaaCodW
namespace Go.Proofs.Ythkkllcpogagiaa
open Go.RowKit
set_option linter.unusedVariables false

set_option maxRecDepth 100000 in
set_option maxHeartbeats 400000 in
theorem rof_calls (A : Option Addr) (n c : Nat) (l : List UInt8) (w : World) (hn : n ≤ 140737488355328) (hr : Rd w A n l) :
    Calls Try.prog 17 #[.slice A n c] w fun e w' => ∃ q, e = .returned (.pointer (some ⟨q, 0, none⟩)) ∧ w.heap.size ≤ q ∧ Rr w' q l 0 ∧ Below w.heap.size w w' := by
  have HL := Lib.hid hr.len
  have HC := Lib.hid (clone_calls A n c l w hn hr)
  clear hr
  go_enter Try.func17, Try.ntmps17
  go_wp2_with (go_at_call 35; refine HC.out.mono ?_; rintro e' w1 ⟨A1, n1, c1, rfl, ho1, hb1⟩)
  go_ret
  have hl := ho1.len
  have hcp := own_cap ho1
  subst hl
  refine ⟨_, rfl, hb1.size, ⟨A1, c1, Blk.new _ _ _, ?_, hcp.1, hcp.2, by rw [HL.out]; exact hn⟩, below_al hb1 _⟩
  have hlt := fun g (hg : blkOf A1 = some g) => ho1.lt hg
  refine (RdF.turn (S := fun _ => False) (T := fun i => i = w1.heap.size) (RdF.own ho1 (fun i hi => hi.elim)) (Frm.of_below ((Below.refl _ w1).alloc (Nat.le_refl _) _)) (fun i hi => .inr (Nat.le_of_eq hi.symm)))
set_option maxRecDepth 100000 in
theorem err_calls (w : World) (q : Nat) (l : List UInt8) (e : Nat) {S : Nat → Prop} (hR : Rr w q l e S) :
    Calls Try.prog 19 #[.pointer (some ⟨q, 0, none⟩)] w fun en w' => en = .returned (.int .i64 (e : Int)) ∧ w = w' := by
  obtain ⟨A, c, hb, _⟩ := hR
  have hc1 : w.cell? ⟨q, 1, none⟩ = some (.int .i64 (e : Int)) := hb.cell 1
  clear hb
  go_enter Try.func19, Try.ntmps19
  go_wp2
  go_ret
  exact ⟨rfl, rfl⟩
set_option maxRecDepth 100000 in
theorem Rr.mk {w : World} {q n c e : Nat} {A : Option Addr} {l : List UInt8} {S : Nat → Prop} (hb : Blk w q [.slice A n c, .int .i64 (e : Int)] 82) (hd : RdF w S A n l) (h1 : n ≤ c) (h2 : c ≤ maxLen) (h3 : n ≤ 140737488355328) : Rr w q l e S := by
  have := hd.len
  subst this
  exact ⟨A, c, hb, hd, h1, h2, h3⟩
set_option maxRecDepth 100000 in
theorem Rr.setE {w : World} {q e : Nat} {l : List UInt8} {S : Nat → Prop} (h : Rr w q l e S) (e' : Nat) (hS : S q) : Rr (w.setCell ⟨q, 1, none⟩ (.int .i64 (e' : Int))) q l e' S := by
  obtain ⟨A, c, h1, h2, h3⟩ := h
  exact ⟨A, c, h1.set 1 _, h2.frm ((Frm.refl _ w).setCell q 1 _ hS), h3⟩
/-- What End answers. -/
def ndE (l : List UInt8) (e : Nat) : Nat := if e = 0 ∧ 0 < l.length then 3 else e
set_option maxRecDepth 100000 in
set_option maxHeartbeats 400000 in
theorem end_calls (w : World) (q : Nat) (l : List UInt8) (e : Nat) {S : Nat → Prop} (hR : Rr w q l e S) (hS : S q := by rfl) :
    Calls Try.prog 22 #[.pointer (some ⟨q, 0, none⟩)] w fun en w' => en = .returned (.int .i64 (ndE l e : Int)) ∧ Rr w' q l (ndE l e) S ∧ Frm (fun i => i = q) w w' := by
  have HR := Lib.hid hR
  obtain ⟨A, c, hb, _⟩ := hR
  have hc0 : w.cell? ⟨q, 0, none⟩ = some (.slice A l.length c) := hb.cell 0
  have hc1 : w.cell? ⟨q, 1, none⟩ = some (.int .i64 (e : Int)) := hb.cell 1
  have hf1 : w.frozen? ⟨q, 1, none⟩ = false := hb.free 1
  clear hb
  unfold ndE
  by_cases he : e = 0
  · subst he
    by_cases hl : 0 < l.length
    · rw [if_pos ⟨rfl, hl⟩]
      go_enter Try.func22, Try.ntmps22
      go_wp2
      go_ret
      exact ⟨rfl, HR.out.setE 3 hS, (Frm.refl _ w).setCell q 1 _ rfl⟩
    · rw [if_neg (fun h => hl h.2)]
      have h0 : l.length = 0 := by omega
      go_enter Try.func22, Try.ntmps22
      go_wp2
      go_ret
      exact ⟨rfl, HR.out, Frm.refl _ _⟩
  · rw [if_neg (fun h => he h.1)]
    go_enter Try.func22, Try.ntmps22
    go_wp2
    go_ret
    exact ⟨rfl, HR.out, Frm.refl _ _⟩
set_option maxRecDepth 100000 in
set_option maxHeartbeats 400000 in
theorem take_nat (w : World) (q : Nat) (l : List UInt8) (e : Nat) {S : Nat → Prop} (hR : Rr w q l e S) (k : Int) (n : Nat) (hk : k.toNat = n) (hkn : k = (n : Int)) (hS : S q) :
    Calls Try.prog 37 #[.pointer (some ⟨q, 0, none⟩), .int .i64 k] w fun en w' => ∃ A m c, en = .returned (.slice A m c) ∧ Own w' w.heap.size A m c (tkV l e n) ∧ Rr w' q (tkL l e n) (tkE l e n) S ∧ Frm (fun i => i = q) w w' := by
  have HR := Lib.hid hR
  obtain ⟨A, c, hb, hrd, hlc, hcm, h47⟩ := hR
  have hc0 : w.cell? ⟨q, 0, none⟩ = some (.slice A l.length c) := hb.cell 0
  have hc1 : w.cell? ⟨q, 1, none⟩ = some (.int .i64 (e : Int)) := hb.cell 1
  have hf1 : w.frozen? ⟨q, 1, none⟩ = false := hb.free 1
  have HB := Lib.hid (And.intro hb hrd)
  clear hb hrd
  subst hkn
  clear hk
  unfold tkV tkL tkE
  by_cases he : e = 0
  · subst he
    by_cases hn : n ≤ l.length
    · rw [if_pos ⟨rfl, hn⟩, if_pos ⟨rfl, hn⟩, if_pos rfl, if_pos hn]
      have hs2 := fun W => run_subL (P := Try.prog) 22 5 Try.underlying22 size8 A l.length c n (n : Int) rfl hn W
      have HC := Lib.hid (clone_calls A n c (l.take n) w (by omega) (HB.out.2.rd.take hn))
      go_enter Try.func37, Try.ntmps37
      go_wp2_with (go_at_call 35; refine HC.out.mono ?_; rintro e' w1 ⟨A1, n1, c1, rfl, ho1, hb1⟩
                   have hb2 := Blk.below HB.out.1 hb1 HB.out.1.lt
                   have hd0 : w1.cell? ⟨q, 0, none⟩ = some (.slice A l.length c) := hb2.cell 0
                   have hd1 : w1.frozen? ⟨q, 0, none⟩ = false := hb2.free 0)
      go_ret
      have hf : Frm (fun i => i = q) w (w1.setCell ⟨q, 0, none⟩ (.slice (sub A c n) (l.length - n) (c - n))) := (Frm.of_below hb1).setCell q 0 _ rfl
      refine ⟨A1, n1, c1, rfl, ho1.frm (S := fun i => i = q) ((Frm.refl _ w1).setCell q 0 _ rfl) (fun g hg e => by have := (ho1.lt hg).2; have := HB.out.1.lt; omega), ?_, hf⟩
      have hfS : Frm S w (w1.setCell ⟨q, 0, none⟩ (.slice (sub A c n) (l.length - n) (c - n))) := (Frm.of_below hb1).setCell q 0 _ hS
      have hd := (HB.out.2.frm hfS).drop n hlc
      have hset := hb2.set 0 (.slice (sub A c n) (l.length - n) (c - n))
      exact Rr.mk hset hd (by omega) (by omega) (by omega)
    · rw [if_neg (fun h => hn h.2), if_neg (fun h => hn h.2), if_pos rfl, if_neg hn]
      go_enter Try.func37, Try.ntmps37
      go_wp2
      go_ret
      exact ⟨_, _, _, rfl, Own.nil _ _, HR.out.setE 2 hS, (Frm.refl _ w).setCell q 1 _ rfl⟩
  · rw [if_neg (fun h => he h.1), if_neg (fun h => he h.1), if_neg he]
    go_enter Try.func37, Try.ntmps37
    go_wp2
    go_ret
    exact ⟨_, _, _, rfl, Own.nil _ _, HR.out, Frm.refl _ _⟩
set_option maxRecDepth 100000 in
set_option maxHeartbeats 400000 in
theorem take_neg (w : World) (q : Nat) (l : List UInt8) (e : Nat) {S : Nat → Prop} (hR : Rr w q l e S) (k : Int) (n : Nat) (hk : k.toNat = n) (hkn : k < 0) (hS : S q) :
    Calls Try.prog 37 #[.pointer (some ⟨q, 0, none⟩), .int .i64 k] w fun en w' => ∃ A m c, en = .returned (.slice A m c) ∧ Own w' w.heap.size A m c (tkV l e n) ∧ Rr w' q (tkL l e n) (tkE l e n) S ∧ Frm (fun i => i = q) w w' := by
  have HR := Lib.hid hR
  obtain ⟨A, c, hb, hrd, hlc, hcm, h47⟩ := hR
  have hc0 : w.cell? ⟨q, 0, none⟩ = some (.slice A l.length c) := hb.cell 0
  have hc1 : w.cell? ⟨q, 1, none⟩ = some (.int .i64 (e : Int)) := hb.cell 1
  have hf1 : w.frozen? ⟨q, 1, none⟩ = false := hb.free 1
  have HB := Lib.hid (And.intro hb hrd)
  clear hb hrd
  have hn0 : n = 0 := by omega
  subst hn0
  clear hk
  unfold tkV tkL tkE
  by_cases he : e = 0
  · subst he
    by_cases hn : 0 ≤ l.length
    · rw [if_pos ⟨rfl, hn⟩, if_pos ⟨rfl, hn⟩, if_pos rfl, if_pos hn]
      have hs2 := fun W => run_subL (P := Try.prog) 22 5 Try.underlying22 size8 A l.length c 0 0 rfl hn W
      have HC := Lib.hid (clone_calls A 0 c (l.take 0) w (by omega) (HB.out.2.rd.take hn))
      go_enter Try.func37, Try.ntmps37
      go_wp2_with (go_at_call 35; refine HC.out.mono ?_; rintro e' w1 ⟨A1, n1, c1, rfl, ho1, hb1⟩
                   have hb2 := Blk.below HB.out.1 hb1 HB.out.1.lt
                   have hd0 : w1.cell? ⟨q, 0, none⟩ = some (.slice A l.length c) := hb2.cell 0
                   have hd1 : w1.frozen? ⟨q, 0, none⟩ = false := hb2.free 0)
      go_ret
      have hf : Frm (fun i => i = q) w (w1.setCell ⟨q, 0, none⟩ (.slice (sub A c 0) (l.length - 0) (c - 0))) := (Frm.of_below hb1).setCell q 0 _ rfl
      refine ⟨A1, n1, c1, rfl, ho1.frm (S := fun i => i = q) ((Frm.refl _ w1).setCell q 0 _ rfl) (fun g hg e => by have := (ho1.lt hg).2; have := HB.out.1.lt; omega), ?_, hf⟩
      have hfS : Frm S w (w1.setCell ⟨q, 0, none⟩ (.slice (sub A c 0) (l.length - 0) (c - 0))) := (Frm.of_below hb1).setCell q 0 _ hS
      have hd := (HB.out.2.frm hfS).drop 0 hlc
      have hset := hb2.set 0 (.slice (sub A c 0) (l.length - 0) (c - 0))
      exact Rr.mk hset hd (by omega) (by omega) (by omega)
    · rw [if_neg (fun h => hn h.2), if_neg (fun h => hn h.2), if_pos rfl, if_neg hn]
      exact absurd (Nat.zero_le _) hn
  · rw [if_neg (fun h => he h.1), if_neg (fun h => he h.1), if_neg he]
    go_enter Try.func37, Try.ntmps37
    go_wp2
    go_ret
    exact ⟨_, _, _, rfl, Own.nil _ _, HR.out, Frm.refl _ _⟩
set_option maxRecDepth 100000 in
theorem take_calls (w : World) (q : Nat) (l : List UInt8) (e : Nat) {S : Nat → Prop} (hR : Rr w q l e S) (k : Int) (n : Nat) (hk : k.toNat = n) (hS : S q := by rfl) :
    Calls Try.prog 37 #[.pointer (some ⟨q, 0, none⟩), .int .i64 k] w fun en w' => ∃ A m c, en = .returned (.slice A m c) ∧ Own w' w.heap.size A m c (tkV l e n) ∧ Rr w' q (tkL l e n) (tkE l e n) S ∧ Frm (fun i => i = q) w w' := by
  by_cases h : k < 0
  · exact take_neg w q l e hR k n hk h hS
  · exact take_nat w q l e hR k n hk (by omega) hS
set_option maxRecDepth 100000 in
/-- A reader whose bytes lie below a bound, and back. -/
theorem Rr.wide {w W : World} {q e : Nat} {l : List UInt8} {S : Nat → Prop} (h : Rr w q l e S) (hb : Below w.heap.size w W) : Rr W q l e (fun i => S i ∨ w.heap.size ≤ i) := by
  obtain ⟨A, c, h1, h2, h3⟩ := h
  exact ⟨A, c, h1.below hb h1.lt, h2.turn (Frm.of_below hb) (fun i hi => hi), h3⟩
set_option maxRecDepth 100000 in
theorem Rr.narrow {w w' : World} {q e : Nat} {l : List UInt8} {S T : Nat → Prop} (h : Rr w q l e S) (hT : ∀ i, T i → S i) (hq : w'.heap[q]? = w.heap[q]?) (hf : Frm S w w') : Rr w' q l e T := by
  obtain ⟨A, c, h1, h2, h3⟩ := h
  refine ⟨A, c, hq.trans h1, ?_, h3⟩
  refine ⟨h2.1, fun hn => ?_⟩
  obtain ⟨b, off, e, hb, hlt, hc⟩ := (h2.frm hf).2 hn
  exact ⟨b, off, e, fun h => hb (hT b h), hlt, hc⟩
end Go.Proofs.Ythkkllcpogagiaa
