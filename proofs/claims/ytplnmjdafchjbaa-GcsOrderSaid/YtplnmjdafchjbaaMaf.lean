/- Merged texts: SipT Arr ArrS RdL RdM. -/
import Derived.Test.YtplnmjdafchjbaaMae
import Derived.Test.YtplnmjdafchjbaaMaa
import Derived.OpenShut
import Derived.Test.YtplnmjdafchjbaaMad
import Derived.Test.YtplnmjdafchjbaaMab
/- The contract of the document's own Hash. -/
namespace Go.Proofs.Ytplnmjdafchjbaa
open Go.RowKit
set_option linter.unusedVariables false

/-- The state behind the first t numbers of a list. -/
def Q.taken (q : Q) (l : List Nat) : Nat → Q
  | 0 => q
  | t + 1 => (Q.taken q l t).take (l.getD t 0)
set_option maxRecDepth 100000 in
theorem nums_at (b : List UInt8) (M t : Nat) (h : t < M) : (nums b M).getD t 0 = wordAt (fullT b) t := by
  simp [nums, List.getD, h]
set_option maxRecDepth 100000 in
theorem taken_words (q : Q) (b : List UInt8) (M : Nat) (hM : M = b.length / 8 + 1) : ∀ t, t ≤ b.length / 8 → Q.taken q (nums b M) t = Q.words q b t
  | 0, _ => rfl
  | t + 1, h => by
    rw [Q.taken, Q.words, taken_words q b M hM t (by omega), nums_at b M t (by omega), full_word b t (by omega)]
set_option maxRecDepth 100000 in
theorem taken_all (k l : Nat) (b : List UInt8) : (Q.taken (Q.start k l) (nums b (b.length / 8 + 1)) (b.length / 8 + 1)).fin = sipH k l b := by
  rw [Q.taken, taken_words _ b _ rfl _ (Nat.le_refl _), nums_at b _ _ (by omega), full_last]
  rfl
set_option maxRecDepth 100000 in
theorem nums_lt (b : List UInt8) (M t : Nat) (h : t < M) : (nums b M).getD t 0 < 2 ^ 64 := by rw [nums_at b M t h]; exact wordAt_lt _ _
set_option maxRecDepth 100000 in
theorem taken_ok (q : Q) (b : List UInt8) (M : Nat) (h : q.ok) : ∀ t, t ≤ M → (Q.taken q (nums b M) t).ok
  | 0, _ => h
  | t + 1, ht => Q.take_ok _ _ (taken_ok q b M h t (by omega)) (nums_lt b M t (by omega))

set_option maxRecDepth 100000 in
set_option maxHeartbeats 1000000 in
theorem xhash_calls (k l : Nat) (A : Option Addr) (n c : Nat) (b : List UInt8) (w : World) (hk : k < 2 ^ 64) (hl : l < 2 ^ 64) (hn : n ≤ 100000) (hr : Rd w A n b) :
    Calls Try.prog 72 #[.int .u64 (k : Int), .int .u64 (l : Int), .slice A n c] w (Ret w (.int .u64 (sipH k l b : Int))) := by
  have hbl := hr.len
  obtain ⟨M, hM⟩ : ∃ M, M = n / 8 + 1 := ⟨_, rfl⟩
  have hMb : M ≤ 100001 := by omega
  have hM0 : 0 < M := by omega
  have hfin := taken_all k l b
  rw [hbl, ← hM] at hfin
  obtain ⟨S, hS⟩ : ∃ S, S = Q.start k l := ⟨_, rfl⟩
  rw [← hS] at hfin
  have hSok : S.ok := hS ▸ Q.start_ok k l hk hl
  have g1 : bits .xor .u64 (k : Int) 8317987319222330741 = (S.a : Int) := by rw [hS]; exact xor64_int k 8317987319222330741 hk (by decide)
  have g2 : bits .xor .u64 (l : Int) 7237128888997146477 = (S.b : Int) := by rw [hS]; exact xor64_int l 7237128888997146477 hl (by decide)
  have g3 : bits .xor .u64 (k : Int) 7816392313619706465 = (S.c : Int) := by rw [hS]; exact xor64_int k 7816392313619706465 hk (by decide)
  have g4 : bits .xor .u64 (l : Int) 8387220255154660723 = (S.d : Int) := by rw [hS]; exact xor64_int l 8387220255154660723 hl (by decide)
  obtain ⟨H, hH⟩ : ∃ H, H = sipH k l b := ⟨_, rfl⟩
  rw [← hH] at hfin ⊢
  have CN : Hid (∀ W, Rd W A n b → Calls Try.prog 100 #[.slice A n c] W fun e w' => ∃ A' c', e = .returned (.slice A' M c') ∧ Own64 w' W.heap.size A' M c' (nums b M) ∧ Below W.heap.size W w') := Lib.hid fun W h => by
    rw [hM]; exact numbers_calls A n c b W hn h
  obtain ⟨L, hL⟩ : ∃ L, L = nums b M := ⟨_, rfl⟩
  have hLlt : Hid (∀ t, t < M → L.getD t 0 < 2 ^ 64) := Lib.hid fun t ht => by rw [hL]; exact nums_lt b M t ht
  have hTok : Hid (∀ t, t ≤ M → (Q.taken S L t).ok) := Lib.hid fun t ht => by rw [hL]; exact taken_ok S b M hSok t ht
  rw [← hL] at CN hfin
  have HF := Lib.hid hfin
  have HR := Lib.hid hr
  clear hfin hL hH hS hM hbl hr hSok hk hl
  obtain ⟨sa, sb, sc, sd⟩ := S
  simp only at g1 g2 g3 g4
  go_enter Try.func72, Try.ntmps72
  go_wp2_with (go_at_call 100; refine (CN.out _ (HR.out.below ((Below.refl _ w).alloc (Nat.le_refl _) _))).mono ?_; rintro e' w1 ⟨A1, c1, rfl, hown1, hbel1⟩)
  obtain ⟨gn, rfl, hgn, hgl, hcl⟩ := hown1.at_ hM0
  have hB1 : Below w.heap.size w w1 := ((Below.refl _ w).alloc (Nat.le_refl _) _).trans (hbel1.mono (by simp))
  have hb1 : Blk w1 w.heap.size (⟨sa, sb, sc, sd⟩ : Q).vals 121 := Blk.below (Blk.new w _ _) hbel1 (by simp)
  have hgn' : w.heap.size < gn := by simp at hgn; omega
  have J1 := Lib.hid hB1
  have J2 := Lib.hid hb1
  have J3 := Lib.hid hcl
  clear hB1 hb1 hcl hgn hown1 hbel1
  go_loopw [23] (fun i wr => ∃ t : Nat, t ≤ M ∧ i = .int .i64 t ∧ Blk wr w.heap.size (Q.taken ⟨sa, sb, sc, sd⟩ L t).vals 121 ∧ gn < wr.heap.size ∧ (∀ k, k < M → wr.cell? ⟨gn, k, none⟩ = some (.int .u64 (L.getD k 0 : Int))) ∧ Below w.heap.size w wr) (fun i _ => M - (intOf i).toNat)
  case atStart => exact ⟨0, Nat.zero_le _, rfl, J2.out, hgl, J3.out, J1.out⟩
  case round =>
    obtain ⟨t, ht, rfl, hb, hg, hcl, hbel⟩ := hrel
    have hRok := hTok.out t ht
    by_cases hlt : t < M
    · obtain ⟨m, hm⟩ : ∃ m, m = L.getD t 0 := ⟨_, rfl⟩
      have hm64 : m < 2 ^ 64 := by rw [hm]; exact hLlt.out t hlt
      have cm := hcl t hlt
      rw [← hm] at cm
      have hnext : Q.taken ⟨sa, sb, sc, sd⟩ L (t + 1) = (Q.taken ⟨sa, sb, sc, sd⟩ L t).take m := by rw [hm]; rfl
      obtain ⟨R, hRe⟩ : ∃ R, R = Q.taken ⟨sa, sb, sc, sd⟩ L t := ⟨_, rfl⟩
      rw [← hRe] at hb hRok hnext
      have hXok := Q.xd_ok hRok hm64
      have hx1 : bits .xor .u64 (R.d : Int) (m : Int) = ((R.xd m).d : Int) := xor64_int _ _ hRok.2.2.2 hm64
      obtain ⟨X, hX⟩ : ∃ X, X = R.xd m := ⟨_, rfl⟩
      have hXf : X = ⟨R.a, R.b, R.c, X.d⟩ := by rw [hX]; rfl
      rw [← hX] at hx1 hXok
      obtain ⟨X1, hX1⟩ : ∃ X1, X1 = X.round := ⟨_, rfl⟩
      have hX1ok : X1.ok := by rw [hX1]; exact Q.round_ok _ hXok
      obtain ⟨X2, hX2⟩ : ∃ X2, X2 = X1.round := ⟨_, rfl⟩
      have hX2ok : X2.ok := by rw [hX2]; exact Q.round_ok _ hX1ok
      have hx2 : bits .xor .u64 (X2.a : Int) (m : Int) = ((X2.xa m).a : Int) := xor64_int _ _ hX2ok.1 hm64
      have hnext2 : (⟨(X2.xa m).a, X2.b, X2.c, X2.d⟩ : Q) = Q.taken ⟨sa, sb, sc, sd⟩ L (t + 1) := by rw [hnext, Q.take, ← hX, hX2, hX1]; rfl
      obtain ⟨E, hE⟩ : ∃ E, E = (X2.xa m).a := ⟨_, rfl⟩
      rw [← hE] at hx2 hnext2
      have CA : Hid (∀ W, Calls Try.prog 101 #[.agg X.arr] W (Ret W (.agg X1.arr))) := Lib.hid fun W => by rw [hX1]; exact rround_calls X W hXok
      have CB : Hid (∀ W, Calls Try.prog 101 #[.agg X1.arr] W (Ret W (.agg X2.arr))) := Lib.hid fun W => by rw [hX2]; exact rround_calls X1 W hX1ok
      rw [hXf] at CA
      obtain ⟨D, hD⟩ : ∃ D, D = X.d := ⟨_, rfl⟩
      rw [← hD] at hx1 CA
      have HN := Lib.hid hnext2
      have HB := Lib.hid hb
      have HC := Lib.hid hcl
      have HL := Lib.hid hbel
      clear hnext hnext2 hE hD hX2 hX2ok hX1 hX1ok hXf hX hXok hRe hRok hm hm64 hcl hbel hb
      obtain ⟨a0, b0, c0, d0⟩ := R
      obtain ⟨p0, p1, p2, p3⟩ := X1
      obtain ⟨q0, q1, q2, q3⟩ := X2
      simp only at hx1 hx2
      have k0 : wr.cell? ⟨w.heap.size, 0, none⟩ = some (.int .u64 (a0 : Int)) := HB.out.cell 0
      have k1 : wr.cell? ⟨w.heap.size, 1, none⟩ = some (.int .u64 (b0 : Int)) := HB.out.cell 1
      have k2 : wr.cell? ⟨w.heap.size, 2, none⟩ = some (.int .u64 (c0 : Int)) := HB.out.cell 2
      have k3 : wr.cell? ⟨w.heap.size, 3, none⟩ = some (.int .u64 (d0 : Int)) := HB.out.cell 3
      have f3 : wr.frozen? ⟨w.heap.size, 3, none⟩ = false := HB.out.free 3
      have bt : (t : Int) < (M : Int) := by omega
      go_wp2_with (first
        | (go_at_call_of 101 D; refine (CA.out _).mono ?_; rintro e' w2 ⟨rfl, hbel2⟩)
        | (go_at_call_of 101 p0; refine (CB.out _).mono ?_; rintro e' w4 ⟨rfl, hbel4⟩)
        | (refine at_store 121 (.tmp 7) (.tmp 33) ?_; refine wpList_store_blk rfl 121 (.tmp 7) (.tmp 33) rfl w.heap.size (⟨a0, b0, c0, D⟩ : Q).vals (⟨p0, p1, p2, p3⟩ : Q).vals _ rfl rfl (Blk.below (HB.out.set 3 _) hbel2 (by have := HB.out.lt; simpa using this)) (q_same _ _) (i4 _) (q_one _) ?_; intro w3 hb3 ho3
           have l0 : w3.cell? ⟨w.heap.size, 0, none⟩ = some (.int .u64 (p0 : Int)) := hb3.cell 0
           have l1 : w3.cell? ⟨w.heap.size, 1, none⟩ = some (.int .u64 (p1 : Int)) := hb3.cell 1
           have l2 : w3.cell? ⟨w.heap.size, 2, none⟩ = some (.int .u64 (p2 : Int)) := hb3.cell 2
           have l3 : w3.cell? ⟨w.heap.size, 3, none⟩ = some (.int .u64 (p3 : Int)) := hb3.cell 3
           have HB3 := Lib.hid hb3
           have HO3 := Lib.hid ho3
           clear hb3 ho3)
        | (refine at_store 121 (.tmp 7) (.tmp 35) ?_; refine wpList_store_blk rfl 121 (.tmp 7) (.tmp 35) rfl w.heap.size (⟨p0, p1, p2, p3⟩ : Q).vals (⟨q0, q1, q2, q3⟩ : Q).vals _ rfl rfl (HB3.out.below hbel4 HB3.out.lt) (q_same _ _) (i4 _) (q_one _) ?_; intro w5 hb5 ho5
           have n0 : w5.cell? ⟨w.heap.size, 0, none⟩ = some (.int .u64 (q0 : Int)) := hb5.cell 0
           have f0 : w5.frozen? ⟨w.heap.size, 0, none⟩ = false := hb5.free 0
           have HB5 := Lib.hid hb5
           have HO5 := Lib.hid ho5
           clear hb5 ho5))
      go_roundw
      case rel =>
        have s1 := hbel2.size
        have s2 := HO3.out.size
        have s3 := hbel4.size
        have s4 := HO5.out.size
        simp at s1
        have hne : gn ≠ w.heap.size := by omega
        refine ⟨t + 1, by omega, by go_num, ?_, by simp; omega, fun k hk => ?_, ?_⟩
        · rw [← HN.out]
          exact HB5.out.set 0 _
        · have h0 := HC.out k hk
          have b1 : (wr.setCell ⟨w.heap.size, 3, none⟩ (.int .u64 (D : Int))).cell? ⟨gn, k, none⟩ = wr.cell? ⟨gn, k, none⟩ := World.cell?_of_block (a := ⟨gn, k, none⟩) (heap_setCell_other wr ⟨w.heap.size, 3, none⟩ gn _ hne)
          have b2 := hbel2.cell (p := ⟨gn, k, none⟩) (by simp; omega)
          have b3 : w3.cell? ⟨gn, k, none⟩ = w2.cell? ⟨gn, k, none⟩ := World.cell?_of_block (a := ⟨gn, k, none⟩) (HO3.out.block gn hne)
          have b4 := hbel4.cell (p := ⟨gn, k, none⟩) (by simp; omega)
          have b5 : w5.cell? ⟨gn, k, none⟩ = w4.cell? ⟨gn, k, none⟩ := World.cell?_of_block (a := ⟨gn, k, none⟩) (HO5.out.block gn hne)
          have b6 : (w5.setCell ⟨w.heap.size, 0, none⟩ (.int .u64 (E : Int))).cell? ⟨gn, k, none⟩ = w5.cell? ⟨gn, k, none⟩ := World.cell?_of_block (a := ⟨gn, k, none⟩) (heap_setCell_other w5 ⟨w.heap.size, 0, none⟩ gn _ hne)
          rw [b6, b5, b4, b3, b2, b1, h0]
        · have h1 := (HL.out.setCell (p := ⟨w.heap.size, 3, none⟩) (Nat.le_refl _) (.int .u64 (D : Int)))
          have h2 := h1.trans (hbel2.mono h1.size)
          have h3 := h2.trans (HO3.out.below (Nat.le_refl _))
          have h4 := h3.trans (hbel4.mono h3.size)
          exact (h4.trans (HO5.out.below (Nat.le_refl _))).setCell (Nat.le_refl _) _
      case measure => simp [intOf]; omega
    · have e : t = M := by omega
      subst e
      obtain ⟨T, hT⟩ : ∃ T, T = Q.taken ⟨sa, sb, sc, sd⟩ L t := ⟨_, rfl⟩
      rw [← hT] at hb hRok
      have hYok := Q.xc_ok (m := 255) hRok (by decide)
      have x3 : bits .xor .u64 (T.c : Int) 255 = ((T.xc 255).c : Int) := xor64_int T.c 255 hRok.2.2.1 (by decide)
      obtain ⟨Y, hY⟩ : ∃ Y, Y = T.xc 255 := ⟨_, rfl⟩
      have hYf : (⟨T.a, T.b, Y.c, T.d⟩ : Q) = Y := by rw [hY]; rfl
      rw [← hY] at hYok x3
      have hfold : H = (Q.rounds 4 Y).fold := by rw [← HF.out, ← hT, Q.fin, ← hY]
      have HFO := Lib.hid hfold
      have HYF := Lib.hid hYf
      have HYO := Lib.hid hYok
      have HB := Lib.hid hb
      have HL := Lib.hid hbel
      clear hfold hYf hYok hb hbel hcl hT hRok hY
      obtain ⟨ta, tb, tc, td⟩ := T
      simp only at x3
      obtain ⟨C, hC⟩ : ∃ C, C = Y.c := ⟨_, rfl⟩
      rw [← hC] at x3 HYF
      clear hC
      have k2 : wr.cell? ⟨w.heap.size, 2, none⟩ = some (.int .u64 (tc : Int)) := HB.out.cell 2
      have f2 : wr.frozen? ⟨w.heap.size, 2, none⟩ = false := HB.out.free 2
      go_wp2
      clear k2 f2
      go_loopw [10] (fun i wq => ∃ s : Nat, s ≤ 4 ∧ i = .int .i64 s ∧ Blk wq w.heap.size (Q.rounds s Y).vals 121 ∧ Below w.heap.size w wq) (fun i _ => 4 - (intOf i).toNat)
      case atStart =>
        refine ⟨0, Nat.zero_le _, rfl, ?_, HL.out.setCell (Nat.le_refl _) _⟩
        show Blk _ _ Y.vals _
        rw [← HYF.out]
        exact HB.out.set 2 _
      case round =>
        obtain ⟨s, hs, rfl, hb, hbel⟩ := hrel
        have hRok := Q.rounds_ok s Y HYO.out
        by_cases hlt : s < 4
        · obtain ⟨R, hRe⟩ : ∃ R, R = Q.rounds s Y := ⟨_, rfl⟩
          rw [← hRe] at hb hRok
          have hsn : R.round = Q.rounds (s + 1) Y := by rw [hRe]; rfl
          have HB := Lib.hid hb
          have HL := Lib.hid hbel
          have HR := Lib.hid hRok
          have HS := Lib.hid hsn
          have bs : (s : Int) < 4 := by omega
          clear hb hbel hRok hsn hRe
          go_wp2_with (first
            | (refine at_load 121 (.tmp 7) ?_; refine wpList_load_mid rfl 121 (.tmp 7) rfl w.heap.size 0 rfl R.vals _ HB.out.range Try.underlying121 rfl (i4 R) ?_)
            | (go_at_call 101; refine (rround_calls R _ HR.out).mono ?_; rintro e' w2 ⟨rfl, hbel2⟩)
            | (refine at_store 121 (.tmp 7) (.tmp 51) ?_; refine wpList_store_blk rfl 121 (.tmp 7) (.tmp 51) rfl w.heap.size R.vals R.round.vals _ rfl rfl (HB.out.below hbel2 HB.out.lt) (q_same _ _) (i4 _) (q_one _) ?_; intro w3 hb3 ho3))
          go_roundw
          case rel =>
            rw [HS.out] at hb3
            exact ⟨s + 1, by omega, by go_num, hb3, (HL.out.trans (hbel2.mono HL.out.size)).trans (ho3.below (Nat.le_refl _))⟩
          case measure => simp [intOf]; omega
        · have e : s = 4 := by omega
          subst e
          obtain ⟨F, hF⟩ : ∃ F, F = Q.rounds 4 Y := ⟨_, rfl⟩
          rw [← hF] at hb hRok
          have hfold := HFO.out
          rw [← hF] at hfold
          have y1 : bits .xor .u64 (F.a : Int) (F.b : Int) = ((F.a ^^^ F.b : Nat) : Int) := xor64_int _ _ hRok.1 hRok.2.1
          have y2 : bits .xor .u64 ((F.a ^^^ F.b : Nat) : Int) (F.c : Int) = ((F.a ^^^ F.b ^^^ F.c : Nat) : Int) := xor64_int _ _ (xor64_lt hRok.1 hRok.2.1) hRok.2.2.1
          have y3 : bits .xor .u64 ((F.a ^^^ F.b ^^^ F.c : Nat) : Int) (F.d : Int) = (H : Int) := by
            rw [hfold]; exact xor64_int _ _ (xor64_lt (xor64_lt hRok.1 hRok.2.1) hRok.2.2.1) hRok.2.2.2
          obtain ⟨Y1, hY1⟩ : ∃ Y, Y = F.a ^^^ F.b := ⟨_, rfl⟩
          obtain ⟨Y2, hY2⟩ : ∃ Y, Y = F.a ^^^ F.b ^^^ F.c := ⟨_, rfl⟩
          rw [← hY2] at y2 y3
          rw [← hY1] at y1 y2
          clear hY1 hY2 hF hRok hfold
          obtain ⟨fa, fb, fc, fd⟩ := F
          simp only at y1 y2 y3
          have e0 : wr.cell? ⟨w.heap.size, 0, none⟩ = some (.int .u64 (fa : Int)) := hb.cell 0
          have e1 : wr.cell? ⟨w.heap.size, 1, none⟩ = some (.int .u64 (fb : Int)) := hb.cell 1
          have e2 : wr.cell? ⟨w.heap.size, 2, none⟩ = some (.int .u64 (fc : Int)) := hb.cell 2
          have e3 : wr.cell? ⟨w.heap.size, 3, none⟩ = some (.int .u64 (fd : Int)) := hb.cell 3
          clear hb
          go_wp2
          go_ret
          exact ⟨rfl, hbel⟩
end Go.Proofs.Ytplnmjdafchjbaa

/- Arrays of integers that came in, as they are read off the row's data. -/
namespace Go.Proofs.Ytplnmjdafchjbaa
open Go.RowKit

set_option maxRecDepth 100000 in
theorem mapM_ints {H : Type} {enc : TypeId × Value → H} {P : Program} {W : World} {base : Nat} {sp : Nat → Bool} {held : Bool} {e : TypeId} {q : IntKind} (he : P.underlying e = some (.int q)) {m : Nat} {cs : List Value} : ∀ (L : List Nat) (xs : List (DataW H × List MemPlace)),
    L.mapM (fun i => DataW.trod enc P W base sp held m e ((cs.drop (i * 1)).take 1)) = some xs → ∀ i ∈ L, ∃ z, (cs.drop (i * 1)).take 1 = [.int q z] ∧ (Lit.int q z).wf = true
  | [], _, _ => fun i hi => by simp at hi
  | j :: L, xs, h => by
    rw [List.mapM_cons] at h
    simp only [bind, Option.bind_eq_some_iff, pure, Option.some.injEq] at h
    obtain ⟨y, hy, ys, hys, rfl⟩ := h
    obtain ⟨a, ea, rfl, wa⟩ := DataW.trod_int he hy
    intro i hi
    rcases List.mem_cons.1 hi with rfl | hi
    · exact ⟨a, ea, wa⟩
    · exact mapM_ints he L ys hys i hi
set_option maxRecDepth 100000 in
theorem ints_of {q : IntKind} : ∀ (cs : List Value), (∀ i, i < cs.length → ∃ z, (cs.drop (i * 1)).take 1 = [.int q z] ∧ (Lit.int q z).wf = true) → ∃ zs : List Int, cs = zs.map (Value.int q) ∧ ∀ z ∈ zs, (Lit.int q z).wf = true
  | [], _ => ⟨[], rfl, fun z hz => by simp at hz⟩
  | c :: cs, h => by
    obtain ⟨z, hz, wz⟩ := h 0 (by simp)
    obtain ⟨zs, rfl, hw⟩ := ints_of cs (fun i hi => by
      obtain ⟨z, hz, wz⟩ := h (i + 1) (by simpa using hi)
      exact ⟨z, by simpa using hz, wz⟩)
    simp at hz
    exact ⟨z :: zs, by rw [hz]; rfl, fun y hy => by
      rcases List.mem_cons.1 hy with rfl | hy
      · exact wz
      · exact hw y hy⟩
set_option maxRecDepth 100000 in
/-- An array of integers. -/
theorem open_arr {H : Type} {enc : TypeId × Value → H} {P : Program} {W : World} {base : Nat} {sp : Nat → Bool} {held : Bool} {r : Reach} {b0 : Nat} {t e : TypeId} {n : Nat} {q : IntKind} {v : Value} {d : DataW H} {ps : List MemPlace}
    (hu : P.underlying t = some (.array n e)) (he : P.underlying e = some (.int q)) (hce : P.cellsOf e = 1) (hct : P.cellsOf t = n) (hv : Value.okWide P W r b0 t v) (hd : DataW.Trod enc P W base sp held t v d ps) :
    ∃ zs : List Int, zs.length = n ∧ v = .agg (zs.map (Value.int q)).toArray ∧ ∀ z ∈ zs, (Lit.int q z).wf = true := by
  simp only [Value.okWide, hu] at hv
  obtain ⟨cs, rfl, hs, _⟩ := hv
  rw [hct] at hs
  obtain ⟨fuel, hf⟩ := hd
  cases fuel with
  | zero => simp [DataW.trod] at hf
  | succ m =>
    unfold DataW.trod at hf
    simp only [hu, Value.cells] at hf
    rw [if_pos (by rw [hct]; simpa using hs)] at hf
    simp only [Option.map_eq_some_iff] at hf
    obtain ⟨ys, hy, _⟩ := hf
    rw [hce] at hy
    have h := mapM_ints he _ ys hy
    obtain ⟨zs, hz, hw⟩ := ints_of cs.toList (q := q) (fun i hi => h i (by simp at hi ⊢; omega))
    refine ⟨zs, ?_, ?_, hw⟩
    · have := congrArg List.length hz
      simp at this
      omega
    · rw [← hz]
set_option maxRecDepth 100000 in
/-- Bytes. -/
theorem bytes_of_ints (zs : List Int) (h : ∀ z ∈ zs, (Lit.int .u8 z).wf = true) : ∃ l : List UInt8, l.length = zs.length ∧ zs.map (Value.int .u8) = l.map B8 := by
  refine ⟨zs.map fun z => UInt8.ofNat z.toNat, by simp, ?_⟩
  rw [List.map_map]
  apply List.map_congr_left
  intro z hz
  have hb := bounds_u8 (h z hz)
  simp only [Function.comp, B8]
  congr 1
  rw [UInt8.toNat_ofNat']
  omega
set_option maxRecDepth 100000 in
/-- Words of 64 bits. -/
theorem nats_of_ints (zs : List Int) (h : ∀ z ∈ zs, (Lit.int .u64 z).wf = true) : ∃ l : List Nat, l.length = zs.length ∧ zs = l.map (fun n : Nat => (n : Int)) ∧ ∀ n ∈ l, n < 2 ^ 64 := by
  refine ⟨zs.map Int.toNat, by simp, ?_, ?_⟩
  · rw [List.map_map]
    conv => lhs; rw [← List.map_id zs]
    apply List.map_congr_left
    intro z hz
    have hb := bounds_u64 (h z hz)
    simp only [Function.comp, id]
    omega
  · intro n hn
    simp only [List.mem_map] at hn
    obtain ⟨z, hz, rfl⟩ := hn
    have hb := bounds_u64 (h z hz)
    omega
end Go.Proofs.Ytplnmjdafchjbaa

/- The arrays of layer 3's laws: four numbers, two numbers, a hash. -/
namespace Go.Proofs.Ytplnmjdafchjbaa
open Go.RowKit

set_option maxRecDepth 100000 in
theorem arr4 {H : Type} {enc : TypeId × Value → H} {W : World} {base : Nat} {sp : Nat → Bool} {held : Bool} {r : Reach} {b0 : Nat} {v : Value} {d : DataW H} {ps : List MemPlace}
    (hv : Value.okWide Try.prog W r b0 121 v) (hd : DataW.Trod enc Try.prog W base sp held 121 v d ps) : ∃ q : Q, v = .agg q.arr ∧ q.ok := by
  obtain ⟨zs, hl, rfl, hw⟩ := open_arr Try.underlying121 Try.underlying22 (by kernel_rfl) (by kernel_rfl) hv hd
  obtain ⟨l, hl2, rfl, hb⟩ := nats_of_ints zs hw
  simp at hl
  match l, hl with
  | [a, b, c, e], _ => exact ⟨⟨a, b, c, e⟩, rfl, hb a (by simp), hb b (by simp), hb c (by simp), hb e (by simp)⟩
set_option maxRecDepth 100000 in
theorem arr2 {H : Type} {enc : TypeId × Value → H} {W : World} {base : Nat} {sp : Nat → Bool} {held : Bool} {r : Reach} {b0 : Nat} {v : Value} {d : DataW H} {ps : List MemPlace}
    (hv : Value.okWide Try.prog W r b0 23 v) (hd : DataW.Trod enc Try.prog W base sp held 23 v d ps) : ∃ k l : Nat, v = .agg #[.int .u64 (k : Int), .int .u64 (l : Int)] ∧ k < 2 ^ 64 ∧ l < 2 ^ 64 := by
  obtain ⟨zs, hl, rfl, hw⟩ := open_arr Try.underlying23 Try.underlying22 (by kernel_rfl) (by kernel_rfl) hv hd
  obtain ⟨l, hl2, rfl, hb⟩ := nats_of_ints zs hw
  simp at hl
  match l, hl with
  | [a, b], _ => exact ⟨a, b, rfl, hb a (by simp), hb b (by simp)⟩
end Go.Proofs.Ytplnmjdafchjbaa

/- Words for lists of byte slices. -/
namespace Go.Proofs.Ytplnmjdafchjbaa
open Go.RowKit

/-- The slice of n byte slices that begins at A holds the byte lists L. -/
def RdL (w : World) (A : Option Addr) (n : Nat) (L : List (List UInt8)) : Prop :=
  L.length = n ∧ (0 < n → ∃ b off, A = some ⟨b, off, none⟩ ∧ b < w.heap.size ∧ ∀ j (h : j < L.length), ∃ A' m c', w.cell? ⟨b, off + j, none⟩ = some (.slice A' m c') ∧ m ≤ maxLen ∧ Rd w A' m L[j])
set_option maxRecDepth 100000 in
theorem RdL.len {w : World} {A : Option Addr} {n : Nat} {L : List (List UInt8)} (h : RdL w A n L) : L.length = n := h.1
set_option maxRecDepth 100000 in
theorem RdL.at_ {w : World} {A : Option Addr} {n : Nat} {L : List (List UInt8)} (h : RdL w A n L) {k : Nat} (hk : k < n) :
    ∃ b off A' m c', ∃ hl : k < L.length, A = some ⟨b, off, none⟩ ∧ w.cell? ⟨b, off + k, none⟩ = some (.slice A' m c') ∧ m ≤ maxLen ∧ Rd w A' m L[k] := by
  obtain ⟨b, off, e, hb, hc⟩ := h.2 (by omega)
  have hl : k < L.length := by have := h.1; omega
  obtain ⟨A', m, c', h1, h2, h3⟩ := hc k hl
  exact ⟨b, off, A', m, c', hl, e, h1, h2, h3⟩
set_option maxRecDepth 100000 in
theorem RdL.below {w w' : World} {A : Option Addr} {n : Nat} {L : List (List UInt8)} (h : RdL w A n L) (hb : Below w.heap.size w w') : RdL w' A n L :=
  ⟨h.1, fun hn => by
    obtain ⟨b, off, e, hlt, hc⟩ := h.2 hn
    have hs := hb.size
    refine ⟨b, off, e, by omega, fun j hj => ?_⟩
    obtain ⟨A', m, c', h1, h2, h3⟩ := hc j hj
    exact ⟨A', m, c', (hb.cell (p := ⟨b, off + j, none⟩) hlt).trans h1, h2, h3.below hb⟩⟩
set_option maxRecDepth 100000 in
theorem flat_take (L : List (List UInt8)) (t : Nat) (h : t < L.length) : (L.take (t + 1)).flatten = (L.take t).flatten ++ L[t] := by
  rw [List.take_succ_eq_append_getElem h, List.flatten_append, List.flatten_cons, List.flatten_nil, List.append_nil]
set_option maxRecDepth 100000 in
theorem flat_le (L : List (List UInt8)) (t : Nat) : (L.take t).flatten.length ≤ L.flatten.length := by
  conv => rhs; rw [← List.take_append_drop t L, List.flatten_append, List.length_append]
  omega
set_option maxRecDepth 100000 in
theorem rdl_rows {w : World} {a : Addr} {len cap : Nat} {A : Nat → Option Addr} {L C : Nat → Nat} {Z : Nat → List Int} (hl : len ≤ cap)
    (hrow : ∀ r, r < cap → w.cell? (a.add r) = some (.slice (A r) (L r) (C r)) ∧ L r ≤ C r ∧ C r ≤ maxLen ∧ (Z r).length = C r ∧ (∀ n ∈ Z r, (Lit.int .u8 n).wf = true) ∧ (A r = none → C r = 0) ∧
        ∀ a', A r = some a' → 0 ≤ a'.block ∧ ∀ c, c < C r → w.cell? (a'.add c) = some (.int .u8 ((Z r).getD c 0))) : ∃ LL, RdL w (some a) len LL := by
  refine ⟨(List.range len).map fun r => bytesOf (Z r) (L r), by simp, fun hn => ?_⟩
  obtain ⟨b, off, spot⟩ := a
  have hc := (hrow 0 (by omega)).1
  have hspot : spot = none := by simpa [Addr.add] using World.cell?_spot hc
  subst hspot
  refine ⟨b, off, rfl, lt_of_cell (a := (⟨b, off, none⟩ : Addr).add 0) hc, fun j hj => ?_⟩
  have hj' : j < len := by simpa using hj
  obtain ⟨h1, h2, h3, h4, h5, h6, h7⟩ := hrow j (by omega)
  have hp : (⟨b, off, none⟩ : Addr).add j = ⟨b, off + j, none⟩ := by unfold Addr.add; split <;> simp_all
  refine ⟨A j, L j, C j, by rw [← hp]; exact h1, by omega, ?_⟩
  rw [List.getElem_map, List.getElem_range]
  cases hA : A j with
  | none =>
    have h0 := h6 hA
    have hL : L j = 0 := by omega
    rw [hL]
    exact Rd.nil _ _
  | some x => exact rd_ints_at (fun i hi => (h7 x hA).2 i (by omega)) h2 h4 h5
end Go.Proofs.Ytplnmjdafchjbaa

/- Words for lists of byte slices, each not longer than its capacity. -/
namespace Go.Proofs.Ytplnmjdafchjbaa
open Go.RowKit
set_option linter.unusedVariables false

/-- The slice of n byte slices that begins at A holds the byte lists L. -/
def RdM (w : World) (A : Option Addr) (n : Nat) (L : List (List UInt8)) : Prop :=
  L.length = n ∧ (0 < n → ∃ b off, A = some ⟨b, off, none⟩ ∧ b < w.heap.size ∧ ∀ j (h : j < L.length), ∃ A' m c', w.cell? ⟨b, off + j, none⟩ = some (.slice A' m c') ∧ m ≤ c' ∧ c' ≤ maxLen ∧ Rd w A' m L[j])
set_option maxRecDepth 100000 in
theorem RdM.len {w : World} {A : Option Addr} {n : Nat} {L : List (List UInt8)} (h : RdM w A n L) : L.length = n := h.1
set_option maxRecDepth 100000 in
theorem RdM.at_ {w : World} {A : Option Addr} {n : Nat} {L : List (List UInt8)} (h : RdM w A n L) {k : Nat} (hk : k < n) :
    ∃ b off A' m c', ∃ hl : k < L.length, A = some ⟨b, off, none⟩ ∧ w.cell? ⟨b, off + k, none⟩ = some (.slice A' m c') ∧ m ≤ c' ∧ c' ≤ maxLen ∧ Rd w A' m L[k] := by
  obtain ⟨b, off, e, hb, hc⟩ := h.2 (by omega)
  have hl : k < L.length := by have := h.1; omega
  obtain ⟨A', m, c', h1, h2, h3, h4⟩ := hc k hl
  exact ⟨b, off, A', m, c', hl, e, h1, h2, h3, h4⟩
set_option maxRecDepth 100000 in
theorem RdM.below {w w' : World} {A : Option Addr} {n : Nat} {L : List (List UInt8)} (h : RdM w A n L) (hb : Below w.heap.size w w') : RdM w' A n L :=
  ⟨h.1, fun hn => by
    obtain ⟨b, off, e, hlt, hc⟩ := h.2 hn
    have hs := hb.size
    refine ⟨b, off, e, by omega, fun j hj => ?_⟩
    obtain ⟨A', m, c', h1, h2, h3, h4⟩ := hc j hj
    exact ⟨A', m, c', (hb.cell (p := ⟨b, off + j, none⟩) hlt).trans h1, h2, h3, h4.below hb⟩⟩
set_option maxRecDepth 100000 in
theorem rdm_rows {w : World} {a : Addr} {len cap : Nat} {A : Nat → Option Addr} {L C : Nat → Nat} {Z : Nat → List Int} (hl : len ≤ cap)
    (hrow : ∀ r, r < cap → w.cell? (a.add r) = some (.slice (A r) (L r) (C r)) ∧ L r ≤ C r ∧ C r ≤ maxLen ∧ (Z r).length = C r ∧ (∀ n ∈ Z r, (Lit.int .u8 n).wf = true) ∧ (A r = none → C r = 0) ∧
        ∀ a', A r = some a' → 0 ≤ a'.block ∧ ∀ c, c < C r → w.cell? (a'.add c) = some (.int .u8 ((Z r).getD c 0))) : ∃ LL, RdM w (some a) len LL := by
  refine ⟨(List.range len).map fun r => bytesOf (Z r) (L r), by simp, fun hn => ?_⟩
  obtain ⟨b, off, spot⟩ := a
  have hc := (hrow 0 (by omega)).1
  have hspot : spot = none := by simpa [Addr.add] using World.cell?_spot hc
  subst hspot
  refine ⟨b, off, rfl, lt_of_cell (a := (⟨b, off, none⟩ : Addr).add 0) hc, fun j hj => ?_⟩
  have hj' : j < len := by simpa using hj
  obtain ⟨h1, h2, h3, h4, h5, h6, h7⟩ := hrow j (by omega)
  have hp : (⟨b, off, none⟩ : Addr).add j = ⟨b, off + j, none⟩ := by unfold Addr.add; split <;> simp_all
  refine ⟨A j, L j, C j, by rw [← hp]; exact h1, h2, h3, ?_⟩
  rw [List.getElem_map, List.getElem_range]
  cases hA : A j with
  | none =>
    have h0 := h6 hA
    have hL : L j = 0 := by omega
    rw [hL]
    exact Rd.nil _ _
  | some x => exact rd_ints_at (fun i hi => (h7 x hA).2 i (by omega)) h2 h4 h5
set_option maxRecDepth 100000 in
/-- One byte slice, laid out anew as a list of one. -/
theorem rdm_one (W : World) (g : Nat) (hg : W.heap.size = g) (A : Option Addr) (n c : Nat) (l : List UInt8) (t : TypeId) (h : Rd W A n l) (hc : n ≤ c) (hm : c ≤ maxLen) : RdM (W.alloc (.cells #[.slice A n c] t)) (some ⟨g, 0, none⟩) 1 [l] := by
  have hb := Blk.new' W #[.slice A n c] t g hg
  refine ⟨rfl, fun _ => ⟨g, 0, rfl, hb.lt, fun j hj => ?_⟩⟩
  have : j = 0 := by simp at hj; omega
  subst this
  exact ⟨A, n, c, hb.cell 0, hc, hm, h.below ((Below.refl _ W).alloc (Nat.le_refl _) _)⟩
end Go.Proofs.Ytplnmjdafchjbaa
