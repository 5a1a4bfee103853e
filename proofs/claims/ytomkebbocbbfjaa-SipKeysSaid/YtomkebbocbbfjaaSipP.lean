/- The contracts of sip.repeat, sip.process, sip.initial and sip.lastWord. -/
import Derived.Test.YtomkebbocbbfjaaSipR
import Derived.Test.YtomkebbocbbfjaaNum
import Derived.Test.YtomkebbocbbfjaaBlk2
namespace Go.Proofs.Ytomkebbocbbfjaa
open Go.RowKit
set_option linter.unusedVariables false

def Q.vals (q : Q) : List Value := [.int .u64 (q.a : Int), .int .u64 (q.b : Int), .int .u64 (q.c : Int), .int .u64 (q.d : Int)]
theorem i4 (q : Q) : (Try.prog.info? 29).map (·.size) = some q.vals.length := by
  show (Try.prog.info? 29).map (·.size) = some 4
  kernel_rfl
theorem q_one (q : Q) : ∀ v ∈ q.vals, v.oneCell' = true := fun v hv => by
  simp only [Q.vals, List.mem_cons, List.not_mem_nil, or_false] at hv
  rcases hv with rfl | rfl | rfl | rfl <;> rfl
theorem q_len (q : Q) : q.vals.length = 4 := rfl
def zero4 : Q := ⟨0, 0, 0, 0⟩
theorem q_same (q r : Q) : q.vals.length = r.vals.length := rfl

set_option maxHeartbeats 1000000 in
theorem repeat_calls (q : Q) (n : Nat) (w : World) (hq : q.ok) (hn : n ≤ 100) :
    Calls Try.prog 21 #[.agg q.arr, .int .i64 (n : Int)] w (Ret w (.agg (Q.rounds n q).arr)) := by
  have HQ := Lib.hid hq
  obtain ⟨g, hg⟩ : ∃ g, g = w.heap.size := ⟨_, rfl⟩
  clear hq
  go_enter Try.func21, Try.ntmps21
  go_wp2
  go_loopw [6] (fun i wr => ∃ t : Nat, t ≤ n ∧ i = .int .i64 t ∧ Blk wr w.heap.size (Q.rounds t q).vals 29 ∧ Blk wr (w.heap.size + 1) zero4.vals 29 ∧ Below w.heap.size w wr) (fun i _ => n - (intOf i).toNat)
  case atStart =>
    refine ⟨0, Nat.zero_le _, rfl, (Blk.new w _ _).alloc _, ?_, ((Below.refl _ w).alloc (Nat.le_refl _) _).alloc (by simp) _⟩
    exact Blk.new' (w.alloc _) _ _ _ (by simp)
  case round =>
    obtain ⟨t, ht, rfl, hb, hz, hbel⟩ := hrel
    have hR := Q.rounds_ok t q HQ.out
    have hlt1 := hb.lt
    by_cases hlt : t < n
    · obtain ⟨R, hRe⟩ : ∃ R, R = Q.rounds t q := ⟨_, rfl⟩
      rw [← hRe] at hb hR
      have hs : R.round = Q.rounds (t + 1) q := by rw [hRe]; rfl
      have HB := Lib.hid hb
      have HZ := Lib.hid hz
      have HL := Lib.hid hbel
      have HR := Lib.hid hR
      have HS := Lib.hid hs
      clear hb hz hbel hR hs hRe
      go_wp2_with (first
        | (refine at_load 29 (.tmp 2) ?_; refine wpList_load_mid rfl 29 (.tmp 2) rfl w.heap.size 0 rfl R.vals _ HB.out.range Try.underlying29 rfl (i4 R) ?_)
        | (go_at_call 11; refine (sround_calls R _ HR.out).mono ?_; rintro e' w2 ⟨rfl, hbel2⟩)
        | (refine at_store 29 (.tmp 2) (.tmp 9) ?_; refine wpList_store_blk rfl 29 (.tmp 2) (.tmp 9) rfl w.heap.size R.vals R.round.vals _ rfl rfl (HB.out.below hbel2 HB.out.lt) (q_same _ _) (i4 _) (q_one _) ?_; intro w3 hb3 ho3))
      go_roundw
      case rel =>
        rw [HS.out] at hb3
        exact ⟨t + 1, by omega, by go_num, hb3, ho3.blk (HZ.out.below hbel2 HZ.out.lt) (by omega), (HL.out.trans (hbel2.mono HL.out.size)).trans (ho3.below (Nat.le_refl _))⟩
      case measure => simp [intOf]; omega
    · have e : t = n := by omega
      subst e
      obtain ⟨R, hRe⟩ : ∃ R, R = Q.rounds t q := ⟨_, rfl⟩
      rw [← hRe] at hb
      have HB := Lib.hid hb
      have HZ := Lib.hid hz
      have HL := Lib.hid hbel
      have HE := Lib.hid hRe
      clear hb hz hbel hR hRe
      go_wp2_with (first
        | (refine at_load 29 (.tmp 2) ?_; refine wpList_load_mid rfl 29 (.tmp 2) rfl w.heap.size 0 rfl R.vals _ HB.out.range Try.underlying29 rfl (i4 R) ?_)
        | (refine at_store 29 (.tmp 4) (.tmp 11) ?_; refine wpList_store_blk rfl 29 (.tmp 4) (.tmp 11) rfl (w.heap.size + 1) zero4.vals R.vals _ rfl rfl HZ.out (q_same _ _) (i4 _) (q_one _) ?_; intro w3 hb3 ho3))
      refine bodyPost_ret (v := .agg R.arr) ?_ rfl ⟨by rw [HE.out], HL.out.trans (ho3.below (by omega))⟩
      exact results_cell_row Try.results21 _ _ (w.heap.size + 1) 29 _ (0, 0) _ (by rfl) hb3 Try.underlying29 rfl (by rw [List.size_toArray]; exact i4 R)

set_option maxHeartbeats 1000000 in
theorem process_calls (q : Q) (m : Nat) (w : World) (hq : q.ok) (hm : m < 2 ^ 64) :
    Calls Try.prog 18 #[.agg q.arr, .int .u64 (m : Int)] w (Ret w (.agg (q.take m).arr)) := by
  have h1 := Q.xd_ok hq hm
  have h2 := Q.rounds_ok 2 _ h1
  obtain ⟨R, hR⟩ : ∃ R, R = Q.rounds 2 (q.xd m) := ⟨_, rfl⟩
  have hT : q.take m = R.xa m := by rw [hR]; rfl
  rw [hT]
  have C := Lib.hid (fun W => repeat_calls (q.xd m) 2 W h1 (by omega))
  rw [← hR] at C h2
  have hx1 : bits .xor .u64 (q.d : Int) (m : Int) = ((q.xd m).d : Int) := xor64_int _ _ hq.2.2.2 hm
  have hx2 : bits .xor .u64 (R.a : Int) (m : Int) = ((R.xa m).a : Int) := xor64_int _ _ h2.1 hm
  have e2 : R.xa m = ⟨(R.xa m).a, R.b, R.c, R.d⟩ := rfl
  have e1 : q.xd m = ⟨q.a, q.b, q.c, (q.xd m).d⟩ := rfl
  obtain ⟨D, hD⟩ : ∃ D, D = (q.xd m).d := ⟨_, rfl⟩
  obtain ⟨A, hA⟩ : ∃ A, A = (R.xa m).a := ⟨_, rfl⟩
  rw [← hD] at hx1 e1
  rw [← hA] at hx2 e2
  rw [e1] at C
  rw [e2]
  clear hD hA e1 e2 hT hR h1 h2 hq hm
  obtain ⟨a, b, c, d⟩ := q
  obtain ⟨ra, rb, rc, rd⟩ := R
  simp only at *
  go_enter Try.func18, Try.ntmps18
  unfold Q.arr
  simp only
  go_wp2_with (first
    | (go_at_call 21; refine (C.out _).mono ?_; rintro e' w2 ⟨rfl, hbel2⟩
       have hb2 : Blk w2 w.heap.size (⟨a, b, c, D⟩ : Q).vals 29 := Blk.below ((Blk.new w _ _).alloc _) hbel2 (by simp <;> omega)
       have hz2 : Blk w2 (w.heap.size + 1) zero4.vals 29 := Blk.below (Blk.new' (w.alloc _) _ _ _ (by simp)) hbel2 (by simp <;> omega)
       have hB2 : Below w.heap.size w w2 := (((Below.refl _ w).alloc (Nat.le_refl _) _).alloc (by simp) _).trans (hbel2.mono (by simp <;> omega))
       have HB := Lib.hid hb2
       have HZ := Lib.hid hz2
       have HL := Lib.hid hB2
       clear hb2 hz2 hB2 hbel2)
    | (refine at_store 29 (.tmp 2) (.tmp 11) ?_; refine wpList_store_blk rfl 29 (.tmp 2) (.tmp 11) rfl w.heap.size (⟨a, b, c, D⟩ : Q).vals (⟨ra, rb, rc, rd⟩ : Q).vals _ rfl rfl HB.out (q_same _ _) (i4 _) (q_one _) ?_; intro w3 hb3 ho3
       have c0 : w3.cell? ⟨w.heap.size, 0, none⟩ = some (.int .u64 (ra : Int)) := hb3.cell 0
       have c1 : w3.cell? ⟨w.heap.size, 1, none⟩ = some (.int .u64 (rb : Int)) := hb3.cell 1
       have c2 : w3.cell? ⟨w.heap.size, 2, none⟩ = some (.int .u64 (rc : Int)) := hb3.cell 2
       have c3 : w3.cell? ⟨w.heap.size, 3, none⟩ = some (.int .u64 (rd : Int)) := hb3.cell 3
       have f0 : w3.frozen? ⟨w.heap.size, 0, none⟩ = false := hb3.free 0
       have HB3 := Lib.hid hb3
       have HO3 := Lib.hid ho3
       clear hb3 ho3)
    | (refine at_store 29 (.tmp 4) (.tmp 17) ?_; refine wpList_store_blk rfl 29 (.tmp 4) (.tmp 17) rfl (w.heap.size + 1) zero4.vals (⟨A, rb, rc, rd⟩ : Q).vals _ rfl rfl ((HO3.out.blk HZ.out (by omega)).set_other _ _ (by simp)) (q_same _ _) (i4 _) (q_one _) ?_; intro w4 hb4 ho4))
  refine bodyPost_ret (v := .agg (⟨A, rb, rc, rd⟩ : Q).arr) ?_ rfl ⟨rfl, ((HL.out.trans (HO3.out.below (Nat.le_refl _))).setCell (Nat.le_refl _) _).trans (ho4.below (by omega))⟩
  exact results_cell_row Try.results18 _ _ (w.heap.size + 1) 29 _ (0, 0) _ (by rfl) hb4 Try.underlying29 rfl (by rw [List.size_toArray]; exact i4 _)

set_option maxHeartbeats 1000000 in
theorem initial_calls (k l : Nat) (w : World) (hk : k < 2 ^ 64) (hl : l < 2 ^ 64) :
    Calls Try.prog 17 #[.agg #[.int .u64 (k : Int), .int .u64 (l : Int)]] w (Ret w (.agg (Q.start k l).arr)) := by
  have h1 := xor64_int k 8317987319222330741 hk (by decide)
  have h2 := xor64_int l 7237128888997146477 hl (by decide)
  have h3 := xor64_int k 7816392313619706465 hk (by decide)
  have h4 := xor64_int l 8387220255154660723 hl (by decide)
  unfold Q.start
  obtain ⟨A, hA⟩ : ∃ A, A = k ^^^ 8317987319222330741 := ⟨_, rfl⟩
  obtain ⟨B, hB⟩ : ∃ A, A = l ^^^ 7237128888997146477 := ⟨_, rfl⟩
  obtain ⟨C, hC⟩ : ∃ A, A = k ^^^ 7816392313619706465 := ⟨_, rfl⟩
  obtain ⟨D, hD⟩ : ∃ A, A = l ^^^ 8387220255154660723 := ⟨_, rfl⟩
  rw [← hA, ← hB, ← hC, ← hD]
  rw [← hA] at h1
  rw [← hB] at h2
  rw [← hC] at h3
  rw [← hD] at h4
  clear hA hB hC hD
  have g1 : bits .xor .u64 (k : Int) 8317987319222330741 = (A : Int) := h1
  have g2 : bits .xor .u64 (l : Int) 7237128888997146477 = (B : Int) := h2
  have g3 : bits .xor .u64 (k : Int) 7816392313619706465 = (C : Int) := h3
  have g4 : bits .xor .u64 (l : Int) 8387220255154660723 = (D : Int) := h4
  clear h1 h2 h3 h4
  go_enter Try.func17, Try.ntmps17
  go_wp2
  refine bodyPost_ret (v := .agg (⟨A, B, C, D⟩ : Q).arr) ?_ rfl ⟨rfl, ?_⟩
  · simp [results, Try.results17, go_sem]
    rfl
  · exact ((Below.refl _ w).alloc (Nat.le_refl _) _).alloc (by simp) _

theorem last_or (b : List UInt8) (hn : b.length ≤ 100000000) : bits .or .u64 (numL ((b.drop (8 * (b.length / 8))).take 8) : Int) (IntKind.u64.wrap ((b.length : Int) * 2 ^ 56)) = (lastW b : Int) := by
  have hr := rest_lt b
  have e : IntKind.u64.wrap ((b.length : Int) * 2 ^ 56) = ((b.length % 256 * 2 ^ 56 : Nat) : Int) := by
    rw [IntKind.wrap_u64]; omega
  have hd : ((b.drop (8 * (b.length / 8))).take 8) = b.drop (8 * (b.length / 8)) := List.take_of_length_le (by rw [List.length_drop]; omega)
  rw [e, hd, u64_or_nat _ _ (by omega) (by omega)]
  congr 1
  rw [Nat.or_comm, nat_join 56 _ _ (Nat.mul_mod_left _ _) hr]
  unfold lastW
  omega
set_option maxHeartbeats 1000000 in
theorem last_calls (A : Option Addr) (c : Nat) (b : List UInt8) (w : World) (hn : b.length ≤ 100000000) (r : Nat) (hr : r = b.length - 8 * (b.length / 8)) (hrd : Rd w A r (b.drop (8 * (b.length / 8)))) :
    Calls Try.prog 20 #[.slice A r c, .int .i64 (b.length : Int)] w fun e w' => e = .returned (.int .u64 (lastW b : Int)) ∧ w = w' := by
  have h1 : bits .or .u64 (numL ((b.drop (8 * (b.length / 8))).take 8) : Int) (IntKind.u64.wrap ((b.length : Int) * 72057594037927936)) = (lastW b : Int) := last_or b hn
  obtain ⟨L, hL⟩ : ∃ L, L = lastW b := ⟨_, rfl⟩
  obtain ⟨M, hM⟩ : ∃ M, M = numL ((b.drop (8 * (b.length / 8))).take 8) := ⟨_, rfl⟩
  obtain ⟨n, hnn⟩ : ∃ n, n = b.length := ⟨_, rfl⟩
  have C := Lib.hid (num_calls A r c _ w hrd)
  rw [← hM] at h1 C
  rw [← hL] at h1 ⊢
  rw [← hnn] at h1 hn ⊢
  clear hL hM hrd hr hnn
  have hw : IntKind.u64.wrap (n : Int) = (n : Int) := by rw [IntKind.wrap_u64]; omega
  go_enter Try.func20, Try.ntmps20
  go_wp2_with (go_at_call 19; refine C.out.mono ?_; rintro e' w2 ⟨rfl, rfl⟩)
  go_ret
  exact ⟨rfl, rfl⟩
end Go.Proofs.Ytomkebbocbbfjaa
