/- Merged texts: SipR SipP Sub. -/
import Derived.Test.YtplnmjdafchjbaaMab
import Derived.Test.YtplnmjdafchjbaaMaa
import Derived.Deep.QuietTactic
import Derived.BigQuiet
/- The contracts of sip.Round and of the document's own Round. -/
namespace Go.Proofs.Ytplnmjdafchjbaa
open Go.RowKit

def Q.arr (q : Q) : Array Value := #[.int .u64 (q.a : Int), .int .u64 (q.b : Int), .int .u64 (q.c : Int), .int .u64 (q.d : Int)]

set_option maxRecDepth 100000 in
/-- A rotation, its argument and its answer as letters. -/
theorem l64_calls (z : Int) (x k v : Nat) (w : World) (hz : z = (x : Int)) (hx : x < 2 ^ 64) (hk : k < 64) (hv : v = rol 64 x k) :
    Calls Try.prog 111 #[.int .u64 z, .int .i64 (k : Int)] w (Quiet w (.int .u64 (v : Int))) := by
  have h := left64_calls x k w hx
  rw [show ((k : Int) % 64).toNat = k from by omega] at h
  rw [hz, hv]
  exact h
set_option maxRecDepth 100000 in
theorem add64_int (x y : Nat) : IntKind.u64.wrap ((x : Int) + (y : Int)) = (add64 x y : Int) := by
  rw [IntKind.wrap_u64]
  unfold add64
  omega
set_option maxRecDepth 100000 in
theorem xor64_int (x y : Nat) (hx : x < 2 ^ 64) (hy : y < 2 ^ 64) : bits .xor .u64 (x : Int) (y : Int) = ((x ^^^ y : Nat) : Int) := u64_xor_nat x y hx hy

set_option maxRecDepth 100000 in
/-- The same by the document's own left. -/
theorem rl64_calls (z : Int) (x k v : Nat) (w : World) (hz : z = (x : Int)) (hx : x < 2 ^ 64) (hk : k < 64) (hv : v = rol 64 x k) :
    Calls Try.prog 110 #[.int .u64 z, .int .i64 (k : Int)] w (Quiet w (.int .u64 (v : Int))) := by
  have h := fun W => oleft_calls x 64 k W (by omega) (by omega) hx
  rw [show ((k : Int) % (64 : Nat)).toNat = k from by omega] at h
  rw [hz, hv]
  have H := Lib.hid h
  clear h hv hx
  go_enter Try.func110, Try.ntmps110
  go_wp2_with (go_at_call 113; refine (H.out _).mono ?_; rintro e' w' ⟨rfl, rfl⟩)
  go_ret
  exact ⟨rfl, 0, rfl⟩

set_option maxRecDepth 100000 in
/-- The letters of a round. -/
theorem round_letters (q : Q) (hq : q.ok) : ∃ a1 r1 b1 a2 c1 r2 d1 a3 r3 d2 c2 r4 b2 c3 : Nat, q.round = ⟨a3, b2, c3, d2⟩ ∧
    IntKind.u64.wrap ((q.a : Int) + (q.b : Int)) = (a1 : Int) ∧ r1 = rol 64 q.b 13 ∧ bits .xor .u64 (r1 : Int) (a1 : Int) = (b1 : Int) ∧ a2 = rol 64 a1 32 ∧ IntKind.u64.wrap ((q.c : Int) + (q.d : Int)) = (c1 : Int) ∧ r2 = rol 64 q.d 16 ∧
    bits .xor .u64 (r2 : Int) (c1 : Int) = (d1 : Int) ∧ IntKind.u64.wrap ((a2 : Int) + (d1 : Int)) = (a3 : Int) ∧ r3 = rol 64 d1 21 ∧ bits .xor .u64 (r3 : Int) (a3 : Int) = (d2 : Int) ∧ IntKind.u64.wrap ((c1 : Int) + (b1 : Int)) = (c2 : Int) ∧
    r4 = rol 64 b1 17 ∧ bits .xor .u64 (r4 : Int) (c2 : Int) = (b2 : Int) ∧ c3 = rol 64 c2 32 ∧ a1 < 2 ^ 64 ∧ b1 < 2 ^ 64 ∧ d1 < 2 ^ 64 ∧ c2 < 2 ^ 64 := by
  obtain ⟨_, hb, _, hd⟩ := hq
  have h1 : rol 64 q.b 13 < 2 ^ 64 := rol_lt 64 _ _ (by omega) hb
  have h2 : rol 64 q.d 16 < 2 ^ 64 := rol_lt 64 _ _ (by omega) hd
  have h3 : rol 64 q.b 13 ^^^ add64 q.a q.b < 2 ^ 64 := xor64_lt h1 (add64_lt _ _)
  have h4 : rol 64 q.d 16 ^^^ add64 q.c q.d < 2 ^ 64 := xor64_lt h2 (add64_lt _ _)
  exact ⟨_, _, _, _, _, _, _, _, _, _, _, _, _, _, rfl, add64_int _ _, rfl, xor64_int _ _ h1 (add64_lt _ _), rfl, add64_int _ _, rfl, xor64_int _ _ h2 (add64_lt _ _), add64_int _ _, rfl, xor64_int _ _ (rol_lt 64 _ _ (by omega) h4) (add64_lt _ _), add64_int _ _,
    rfl, xor64_int _ _ (rol_lt 64 _ _ (by omega) h3) (add64_lt _ _), rfl, add64_lt _ _, h3, h4, add64_lt _ _⟩

set_option maxRecDepth 100000 in
set_option maxHeartbeats 1000000 in
theorem sround_calls (q : Q) (w : World) (hq : q.ok) :
    Calls Try.prog 102 #[.agg q.arr] w (Ret w (.agg q.round.arr)) := by
  obtain ⟨a1, r1, b1, a2, c1, r2, d1, a3, r3, d2, c2, r4, b2, c3, hR, ea1, er1, eb1, ea2, ec1, er2, ed1, ea3, er3, ed2, ec2, er4, eb2, ec3, la1, lb1, ld1, lc2⟩ := round_letters q hq
  rw [hR]
  clear hR
  obtain ⟨a, b, c, d⟩ := q
  obtain ⟨_, hb, _, hd⟩ := hq
  simp only at *
  have HB := Lib.hid hb
  have HD := Lib.hid hd
  have LA := Lib.hid la1
  have LB := Lib.hid lb1
  have LD := Lib.hid ld1
  have LC := Lib.hid lc2
  have R1 := Lib.hid er1
  have R2 := Lib.hid er2
  have R3 := Lib.hid er3
  have R4 := Lib.hid er4
  have A2 := Lib.hid ea2
  have C3 := Lib.hid ec3
  clear hb hd la1 lb1 ld1 lc2 er1 er2 er3 er4 ea2 ec3
  unfold Q.arr
  simp only
  go_enter Try.func102, Try.ntmps102
  go_wp2
  go_quiet (fail)
  go_wp2_with fail
  refine (l64_calls _ b 13 r1 _ rfl HB.out (by decide) R1.out).mono ?_
  rintro e' w' ⟨rfl, n1, rfl⟩
  go_wp2_with fail
  refine (l64_calls _ a1 32 a2 _ rfl LA.out (by decide) A2.out).mono ?_
  rintro e' w' ⟨rfl, n2, rfl⟩
  go_wp2_with fail
  refine (l64_calls _ d 16 r2 _ rfl HD.out (by decide) R2.out).mono ?_
  rintro e' w' ⟨rfl, n3, rfl⟩
  go_wp2_with fail
  refine (l64_calls _ d1 21 r3 _ rfl LD.out (by decide) R3.out).mono ?_
  rintro e' w' ⟨rfl, n4, rfl⟩
  go_wp2_with fail
  refine (l64_calls _ b1 17 r4 _ rfl LB.out (by decide) R4.out).mono ?_
  rintro e' w' ⟨rfl, n5, rfl⟩
  go_wp2_with fail
  refine (l64_calls _ c2 32 c3 _ rfl LC.out (by decide) C3.out).mono ?_
  rintro e' w' ⟨rfl, n6, rfl⟩
  go_wp2
  refine bodyPost_ret (v := .agg (⟨a3, b2, c3, d2⟩ : Q).arr) ?_ rfl ⟨rfl, ?_⟩
  · simp [results, Try.results102, go_sem]
    rfl
  · have hB : w.heap.size ≤ w.heap.size + 1 := Nat.le_succ _
    exact ((((below_drewN (((Below.refl _ w).alloc (Nat.le_refl _) _).alloc (by simp) _) _).setCell hB _).setCell hB _).setCell hB _).setCell hB _
set_option maxRecDepth 100000 in
set_option maxHeartbeats 1000000 in
theorem rround_calls (q : Q) (w : World) (hq : q.ok) :
    Calls Try.prog 101 #[.agg q.arr] w (Ret w (.agg q.round.arr)) := by
  obtain ⟨a1, r1, b1, a2, c1, r2, d1, a3, r3, d2, c2, r4, b2, c3, hR, ea1, er1, eb1, ea2, ec1, er2, ed1, ea3, er3, ed2, ec2, er4, eb2, ec3, la1, lb1, ld1, lc2⟩ := round_letters q hq
  rw [hR]
  clear hR
  obtain ⟨a, b, c, d⟩ := q
  obtain ⟨_, hb, _, hd⟩ := hq
  simp only at *
  have HB := Lib.hid hb
  have HD := Lib.hid hd
  have LA := Lib.hid la1
  have LB := Lib.hid lb1
  have LD := Lib.hid ld1
  have LC := Lib.hid lc2
  have R1 := Lib.hid er1
  have R2 := Lib.hid er2
  have R3 := Lib.hid er3
  have R4 := Lib.hid er4
  have A2 := Lib.hid ea2
  have C3 := Lib.hid ec3
  clear hb hd la1 lb1 ld1 lc2 er1 er2 er3 er4 ea2 ec3
  unfold Q.arr
  simp only
  go_enter Try.func101, Try.ntmps101
  go_wp2
  go_quiet (fail)
  go_wp2_with fail
  refine (rl64_calls _ b 13 r1 _ rfl HB.out (by decide) R1.out).mono ?_
  rintro e' w' ⟨rfl, n1, rfl⟩
  go_wp2_with fail
  refine (rl64_calls _ a1 32 a2 _ rfl LA.out (by decide) A2.out).mono ?_
  rintro e' w' ⟨rfl, n2, rfl⟩
  go_wp2_with fail
  refine (rl64_calls _ d 16 r2 _ rfl HD.out (by decide) R2.out).mono ?_
  rintro e' w' ⟨rfl, n3, rfl⟩
  go_wp2_with fail
  refine (rl64_calls _ d1 21 r3 _ rfl LD.out (by decide) R3.out).mono ?_
  rintro e' w' ⟨rfl, n4, rfl⟩
  go_wp2_with fail
  refine (rl64_calls _ b1 17 r4 _ rfl LB.out (by decide) R4.out).mono ?_
  rintro e' w' ⟨rfl, n5, rfl⟩
  go_wp2_with fail
  refine (rl64_calls _ c2 32 c3 _ rfl LC.out (by decide) C3.out).mono ?_
  rintro e' w' ⟨rfl, n6, rfl⟩
  go_wp2
  refine bodyPost_ret (v := .agg (⟨a3, b2, c3, d2⟩ : Q).arr) ?_ rfl ⟨rfl, ?_⟩
  · simp [results, Try.results101, go_sem]
    rfl
  · have hB : w.heap.size ≤ w.heap.size + 1 := Nat.le_succ _
    exact ((((below_drewN (((Below.refl _ w).alloc (Nat.le_refl _) _).alloc (by simp) _) _).setCell hB _).setCell hB _).setCell hB _).setCell hB _
end Go.Proofs.Ytplnmjdafchjbaa

/- The contracts of sip.repeat, sip.process, sip.initial and sip.lastWord. -/
namespace Go.Proofs.Ytplnmjdafchjbaa
open Go.RowKit
set_option linter.unusedVariables false

def Q.vals (q : Q) : List Value := [.int .u64 (q.a : Int), .int .u64 (q.b : Int), .int .u64 (q.c : Int), .int .u64 (q.d : Int)]
set_option maxRecDepth 100000 in
theorem i4 (q : Q) : (Try.prog.info? 121).map (·.size) = some q.vals.length := by
  show (Try.prog.info? 121).map (·.size) = some 4
  kernel_rfl
set_option maxRecDepth 100000 in
theorem q_one (q : Q) : ∀ v ∈ q.vals, v.oneCell' = true := fun v hv => by
  simp only [Q.vals, List.mem_cons, List.not_mem_nil, or_false] at hv
  rcases hv with rfl | rfl | rfl | rfl <;> rfl
set_option maxRecDepth 100000 in
theorem q_len (q : Q) : q.vals.length = 4 := rfl
def zero4 : Q := ⟨0, 0, 0, 0⟩
set_option maxRecDepth 100000 in
theorem q_same (q r : Q) : q.vals.length = r.vals.length := rfl

set_option maxRecDepth 100000 in
set_option maxHeartbeats 1000000 in
theorem repeat_calls (q : Q) (n : Nat) (w : World) (hq : q.ok) (hn : n ≤ 100) :
    Calls Try.prog 77 #[.agg q.arr, .int .i64 (n : Int)] w (Ret w (.agg (Q.rounds n q).arr)) := by
  have HQ := Lib.hid hq
  obtain ⟨g, hg⟩ : ∃ g, g = w.heap.size := ⟨_, rfl⟩
  clear hq
  go_enter Try.func77, Try.ntmps77
  go_wp2
  go_loopw [6] (fun i wr => ∃ t : Nat, t ≤ n ∧ i = .int .i64 t ∧ Blk wr w.heap.size (Q.rounds t q).vals 121 ∧ Blk wr (w.heap.size + 1) zero4.vals 121 ∧ Below w.heap.size w wr) (fun i _ => n - (intOf i).toNat)
  case atStart =>
    refine ⟨0, Nat.zero_le _, rfl, (Blk.new w _ _).alloc _, ?_, ((Below.refl _ w).alloc (Nat.le_refl _) _).alloc (by simp) _⟩
    exact Blk.new' (w.alloc _) _ _ _ (by simp)
  case round =>
    obtain ⟨t, ht, rfl, hb, hz, hbel⟩ := hrel
    have hR := Q.rounds_ok t q HQ.out
    have hlt1 := hb.lt
    by_cases hlt : t < n
    · obtain ⟨R, hRe⟩ : ∃ R, R = Q.rounds t q := ⟨_, rfl⟩
      rw [← hRe] at hb hR
      have hs : R.round = Q.rounds (t + 1) q := by rw [hRe]; rfl
      have HB := Lib.hid hb
      have HZ := Lib.hid hz
      have HL := Lib.hid hbel
      have HR := Lib.hid hR
      have HS := Lib.hid hs
      clear hb hz hbel hR hs hRe
      go_wp2_with (first
        | (refine at_load 121 (.tmp 2) ?_; refine wpList_load_mid rfl 121 (.tmp 2) rfl w.heap.size 0 rfl R.vals _ HB.out.range Try.underlying121 rfl (i4 R) ?_)
        | (go_at_call 102; refine (sround_calls R _ HR.out).mono ?_; rintro e' w2 ⟨rfl, hbel2⟩)
        | (refine at_store 121 (.tmp 2) (.tmp 9) ?_; refine wpList_store_blk rfl 121 (.tmp 2) (.tmp 9) rfl w.heap.size R.vals R.round.vals _ rfl rfl (HB.out.below hbel2 HB.out.lt) (q_same _ _) (i4 _) (q_one _) ?_; intro w3 hb3 ho3))
      go_roundw
      case rel =>
        rw [HS.out] at hb3
        exact ⟨t + 1, by omega, by go_num, hb3, ho3.blk (HZ.out.below hbel2 HZ.out.lt) (by omega), (HL.out.trans (hbel2.mono HL.out.size)).trans (ho3.below (Nat.le_refl _))⟩
      case measure => simp [intOf]; omega
    · have e : t = n := by omega
      subst e
      obtain ⟨R, hRe⟩ : ∃ R, R = Q.rounds t q := ⟨_, rfl⟩
      rw [← hRe] at hb
      have HB := Lib.hid hb
      have HZ := Lib.hid hz
      have HL := Lib.hid hbel
      have HE := Lib.hid hRe
      clear hb hz hbel hR hRe
      go_wp2_with (first
        | (refine at_load 121 (.tmp 2) ?_; refine wpList_load_mid rfl 121 (.tmp 2) rfl w.heap.size 0 rfl R.vals _ HB.out.range Try.underlying121 rfl (i4 R) ?_)
        | (refine at_store 121 (.tmp 4) (.tmp 11) ?_; refine wpList_store_blk rfl 121 (.tmp 4) (.tmp 11) rfl (w.heap.size + 1) zero4.vals R.vals _ rfl rfl HZ.out (q_same _ _) (i4 _) (q_one _) ?_; intro w3 hb3 ho3))
      refine bodyPost_ret (v := .agg R.arr) ?_ rfl ⟨by rw [HE.out], HL.out.trans (ho3.below (by omega))⟩
      exact results_cell_row Try.results77 _ _ (w.heap.size + 1) 121 _ (0, 0) _ (by rfl) hb3 Try.underlying121 rfl (by rw [List.size_toArray]; exact i4 R)

set_option maxRecDepth 100000 in
set_option maxHeartbeats 1000000 in
theorem process_calls (q : Q) (m : Nat) (w : World) (hq : q.ok) (hm : m < 2 ^ 64) :
    Calls Try.prog 74 #[.agg q.arr, .int .u64 (m : Int)] w (Ret w (.agg (q.take m).arr)) := by
  have h1 := Q.xd_ok hq hm
  have h2 := Q.rounds_ok 2 _ h1
  obtain ⟨R, hR⟩ : ∃ R, R = Q.rounds 2 (q.xd m) := ⟨_, rfl⟩
  have hT : q.take m = R.xa m := by rw [hR]; rfl
  rw [hT]
  have C := Lib.hid (fun W => repeat_calls (q.xd m) 2 W h1 (by omega))
  rw [← hR] at C h2
  have hx1 : bits .xor .u64 (q.d : Int) (m : Int) = ((q.xd m).d : Int) := xor64_int _ _ hq.2.2.2 hm
  have hx2 : bits .xor .u64 (R.a : Int) (m : Int) = ((R.xa m).a : Int) := xor64_int _ _ h2.1 hm
  have e2 : R.xa m = ⟨(R.xa m).a, R.b, R.c, R.d⟩ := rfl
  have e1 : q.xd m = ⟨q.a, q.b, q.c, (q.xd m).d⟩ := rfl
  obtain ⟨D, hD⟩ : ∃ D, D = (q.xd m).d := ⟨_, rfl⟩
  obtain ⟨A, hA⟩ : ∃ A, A = (R.xa m).a := ⟨_, rfl⟩
  rw [← hD] at hx1 e1
  rw [← hA] at hx2 e2
  rw [e1] at C
  rw [e2]
  clear hD hA e1 e2 hT hR h1 h2 hq hm
  obtain ⟨a, b, c, d⟩ := q
  obtain ⟨ra, rb, rc, rd⟩ := R
  simp only at *
  go_enter Try.func74, Try.ntmps74
  unfold Q.arr
  simp only
  go_wp2_with (first
    | (go_at_call 77; refine (C.out _).mono ?_; rintro e' w2 ⟨rfl, hbel2⟩
       have hb2 : Blk w2 w.heap.size (⟨a, b, c, D⟩ : Q).vals 121 := Blk.below ((Blk.new w _ _).alloc _) hbel2 (by simp <;> omega)
       have hz2 : Blk w2 (w.heap.size + 1) zero4.vals 121 := Blk.below (Blk.new' (w.alloc _) _ _ _ (by simp)) hbel2 (by simp <;> omega)
       have hB2 : Below w.heap.size w w2 := (((Below.refl _ w).alloc (Nat.le_refl _) _).alloc (by simp) _).trans (hbel2.mono (by simp <;> omega))
       have HB := Lib.hid hb2
       have HZ := Lib.hid hz2
       have HL := Lib.hid hB2
       clear hb2 hz2 hB2 hbel2)
    | (refine at_store 121 (.tmp 2) (.tmp 11) ?_; refine wpList_store_blk rfl 121 (.tmp 2) (.tmp 11) rfl w.heap.size (⟨a, b, c, D⟩ : Q).vals (⟨ra, rb, rc, rd⟩ : Q).vals _ rfl rfl HB.out (q_same _ _) (i4 _) (q_one _) ?_; intro w3 hb3 ho3
       have c0 : w3.cell? ⟨w.heap.size, 0, none⟩ = some (.int .u64 (ra : Int)) := hb3.cell 0
       have c1 : w3.cell? ⟨w.heap.size, 1, none⟩ = some (.int .u64 (rb : Int)) := hb3.cell 1
       have c2 : w3.cell? ⟨w.heap.size, 2, none⟩ = some (.int .u64 (rc : Int)) := hb3.cell 2
       have c3 : w3.cell? ⟨w.heap.size, 3, none⟩ = some (.int .u64 (rd : Int)) := hb3.cell 3
       have f0 : w3.frozen? ⟨w.heap.size, 0, none⟩ = false := hb3.free 0
       have HB3 := Lib.hid hb3
       have HO3 := Lib.hid ho3
       clear hb3 ho3)
    | (refine at_store 121 (.tmp 4) (.tmp 17) ?_; refine wpList_store_blk rfl 121 (.tmp 4) (.tmp 17) rfl (w.heap.size + 1) zero4.vals (⟨A, rb, rc, rd⟩ : Q).vals _ rfl rfl ((HO3.out.blk HZ.out (by omega)).set_other _ _ (by simp)) (q_same _ _) (i4 _) (q_one _) ?_; intro w4 hb4 ho4))
  refine bodyPost_ret (v := .agg (⟨A, rb, rc, rd⟩ : Q).arr) ?_ rfl ⟨rfl, ((HL.out.trans (HO3.out.below (Nat.le_refl _))).setCell (Nat.le_refl _) _).trans (ho4.below (by omega))⟩
  exact results_cell_row Try.results74 _ _ (w.heap.size + 1) 121 _ (0, 0) _ (by rfl) hb4 Try.underlying121 rfl (by rw [List.size_toArray]; exact i4 _)

set_option maxRecDepth 100000 in
set_option maxHeartbeats 1000000 in
theorem initial_calls (k l : Nat) (w : World) (hk : k < 2 ^ 64) (hl : l < 2 ^ 64) :
    Calls Try.prog 73 #[.agg #[.int .u64 (k : Int), .int .u64 (l : Int)]] w (Ret w (.agg (Q.start k l).arr)) := by
  have h1 := xor64_int k 8317987319222330741 hk (by decide)
  have h2 := xor64_int l 7237128888997146477 hl (by decide)
  have h3 := xor64_int k 7816392313619706465 hk (by decide)
  have h4 := xor64_int l 8387220255154660723 hl (by decide)
  unfold Q.start
  obtain ⟨A, hA⟩ : ∃ A, A = k ^^^ 8317987319222330741 := ⟨_, rfl⟩
  obtain ⟨B, hB⟩ : ∃ A, A = l ^^^ 7237128888997146477 := ⟨_, rfl⟩
  obtain ⟨C, hC⟩ : ∃ A, A = k ^^^ 7816392313619706465 := ⟨_, rfl⟩
  obtain ⟨D, hD⟩ : ∃ A, A = l ^^^ 8387220255154660723 := ⟨_, rfl⟩
  rw [← hA, ← hB, ← hC, ← hD]
  rw [← hA] at h1
  rw [← hB] at h2
  rw [← hC] at h3
  rw [← hD] at h4
  clear hA hB hC hD
  have g1 : bits .xor .u64 (k : Int) 8317987319222330741 = (A : Int) := h1
  have g2 : bits .xor .u64 (l : Int) 7237128888997146477 = (B : Int) := h2
  have g3 : bits .xor .u64 (k : Int) 7816392313619706465 = (C : Int) := h3
  have g4 : bits .xor .u64 (l : Int) 8387220255154660723 = (D : Int) := h4
  clear h1 h2 h3 h4
  go_enter Try.func73, Try.ntmps73
  go_wp2
  refine bodyPost_ret (v := .agg (⟨A, B, C, D⟩ : Q).arr) ?_ rfl ⟨rfl, ?_⟩
  · simp [results, Try.results73, go_sem]
    rfl
  · exact ((Below.refl _ w).alloc (Nat.le_refl _) _).alloc (by simp) _

set_option maxRecDepth 100000 in
theorem last_or (b : List UInt8) (hn : b.length ≤ 100000000) : bits .or .u64 (numL ((b.drop (8 * (b.length / 8))).take 8) : Int) (IntKind.u64.wrap ((b.length : Int) * 2 ^ 56)) = (lastW b : Int) := by
  have hr := rest_lt b
  have e : IntKind.u64.wrap ((b.length : Int) * 2 ^ 56) = ((b.length % 256 * 2 ^ 56 : Nat) : Int) := by
    rw [IntKind.wrap_u64]; omega
  have hd : ((b.drop (8 * (b.length / 8))).take 8) = b.drop (8 * (b.length / 8)) := List.take_of_length_le (by rw [List.length_drop]; omega)
  rw [e, hd, u64_or_nat _ _ (by omega) (by omega)]
  congr 1
  rw [Nat.or_comm, nat_join 56 _ _ (Nat.mul_mod_left _ _) hr]
  unfold lastW
  omega
set_option maxRecDepth 100000 in
set_option maxHeartbeats 1000000 in
theorem last_calls (A : Option Addr) (c : Nat) (b : List UInt8) (w : World) (hn : b.length ≤ 100000000) (r : Nat) (hr : r = b.length - 8 * (b.length / 8)) (hrd : Rd w A r (b.drop (8 * (b.length / 8)))) :
    Calls Try.prog 76 #[.slice A r c, .int .i64 (b.length : Int)] w fun e w' => e = .returned (.int .u64 (lastW b : Int)) ∧ w = w' := by
  have h1 : bits .or .u64 (numL ((b.drop (8 * (b.length / 8))).take 8) : Int) (IntKind.u64.wrap ((b.length : Int) * 72057594037927936)) = (lastW b : Int) := last_or b hn
  obtain ⟨L, hL⟩ : ∃ L, L = lastW b := ⟨_, rfl⟩
  obtain ⟨M, hM⟩ : ∃ M, M = numL ((b.drop (8 * (b.length / 8))).take 8) := ⟨_, rfl⟩
  obtain ⟨n, hnn⟩ : ∃ n, n = b.length := ⟨_, rfl⟩
  have C := Lib.hid (num_calls A r c _ w hrd)
  rw [← hM] at h1 C
  rw [← hL] at h1 ⊢
  rw [← hnn] at h1 hn ⊢
  clear hL hM hrd hr hnn
  have hw : IntKind.u64.wrap (n : Int) = (n : Int) := by rw [IntKind.wrap_u64]; omega
  go_enter Try.func76, Try.ntmps76
  go_wp2_with (go_at_call 75; refine C.out.mono ?_; rintro e' w2 ⟨rfl, rfl⟩)
  go_ret
  exact ⟨rfl, rfl⟩
end Go.Proofs.Ytplnmjdafchjbaa

/- Slices of byte slices: where they begin and what they hold. -/
namespace Go.Proofs.Ytplnmjdafchjbaa
open Go.RowKit

/-- Where the slice from k on of a slice with capacity c begins. -/
def sub (A : Option Addr) (c k : Nat) : Option Addr := if c = k then A else A.map (·.add k)
set_option maxRecDepth 100000 in
theorem run_subL {P : Program} (t e : TypeId) (hu : P.underlying t = some (.slice e)) (hs : (P.info? e).map (·.size) = some 1) (A : Option Addr) (n c k : Nat) (z : Int) (hz : z = (k : Int)) (hk : k ≤ n) (w : World) :
    (Instr.sliceAt t (.slice A n c) (some (.int .i64 z)) none none).run P w = .ok (.slice (sub A c k) (n - k) (c - k)) w := by
  obtain ⟨i, hi, hsz⟩ := Option.map_eq_some_iff.1 hs
  subst hz
  have e2 : ∀ x, (Instr.sliceBound (.int .i64 (k : Int)) n x).run P w = .ok k w := by intro x; rw [run_sliceBound (h0 := by omega) (h1 := by omega)]; simp
  simp [Instr.sliceAt, Instr.slice, run_underlying hu, Instr.sliceBounds, e2, sizeOf, typeInfo, hi, hsz, sub]
set_option maxRecDepth 100000 in
theorem run_subH {P : Program} (t e : TypeId) (hu : P.underlying t = some (.slice e)) (hs : (P.info? e).map (·.size) = some 1) (A : Option Addr) (n c h : Nat) (z : Int) (hz : z = (h : Int)) (hh : h ≤ c) (w : World) :
    (Instr.sliceAt t (.slice A n c) none (some (.int .i64 z)) none).run P w = .ok (.slice (sub A c 0) h c) w := by
  obtain ⟨i, hi, hsz⟩ := Option.map_eq_some_iff.1 hs
  subst hz
  have e2 : ∀ x, (Instr.sliceBound (.int .i64 (h : Int)) c x).run P w = .ok h w := by intro x; rw [run_sliceBound (h0 := by omega) (h1 := by omega)]; simp
  simp [Instr.sliceAt, Instr.slice, run_underlying hu, Instr.sliceBounds, e2, sizeOf, typeInfo, hi, sub]
set_option maxRecDepth 100000 in
theorem run_subLH {P : Program} (t e : TypeId) (hu : P.underlying t = some (.slice e)) (hs : (P.info? e).map (·.size) = some 1) (A : Option Addr) (n c l h : Nat) (zl zh : Int) (hzl : zl = (l : Int)) (hzh : zh = (h : Int)) (hl : l ≤ h) (hh : h ≤ c) (w : World) :
    (Instr.sliceAt t (.slice A n c) (some (.int .i64 zl)) (some (.int .i64 zh)) none).run P w = .ok (.slice (sub A c l) (h - l) (c - l)) w := by
  obtain ⟨i, hi, hsz⟩ := Option.map_eq_some_iff.1 hs
  subst hzl hzh
  have e1 : ∀ x, (Instr.sliceBound (.int .i64 (h : Int)) c x).run P w = .ok h w := by intro x; rw [run_sliceBound (h0 := by omega) (h1 := by omega)]; simp
  have e2 : ∀ x, (Instr.sliceBound (.int .i64 (l : Int)) h x).run P w = .ok l w := by intro x; rw [run_sliceBound (h0 := by omega) (h1 := by omega)]; simp
  simp [Instr.sliceAt, Instr.slice, run_underlying hu, Instr.sliceBounds, e1, e2, sizeOf, typeInfo, hi, hsz, sub]
set_option maxRecDepth 100000 in
theorem Rd.drop {w : World} {A : Option Addr} {n c : Nat} {l : List UInt8} (h : Rd w A n l) (k : Nat) (hnc : n ≤ c) : Rd w (sub A c k) (n - k) (l.drop k) := by
  refine ⟨by rw [List.length_drop, h.1], fun hn => ?_⟩
  obtain ⟨b, off, rfl, hb, hc⟩ := h.2 (by omega)
  refine ⟨b, off + k, ?_, hb, fun j hj => ?_⟩
  · unfold sub
    rw [if_neg (by omega), Option.map_some, Addr.add_mid]
  · rw [List.length_drop] at hj
    rw [List.getElem_drop, Nat.add_assoc]
    exact hc (k + j) (by omega)
set_option maxRecDepth 100000 in
theorem Rd.mid {w : World} {A : Option Addr} {n c : Nat} {l : List UInt8} (h : Rd w A n l) (k e : Nat) (hnc : n ≤ c) (he : e ≤ n) : Rd w (sub A c k) (e - k) ((l.drop k).take (e - k)) :=
  (h.drop k hnc).take (by omega)
end Go.Proofs.Ytplnmjdafchjbaa
