/- The contracts of sip.Round and of the document's own Round. -/
import Derived.Test.YtomkebbocbbfjaaSipM
import Derived.Test.YtomkebbocbbfjaaLeft64
import Derived.Test.YtomkebbocbbfjaaRefLeft
import Derived.Test.YtomkebbocbbfjaaRet
import Derived.Deep.QuietTactic
import Derived.BigQuiet
namespace Go.Proofs.Ytomkebbocbbfjaa
open Go.RowKit

def Q.arr (q : Q) : Array Value := #[.int .u64 (q.a : Int), .int .u64 (q.b : Int), .int .u64 (q.c : Int), .int .u64 (q.d : Int)]

/-- A rotation, its argument and its answer as letters. -/
theorem l64_calls (z : Int) (x k v : Nat) (w : World) (hz : z = (x : Int)) (hx : x < 2 ^ 64) (hk : k < 64) (hv : v = rol 64 x k) :
    Calls Try.prog 23 #[.int .u64 z, .int .i64 (k : Int)] w (Quiet w (.int .u64 (v : Int))) := by
  have h := left64_calls x k w hx
  rw [show ((k : Int) % 64).toNat = k from by omega] at h
  rw [hz, hv]
  exact h
theorem add64_int (x y : Nat) : IntKind.u64.wrap ((x : Int) + (y : Int)) = (add64 x y : Int) := by
  rw [IntKind.wrap_u64]
  unfold add64
  omega
theorem xor64_int (x y : Nat) (hx : x < 2 ^ 64) (hy : y < 2 ^ 64) : bits .xor .u64 (x : Int) (y : Int) = ((x ^^^ y : Nat) : Int) := u64_xor_nat x y hx hy

/-- The same by the document's own left. -/
theorem rl64_calls (z : Int) (x k v : Nat) (w : World) (hz : z = (x : Int)) (hx : x < 2 ^ 64) (hk : k < 64) (hv : v = rol 64 x k) :
    Calls Try.prog 24 #[.int .u64 z, .int .i64 (k : Int)] w (Quiet w (.int .u64 (v : Int))) := by
  have h := fun W => left_calls x 64 k W (by omega) (by omega) hx
  rw [show ((k : Int) % (64 : Nat)).toNat = k from by omega] at h
  rw [hz, hv]
  have H := Lib.hid h
  clear h hv hx
  go_enter Try.func24, Try.ntmps24
  go_wp2_with (go_at_call 27; refine (H.out _).mono ?_; rintro e' w' ⟨rfl, rfl⟩)
  go_ret
  exact ⟨rfl, 0, rfl⟩

/-- The letters of a round. -/
theorem round_letters (q : Q) (hq : q.ok) : ∃ a1 r1 b1 a2 c1 r2 d1 a3 r3 d2 c2 r4 b2 c3 : Nat, q.round = ⟨a3, b2, c3, d2⟩ ∧
    IntKind.u64.wrap ((q.a : Int) + (q.b : Int)) = (a1 : Int) ∧ r1 = rol 64 q.b 13 ∧ bits .xor .u64 (r1 : Int) (a1 : Int) = (b1 : Int) ∧ a2 = rol 64 a1 32 ∧ IntKind.u64.wrap ((q.c : Int) + (q.d : Int)) = (c1 : Int) ∧ r2 = rol 64 q.d 16 ∧
    bits .xor .u64 (r2 : Int) (c1 : Int) = (d1 : Int) ∧ IntKind.u64.wrap ((a2 : Int) + (d1 : Int)) = (a3 : Int) ∧ r3 = rol 64 d1 21 ∧ bits .xor .u64 (r3 : Int) (a3 : Int) = (d2 : Int) ∧ IntKind.u64.wrap ((c1 : Int) + (b1 : Int)) = (c2 : Int) ∧
    r4 = rol 64 b1 17 ∧ bits .xor .u64 (r4 : Int) (c2 : Int) = (b2 : Int) ∧ c3 = rol 64 c2 32 ∧ a1 < 2 ^ 64 ∧ b1 < 2 ^ 64 ∧ d1 < 2 ^ 64 ∧ c2 < 2 ^ 64 := by
  obtain ⟨_, hb, _, hd⟩ := hq
  have h1 : rol 64 q.b 13 < 2 ^ 64 := rol_lt 64 _ _ (by omega) hb
  have h2 : rol 64 q.d 16 < 2 ^ 64 := rol_lt 64 _ _ (by omega) hd
  have h3 : rol 64 q.b 13 ^^^ add64 q.a q.b < 2 ^ 64 := xor64_lt h1 (add64_lt _ _)
  have h4 : rol 64 q.d 16 ^^^ add64 q.c q.d < 2 ^ 64 := xor64_lt h2 (add64_lt _ _)
  exact ⟨_, _, _, _, _, _, _, _, _, _, _, _, _, _, rfl, add64_int _ _, rfl, xor64_int _ _ h1 (add64_lt _ _), rfl, add64_int _ _, rfl, xor64_int _ _ h2 (add64_lt _ _), add64_int _ _, rfl, xor64_int _ _ (rol_lt 64 _ _ (by omega) h4) (add64_lt _ _), add64_int _ _,
    rfl, xor64_int _ _ (rol_lt 64 _ _ (by omega) h3) (add64_lt _ _), rfl, add64_lt _ _, h3, h4, add64_lt _ _⟩

set_option maxHeartbeats 1000000 in
theorem sround_calls (q : Q) (w : World) (hq : q.ok) :
    Calls Try.prog 11 #[.agg q.arr] w (Ret w (.agg q.round.arr)) := by
  obtain ⟨a1, r1, b1, a2, c1, r2, d1, a3, r3, d2, c2, r4, b2, c3, hR, ea1, er1, eb1, ea2, ec1, er2, ed1, ea3, er3, ed2, ec2, er4, eb2, ec3, la1, lb1, ld1, lc2⟩ := round_letters q hq
  rw [hR]
  clear hR
  obtain ⟨a, b, c, d⟩ := q
  obtain ⟨_, hb, _, hd⟩ := hq
  simp only at *
  have HB := Lib.hid hb
  have HD := Lib.hid hd
  have LA := Lib.hid la1
  have LB := Lib.hid lb1
  have LD := Lib.hid ld1
  have LC := Lib.hid lc2
  have R1 := Lib.hid er1
  have R2 := Lib.hid er2
  have R3 := Lib.hid er3
  have R4 := Lib.hid er4
  have A2 := Lib.hid ea2
  have C3 := Lib.hid ec3
  clear hb hd la1 lb1 ld1 lc2 er1 er2 er3 er4 ea2 ec3
  unfold Q.arr
  simp only
  go_enter Try.func11, Try.ntmps11
  go_wp2
  go_quiet (fail)
  go_wp2_with fail
  refine (l64_calls _ b 13 r1 _ rfl HB.out (by decide) R1.out).mono ?_
  rintro e' w' ⟨rfl, n1, rfl⟩
  go_wp2_with fail
  refine (l64_calls _ a1 32 a2 _ rfl LA.out (by decide) A2.out).mono ?_
  rintro e' w' ⟨rfl, n2, rfl⟩
  go_wp2_with fail
  refine (l64_calls _ d 16 r2 _ rfl HD.out (by decide) R2.out).mono ?_
  rintro e' w' ⟨rfl, n3, rfl⟩
  go_wp2_with fail
  refine (l64_calls _ d1 21 r3 _ rfl LD.out (by decide) R3.out).mono ?_
  rintro e' w' ⟨rfl, n4, rfl⟩
  go_wp2_with fail
  refine (l64_calls _ b1 17 r4 _ rfl LB.out (by decide) R4.out).mono ?_
  rintro e' w' ⟨rfl, n5, rfl⟩
  go_wp2_with fail
  refine (l64_calls _ c2 32 c3 _ rfl LC.out (by decide) C3.out).mono ?_
  rintro e' w' ⟨rfl, n6, rfl⟩
  go_wp2
  refine bodyPost_ret (v := .agg (⟨a3, b2, c3, d2⟩ : Q).arr) ?_ rfl ⟨rfl, ?_⟩
  · simp [results, Try.results11, go_sem]
    rfl
  · have hB : w.heap.size ≤ w.heap.size + 1 := Nat.le_succ _
    exact ((((below_drewN (((Below.refl _ w).alloc (Nat.le_refl _) _).alloc (by simp) _) _).setCell hB _).setCell hB _).setCell hB _).setCell hB _
set_option maxHeartbeats 1000000 in
theorem rround_calls (q : Q) (w : World) (hq : q.ok) :
    Calls Try.prog 12 #[.agg q.arr] w (Ret w (.agg q.round.arr)) := by
  obtain ⟨a1, r1, b1, a2, c1, r2, d1, a3, r3, d2, c2, r4, b2, c3, hR, ea1, er1, eb1, ea2, ec1, er2, ed1, ea3, er3, ed2, ec2, er4, eb2, ec3, la1, lb1, ld1, lc2⟩ := round_letters q hq
  rw [hR]
  clear hR
  obtain ⟨a, b, c, d⟩ := q
  obtain ⟨_, hb, _, hd⟩ := hq
  simp only at *
  have HB := Lib.hid hb
  have HD := Lib.hid hd
  have LA := Lib.hid la1
  have LB := Lib.hid lb1
  have LD := Lib.hid ld1
  have LC := Lib.hid lc2
  have R1 := Lib.hid er1
  have R2 := Lib.hid er2
  have R3 := Lib.hid er3
  have R4 := Lib.hid er4
  have A2 := Lib.hid ea2
  have C3 := Lib.hid ec3
  clear hb hd la1 lb1 ld1 lc2 er1 er2 er3 er4 ea2 ec3
  unfold Q.arr
  simp only
  go_enter Try.func12, Try.ntmps12
  go_wp2
  go_quiet (fail)
  go_wp2_with fail
  refine (rl64_calls _ b 13 r1 _ rfl HB.out (by decide) R1.out).mono ?_
  rintro e' w' ⟨rfl, n1, rfl⟩
  go_wp2_with fail
  refine (rl64_calls _ a1 32 a2 _ rfl LA.out (by decide) A2.out).mono ?_
  rintro e' w' ⟨rfl, n2, rfl⟩
  go_wp2_with fail
  refine (rl64_calls _ d 16 r2 _ rfl HD.out (by decide) R2.out).mono ?_
  rintro e' w' ⟨rfl, n3, rfl⟩
  go_wp2_with fail
  refine (rl64_calls _ d1 21 r3 _ rfl LD.out (by decide) R3.out).mono ?_
  rintro e' w' ⟨rfl, n4, rfl⟩
  go_wp2_with fail
  refine (rl64_calls _ b1 17 r4 _ rfl LB.out (by decide) R4.out).mono ?_
  rintro e' w' ⟨rfl, n5, rfl⟩
  go_wp2_with fail
  refine (rl64_calls _ c2 32 c3 _ rfl LC.out (by decide) C3.out).mono ?_
  rintro e' w' ⟨rfl, n6, rfl⟩
  go_wp2
  refine bodyPost_ret (v := .agg (⟨a3, b2, c3, d2⟩ : Q).arr) ?_ rfl ⟨rfl, ?_⟩
  · simp [results, Try.results12, go_sem]
    rfl
  · have hB : w.heap.size ≤ w.heap.size + 1 := Nat.le_succ _
    exact ((((below_drewN (((Below.refl _ w).alloc (Nat.le_refl _) _).alloc (by simp) _) _).setCell hB _).setCell hB _).setCell hB _).setCell hB _
end Go.Proofs.Ytomkebbocbbfjaa
