/- Merged texts: RefS. -/
import Derived.Test.YthkkllcpogagiaaDoorMah
import Derived.Deep.RegionHeld3
import Derived.Deep.QuietTactic
import Derived.BigQuiet
/- The contract of the document's own Step of layer 2. -/
namespace Go.Proofs.YthkkllcpogagiaaDoor
open Go.RowKit
set_option linter.unusedVariables false

set_option maxRecDepth 100000 in
theorem wnext_lt (l : List Nat) : wnext l < 4294967296 := Nat.mod_lt _ (by omega)
set_option maxRecDepth 100000 in
theorem getD_append_lt {l r : List Nat} {k : Nat} (h1 : ∀ x ∈ l, x < 4294967296) (h2 : ∀ x ∈ r, x < 4294967296) : (l ++ r).getD k 0 < 4294967296 := by
  rw [List.getD_eq_getElem?_getD]
  cases hx : (l ++ r)[k]? with
  | none => simp
  | some x =>
    have := List.mem_of_getElem? hx
    rcases List.mem_append.1 this with h | h
    · exact h1 x h
    · exact h2 x h
set_option maxRecDepth 100000 in
theorem sched_lt' (B : List UInt8) (n k : Nat) : (sched (words B 16) n).getD k 0 < 4294967296 := by
  have h := getD_append_lt (l := sched (words B 16) n) (r := []) (k := k) (sched_all B n) (fun x hx => by simp at hx)
  simpa using h

set_option maxRecDepth 100000 in
/-- The letters of a round of the reference. -/
theorem step_letters (ρ : Nat → Nat → Nat) (hρ : ρ = rotr) (r : St) (kt wt : Nat) (hr : r.ok) : ∃ x1 S1 y1 z1 ne z2 cv y2 y3 p x2 S2 m1 m2 m3 m4 mj q d' a' : Nat,
    r.round ((kt + wt) % 4294967296) = ⟨a', r.a, r.b, r.c, d', r.e, r.f, r.g⟩ ∧ bits .xor .u32 (ρ r.e 6 : Int) (ρ r.e 11 : Int) = (x1 : Int) ∧ bits .xor .u32 (x1 : Int) (ρ r.e 25 : Int) = (S1 : Int) ∧ IntKind.u32.wrap ((r.h : Int) + (S1 : Int)) = (y1 : Int) ∧
    bits .and .u32 (r.e : Int) (r.f : Int) = (z1 : Int) ∧ IntKind.u32.wrap (4294967295 - (r.e : Int)) = (ne : Int) ∧ bits .and .u32 (ne : Int) (r.g : Int) = (z2 : Int) ∧ bits .xor .u32 (z1 : Int) (z2 : Int) = (cv : Int) ∧ IntKind.u32.wrap ((y1 : Int) + (cv : Int)) = (y2 : Int) ∧
    IntKind.u32.wrap ((y2 : Int) + (kt : Int)) = (y3 : Int) ∧ IntKind.u32.wrap ((y3 : Int) + (wt : Int)) = (p : Int) ∧ bits .xor .u32 (ρ r.a 2 : Int) (ρ r.a 13 : Int) = (x2 : Int) ∧ bits .xor .u32 (x2 : Int) (ρ r.a 22 : Int) = (S2 : Int) ∧ bits .and .u32 (r.a : Int) (r.b : Int) = (m1 : Int) ∧
    bits .and .u32 (r.a : Int) (r.c : Int) = (m2 : Int) ∧ bits .and .u32 (r.b : Int) (r.c : Int) = (m3 : Int) ∧ bits .xor .u32 (m1 : Int) (m2 : Int) = (m4 : Int) ∧ bits .xor .u32 (m4 : Int) (m3 : Int) = (mj : Int) ∧ IntKind.u32.wrap ((S2 : Int) + (mj : Int)) = (q : Int) ∧
    ((r.d : Int) + (p : Int)) % 4294967296 = (d' : Int) ∧ ((p : Int) + (q : Int)) % 4294967296 = (a' : Int) := by
  subst hρ
  rw [St.ok_iff] at hr
  obtain ⟨ha, hb, hc, hd, he, hf, hg, hh⟩ := hr
  have R := fun x k (h : x < 4294967296) => rotr_lt x k h
  have hp : ((((r.h + bigS r.e 6 11 25) % 4294967296 + ch r.e r.f r.g) % 4294967296 + kt) % 4294967296 + wt) % 4294967296 = r.p ((kt + wt) % 4294967296) := by unfold St.p; omega
  refine ⟨rotr r.e 6 ^^^ rotr r.e 11, bigS r.e 6 11 25, (r.h + bigS r.e 6 11 25) % 4294967296, r.e &&& r.f, 4294967295 - r.e, (4294967295 - r.e) &&& r.g, ch r.e r.f r.g, ((r.h + bigS r.e 6 11 25) % 4294967296 + ch r.e r.f r.g) % 4294967296, (((r.h + bigS r.e 6 11 25) % 4294967296 + ch r.e r.f r.g) % 4294967296 + kt) % 4294967296, r.p ((kt + wt) % 4294967296),
    rotr r.a 2 ^^^ rotr r.a 13, bigS r.a 2 13 22, r.a &&& r.b, r.a &&& r.c, r.b &&& r.c, (r.a &&& r.b) ^^^ (r.a &&& r.c), maj r.a r.b r.c, r.q, (r.d + r.p ((kt + wt) % 4294967296)) % 4294967296, (r.p ((kt + wt) % 4294967296) + r.q) % 4294967296, rfl, u32_xor_nat _ _ (R _ _ he) (R _ _ he), u32_xor_nat _ _ (xor_lt32 (R _ _ he) (R _ _ he)) (R _ _ he), ?_, u32_and_nat _ _ he hf, ?_, u32_and_nat _ _ (by omega) hg,
    u32_xor_nat _ _ (and_lt32 _ he) (and_lt32 _ (by omega)), ?_, ?_, ?_, u32_xor_nat _ _ (R _ _ ha) (R _ _ ha), u32_xor_nat _ _ (xor_lt32 (R _ _ ha) (R _ _ ha)) (R _ _ ha), u32_and_nat _ _ ha hb, u32_and_nat _ _ ha hc, u32_and_nat _ _ hb hc, u32_xor_nat _ _ (and_lt32 _ ha) (and_lt32 _ ha), u32_xor_nat _ _ (xor_lt32 (and_lt32 _ ha) (and_lt32 _ ha)) (and_lt32 _ hb), ?_, ?_, ?_⟩
  · rw [IntKind.wrap_u32]; omega
  · rw [IntKind.wrap_u32]; omega
  · rw [IntKind.wrap_u32]; omega
  · rw [IntKind.wrap_u32]; omega
  · rw [← hp, IntKind.wrap_u32]; omega
  · rw [IntKind.wrap_u32]; unfold St.q; omega
  · omega
  · omega
set_option maxRecDepth 100000 in
theorem add_comm' (r s : St) : r.add s = s.add r := by simp [St.add, Nat.add_comm]

set_option maxRecDepth 100000 in
set_option maxHeartbeats 16000000 in
theorem step_calls (s : St) (B : List UInt8) (A : Option Addr) (c : Nat) (w : World) (hs : s.ok) (hB : B.length = 64) (hR : Rd w A 64 B) :
    Calls Tryd.prog 41 #[.agg s.arr, .slice A 64 c] w (Ret w (.agg (comp s B).arr)) := by
  obtain ⟨b, off, rfl, hblt, hcs⟩ := hR.2 (by omega)
  have HC := Lib.hid hcs
  have HV := Lib.hid (show s.arr.toList = s.vals from rfl)
  clear hcs hR
  go_enter Tryd.func41, Tryd.ntmps41
  go_wp2
  go_loopw [5, 6] (fun o i wr => ∃ (t : Nat) (A' : Option Addr) (c' : Nat), t ≤ 16 ∧ i = .int .i64 t ∧ o = .slice A' t c' ∧ Own32 wr (w.heap.size + 2) A' t c' (words B t) ∧ Blk wr w.heap.size s.vals 83 ∧ Blk wr (w.heap.size + 1) [.int .u32 0, .int .u32 0, .int .u32 0, .int .u32 0, .int .u32 0, .int .u32 0, .int .u32 0, .int .u32 0] 83 ∧ Below w.heap.size w wr ∧ w.heap.size + 2 ≤ wr.heap.size) (fun _ i _ => 16 - (intOf i).toNat)
  case atStart => exact ⟨0, none, 0, by omega, rfl, rfl, Own32.nil _ _, (Blk.new w s.arr _).alloc _, Blk.new' (w.alloc _) _ _ _ (by simp), ((Below.refl _ w).alloc (Nat.le_refl _) _).alloc (by simp) _, by simp⟩
  case round =>
    obtain ⟨t, A', c', ht, rfl, rfl, hown, hb0, hb1, hbel, hsz⟩ := hrel
    by_cases hlt : t < 16
    · obtain ⟨q0, e0⟩ : ∃ q, q = 4 * t := ⟨_, rfl⟩
      obtain ⟨q1, e1⟩ : ∃ q, q = 4 * t + 1 := ⟨_, rfl⟩
      obtain ⟨q2, e2⟩ : ∃ q, q = 4 * t + 2 := ⟨_, rfl⟩
      obtain ⟨q3, e3⟩ : ∃ q, q = 4 * t + 3 := ⟨_, rfl⟩
      have hword := word_four B t (by omega)
      have d0 := HC.out (4 * t) (by omega)
      have d1 := HC.out (4 * t + 1) (by omega)
      have d2 := HC.out (4 * t + 2) (by omega)
      have d3 := HC.out (4 * t + 3) (by omega)
      obtain ⟨x0, f0⟩ : ∃ x, x = B[4 * t].toNat := ⟨_, rfl⟩
      obtain ⟨x1, f1⟩ : ∃ x, x = B[4 * t + 1].toNat := ⟨_, rfl⟩
      obtain ⟨x2, f2⟩ : ∃ x, x = B[4 * t + 2].toNat := ⟨_, rfl⟩
      obtain ⟨x3, f3⟩ : ∃ x, x = B[4 * t + 3].toNat := ⟨_, rfl⟩
      have l0 : x0 < 256 := by rw [f0]; exact UInt8.toNat_lt _
      have l1 : x1 < 256 := by rw [f1]; exact UInt8.toNat_lt _
      have l2 : x2 < 256 := by rw [f2]; exact UInt8.toNat_lt _
      have l3 : x3 < 256 := by rw [f3]; exact UInt8.toNat_lt _
      rw [← f0, ← e0] at d0
      rw [← f1, ← e1] at d1
      rw [← f2, ← e2] at d2
      rw [← f3, ← e3] at d3
      rw [← f0, ← f1, ← f2, ← f3] at hword
      have keep : ∀ w', Below (w.heap.size + 2) wr.drew w' → w'.cell? ⟨b, off + q0, none⟩ = some (.int .u8 (x0 : Int)) ∧ w'.cell? ⟨b, off + q1, none⟩ = some (.int .u8 (x1 : Int)) ∧ w'.cell? ⟨b, off + q2, none⟩ = some (.int .u8 (x2 : Int)) ∧ w'.cell? ⟨b, off + q3, none⟩ = some (.int .u8 (x3 : Int)) := by
        intro w' h
        have hd : Below w.heap.size w w' := hbel.trans (Below.mono (B := w.heap.size + 2) ⟨h.os, h.tape, h.output, h.size, h.block⟩ (by omega))
        exact ⟨(hd.cell (p := ⟨b, off + q0, none⟩) hblt).trans d0, (hd.cell (p := ⟨b, off + q1, none⟩) hblt).trans d1, (hd.cell (p := ⟨b, off + q2, none⟩) hblt).trans d2, (hd.cell (p := ⟨b, off + q3, none⟩) hblt).trans d3⟩
      obtain ⟨c0, c1, c2, c3⟩ := keep wr.drew (Below.refl _ _)
      have hc0 : wr.cell? ⟨b, off + q0, none⟩ = some (.int .u8 (x0 : Int)) := c0
      have hc1 : wr.cell? ⟨b, off + q1, none⟩ = some (.int .u8 (x1 : Int)) := c1
      have hc2 : wr.cell? ⟨b, off + q2, none⟩ = some (.int .u8 (x2 : Int)) := c2
      have hc3 : wr.cell? ⟨b, off + q3, none⟩ = some (.int .u8 (x3 : Int)) := c3
      have v0 : IntKind.i64.wrap (4 * (t : Int)) = (q0 : Int) := by rw [IntKind.wrap_i64]; omega
      have v1 : IntKind.i64.wrap ((q0 : Int) + 1) = (q1 : Int) := by rw [IntKind.wrap_i64]; omega
      have v2 : IntKind.i64.wrap ((q0 : Int) + 2) = (q2 : Int) := by rw [IntKind.wrap_i64]; omega
      have v3 : IntKind.i64.wrap ((q0 : Int) + 3) = (q3 : Int) := by rw [IntKind.wrap_i64]; omega
      have k0 : (q0 : Int) < 64 := by omega
      have k1 : (q1 : Int) < 64 := by omega
      have k2 : (q2 : Int) < 64 := by omega
      have k3 : (q3 : Int) < 64 := by omega
      obtain ⟨u, hu⟩ : ∃ u, u = word B t := ⟨_, rfl⟩
      rw [← hu] at hword
      have KP := Lib.hid keep
      have HW := Lib.hid (And.intro hword (And.intro l0 (And.intro l1 (And.intro l2 l3))))
      have HO := Lib.hid hown.drew
      have HU := Lib.hid hu
      have H0 := Lib.hid hb0
      have H1 := Lib.hid hb1
      have H2 := Lib.hid hbel
      have H3 := Lib.hid (show w.heap.size + 2 ≤ wr.drew.heap.size from hsz)
      clear keep c0 c1 c2 c3 d0 d1 d2 d3 f0 f1 f2 f3 hword hown hu hb0 hb1 hbel hsz e0 e1 e2 e3 l0 l1 l2 l3
      go_wp2
      go_region_held3 (fun w' => w'.cell? ⟨b, off + q0, none⟩ = some (.int .u8 (x0 : Int)) ∧ w'.cell? ⟨b, off + q1, none⟩ = some (.int .u8 (x1 : Int)) ∧ w'.cell? ⟨b, off + q2, none⟩ = some (.int .u8 (x2 : Int)) ∧ w'.cell? ⟨b, off + q3, none⟩ = some (.int .u8 (x3 : Int))) (first | go_keep | exact KP.out _ hbel5) ((refine st32_one _ wr.drew (by rfl) _ _ (by rfl) (w.heap.size + 2) A' t c' (words B t) _ u (by rfl) (by rfl) (by rfl) (by have := HW.out; simp only [IntKind.wrap_u32]; omega) HO.out (by omega) H3.out ?_; intro A5 c5 w5 hown5 hbel5))
      go_wp2
      refine ⟨?_, ?_⟩
      · have h3 := H3.out
        have hw5 : Below (w.heap.size + 2) wr w5 := ⟨hbel5.os, hbel5.tape, hbel5.output, hbel5.size, hbel5.block⟩
        have hs5 := hw5.size
        refine ⟨t + 1, A5, c5, by omega, by go_num, rfl, ?_, H0.out.below hw5 (by omega), H1.out.below hw5 (by omega), H2.out.trans (hw5.mono (by omega)), Nat.le_trans h3 hs5⟩
        rw [words_succ, ← HU.out]
        exact hown5
      · simp [intOf]; omega
    · have e : t = 16 := by omega
      subst e
      have H0 := Lib.hid hb0
      have H1 := Lib.hid hb1
      have HO := Lib.hid hown
      have H2 := Lib.hid hbel
      have H3 := Lib.hid hsz
      clear hown hb0 hb1 hbel hsz
      go_wp2
      go_loopw [5, 7] (fun o i wr => ∃ (t : Nat) (A' : Option Addr) (c' : Nat), 16 ≤ t ∧ t ≤ 64 ∧ i = .int .i64 t ∧ o = .slice A' t c' ∧ Own32 wr (w.heap.size + 2) A' t c' (sched (words B 16) (t - 16)) ∧ Blk wr w.heap.size s.vals 83 ∧ Blk wr (w.heap.size + 1) [.int .u32 0, .int .u32 0, .int .u32 0, .int .u32 0, .int .u32 0, .int .u32 0, .int .u32 0, .int .u32 0] 83 ∧ Below w.heap.size w wr ∧ w.heap.size + 2 ≤ wr.heap.size) (fun _ i _ => 64 - (intOf i).toNat)
      case atStart => exact ⟨16, A', c', Nat.le_refl _, by omega, rfl, rfl, HO.out, H0.out, H1.out, H2.out, H3.out⟩
      case round =>
        clear HO H0 H1 H2 H3
        obtain ⟨t, A', c', ht1, ht, rfl, rfl, hown, hb0, hb1, hbel, hsz⟩ := hrel
        by_cases hlt : t < 64
        · obtain ⟨L, hL⟩ : ∃ L, L = sched (words B 16) (t - 16) := ⟨_, rfl⟩
          rw [← hL] at hown
          have hLl : L.length = t := hown.len
          have hLlt : ∀ k, L.getD k 0 < 4294967296 := fun k => by rw [hL]; exact sched_lt' B (t - 16) k
          obtain ⟨g, rfl, hgb, hgl, hcl⟩ := hown.at_ (by omega)
          obtain ⟨j0, e0⟩ : ∃ j, j = t - 16 := ⟨_, rfl⟩
          obtain ⟨j1, e1⟩ : ∃ j, j = t - 15 := ⟨_, rfl⟩
          obtain ⟨j2, e2⟩ : ∃ j, j = t - 2 := ⟨_, rfl⟩
          obtain ⟨j9, e9⟩ : ∃ j, j = t - 7 := ⟨_, rfl⟩
          have v0 : IntKind.i64.wrap ((t : Int) - 16) = (j0 : Int) := by rw [IntKind.wrap_i64]; omega
          have v1 : IntKind.i64.wrap ((t : Int) - 15) = (j1 : Int) := by rw [IntKind.wrap_i64]; omega
          have v2 : IntKind.i64.wrap ((t : Int) - 2) = (j2 : Int) := by rw [IntKind.wrap_i64]; omega
          have v9 : IntKind.i64.wrap ((t : Int) - 7) = (j9 : Int) := by rw [IntKind.wrap_i64]; omega
          have k0 : (j0 : Int) < (t : Int) := by omega
          have k1 : (j1 : Int) < (t : Int) := by omega
          have k2 : (j2 : Int) < (t : Int) := by omega
          have k9 : (j9 : Int) < (t : Int) := by omega
          have c0 := hcl j0 (by omega)
          have c1 := hcl j1 (by omega)
          have c2 := hcl j2 (by omega)
          have c9 := hcl j9 (by omega)
          obtain ⟨a, ha⟩ : ∃ a, a = L.getD j0 0 := ⟨_, rfl⟩
          obtain ⟨x, hx⟩ : ∃ a, a = L.getD j1 0 := ⟨_, rfl⟩
          obtain ⟨y, hy⟩ : ∃ a, a = L.getD j2 0 := ⟨_, rfl⟩
          obtain ⟨z, hz⟩ : ∃ a, a = L.getD j9 0 := ⟨_, rfl⟩
          have lx : x < 4294967296 := by rw [hx]; exact hLlt _
          have ly : y < 4294967296 := by rw [hy]; exact hLlt _
          rw [← ha] at c0
          rw [← hx] at c1
          rw [← hy] at c2
          rw [← hz] at c9
          obtain ⟨x8, hx8⟩ : ∃ n, n = x / 8 := ⟨_, rfl⟩
          obtain ⟨y8, hy8⟩ : ∃ n, n = y / 1024 := ⟨_, rfl⟩
          have d1 : (x : Int).tdiv 8 = (x8 : Int) := by rw [Int.tdiv_eq_ediv_of_nonneg (by omega)]; omega
          have d2 : (y : Int).tdiv 1024 = (y8 : Int) := by rw [Int.tdiv_eq_ediv_of_nonneg (by omega)]; omega
          have d3 : IntKind.u32.wrap (x8 : Int) = (x8 : Int) := by rw [IntKind.wrap_u32]; omega
          have d4 : IntKind.u32.wrap (y8 : Int) = (y8 : Int) := by rw [IntKind.wrap_u32]; omega
          have rx := fun k => rotr_lt x k lx
          have ry := fun k => rotr_lt y k ly
          have s1 : bits .xor .u32 (rotr x 7 : Int) (rotr x 18 : Int) = ((rotr x 7 ^^^ rotr x 18 : Nat) : Int) := u32_xor_nat _ _ (rx _) (rx _)
          have s2 : bits .xor .u32 ((rotr x 7 ^^^ rotr x 18 : Nat) : Int) (x8 : Int) = (smallS x 7 18 3 : Int) := by rw [u32_xor_nat _ _ (xor_lt32 (rx _) (rx _)) (by omega), hx8]; rfl
          have s3 : bits .xor .u32 (rotr y 17 : Int) (rotr y 19 : Int) = ((rotr y 17 ^^^ rotr y 19 : Nat) : Int) := u32_xor_nat _ _ (ry _) (ry _)
          have s4 : bits .xor .u32 ((rotr y 17 ^^^ rotr y 19 : Nat) : Int) (y8 : Int) = (smallS y 17 19 10 : Int) := by rw [u32_xor_nat _ _ (xor_lt32 (ry _) (ry _)) (by omega), hy8]; rfl
          obtain ⟨p, hp⟩ : ∃ p, p = smallS x 7 18 3 := ⟨_, rfl⟩
          obtain ⟨q, hq⟩ : ∃ p, p = smallS y 17 19 10 := ⟨_, rfl⟩
          obtain ⟨ρ, hρ⟩ : ∃ ρ : Nat → Nat → Nat, ρ = rotr := ⟨_, rfl⟩
          rw [← hp] at s2
          rw [← hq] at s4
          rw [← hρ] at s1 s2 s3 s4
          obtain ⟨r12, hr12⟩ : ∃ p, p = ρ x 7 ^^^ ρ x 18 := ⟨_, rfl⟩
          obtain ⟨r34, hr34⟩ : ∃ p, p = ρ y 17 ^^^ ρ y 19 := ⟨_, rfl⟩
          rw [← hr12] at s1 s2
          rw [← hr34] at s3 s4
          obtain ⟨u, hu⟩ : ∃ u, u = wnext L := ⟨_, rfl⟩
          obtain ⟨u1, hu1⟩ : ∃ u, u = (a + p) % 4294967296 := ⟨_, rfl⟩
          obtain ⟨u2, hu2⟩ : ∃ u, u = (u1 + z) % 4294967296 := ⟨_, rfl⟩
          have hu3 : u = (u2 + q) % 4294967296 := by
            rw [hu, wnext, hLl, ← e0, ← e1, ← e2, ← e9, ← ha, ← hx, ← hy, ← hz, ← hp, ← hq]; omega
          have w1 : IntKind.u32.wrap ((a : Int) + (p : Int)) = (u1 : Int) := by rw [IntKind.wrap_u32]; omega
          have w2 : IntKind.u32.wrap ((u1 : Int) + (z : Int)) = (u2 : Int) := by rw [IntKind.wrap_u32]; omega
          have w3 : IntKind.u32.wrap ((u2 : Int) + (q : Int)) = (u : Int) := by rw [IntKind.wrap_u32]; omega
          have R : Hid (∀ W (v k : Nat), v < 4294967296 → k < 32 → Calls Tryd.prog 47 #[.int .u32 (v : Int), .int .i64 (k : Int)] W fun e w' => e = .returned (.int .u32 (ρ v k : Int)) ∧ w' = W) := Lib.hid fun W v k hv hk => by rw [hρ]; exact right_calls v k W hv hk
          have hnext : sched (words B 16) (t + 1 - 16) = L ++ [u] := by rw [show t + 1 - 16 = (t - 16) + 1 from by omega, sched, ← hL, ← hu]
          have HN := Lib.hid hnext
          have HO := Lib.hid hown
          have H0 := Lib.hid hb0
          have H1 := Lib.hid hb1
          have H2 := Lib.hid hbel
          have H3 := Lib.hid hsz
          clear hnext hown hb0 hb1 hbel hsz hcl hL hLl hLlt ha hx hy hz hx8 hy8 hp hq hρ hr12 hr34 hu hu1 hu2 hu3 e0 e1 e2 e9 rx ry
          go_wp2
          go_quiet (fail)
          go_wp2
          obtain ⟨wd, hwd⟩ : ∃ wd, wd = wr.drewN nq := ⟨_, rfl⟩
          rw [← hwd]
          have c0' : wd.cell? ⟨g, j0, none⟩ = some (.int .u32 (a : Int)) := by rw [hwd]; exact c0
          have c9' : wd.cell? ⟨g, j9, none⟩ = some (.int .u32 (z : Int)) := by rw [hwd]; exact c9
          have G1 : Hid (Own32 wd.drew (w.heap.size + 2) (some ⟨g, 0, none⟩) t c' L) := Lib.hid (by rw [hwd]; exact HO.out.drew.drew)
          have G3 : Hid (w.heap.size + 2 ≤ wd.drew.heap.size) := Lib.hid (by rw [hwd]; exact H3.out)
          have G0 := Lib.hid hwd
          have jt0 : j0 < t := by omega
          have jt9 : j9 < t := by omega
          have KP : Hid (∀ w' : World, (∀ k, k < t → w'.cell? ⟨g, k, none⟩ = wd.drew.cell? ⟨g, k, none⟩) → w'.cell? ⟨g, j0, none⟩ = some (.int .u32 (a : Int)) ∧ w'.cell? ⟨g, j9, none⟩ = some (.int .u32 (z : Int))) := Lib.hid fun w' h => ⟨(h j0 jt0).trans c0', (h j9 jt9).trans c9'⟩
          clear hwd c0 c1 c2 c9
          go_region_held3 (fun w' => w'.cell? ⟨g, j0, none⟩ = some (.int .u32 (a : Int)) ∧ w'.cell? ⟨g, j9, none⟩ = some (.int .u32 (z : Int))) (first | go_keep | exact KP.out _ hk5)
            (first
              | (go_at_call 47; refine (R.out _ _ _ (by assumption) (by decide)).mono ?_; rintro e' w' ⟨rfl, rfl⟩)
              | (refine st32_keeps _ wd.drew (by rfl) _ _ (by rfl) (w.heap.size + 2) g t c' L _ u (by rfl) (by rfl) (by rfl) (by rfl) G1.out (by omega) G3.out ?_; intro A5 c5 w5 hown5 hbel5 hk5))
          go_wp2
          refine ⟨?_, ?_⟩
          · have h3 := G3.out
            have hw5 : Below (w.heap.size + 2) wr w5 := by rw [G0.out] at hbel5; exact ⟨hbel5.os, hbel5.tape, hbel5.output, hbel5.size, hbel5.block⟩
            have hs5 := hw5.size
            have h30 := H3.out
            iterate 50 apply Exists.intro
            refine ⟨?_, rfl⟩
            refine ⟨t + 1, A5, c5, by omega, by omega, by go_num, rfl, ?_, H0.out.below hw5 (by omega), H1.out.below hw5 (by omega), H2.out.trans (hw5.mono (by omega)), Nat.le_trans h30 hs5⟩
            rw [HN.out]
            exact hown5
          · simp [intOf]; omega
        · have e : t = 64 := by omega
          subst e
          obtain ⟨Wl, hWl⟩ : ∃ Wl, Wl = wall B := ⟨_, rfl⟩
          have hown' : Own32 wr (w.heap.size + 2) A' 64 c' Wl := by rw [hWl]; exact hown
          obtain ⟨g, rfl, hgb, hgl, hcl⟩ := hown'.at_ (by omega)
          have HW := Lib.hid hWl
          have HC3 := Lib.hid hcl
          have H0 := Lib.hid hb0
          have H1 := Lib.hid hb1
          have H2 := Lib.hid hbel
          have H3 := Lib.hid hsz
          obtain ⟨V, hV⟩ : ∃ V, V = kk.map W32 := ⟨_, rfl⟩
          have hVl : V.length = 64 := by rw [hV, List.length_map]; exact kk_len
          have hV1 : ∀ v ∈ V, v.oneCell' = true := by rw [hV]; exact w32_one _
          have hi : (Tryd.prog.info? 92).map (·.size) = some V.length := by rw [hVl]; exact i64
          have CK : Hid (∀ W, Calls Tryd.prog 48 #[] W (Ret W (.agg V.toArray))) := Lib.hid fun W => by rw [hV]; exact K_calls W
          have HV2 := Lib.hid hV
          have HVL := Lib.hid hVl
          have HI := Lib.hid hi
          have HV1 := Lib.hid hV1
          have HI8 : Hid ((Tryd.prog.info? 83).map (·.size) = some s.vals.length) := Lib.hid (by rw [vals_len]; exact i8)
          clear hown hown' hb0 hb1 hbel hsz hcl hWl hV hVl hV1 hi
          go_wp2_with (first
            | (go_at_call 48; refine (CK.out _).mono ?_; rintro e' wk ⟨rfl, hbk⟩)
            | (refine at_store 92 (.tmp 10) (.tmp 104) ?_; refine wpList_store_blk rfl 92 (.tmp 10) (.tmp 104) rfl wk.heap.size _ V _ rfl rfl (Blk.new wk _ _) (by simp [HVL.out]) HI.out HV1.out ?_; intro w2 hb10 ho2
               have hs0 := H3.out
               have hs1 := hbk.size
               have hs2 : w2.heap.size = wk.heap.size + 1 := by rw [ho2.size]; simp
               have J0 := Lib.hid (ho2.blk ((H0.out.below hbk (by omega)).alloc _) (by omega))
               have J1 := Lib.hid (ho2.blk ((H1.out.below hbk (by omega)).alloc _) (by omega))
               have J2 := Lib.hid ((((H2.out.trans (hbk.mono (by omega))).alloc (by omega) _).trans (ho2.below (by omega))))
               have J3 := Lib.hid hs2
               have J4 := Lib.hid hb10
               have J5 := Lib.hid (And.intro hs0 hs1)
               have J6 : Hid (∀ k, k < 64 → w2.cell? ⟨g, k, none⟩ = some (.int .u32 (Wl.getD k 0 : Int))) := Lib.hid fun k hk => by
                 have h1 := hbk.cell (p := ⟨g, k, none⟩) hgl
                 have h2 : (wk.alloc (.cells (List.replicate 64 (Value.int .u32 0)).toArray 92)).cell? ⟨g, k, none⟩ = wk.cell? ⟨g, k, none⟩ := World.cell?_alloc_lt _ _ _ (by show g < wk.heap.size; omega)
                 have h3 : w2.cell? ⟨g, k, none⟩ = (wk.alloc (.cells (List.replicate 64 (Value.int .u32 0)).toArray 92)).cell? ⟨g, k, none⟩ := World.cell?_of_block (a := ⟨g, k, none⟩) (ho2.block g (by omega))
                 rw [h3, h2, h1]
                 exact HC3.out k hk
               clear hb10 ho2 hs0 hs1 hs2 hbk)
            | (refine at_load 83 (.tmp 2) ?_; refine wpList_load_mid rfl 83 (.tmp 2) rfl w.heap.size 0 rfl s.vals _ J0.out.range Tryd.underlying83 rfl HI8.out ?_)
            | (refine at_store 83 (.tmp 11) (.tmp 105) ?_; refine wpList_store_blk rfl 83 (.tmp 11) (.tmp 105) rfl w2.heap.size _ s.vals _ rfl rfl (Blk.new w2 _ _) rfl HI8.out (vals_one s) ?_; intro w3 hb11 ho3
               have hs2 := J3.out
               have hs01 := J5.out
               have hgw : g < w2.heap.size := by omega
               have M0 := Lib.hid (ho3.blk (J0.out.alloc _) (by omega))
               have M1 := Lib.hid (ho3.blk (J1.out.alloc _) (by omega))
               have M2 := Lib.hid ((J2.out.alloc (by omega) _).trans (ho3.below (by omega)))
               have M4 := Lib.hid (ho3.blk (J4.out.alloc _) (by omega))
               have M5 := Lib.hid hb11
               have M6 : Hid (∀ k, k < 64 → w3.cell? ⟨g, k, none⟩ = some (.int .u32 (Wl.getD k 0 : Int))) := Lib.hid fun k hk => by
                 have h2 : (w2.alloc (.cells #[.int .u32 0, .int .u32 0, .int .u32 0, .int .u32 0, .int .u32 0, .int .u32 0, .int .u32 0, .int .u32 0] 83)).cell? ⟨g, k, none⟩ = w2.cell? ⟨g, k, none⟩ := World.cell?_alloc_lt _ _ _ hgw
                 have h3 : w3.cell? ⟨g, k, none⟩ = (w2.alloc (.cells #[.int .u32 0, .int .u32 0, .int .u32 0, .int .u32 0, .int .u32 0, .int .u32 0, .int .u32 0, .int .u32 0] 83)).cell? ⟨g, k, none⟩ := World.cell?_of_block (a := ⟨g, k, none⟩) (ho3.block g (by omega))
                 rw [h3, h2]
                 exact J6.out k hk
               have M7 := Lib.hid (show g ≠ w2.heap.size ∧ wk.heap.size ≠ w2.heap.size ∧ w.heap.size ≠ w2.heap.size ∧ w.heap.size + 1 ≠ w2.heap.size ∧ w.heap.size ≤ w2.heap.size from by omega)
               clear hb11 ho3 hs2 hs01 hgw))
          go_loopw [12] (fun i wr => ∃ t : Nat, t ≤ 64 ∧ i = .int .i64 t ∧ Blk wr w2.heap.size (rounds s Wl t).vals 83 ∧ Only w2.heap.size w3 wr) (fun i _ => 64 - (intOf i).toNat)
          case atStart => exact ⟨0, by omega, rfl, M5.out, Only.refl _ _⟩
          case round =>
            obtain ⟨t, ht, rfl, hb, honly⟩ := hrel
            by_cases hlt : t < 64
            · obtain ⟨r, hr⟩ : ∃ r, r = rounds s Wl t := ⟨_, rfl⟩
              have hrok : r.ok := hr ▸ rounds_ok s Wl t hs
              obtain ⟨kt, hkt⟩ : ∃ x, x = kk.getD t 0 := ⟨_, rfl⟩
              obtain ⟨wt, hwt⟩ : ∃ x, x = Wl.getD t 0 := ⟨_, rfl⟩
              have hnext : rounds s Wl (t + 1) = r.round ((kt + wt) % 4294967296) := by rw [rounds, ← hr, ← hkt, ← hwt]
              rw [← hr] at hb
              have m7 := M7.out
              have ck : wr.cell? ⟨wk.heap.size, t, none⟩ = some (.int .u32 (kt : Int)) := by
                have h := (honly.blk M4.out m7.2.1).cell t
                rw [h, HV2.out, map_at kk t (by rw [kk_len]; exact hlt), hkt]
              have cw : wr.cell? ⟨g, t, none⟩ = some (.int .u32 (wt : Int)) := by
                have h : wr.cell? ⟨g, t, none⟩ = w3.cell? ⟨g, t, none⟩ := World.cell?_of_block (a := ⟨g, t, none⟩) (honly.block g m7.1)
                rw [h, M6.out t hlt, hwt]
              obtain ⟨ρ, hρ⟩ : ∃ ρ : Nat → Nat → Nat, ρ = rotr := ⟨_, rfl⟩
              obtain ⟨x1, S1, y1, z1, ne, z2, cv, y2, y3, p, x2, S2, m1, m2, m3, m4, mj, q, d', a', hround, e1, e2, e3, e4, e5, e6, e7, e8, e9, e10, e11, e12, e13, e14, e15, e16, e17, e18, e19, e20⟩ := step_letters ρ hρ r kt wt hrok
              rw [St.ok_iff] at hrok
              obtain ⟨la, _, _, _, le, _, _, _⟩ := hrok
              have R : Hid (∀ W (v k : Nat), v < 4294967296 → k < 32 → Calls Tryd.prog 47 #[.int .u32 (v : Int), .int .i64 (k : Int)] W fun e w' => e = .returned (.int .u32 (ρ v k : Int)) ∧ w' = W) := Lib.hid fun W v k hv hk => by rw [hρ]; exact right_calls v k W hv hk
              obtain ⟨ra, rb, rc, rd, re, rf, rg, rh⟩ := r
              simp only at e1 e2 e3 e4 e5 e6 e7 e8 e9 e10 e11 e12 e13 e14 e15 e16 e17 e18 e19 e20 la le hround
              have c0 : wr.cell? ⟨w2.heap.size, 0, none⟩ = some (.int .u32 (ra : Int)) := hb.cell 0
              have c1 : wr.cell? ⟨w2.heap.size, 1, none⟩ = some (.int .u32 (rb : Int)) := hb.cell 1
              have c2 : wr.cell? ⟨w2.heap.size, 2, none⟩ = some (.int .u32 (rc : Int)) := hb.cell 2
              have c3 : wr.cell? ⟨w2.heap.size, 3, none⟩ = some (.int .u32 (rd : Int)) := hb.cell 3
              have c4 : wr.cell? ⟨w2.heap.size, 4, none⟩ = some (.int .u32 (re : Int)) := hb.cell 4
              have c5 : wr.cell? ⟨w2.heap.size, 5, none⟩ = some (.int .u32 (rf : Int)) := hb.cell 5
              have c6 : wr.cell? ⟨w2.heap.size, 6, none⟩ = some (.int .u32 (rg : Int)) := hb.cell 6
              have c7 : wr.cell? ⟨w2.heap.size, 7, none⟩ = some (.int .u32 (rh : Int)) := hb.cell 7
              have f0 := hb.free 0
              have f1 := hb.free 1
              have f2 := hb.free 2
              have f3 := hb.free 3
              have f4 := hb.free 4
              have f5 := hb.free 5
              have f6 := hb.free 6
              have f7 := hb.free 7
              have bt : (t : Int) < 64 := by omega
              have bt0 : (0 : Int) ≤ (t : Int) := by omega
              rw [hround] at hnext
              have HN := Lib.hid hnext
              have HB := Lib.hid hb
              have HL := Lib.hid honly
              clear hnext hround hb honly hr hkt hwt hρ m7 hB
              go_wp2
              go_quiet (fail)
              go_wp2
              obtain ⟨wd1, hwd⟩ : ∃ wd, wd = wr.drewN nq := ⟨_, rfl⟩
              rw [← hwd]
              have hcell : ∀ p, wr.cell? p = wd1.cell? p := fun p => by rw [hwd]; rfl
              have hfz : ∀ p, wr.frozen? p = wd1.frozen? p := fun p => by rw [hwd]; rfl
              rw [hcell] at c0 c1 c2 c3 c4 c5 c6 c7 ck cw
              rw [hfz] at f0 f1 f2 f3 f4 f5 f6 f7
              have D1 : Hid (∃ n, wd1 = wr.drewN n) := Lib.hid ⟨nq, hwd⟩
              clear hcell hfz hwd nq
              go_quiet ((go_at_call 47; refine Calls.quiet_of_same (R.out _ _ _ (by assumption) (by decide))))
              go_wp2
              obtain ⟨wd2, hwd⟩ : ∃ wd, wd = wd1.drewN nq := ⟨_, rfl⟩
              rw [← hwd]
              have hcell : ∀ p, wd1.cell? p = wd2.cell? p := fun p => by rw [hwd]; rfl
              have hfz : ∀ p, wd1.frozen? p = wd2.frozen? p := fun p => by rw [hwd]; rfl
              rw [hcell] at c0 c1 c2 c3 c4 c5 c6 c7 ck cw
              rw [hfz] at f0 f1 f2 f3 f4 f5 f6 f7
              have D2 : Hid (∃ n, wd2 = wd1.drewN n) := Lib.hid ⟨nq, hwd⟩
              clear hcell hfz hwd nq
              go_quiet ((go_at_call 47; refine Calls.quiet_of_same (R.out _ _ _ (by assumption) (by decide))))
              go_wp2_with fail
              obtain ⟨n1, h1⟩ := D1.out
              obtain ⟨n2, h2⟩ := D2.out
              have hb2 : Blk wd2 w2.heap.size (⟨ra, rb, rc, rd, re, rf, rg, rh⟩ : St).vals 83 := by rw [h2, h1]; exact HB.out
              have ho2 : Only w2.heap.size w3 (wd2.drewN nq) := by rw [h2, h1]; exact ⟨HL.out.os, HL.out.tape, HL.out.output, HL.out.size, HL.out.block⟩
              refine ⟨⟨t + 1, by omega, by go_num, ?_, ?_⟩, by simp [intOf]; omega⟩
              · rw [HN.out]
                exact ((((((((hb2.drewN nq).set 7 _).set 6 _).set 5 _).set 4 _).set 3 _).set 2 _).set 1 _).set 0 _
              · exact (((((((ho2.set 7 _).set 6 _).set 5 _).set 4 _).set 3 _).set 2 _).set 1 _).set 0 _
            · have e : t = 64 := by omega
              subst e
              obtain ⟨r, hr⟩ : ∃ r, r = rounds s Wl 64 := ⟨_, rfl⟩
              rw [← hr] at hb
              have HR := Lib.hid hr
              have HB := Lib.hid hb
              have HL := Lib.hid honly
              clear hr hb honly
              go_wp2
              go_loopw [17] (fun i wr => ∃ k : Nat, k ≤ 8 ∧ i = .int .i64 k ∧ Blk wr w2.heap.size ((addp r.list s.list k).map W32) 83 ∧ Only w2.heap.size w3 wr) (fun i _ => 8 - (intOf i).toNat)
              case atStart => exact ⟨0, by omega, rfl, by rw [addp_zero]; exact HB.out, HL.out⟩
              case round =>
                obtain ⟨k, hk, rfl, hb, honly⟩ := hrel
                have m7 := M7.out
                by_cases hlt : k < 8
                · obtain ⟨x, hx⟩ : ∃ x, x = r.list.getD k 0 := ⟨_, rfl⟩
                  obtain ⟨y, hy⟩ : ∃ y, y = s.list.getD k 0 := ⟨_, rfl⟩
                  have cx := hb.cell k
                  rw [addp_at r s k hlt, ← hx] at cx
                  have cy := (honly.blk M0.out m7.2.2.1).cell k
                  rw [show s.vals = s.list.map W32 from rfl, map_at s.list k hlt, ← hy] at cy
                  have fx := hb.free k
                  have bk : (k : Int) < 8 := by omega
                  have HREL : Hid (∀ n : Nat, ∃ k_1 : Nat, k_1 ≤ 8 ∧ Value.int .i64 ((k : Int) + 1) = .int .i64 (k_1 : Int) ∧ Blk ((wr.drewN n).setCell ⟨w2.heap.size, k, none⟩ (.int .u32 (((x : Int) + (y : Int)) % 4294967296))) w2.heap.size ((addp r.list s.list k_1).map W32) 83 ∧ Only w2.heap.size w3 ((wr.drewN n).setCell ⟨w2.heap.size, k, none⟩ (.int .u32 (((x : Int) + (y : Int)) % 4294967296)))) := Lib.hid (by
                    intro n
                    have h1 := (hb.drewN n).set k (W32 ((x + y) % 4294967296))
                    rw [hx, hy, addp_set r s k hlt] at h1
                    have e : Value.int .u32 (((x : Int) + (y : Int)) % 4294967296) = W32 ((r.list.getD k 0 + s.list.getD k 0) % 4294967296) := by rw [hx, hy, W32]; congr 1
                    rw [e]
                    exact ⟨k + 1, by omega, by go_num, h1, Only.set (w2 := wr.drewN n) ⟨honly.os, honly.tape, honly.output, honly.size, honly.block⟩ k _⟩)
                  clear hb hx hy honly m7
                  go_wp2
                  go_region
                  all_goals go_wp2
                  all_goals go_roundw
                  all_goals first | exact HREL.out 1 | (simp [intOf]; omega)
                · have e : k = 8 := by omega
                  subst e
                  have hfin : (addp r.list s.list 8).map W32 = (comp s B).vals := by rw [addp_all, add_comm', HR.out, HW.out]; rfl
                  rw [hfin] at hb
                  have hl8 : (comp s B).vals.length = 8 := vals_len _
                  obtain ⟨V9, hV9⟩ : ∃ V, V = (comp s B).vals := ⟨_, rfl⟩
                  have hV91 : ∀ v ∈ V9, v.oneCell' = true := hV9 ▸ vals_one _
                  rw [← hV9] at hb hl8
                  have P2 := Lib.hid hb
                  have P4 := Lib.hid (honly.blk M1.out m7.2.2.2.1)
                  have P5 := Lib.hid hV9
                  have P6 : Hid ((Tryd.prog.info? 83).map (·.size) = some V9.length) := Lib.hid (by rw [hl8]; exact i8)
                  have P7 := Lib.hid hl8
                  have P8 := Lib.hid (M2.out.trans (honly.below m7.2.2.2.2))
                  clear hV9 hfin hb honly hl8 m7
                  go_wp2_with (first
                    | (refine at_load 83 (.tmp 11) ?_; refine wpList_load_mid rfl 83 (.tmp 11) rfl w2.heap.size 0 rfl V9 _ P2.out.range Tryd.underlying83 rfl P6.out ?_)
                    | (refine at_store 83 (.tmp 4) (.tmp 209) ?_; refine wpList_store_blk rfl 83 (.tmp 4) (.tmp 209) rfl (w.heap.size + 1) _ V9 _ rfl rfl P4.out (by rw [P7.out]; rfl) P6.out hV91 ?_; intro w9 hb9 ho9))
                  refine bodyPost_ret (v := .agg V9.toArray) ?_ rfl ⟨by rw [P5.out, ← St.arr_eq], P8.out.trans (ho9.below (by omega))⟩
                  exact results_cell_row Tryd.results41 _ _ (w.heap.size + 1) 83 _ (0, 0) _ (by rfl) hb9 Tryd.underlying83 rfl (by rw [List.size_toArray]; exact P6.out)
end Go.Proofs.YthkkllcpogagiaaDoor
