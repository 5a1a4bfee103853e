/- Merged texts: SipH SipG Room. -/
import Derived.Test.YtplnmjdafchjbaaMac
import Derived.Deep.RegionWith
import Derived.Test.YtplnmjdafchjbaaMaa
import Derived.WalkKit
/- The contract of sip.Hash. -/
namespace Go.Proofs.Ytplnmjdafchjbaa
open Go.RowKit
set_option linter.unusedVariables false
attribute [local go_sem] size_setCells

set_option maxRecDepth 100000 in
set_option maxHeartbeats 1000000 in
theorem shash_calls (k l : Nat) (A : Option Addr) (n c : Nat) (b : List UInt8) (w : World) (hk : k < 2 ^ 64) (hl : l < 2 ^ 64) (hn : n ≤ 100000000) (hnc : n ≤ c) (hr : Rd w A n b) :
    Calls Try.prog 45 #[.agg #[.int .u64 (k : Int), .int .u64 (l : Int)], .slice A n c] w (Ret w (.int .u64 (sipH k l b : Int))) := by
  have hbl := hr.len
  obtain ⟨K, hK⟩ : ∃ K, K = n / 8 := ⟨_, rfl⟩
  have hdiv : (n : Int).tdiv 8 = (K : Int) := by rw [hK, Int.tdiv_eq_ediv_of_nonneg (by omega)]; omega
  have h8K : 8 * K ≤ n := by omega
  obtain ⟨S, hS⟩ : ∃ S, S = Q.start k l := ⟨_, rfl⟩
  have hSok : S.ok := hS ▸ Q.start_ok k l hk hl
  have CI := Lib.hid (fun W => initial_calls k l W hk hl)
  rw [← hS] at CI
  obtain ⟨H, hH⟩ : ∃ H, H = sipH k l b := ⟨_, rfl⟩
  rw [← hH]
  have HH := Lib.hid hH
  have HS := Lib.hid hS
  have HR := Lib.hid hr
  have HL := Lib.hid hbl
  have HK := Lib.hid hK
  have HSO := Lib.hid hSok
  clear hH hS hr hbl hK hSok
  go_enter Try.func45, Try.ntmps45
  go_wp2_with (first
    | (go_at_call 73; refine (CI.out _).mono ?_; rintro e' w1 ⟨rfl, hbel1⟩
       have hB1 : Below w.heap.size w w1 := ((Below.refl _ w).alloc (Nat.le_refl _) _).trans (hbel1.mono (by simp <;> omega))
       have J1 := Lib.hid hB1
       clear hB1 hbel1)
    | (refine at_store 121 (.tmp 5) (.tmp 9) ?_; refine wpList_store_blk rfl 121 (.tmp 5) (.tmp 9) rfl w1.heap.size zero4.vals S.vals _ rfl rfl (Blk.new w1 _ _) (q_same _ _) (i4 _) (q_one _) ?_; intro w2 hb2 ho2
       have J2 := Lib.hid hb2
       have J3 := Lib.hid ho2
       clear hb2 ho2))
  go_loopw [14] (fun i wr => ∃ t : Nat, t ≤ K ∧ i = .int .i64 t ∧ Blk wr w1.heap.size (Q.words S b t).vals 121 ∧ Below w.heap.size w wr) (fun i _ => K - (intOf i).toNat)
  case atStart => exact ⟨0, Nat.zero_le _, rfl, J2.out, (J1.out.alloc (J1.out.size) _).trans (J3.out.below J1.out.size)⟩
  case round =>
    obtain ⟨t, ht, rfl, hb, hbel⟩ := hrel
    have hs1 := J1.out.size
    by_cases hlt : t < K
    · obtain ⟨R, hRe⟩ : ∃ R, R = Q.words S b t := ⟨_, rfl⟩
      have hRok : R.ok := hRe ▸ Q.words_ok S b t HSO.out
      rw [← hRe] at hb
      obtain ⟨m, hm⟩ : ∃ m, m = wordAt b t := ⟨_, rfl⟩
      obtain ⟨V, hV⟩ : ∃ V, V = (R.take m).vals := ⟨_, rfl⟩
      have hV1 : ∀ v ∈ V, v.oneCell' = true := by rw [hV]; exact q_one _
      have hVl : V.length = 4 := by rw [hV]; exact q_len _
      have bt : (t : Int) < (K : Int) := by omega
      obtain ⟨p, hp⟩ : ∃ p, p = 8 * t := ⟨_, rfl⟩
      have hv : IntKind.i64.wrap (8 * (t : Int)) = (p : Int) := by rw [IntKind.wrap_i64, hp]; omega
      have hsl := fun W => run_subL (P := Try.prog) 27 5 Try.underlying27 size8 A n c p (p : Int) rfl (by omega) W
      obtain ⟨A', hA'⟩ : ∃ A', A' = sub A c p := ⟨_, rfl⟩
      rw [← hA'] at hsl
      have CN : Hid (Calls Try.prog 75 #[.slice A' (n - p) (c - p)] wr.drew fun e w' => e = .returned (.int .u64 (m : Int)) ∧ wr.drew = w') := Lib.hid (by
        have h := num_calls A' (n - p) (c - p) (b.drop p) wr.drew (by rw [hA']; exact (HR.out.below hbel).drop p hnc)
        rw [hm, wordAt, ← hp]
        exact h)
      have CP : Hid (∀ W, Calls Try.prog 74 #[.agg R.vals.toArray, .int .u64 (m : Int)] W (Ret W (.agg V.toArray))) := Lib.hid fun W => by
        rw [hV]; exact process_calls R m W hRok (by rw [hm]; exact wordAt_lt b t)
      have hstc : Hid (∀ w4 : World, Below wr.drew.heap.size wr.drew w4 → (storeCells ⟨w1.heap.size, 0, none⟩ V).run Try.prog w4 = .ok () (w4.setCells w1.heap.size 0 V)) := Lib.hid fun w4 h4 => run_stc (Blk.below (w := wr.drew) hb h4 hb.lt) V (by rw [hVl, q_len]) hV1
      have HREL : Hid (∀ w4 : World, Below wr.drew.heap.size wr.drew w4 → ∃ t_1 : Nat, t_1 ≤ K ∧ Value.int .i64 ((t : Int) + 1) = .int .i64 (t_1 : Int) ∧ Blk (w4.setCells w1.heap.size 0 V) w1.heap.size (Q.words S b t_1).vals 121 ∧ Below w.heap.size w (w4.setCells w1.heap.size 0 V)) := Lib.hid (by
        intro w4 hbel4
        have hbw : Below wr.heap.size wr w4 := ⟨hbel4.os, hbel4.tape, hbel4.output, hbel4.size, hbel4.block⟩
        have h4 := hb.below hbw hb.lt
        have ho := Only.setCells (g := w1.heap.size) V w4 w4 0 (Only.refl _ _)
        have hnn := Blk.setCells V w4 _ 0 h4 (by rw [hVl, q_len]; omega)
        rw [over_all _ _ (by rw [hVl, q_len])] at hnn
        refine ⟨t + 1, by omega, by go_num, ?_, (hbel.trans (hbw.mono hbel.size)).trans (ho.below hs1)⟩
        rw [Q.words, ← hRe, ← hm, ← hV]
        exact hnn)
      have hV4 := Lib.hid hVl
      obtain ⟨ra, rb, rc, rd⟩ := R
      have c0 : wr.cell? ⟨w1.heap.size, 0, none⟩ = some (.int .u64 (ra : Int)) := hb.cell 0
      have c1 : wr.cell? ⟨w1.heap.size, 1, none⟩ = some (.int .u64 (rb : Int)) := hb.cell 1
      have c2 : wr.cell? ⟨w1.heap.size, 2, none⟩ = some (.int .u64 (rc : Int)) := hb.cell 2
      have c3 : wr.cell? ⟨w1.heap.size, 3, none⟩ = some (.int .u64 (rd : Int)) := hb.cell 3
      clear hRe hRok hb hm hV hV1 hp hA' hbel hs1
      go_wp2
      go_region_with (first
        | (go_at_call 75; refine CN.out.mono ?_; rintro e' w' ⟨rfl, rfl⟩)
        | (go_at_call 74; refine (CP.out _).mono ?_; rintro e' w4 ⟨rfl, hbel4⟩; have hst := hstc.out w4 hbel4))
      all_goals clear hst
      all_goals go_wp2
      all_goals go_roundw
      all_goals first | exact HREL.out w4 hbel4 | (simp [intOf]; omega)
    · have e : t = K := by omega
      subst e
      obtain ⟨R, hRe⟩ : ∃ R, R = Q.words S b t := ⟨_, rfl⟩
      have hRok : R.ok := hRe ▸ Q.words_ok S b t HSO.out
      rw [← hRe] at hb
      have hlen := HL.out
      obtain ⟨m, hm⟩ : ∃ m, m = lastW b := ⟨_, rfl⟩
      have hm64 : m < 2 ^ 64 := by rw [hm]; exact lastW_lt b
      have hTok := Q.take_ok R m hRok hm64
      obtain ⟨T, hT⟩ : ∃ T, T = R.take m := ⟨_, rfl⟩
      rw [← hT] at hTok
      obtain ⟨F, hF⟩ : ∃ F, F = Q.rounds 4 (T.xc 255) := ⟨_, rfl⟩
      have hXok := Q.xc_ok (m := 255) hTok (by decide)
      have hFok : F.ok := by rw [hF]; exact Q.rounds_ok 4 _ hXok
      have hfin : H = F.fold := by
        rw [HH.out, sipH, ← HS.out, hlen, ← HK.out, ← hRe, ← hm, ← hT, Q.fin, ← hF]
      have CR : Hid (∀ W, Calls Try.prog 77 #[.agg (T.xc 255).arr, .int .i64 4] W (Ret W (.agg F.arr))) := Lib.hid fun W => by
        rw [hF]; exact repeat_calls (T.xc 255) 4 W hXok (by omega)
      obtain ⟨V, hV⟩ : ∃ V, V = T.vals := ⟨_, rfl⟩
      have hV1 : ∀ v ∈ V, v.oneCell' = true := by rw [hV]; exact q_one _
      have hVl : V.length = 4 := by rw [hV]; exact q_len _
      obtain ⟨p, hp⟩ : ∃ p, p = 8 * t := ⟨_, rfl⟩
      have hv : IntKind.i64.wrap (8 * (t : Int)) = (p : Int) := by rw [IntKind.wrap_i64, hp]; omega
      have hsl := fun W => run_subL (P := Try.prog) 27 5 Try.underlying27 size8 A n c p (p : Int) rfl (by omega) W
      obtain ⟨A', hA'⟩ : ∃ A', A' = sub A c p := ⟨_, rfl⟩
      rw [← hA'] at hsl
      have hpe : p = 8 * (b.length / 8) := by rw [hp, HK.out, hlen]
      have CN : Hid (Calls Try.prog 76 #[.slice A' (n - p) (c - p), .int .i64 (n : Int)] wr.drew fun e w' => e = .returned (.int .u64 (m : Int)) ∧ wr.drew = w') := Lib.hid (by
        have h := last_calls A' (c - p) b wr.drew (by omega) (n - p) (by rw [hpe, hlen]) (by rw [hA', ← hpe]; exact (HR.out.below hbel).drop p hnc)
        rw [hlen] at h
        rw [hm]
        exact h)
      have CP : Hid (∀ W, Calls Try.prog 74 #[.agg R.vals.toArray, .int .u64 (m : Int)] W (Ret W (.agg V.toArray))) := Lib.hid fun W => by
        rw [hV, hT]; exact process_calls R m W hRok hm64
      have hstc : Hid (∀ w4 : World, Below wr.drew.heap.size wr.drew w4 → (storeCells ⟨w1.heap.size, 0, none⟩ V).run Try.prog w4 = .ok () (w4.setCells w1.heap.size 0 V)) := Lib.hid fun w4 h4 => run_stc (Blk.below (w := wr.drew) hb h4 hb.lt) V (by rw [hVl, q_len]) hV1
      have HREL : Hid (∀ w4 : World, Below wr.drew.heap.size wr.drew w4 → Blk (w4.setCells w1.heap.size 0 V) w1.heap.size T.vals 121 ∧ Below w.heap.size w (w4.setCells w1.heap.size 0 V)) := Lib.hid (by
        intro w4 hbel4
        have hbw : Below wr.heap.size wr w4 := ⟨hbel4.os, hbel4.tape, hbel4.output, hbel4.size, hbel4.block⟩
        have h4 := hb.below hbw hb.lt
        have ho := Only.setCells (g := w1.heap.size) V w4 w4 0 (Only.refl _ _)
        have hnn := Blk.setCells V w4 _ 0 h4 (by rw [hVl, q_len]; omega)
        rw [over_all _ _ (by rw [hVl, q_len])] at hnn
        rw [← hV]
        exact ⟨hnn, (hbel.trans (hbw.mono hbel.size)).trans (ho.below hs1)⟩)
      have hV4 := Lib.hid hVl
      have x3 : bits .xor .u64 (T.c : Int) 255 = ((T.xc 255).c : Int) := xor64_int T.c 255 hTok.2.2.1 (by decide)
      have y1 : bits .xor .u64 (F.a : Int) (F.b : Int) = ((F.a ^^^ F.b : Nat) : Int) := xor64_int _ _ hFok.1 hFok.2.1
      have y2 : bits .xor .u64 ((F.a ^^^ F.b : Nat) : Int) (F.c : Int) = ((F.a ^^^ F.b ^^^ F.c : Nat) : Int) := xor64_int _ _ (xor64_lt hFok.1 hFok.2.1) hFok.2.2.1
      have y3 : bits .xor .u64 ((F.a ^^^ F.b ^^^ F.c : Nat) : Int) (F.d : Int) = (H : Int) := by
        rw [hfin]; exact xor64_int _ _ (xor64_lt (xor64_lt hFok.1 hFok.2.1) hFok.2.2.1) hFok.2.2.2
      obtain ⟨Y1, hY1⟩ : ∃ Y, Y = F.a ^^^ F.b := ⟨_, rfl⟩
      obtain ⟨Y2, hY2⟩ : ∃ Y, Y = F.a ^^^ F.b ^^^ F.c := ⟨_, rfl⟩
      rw [← hY2] at y2 y3
      rw [← hY1] at y1 y2
      obtain ⟨C, hC⟩ : ∃ C, C = (T.xc 255).c := ⟨_, rfl⟩
      have hTx : T.xc 255 = ⟨T.a, T.b, C, T.d⟩ := by rw [hC]; rfl
      rw [← hC] at x3
      rw [hTx] at CR
      obtain ⟨ra, rb, rc, rd⟩ := R
      have c0 : wr.cell? ⟨w1.heap.size, 0, none⟩ = some (.int .u64 (ra : Int)) := hb.cell 0
      have c1 : wr.cell? ⟨w1.heap.size, 1, none⟩ = some (.int .u64 (rb : Int)) := hb.cell 1
      have c2 : wr.cell? ⟨w1.heap.size, 2, none⟩ = some (.int .u64 (rc : Int)) := hb.cell 2
      have c3 : wr.cell? ⟨w1.heap.size, 3, none⟩ = some (.int .u64 (rd : Int)) := hb.cell 3
      have hs1' := Lib.hid hs1
      clear hRe hRok hb hm hV hV1 hp hA' hbel hs1 hlen hm64 hTok hT hF hXok hFok hfin hpe hY1 hY2 hC hTx
      obtain ⟨ta, tb, tc, td⟩ := T
      obtain ⟨fa, fb, fc, fd⟩ := F
      simp only at x3 y1 y2 y3
      go_wp2
      go_region_with (first
        | (go_at_call 76; refine CN.out.mono ?_; rintro e' w' ⟨rfl, rfl⟩)
        | (go_at_call 74; refine (CP.out _).mono ?_; rintro e' w4 ⟨rfl, hbel4⟩; have hst := hstc.out w4 hbel4))
      all_goals clear hst
      all_goals
        have hf := HREL.out w4 hbel4
        revert hf
        clear c0 c1 c2 c3 hsl hv
        generalize w4.setCells w1.heap.size 0 V = w5
        intro hf
        obtain ⟨hb5, hbel5⟩ := hf
        have d0 : w5.cell? ⟨w1.heap.size, 0, none⟩ = some (.int .u64 (ta : Int)) := hb5.cell 0
        have d1 : w5.cell? ⟨w1.heap.size, 1, none⟩ = some (.int .u64 (tb : Int)) := hb5.cell 1
        have d2 : w5.cell? ⟨w1.heap.size, 2, none⟩ = some (.int .u64 (tc : Int)) := hb5.cell 2
        have d3 : w5.cell? ⟨w1.heap.size, 3, none⟩ = some (.int .u64 (td : Int)) := hb5.cell 3
        have f2 : w5.frozen? ⟨w1.heap.size, 2, none⟩ = false := hb5.free 2
        have HB5 := Lib.hid hb5
        have HL5 := Lib.hid hbel5
        clear hb5 hbel5
        go_wp2_with (first
          | (go_at_call 77; refine (CR.out _).mono ?_; rintro e' w6 ⟨rfl, hbel6⟩)
          | (refine at_store 121 (.tmp 5) (.tmp 39) ?_; refine wpList_store_blk rfl 121 (.tmp 5) (.tmp 39) rfl w1.heap.size (⟨ta, tb, C, td⟩ : Q).vals (⟨fa, fb, fc, fd⟩ : Q).vals _ rfl rfl (Blk.below (HB5.out.set 2 _) hbel6 (by have := HB5.out.lt; simp; exact this)) (q_same _ _) (i4 _) (q_one _) ?_; intro w7 hb7 ho7
             have e0 : w7.cell? ⟨w1.heap.size, 0, none⟩ = some (.int .u64 (fa : Int)) := hb7.cell 0
             have e1 : w7.cell? ⟨w1.heap.size, 1, none⟩ = some (.int .u64 (fb : Int)) := hb7.cell 1
             have e2 : w7.cell? ⟨w1.heap.size, 2, none⟩ = some (.int .u64 (fc : Int)) := hb7.cell 2
             have e3 : w7.cell? ⟨w1.heap.size, 3, none⟩ = some (.int .u64 (fd : Int)) := hb7.cell 3
             have HO7 := Lib.hid ho7
             clear hb7 ho7))
        go_ret
        have hs := HL5.out.size
        have h6 : Below w.heap.size w w6 := (HL5.out.setCell (hs1'.out) _).trans (hbel6.mono (by simp; exact hs))
        exact ⟨rfl, h6.trans (HO7.out.below hs1'.out)⟩
end Go.Proofs.Ytplnmjdafchjbaa

/- The contracts of sip.Range (by the library's Mul64) and of the document's own Range: the upper half of a product. -/
namespace Go.Proofs.Ytplnmjdafchjbaa
open Go.RowKit
set_option linter.unusedVariables false

set_option maxRecDepth 100000 in
/-- The upper half by four products of halves. -/
theorem hi_split (x n : Nat) (hx : x < 2 ^ 64) (hn : n < 2 ^ 64) :
    let a := x / 4294967296; let b := x % 4294967296; let c := n / 4294967296; let d := n % 4294967296
    let t := a * d + b * d / 4294967296
    let u := t % 4294967296 + b * c
    a * d + b * d / 4294967296 < 2 ^ 64 ∧ u < 2 ^ 64 ∧ a * c + t / 4294967296 + u / 4294967296 = x * n / 2 ^ 64 ∧ a * c < 2 ^ 64 ∧ b * d < 2 ^ 64 ∧ b * c < 2 ^ 64 ∧ a * d < 2 ^ 64 ∧ a * c + t / 4294967296 < 2 ^ 64 ∧ x * n / 2 ^ 64 < 2 ^ 64 := by
  obtain ⟨a, ha⟩ : ∃ a, a = x / 4294967296 := ⟨_, rfl⟩
  obtain ⟨b, hb⟩ : ∃ b, b = x % 4294967296 := ⟨_, rfl⟩
  obtain ⟨c, hc⟩ : ∃ c, c = n / 4294967296 := ⟨_, rfl⟩
  obtain ⟨d, hd⟩ : ∃ d, d = n % 4294967296 := ⟨_, rfl⟩
  have la : a ≤ 4294967295 := by omega
  have lb : b ≤ 4294967295 := by omega
  have lc : c ≤ 4294967295 := by omega
  have ld : d ≤ 4294967295 := by omega
  have hxs : x = 4294967296 * a + b := by omega
  have hns : n = 4294967296 * c + d := by omega
  simp only [← ha, ← hb, ← hc, ← hd]
  have m1 : a * d ≤ 4294967295 * 4294967295 := Nat.mul_le_mul la ld
  have m2 : b * d ≤ 4294967295 * 4294967295 := Nat.mul_le_mul lb ld
  have m3 : b * c ≤ 4294967295 * 4294967295 := Nat.mul_le_mul lb lc
  have m4 : a * c ≤ 4294967295 * 4294967295 := Nat.mul_le_mul la lc
  have hp : x * n = 18446744073709551616 * (a * c) + 4294967296 * (a * d) + 4294967296 * (b * c) + b * d := by
    rw [hxs, hns, Nat.add_mul, Nat.mul_add, Nat.mul_add]
    have e1 : 4294967296 * a * (4294967296 * c) = 18446744073709551616 * (a * c) := by
      rw [Nat.mul_assoc, Nat.mul_left_comm a, ← Nat.mul_assoc]
    have e2 : 4294967296 * a * d = 4294967296 * (a * d) := Nat.mul_assoc _ _ _
    have e3 : b * (4294967296 * c) = 4294967296 * (b * c) := by rw [Nat.mul_left_comm]
    rw [e1, e2, e3]
    omega
  rw [hp]
  generalize a * d = p at *
  generalize b * d = q at *
  generalize b * c = r at *
  generalize a * c = s at *
  clear ha hb hc hd hxs hns hp la lb lc ld hx hn
  refine ⟨by omega, by omega, by omega, by omega, by omega, by omega, by omega, by omega, by omega⟩
def hi64 (x n : Nat) : Nat := x * n / 2 ^ 64

set_option maxRecDepth 100000 in
theorem and_half (x : Nat) (hx : x < 2 ^ 64) : bits .and .u64 (x : Int) 4294967295 = ((x % 4294967296 : Nat) : Int) := by
  have h := u64_and_nat x 4294967295 hx (by decide)
  have e : x &&& 4294967295 = x % 4294967296 := Nat.and_two_pow_sub_one_eq_mod x 32
  rw [e] at h
  exact h
set_option maxRecDepth 100000 in
theorem mul_int (x y : Nat) (h : x * y < 2 ^ 64) : IntKind.u64.wrap ((x : Int) * (y : Int)) = ((x * y : Nat) : Int) := by
  rw [← Int.natCast_mul, IntKind.wrap_u64]
  omega
set_option maxRecDepth 100000 in
theorem add_int (x y : Nat) (h : x + y < 2 ^ 64) : IntKind.u64.wrap ((x : Int) + (y : Int)) = ((x + y : Nat) : Int) := by
  rw [IntKind.wrap_u64]
  omega

set_option maxRecDepth 100000 in
theorem wrap_self {x : Nat} (h : x < 2 ^ 64) : IntKind.u64.wrap (x : Int) = (x : Int) := by rw [IntKind.wrap_u64]; omega
set_option maxRecDepth 100000 in
theorem wrap_lt {z : Int} {x : Nat} (h : IntKind.u64.wrap z = (x : Int)) : x < 2 ^ 64 := by rw [IntKind.wrap_u64] at h; omega
set_option maxRecDepth 100000 in
theorem drewN_add (w : World) (a b : Nat) : (w.drewN a).drewN b = w.drewN (a + b) := by simp [World.drewN, Nat.add_assoc]

set_option maxRecDepth 100000 in
/-- The letters of a product by halves. -/
theorem mul_letters (x n : Nat) (hx : x < 2 ^ 64) (hn : n < 2 ^ 64) : ∃ a b c d q q1 p t t0 t1 r u u1 s v : Nat,
    (x : Int) / 4294967296 = (a : Int) ∧ (x : Int) % 4294967296 = (b : Int) ∧ bits .and .u64 (x : Int) 4294967295 = (b : Int) ∧ (n : Int) / 4294967296 = (c : Int) ∧ (n : Int) % 4294967296 = (d : Int) ∧ bits .and .u64 (n : Int) 4294967295 = (d : Int) ∧
    IntKind.u64.wrap ((b : Int) * (d : Int)) = (q : Int) ∧ (q : Int) / 4294967296 = (q1 : Int) ∧ IntKind.u64.wrap ((a : Int) * (d : Int)) = (p : Int) ∧ IntKind.u64.wrap ((p : Int) + (q1 : Int)) = (t : Int) ∧
    (t : Int) % 4294967296 = (t0 : Int) ∧ bits .and .u64 (t : Int) 4294967295 = (t0 : Int) ∧ (t : Int) / 4294967296 = (t1 : Int) ∧ IntKind.u64.wrap ((b : Int) * (c : Int)) = (r : Int) ∧ IntKind.u64.wrap ((t0 : Int) + (r : Int)) = (u : Int) ∧ IntKind.u64.wrap ((r : Int) + (t0 : Int)) = (u : Int) ∧
    (u : Int) / 4294967296 = (u1 : Int) ∧ IntKind.u64.wrap ((a : Int) * (c : Int)) = (s : Int) ∧ IntKind.u64.wrap ((s : Int) + (t1 : Int)) = (v : Int) ∧ IntKind.u64.wrap ((v : Int) + (u1 : Int)) = (hi64 x n : Int) ∧
    IntKind.u64.wrap ((x : Int) * (n : Int)) = ((x * n % 2 ^ 64 : Nat) : Int) := by
  obtain ⟨h1, h2, h3, h4, h5, h6, h7, h8, h9⟩ := hi_split x n hx hn
  refine ⟨x / 4294967296, x % 4294967296, n / 4294967296, n % 4294967296, _, _, _, _, _, _, _, _, _, _, _, by omega, by omega, and_half x hx, by omega, by omega, and_half n hn, mul_int _ _ h5, (Int.natCast_ediv _ _).symm, mul_int _ _ h7, add_int _ _ h1,
    (Int.natCast_emod _ _).symm, and_half _ h1, (Int.natCast_ediv _ _).symm, mul_int _ _ h6, add_int _ _ h2, by rw [Int.add_comm]; exact add_int _ _ h2, (Int.natCast_ediv _ _).symm, mul_int _ _ h4, add_int _ _ h8, ?_, ?_⟩
  · rw [add_int _ _ (by rw [h3]; exact h9), h3]; rfl
  · rw [← Int.natCast_mul, IntKind.wrap_u64]; omega

set_option maxRecDepth 100000 in
set_option maxHeartbeats 1000000 in
theorem mul64_calls (x n : Nat) (w : World) (hx : x < 2 ^ 64) (hn : n < 2 ^ 64) :
    Calls Try.prog 46 #[.int .u64 (x : Int), .int .u64 (n : Int)] w fun e w' => e = .returned (.tuple #[.int .u64 (hi64 x n : Int), .int .u64 ((x * n % 2 ^ 64 : Nat) : Int)]) ∧ w = w' := by
  obtain ⟨a, b, c, d, q, q1, p, t, t0, t1, r, u, u1, s, v, e1, _, e2, e3, _, e4, e5, e6, e7, e8, _, e9, e10, e11, e12, _, e13, e14, e15, e16, e17⟩ := mul_letters x n hx hn
  obtain ⟨h, hh⟩ : ∃ h, h = hi64 x n := ⟨_, rfl⟩
  obtain ⟨lo, hlo⟩ : ∃ lo, lo = x * n % 2 ^ 64 := ⟨_, rfl⟩
  rw [← hh] at e16 ⊢
  rw [← hlo] at e17 ⊢
  clear hh hlo hx hn
  go_enter Try.func46, Try.ntmps46
  go_wp2
  go_ret2
  exact ⟨rfl, rfl⟩

set_option maxRecDepth 100000 in
theorem range_calls (x n : Nat) (w : World) (hx : x < 2 ^ 64) (hn : n < 2 ^ 64) :
    Calls Try.prog 21 #[.int .u64 (x : Int), .int .u64 (n : Int)] w fun e w' => e = .returned (.int .u64 (hi64 x n : Int)) ∧ w = w' := by
  have C := Lib.hid (mul64_calls x n w hx hn)
  generalize hi64 x n = h at *
  generalize x * n % 2 ^ 64 = lo at *
  go_enter Try.func21, Try.ntmps21
  go_wp2_with (go_at_call 46; refine C.out.mono ?_; rintro e' w' ⟨rfl, rfl⟩)
  go_ret
  exact ⟨rfl, rfl⟩

set_option maxRecDepth 100000 in
set_option maxHeartbeats 1000000 in
theorem rrange_calls (x n : Nat) (w : World) (hx : x < 2 ^ 64) (hn : n < 2 ^ 64) :
    Calls Try.prog 71 #[.int .u64 (x : Int), .int .u64 (n : Int)] w (Quiet w (.int .u64 (hi64 x n : Int))) := by
  obtain ⟨a, b, c, d, q, q1, p, t, t0, t1, r, u, u1, s, v, e1, e1', _, e3, e3', _, e5, e6, e7, e8, e9, _, e10, e11, _, e12, e13, e14, e15, e16, _⟩ := mul_letters x n hx hn
  obtain ⟨h, hh⟩ : ∃ h, h = hi64 x n := ⟨_, rfl⟩
  rw [← hh] at e16 ⊢
  have wa := wrap_self (x := a) (by omega)
  have wc := wrap_self (x := c) (by omega)
  have wq := wrap_self (x := q1) (by have := wrap_lt e5; omega)
  have wt := wrap_self (x := t1) (by have := wrap_lt e8; omega)
  have wu := wrap_self (x := u1) (by have := wrap_lt e12; omega)
  have z1 : (t : Int).tdiv 4294967296 = (t1 : Int) := by rw [Int.tdiv_eq_ediv_of_nonneg (by omega)]; exact e10
  have z2 : (t : Int).tmod 4294967296 = (t0 : Int) := by rw [Int.tmod_eq_emod_of_nonneg (by omega)]; exact e9
  have z3 : (u : Int).tdiv 4294967296 = (u1 : Int) := by rw [Int.tdiv_eq_ediv_of_nonneg (by omega)]; exact e13
  clear hh hx hn
  go_enter Try.func71, Try.ntmps71
  go_wp2
  go_quiet (fail)
  go_wp2
  go_quiet (fail)
  go_wp2
  go_quiet (fail)
  go_wp2
  go_ret
  exact ⟨rfl, _, drewN_add _ _ _⟩

/-- What stands in the slice while awake fills it. -/
def upto (t : Nat) : List UInt8 := (List.range t).map UInt8.ofNat ++ List.replicate (15 - t) 0
set_option maxRecDepth 100000 in
theorem upto_len (t : Nat) (h : t ≤ 15) : (upto t).length = 15 := by simp [upto]; omega
set_option maxRecDepth 100000 in
theorem upto_set (t : Nat) (h : t < 15) : (upto t).set t (UInt8.ofNat t) = upto (t + 1) := by
  unfold upto
  rw [List.set_append_right _ _ (by simp), List.length_map, List.length_range, Nat.sub_self, show 15 - t = (15 - (t + 1)) + 1 from by omega, List.replicate_succ, List.set_cons_zero]
  simp [List.range_succ]
set_option maxRecDepth 100000 in
theorem u8_nat (t : Nat) (h : t < 15) : ((UInt8.ofNat t).toNat : Int) = (t : Int) := by rw [ofNat_toNat]; omega

end Go.Proofs.Ytplnmjdafchjbaa

/- make of byte slices with room. -/
namespace Go.Proofs.Ytplnmjdafchjbaa
open Go.RowKit

set_option maxRecDepth 100000 in
theorem run_mk8c (z : Int) (c : Nat) (hz : z = c) (hn : c ≤ 281474976710656) (w : World) :
    (Instr.makeSlice 27 (.int .i64 0) (.int .i64 z)).run Try.prog w = .ok (.slice (some ⟨w.heap.size, 0, none⟩) 0 c) (w.alloc (.cells (madeCells #[.int .u8 0] c) 5)) := by
  subst hz
  obtain ⟨i, hi, hzz⟩ := Option.map_eq_some_iff.1 info8
  simp only [Prod.mk.injEq] at hzz
  obtain ⟨hz, hs, hb⟩ := hzz
  have hr := run_make (P := Try.prog) w 27 5 i (.int .u8 0) Try.underlying27 hi hz .i64 .i64 0 c (by omega) (by omega) (by rw [hb]; omega) (by omega)
  simp only [Int.toNat_natCast, hs, Nat.mul_one, Int.toNat_zero] at hr
  exact hr
set_option maxRecDepth 100000 in
theorem Own.room (w : World) (c : Nat) (hc : c ≤ maxLen) : Own (w.alloc (.cells (madeCells #[.int .u8 0] c) 5)) w.heap.size (some ⟨w.heap.size, 0, none⟩) 0 c [] :=
  ⟨rfl, rfl, .inr ⟨w.heap.size, c, _, rfl, Nat.le_refl _, heap_alloc_new w _, Nat.zero_le _, hc, by rw [size_madeCells, Nat.mul_one], by simp⟩⟩
end Go.Proofs.Ytplnmjdafchjbaa
