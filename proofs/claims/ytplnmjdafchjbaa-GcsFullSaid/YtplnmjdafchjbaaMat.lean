/- Merged texts: RicA. -/
import Derived.Test.YtplnmjdafchjbaaMar
import Derived.Test.YtplnmjdafchjbaaMas
import Derived.Deep.CutRange
import Derived.Deep.DeepCutAuto
/- The document's own answers of layer 12. -/
namespace Go.Proofs.Ytplnmjdafchjbaa
open Go.RowKit
set_option linter.unusedVariables false
set_option linter.unusedSimpArgs false

set_option maxRecDepth 100000 in
set_option maxHeartbeats 2000000 in
theorem xheld_calls (p : Int) (w : World) : Calls Try.prog 69 #[.int .i64 p] w (Ret w (.int .i64 (hld p 32 : Int))) := by
  by_cases h0 : p < 0
  · have e : (hld p 32 : Int) = 0 := by unfold hld; rw [if_pos h0]; rfl
    rw [e]
    go_enter Try.func69, Try.ntmps69
    go_wp2
    go_ret
    exact ⟨rfl, Below.refl _ _⟩
  · by_cases h1 : 32 < p
    · have e : (hld p 32 : Int) = 32 := by unfold hld; rw [if_neg h0, if_pos (by omega)]; rfl
      rw [e]
      go_enter Try.func69, Try.ntmps69
      go_wp2
      go_ret
      exact ⟨rfl, Below.refl _ _⟩
    · have e : (hld p 32 : Int) = p := by unfold hld; rw [if_neg h0, if_neg (by omega)]; omega
      rw [e]
      go_enter Try.func69, Try.ntmps69
      go_wp2
      go_ret
      exact ⟨rfl, Below.refl _ _⟩
set_option maxRecDepth 100000 in
set_option maxHeartbeats 2000000 in
theorem xones_calls (p : Int) (n : Nat) (hn : n < 18446744073709551616) (w : World) : Calls Try.prog 92 #[.int .i64 p, .int .u64 (n : Int)] w (Ret w (.int .u64 (rq p n : Int))) := by
  obtain ⟨k, hk⟩ : ∃ z, z = hld p 32 := ⟨_, rfl⟩
  have hk3 : k ≤ 32 := by rw [hk]; exact hld_le _ _
  have CH : Hid (∀ W, Calls Try.prog 69 #[.int .i64 p] W (Ret W (.int .i64 (k : Int)))) := Lib.hid fun W => by rw [hk]; exact xheld_calls p W
  have HQ : Hid (rq p n = n / 2 ^ k) := Lib.hid (by rw [hk]; rfl)
  clear hk
  go_enter Try.func92, Try.ntmps92
  go_wp2
  go_loopw [1, 5] (fun nv kv wr => ∃ (i m : Nat), kv = .int .i64 (i : Int) ∧ nv = .int .u64 (m : Int) ∧ i ≤ k ∧ m = n / 2 ^ i ∧ Below w.heap.size w wr) (fun _ kv _ => k - (intOf kv).toNat)
  case atStart => exact ⟨0, n, by first | rfl | go_num, rfl, by omega, by simp, Below.refl _ _⟩
  case round =>
    obtain ⟨i, m, rfl, rfl, hik, hm, hB⟩ := hrel
    obtain ⟨wo, hwo⟩ : ∃ x, x = wr := ⟨_, rfl⟩
    rw [← hwo] at hB ⊢
    clear hwo
    by_cases hlt : i < k
    · have hlt' : (i : Int) < (k : Int) := by omega
      obtain ⟨m', hm'⟩ : ∃ z, z = m / 2 := ⟨_, rfl⟩
      have HM : Hid (m' = n / 2 ^ (i + 1)) := Lib.hid (by rw [hm', hm, Nat.div_div_eq_div_mul, Nat.pow_succ])
      have hml : m < 18446744073709551616 := by rw [hm]; exact Nat.lt_of_le_of_lt (Nat.div_le_self _ _) hn
      have q1 : Int.tdiv (m : Int) 2 = (m' : Int) := by rw [Int.tdiv_eq_ediv_of_nonneg (by omega)]; omega
      have q2 : (m : Int) / 2 = (m' : Int) := by omega
      have q3 : IntKind.u64.wrap (m' : Int) = (m' : Int) := by rw [IntKind.wrap_u64]; omega
      clear hm hm'
      go_wp2_with (first
        | (go_at_call 69; refine (CH.out _).mono ?_; rintro e' w2 ⟨rfl, hB2⟩))
      go_roundw
      case rel => exact ⟨i + 1, m', by go_num, rfl, by omega, HM.out, below_more hB hB2⟩
      case measure => simp [intOf]; omega
    · have hlt' : ¬ (i : Int) < (k : Int) := by omega
      have HE : Hid (rq p n = m) := Lib.hid (by rw [HQ.out, hm, show i = k by omega])
      clear hm
      go_wp2_with (first
        | (go_at_call 69; refine (CH.out _).mono ?_; rintro e' w2 ⟨rfl, hB2⟩))
      go_ret
      exact ⟨by rw [HE.out]; rfl, below_more hB hB2⟩
set_option maxRecDepth 100000 in
set_option maxHeartbeats 2000000 in
theorem xbits_big (p : Int) (n : Nat) (hn : n < 18446744073709551616) (hq : 65536 < rq p n) (w : World) : Calls Try.prog 56 #[.int .i64 p, .int .u64 (n : Int)] w (Ret w (.tuple #[.string ⟨#[]⟩, .bool false])) := by
  obtain ⟨q, hqq⟩ : ∃ z, z = rq p n := ⟨_, rfl⟩
  have CO : Hid (∀ W, Calls Try.prog 92 #[.int .i64 p, .int .u64 (n : Int)] W (Ret W (.int .u64 (q : Int)))) := Lib.hid fun W => by rw [hqq]; exact xones_calls p n hn W
  have h1 : (65536 : Int) < (q : Int) := by omega
  clear hqq hq
  go_enter Try.func56, Try.ntmps56
  go_wp2_with (first
    | (go_at_call 92; refine (CO.out _).mono ?_; rintro e' w1 ⟨rfl, hB1⟩))
  go_ret2
  exact ⟨rfl, hB1⟩
set_option maxRecDepth 100000 in
set_option maxHeartbeats 2000000 in
theorem xbits_ok (p : Int) (n : Nat) (hn : n < 18446744073709551616) (hq : rq p n ≤ 65536) (w : World) : Calls Try.prog 56 #[.int .i64 p, .int .u64 (n : Int)] w (Ret w (.tuple #[.string (tx (rcode p n)), .bool true])) := by
  obtain ⟨q, hqq⟩ : ∃ z, z = rq p n := ⟨_, rfl⟩
  obtain ⟨k, hk⟩ : ∃ z, z = hld p 32 := ⟨_, rfl⟩
  have hk3 : k ≤ 32 := by rw [hk]; exact hld_le _ _
  obtain ⟨s1, hs1⟩ : ∃ z, z = tx (List.replicate q true) := ⟨_, rfl⟩
  obtain ⟨s2, hs2⟩ : ∃ z, z = tx (List.replicate q true ++ [false]) := ⟨_, rfl⟩
  obtain ⟨s3, hs3⟩ : ∃ z, z = tx (bN n k) := ⟨_, rfl⟩
  obtain ⟨s4, hs4⟩ : ∃ z, z = tx (rcode p n) := ⟨_, rfl⟩
  have CO : Hid (∀ W, Calls Try.prog 92 #[.int .i64 p, .int .u64 (n : Int)] W (Ret W (.int .u64 (q : Int)))) := Lib.hid fun W => by rw [hqq]; exact xones_calls p n hn W
  have CR : Hid (∀ W, Calls Try.prog 93 #[.int .i64 (q : Int)] W (Ret W (.string s1))) := Lib.hid fun W => by rw [hs1]; exact zones_calls q (by omega) W
  have CH : Hid (∀ W, Calls Try.prog 69 #[.int .i64 p] W (Ret W (.int .i64 (k : Int)))) := Lib.hid fun W => by rw [hk]; exact xheld_calls p W
  have CB : Hid (∀ W, Calls Try.prog 66 #[.int .u64 (n : Int), .int .i64 (k : Int)] W (Ret W (.string s3))) := Lib.hid fun W => by rw [hs3]; exact zbits_calls n k hn (by omega) W
  have a1 : ∀ W, (Op.stringOp .add s1 ⟨#[48]⟩).run Try.prog W = .ok (.string s2) W := fun W => by rw [hs1, hs2]; exact tx_add _ [false] (by rw [List.length_replicate]; omega) (by simp) W
  have a2 : ∀ W, (Op.stringOp .add s2 s3).run Try.prog W = .ok (.string s4) W := fun W => by
    rw [hs2, hs3, hs4]
    unfold rcode
    rw [← hqq, ← hk, show List.replicate q true ++ false :: bN n k = (List.replicate q true ++ [false]) ++ bN n k from by simp]
    exact tx_add _ _ (by rw [List.length_append, List.length_replicate]; simp; omega) (by rw [bN_len]; omega) W
  have h1 : ¬ (65536 : Int) < (q : Int) := by omega
  have u1 : IntKind.i64.wrap (q : Int) = (q : Int) := by rw [IntKind.wrap_i64]; omega
  rw [← hs4]
  clear hqq hk hs1 hs2 hs3 hs4
  go_enter Try.func56, Try.ntmps56
  go_wp2_with (first
    | (go_at_call 92; refine (CO.out _).mono ?_; rintro e' w1 ⟨rfl, hB1⟩)
    | (go_at_call 93; refine (CR.out _).mono ?_; rintro e' w2 ⟨rfl, hB2⟩; have hB2 := below_more hB1 hB2)
    | (go_at_call 69; refine (CH.out _).mono ?_; rintro e' w3 ⟨rfl, hB3⟩; have hB3 := below_more hB2 hB3)
    | (go_at_call 66; refine (CB.out _).mono ?_; rintro e' w4 ⟨rfl, hB4⟩; have hB4 := below_more hB3 hB4))
  go_ret2
  exact ⟨rfl, hB4⟩
set_option maxRecDepth 100000 in
set_option maxHeartbeats 2000000 in
theorem xget_a (p m : Int) (mm k q v y E : Nat) (s s1 s2 : ByteArray) (hmm : (m < 0 → mm = 0) ∧ (65536 < m → mm = 65536) ∧ (0 ≤ m → m ≤ 65536 → (mm : Int) = m)) (hmm6 : mm ≤ 65536) (hk3 : k ≤ 32) (hq6 : q ≤ 65536) (hv3 : v < 4294967296) (w : World) (CH : Hid (∀ W, Calls Try.prog 69 #[.int .i64 p] W (Ret W (.int .i64 (k : Int))))) (CR : Hid (∀ W, Calls Try.prog 67 #[.string s, .int .i64 (mm : Int)] W (Ret W (.tuple #[.string s1, .int .i64 (q : Int), .int .i64 (E : Int)])))) (CT : True) (hE : ¬ (E : Int) = 0) : Calls Try.prog 41 #[.string s, .int .i64 p, .int .i64 m] w (Ret w (.tuple #[.string s, .int .u64 0, .int .i64 (E : Int)])) := by
  by_cases h0 : m < 0
  · have e : (mm : Int) = 0 := by omega
    have CR : Hid (∀ W, Calls Try.prog 67 #[.string s, .int .i64 0] W (Ret W (.tuple #[.string s1, .int .i64 (q : Int), .int .i64 (E : Int)]))) := Lib.hid fun W => by
      have := CR.out W
      rw [e] at this
      exact this
    clear e hmm
    go_enter Try.func41, Try.ntmps41
    go_wp2_with (first
      | (go_at_call 67; refine (CR.out _).mono ?_; rintro e' w1 ⟨rfl, hB1⟩))
    go_ret3
    exact ⟨rfl, hB1⟩
  · by_cases h1 : 65536 < m
    · have e : (mm : Int) = 65536 := by omega
      have CR : Hid (∀ W, Calls Try.prog 67 #[.string s, .int .i64 65536] W (Ret W (.tuple #[.string s1, .int .i64 (q : Int), .int .i64 (E : Int)]))) := Lib.hid fun W => by
        have := CR.out W
        rw [e] at this
        exact this
      clear e hmm
      go_enter Try.func41, Try.ntmps41
      go_wp2_with (first
        | (go_at_call 67; refine (CR.out _).mono ?_; rintro e' w1 ⟨rfl, hB1⟩))
      go_ret3
      exact ⟨rfl, hB1⟩
    · have e : (mm : Int) = m := by omega
      have CR : Hid (∀ W, Calls Try.prog 67 #[.string s, .int .i64 m] W (Ret W (.tuple #[.string s1, .int .i64 (q : Int), .int .i64 (E : Int)]))) := Lib.hid fun W => by
        have := CR.out W
        rw [e] at this
        exact this
      clear e hmm
      go_enter Try.func41, Try.ntmps41
      go_wp2_with (first
        | (go_at_call 67; refine (CR.out _).mono ?_; rintro e' w1 ⟨rfl, hB1⟩))
      go_ret3
      exact ⟨rfl, hB1⟩
set_option maxRecDepth 100000 in
set_option maxHeartbeats 2000000 in
theorem xget_b (p m : Int) (mm k q v y E : Nat) (s s1 s2 : ByteArray) (hmm : (m < 0 → mm = 0) ∧ (65536 < m → mm = 65536) ∧ (0 ≤ m → m ≤ 65536 → (mm : Int) = m)) (hmm6 : mm ≤ 65536) (hk3 : k ≤ 32) (hq6 : q ≤ 65536) (hv3 : v < 4294967296) (w : World) (CH : Hid (∀ W, Calls Try.prog 69 #[.int .i64 p] W (Ret W (.int .i64 (k : Int))))) (CR : Hid (∀ W, Calls Try.prog 67 #[.string s, .int .i64 (mm : Int)] W (Ret W (.tuple #[.string s1, .int .i64 (q : Int), .int .i64 0])))) (CT : Hid (∀ W, Calls Try.prog 68 #[.string s1, .int .i64 (k : Int)] W (Ret W (.tuple #[.string s2, .int .u64 (v : Int), .int .i64 (E : Int)])))) (hE : ¬ (E : Int) = 0) : Calls Try.prog 41 #[.string s, .int .i64 p, .int .i64 m] w (Ret w (.tuple #[.string s, .int .u64 0, .int .i64 (E : Int)])) := by
  by_cases h0 : m < 0
  · have e : (mm : Int) = 0 := by omega
    have CR : Hid (∀ W, Calls Try.prog 67 #[.string s, .int .i64 0] W (Ret W (.tuple #[.string s1, .int .i64 (q : Int), .int .i64 0]))) := Lib.hid fun W => by
      have := CR.out W
      rw [e] at this
      exact this
    clear e hmm
    go_enter Try.func41, Try.ntmps41
    go_wp2_with (first
      | (go_at_call 67; refine (CR.out _).mono ?_; rintro e' w1 ⟨rfl, hB1⟩)
      | (go_at_call 69; refine (CH.out _).mono ?_; rintro e' w2 ⟨rfl, hB2⟩; have hB2 := below_more hB1 hB2)
      | (go_at_call 68; refine (CT.out _).mono ?_; rintro e' w3 ⟨rfl, hB3⟩; have hB3 := below_more hB2 hB3))
    go_ret3
    exact ⟨rfl, hB3⟩
  · by_cases h1 : 65536 < m
    · have e : (mm : Int) = 65536 := by omega
      have CR : Hid (∀ W, Calls Try.prog 67 #[.string s, .int .i64 65536] W (Ret W (.tuple #[.string s1, .int .i64 (q : Int), .int .i64 0]))) := Lib.hid fun W => by
        have := CR.out W
        rw [e] at this
        exact this
      clear e hmm
      go_enter Try.func41, Try.ntmps41
      go_wp2_with (first
        | (go_at_call 67; refine (CR.out _).mono ?_; rintro e' w1 ⟨rfl, hB1⟩)
        | (go_at_call 69; refine (CH.out _).mono ?_; rintro e' w2 ⟨rfl, hB2⟩; have hB2 := below_more hB1 hB2)
        | (go_at_call 68; refine (CT.out _).mono ?_; rintro e' w3 ⟨rfl, hB3⟩; have hB3 := below_more hB2 hB3))
      go_ret3
      exact ⟨rfl, hB3⟩
    · have e : (mm : Int) = m := by omega
      have CR : Hid (∀ W, Calls Try.prog 67 #[.string s, .int .i64 m] W (Ret W (.tuple #[.string s1, .int .i64 (q : Int), .int .i64 0]))) := Lib.hid fun W => by
        have := CR.out W
        rw [e] at this
        exact this
      clear e hmm
      go_enter Try.func41, Try.ntmps41
      go_wp2_with (first
        | (go_at_call 67; refine (CR.out _).mono ?_; rintro e' w1 ⟨rfl, hB1⟩)
        | (go_at_call 69; refine (CH.out _).mono ?_; rintro e' w2 ⟨rfl, hB2⟩; have hB2 := below_more hB1 hB2)
        | (go_at_call 68; refine (CT.out _).mono ?_; rintro e' w3 ⟨rfl, hB3⟩; have hB3 := below_more hB2 hB3))
      go_ret3
      exact ⟨rfl, hB3⟩
set_option maxRecDepth 100000 in
set_option maxHeartbeats 2000000 in
theorem xget_c (p m : Int) (mm k q v y E : Nat) (s s1 s2 : ByteArray) (hmm : (m < 0 → mm = 0) ∧ (65536 < m → mm = 65536) ∧ (0 ≤ m → m ≤ 65536 → (mm : Int) = m)) (hmm6 : mm ≤ 65536) (hk3 : k ≤ 32) (hq6 : q ≤ 65536) (hv3 : v < 4294967296) (w : World) (CH : Hid (∀ W, Calls Try.prog 69 #[.int .i64 p] W (Ret W (.int .i64 (k : Int))))) (CR : Hid (∀ W, Calls Try.prog 67 #[.string s, .int .i64 (mm : Int)] W (Ret W (.tuple #[.string s1, .int .i64 (q : Int), .int .i64 0])))) (CT : Hid (∀ W, Calls Try.prog 68 #[.string s1, .int .i64 (k : Int)] W (Ret W (.tuple #[.string s2, .int .u64 (v : Int), .int .i64 0])))) (hy : Hid (y = q * 2 ^ k + v)) : Calls Try.prog 41 #[.string s, .int .i64 p, .int .i64 m] w (Ret w (.tuple #[.string s2, .int .u64 (y : Int), .int .i64 0])) := by
  by_cases h0 : m < 0
  · have e : (mm : Int) = 0 := by omega
    have CR : Hid (∀ W, Calls Try.prog 67 #[.string s, .int .i64 0] W (Ret W (.tuple #[.string s1, .int .i64 (q : Int), .int .i64 0]))) := Lib.hid fun W => by
      have := CR.out W
      rw [e] at this
      exact this
    clear e hmm
    go_enter Try.func41, Try.ntmps41
    go_upto_region 11 with (first
      | (go_at_call 67; refine (CR.out _).mono ?_; rintro e' w1 ⟨rfl, hB1⟩)
      | (go_at_call 69; refine (CH.out _).mono ?_; rintro e' w2 ⟨rfl, hB2⟩; have hB2 := below_more hB1 hB2)
      | (go_at_call 68; refine (CT.out _).mono ?_; rintro e' w3 ⟨rfl, hB3⟩; have hB3 := below_more hB2 hB3))
    have u1 : IntKind.u64.wrap (q : Int) = (q : Int) := by rw [IntKind.wrap_u64]; omega
    clear hB1 hB2 CR CT
    go_wp2
    go_loopw [15, 16] (fun nv kv wr => ∃ (i x : Nat), kv = .int .i64 (i : Int) ∧ nv = .int .u64 (x : Int) ∧ i ≤ k ∧ x = q * 2 ^ i ∧ Below w.heap.size w wr) (fun _ kv _ => k - (intOf kv).toNat)
    case atStart => exact ⟨0, q, by first | rfl | go_num, rfl, by omega, by simp, hB3⟩
    case round =>
      obtain ⟨i, x, rfl, rfl, hik, hx, hB⟩ := hrel
      obtain ⟨wo, hwo⟩ : ∃ x, x = wr := ⟨_, rfl⟩
      rw [← hwo] at hB ⊢
      clear hwo
      have hxl : x ≤ 65536 * 4294967296 := by
        rw [hx]
        exact Nat.mul_le_mul hq6 (Nat.le_trans (Nat.pow_le_pow_right (by omega) (show i ≤ 32 by omega)) (by decide))
      by_cases hlt : i < k
      · have hlt' : (i : Int) < (k : Int) := by omega
        obtain ⟨x2, hx2⟩ : ∃ z, z = x * 2 := ⟨_, rfl⟩
        have HX : Hid (x2 = q * 2 ^ (i + 1)) := Lib.hid (by rw [hx2, hx, Nat.pow_succ, Nat.mul_assoc])
        have u2 : IntKind.u64.wrap ((x : Int) * 2) = (x2 : Int) := by rw [IntKind.wrap_u64]; omega
        clear hx hx2
        go_wp2_with (first
          | (go_at_call 69; refine (CH.out _).mono ?_; rintro e' w5 ⟨rfl, hB5⟩))
        go_roundw
        case rel => exact ⟨i + 1, x2, by go_num, rfl, by omega, HX.out, below_more hB hB5⟩
        case measure => simp [intOf]; omega
      · have hlt' : ¬ (i : Int) < (k : Int) := by omega
        have hyx : y = x + v := by rw [hy.out, hx, show i = k by omega]
        have u3 : IntKind.u64.wrap ((x : Int) + (v : Int)) = (y : Int) := by rw [IntKind.wrap_u64]; omega
        clear hx hyx
        go_wp2_with (first
          | (go_at_call 69; refine (CH.out _).mono ?_; rintro e' w5 ⟨rfl, hB5⟩))
        go_ret3
        exact ⟨rfl, below_more hB hB5⟩
  · by_cases h1 : 65536 < m
    · have e : (mm : Int) = 65536 := by omega
      have CR : Hid (∀ W, Calls Try.prog 67 #[.string s, .int .i64 65536] W (Ret W (.tuple #[.string s1, .int .i64 (q : Int), .int .i64 0]))) := Lib.hid fun W => by
        have := CR.out W
        rw [e] at this
        exact this
      clear e hmm
      go_enter Try.func41, Try.ntmps41
      go_upto_region 11 with (first
        | (go_at_call 67; refine (CR.out _).mono ?_; rintro e' w1 ⟨rfl, hB1⟩)
        | (go_at_call 69; refine (CH.out _).mono ?_; rintro e' w2 ⟨rfl, hB2⟩; have hB2 := below_more hB1 hB2)
        | (go_at_call 68; refine (CT.out _).mono ?_; rintro e' w3 ⟨rfl, hB3⟩; have hB3 := below_more hB2 hB3))
      have u1 : IntKind.u64.wrap (q : Int) = (q : Int) := by rw [IntKind.wrap_u64]; omega
      clear hB1 hB2 CR CT
      go_wp2
      go_loopw [15, 16] (fun nv kv wr => ∃ (i x : Nat), kv = .int .i64 (i : Int) ∧ nv = .int .u64 (x : Int) ∧ i ≤ k ∧ x = q * 2 ^ i ∧ Below w.heap.size w wr) (fun _ kv _ => k - (intOf kv).toNat)
      case atStart => exact ⟨0, q, by first | rfl | go_num, rfl, by omega, by simp, hB3⟩
      case round =>
        obtain ⟨i, x, rfl, rfl, hik, hx, hB⟩ := hrel
        obtain ⟨wo, hwo⟩ : ∃ x, x = wr := ⟨_, rfl⟩
        rw [← hwo] at hB ⊢
        clear hwo
        have hxl : x ≤ 65536 * 4294967296 := by
          rw [hx]
          exact Nat.mul_le_mul hq6 (Nat.le_trans (Nat.pow_le_pow_right (by omega) (show i ≤ 32 by omega)) (by decide))
        by_cases hlt : i < k
        · have hlt' : (i : Int) < (k : Int) := by omega
          obtain ⟨x2, hx2⟩ : ∃ z, z = x * 2 := ⟨_, rfl⟩
          have HX : Hid (x2 = q * 2 ^ (i + 1)) := Lib.hid (by rw [hx2, hx, Nat.pow_succ, Nat.mul_assoc])
          have u2 : IntKind.u64.wrap ((x : Int) * 2) = (x2 : Int) := by rw [IntKind.wrap_u64]; omega
          clear hx hx2
          go_wp2_with (first
            | (go_at_call 69; refine (CH.out _).mono ?_; rintro e' w5 ⟨rfl, hB5⟩))
          go_roundw
          case rel => exact ⟨i + 1, x2, by go_num, rfl, by omega, HX.out, below_more hB hB5⟩
          case measure => simp [intOf]; omega
        · have hlt' : ¬ (i : Int) < (k : Int) := by omega
          have hyx : y = x + v := by rw [hy.out, hx, show i = k by omega]
          have u3 : IntKind.u64.wrap ((x : Int) + (v : Int)) = (y : Int) := by rw [IntKind.wrap_u64]; omega
          clear hx hyx
          go_wp2_with (first
            | (go_at_call 69; refine (CH.out _).mono ?_; rintro e' w5 ⟨rfl, hB5⟩))
          go_ret3
          exact ⟨rfl, below_more hB hB5⟩
    · have e : (mm : Int) = m := by omega
      have CR : Hid (∀ W, Calls Try.prog 67 #[.string s, .int .i64 m] W (Ret W (.tuple #[.string s1, .int .i64 (q : Int), .int .i64 0]))) := Lib.hid fun W => by
        have := CR.out W
        rw [e] at this
        exact this
      clear e hmm
      go_enter Try.func41, Try.ntmps41
      go_upto_region 11 with (first
        | (go_at_call 67; refine (CR.out _).mono ?_; rintro e' w1 ⟨rfl, hB1⟩)
        | (go_at_call 69; refine (CH.out _).mono ?_; rintro e' w2 ⟨rfl, hB2⟩; have hB2 := below_more hB1 hB2)
        | (go_at_call 68; refine (CT.out _).mono ?_; rintro e' w3 ⟨rfl, hB3⟩; have hB3 := below_more hB2 hB3))
      have u1 : IntKind.u64.wrap (q : Int) = (q : Int) := by rw [IntKind.wrap_u64]; omega
      clear hB1 hB2 CR CT
      go_wp2
      go_loopw [15, 16] (fun nv kv wr => ∃ (i x : Nat), kv = .int .i64 (i : Int) ∧ nv = .int .u64 (x : Int) ∧ i ≤ k ∧ x = q * 2 ^ i ∧ Below w.heap.size w wr) (fun _ kv _ => k - (intOf kv).toNat)
      case atStart => exact ⟨0, q, by first | rfl | go_num, rfl, by omega, by simp, hB3⟩
      case round =>
        obtain ⟨i, x, rfl, rfl, hik, hx, hB⟩ := hrel
        obtain ⟨wo, hwo⟩ : ∃ x, x = wr := ⟨_, rfl⟩
        rw [← hwo] at hB ⊢
        clear hwo
        have hxl : x ≤ 65536 * 4294967296 := by
          rw [hx]
          exact Nat.mul_le_mul hq6 (Nat.le_trans (Nat.pow_le_pow_right (by omega) (show i ≤ 32 by omega)) (by decide))
        by_cases hlt : i < k
        · have hlt' : (i : Int) < (k : Int) := by omega
          obtain ⟨x2, hx2⟩ : ∃ z, z = x * 2 := ⟨_, rfl⟩
          have HX : Hid (x2 = q * 2 ^ (i + 1)) := Lib.hid (by rw [hx2, hx, Nat.pow_succ, Nat.mul_assoc])
          have u2 : IntKind.u64.wrap ((x : Int) * 2) = (x2 : Int) := by rw [IntKind.wrap_u64]; omega
          clear hx hx2
          go_wp2_with (first
            | (go_at_call 69; refine (CH.out _).mono ?_; rintro e' w5 ⟨rfl, hB5⟩))
          go_roundw
          case rel => exact ⟨i + 1, x2, by go_num, rfl, by omega, HX.out, below_more hB hB5⟩
          case measure => simp [intOf]; omega
        · have hlt' : ¬ (i : Int) < (k : Int) := by omega
          have hyx : y = x + v := by rw [hy.out, hx, show i = k by omega]
          have u3 : IntKind.u64.wrap ((x : Int) + (v : Int)) = (y : Int) := by rw [IntKind.wrap_u64]; omega
          clear hx hyx
          go_wp2_with (first
            | (go_at_call 69; refine (CH.out _).mono ?_; rintro e' w5 ⟨rfl, hB5⟩))
          go_ret3
          exact ⟨rfl, below_more hB hB5⟩
set_option maxRecDepth 100000 in
theorem xget_calls (l : List Bool) (p m : Int) (hl : l.length ≤ 100000) (w : World) : Calls Try.prog 41 #[.string (tx l), .int .i64 p, .int .i64 m] w (Ret w (.tuple #[.string (tx (gtL l p m)), .int .u64 (gtV l p m : Int), .int .i64 (gtE l p m : Int)])) := by
  have hmm6 : hld m 65536 ≤ 65536 := hld_le _ _
  have hk3 : hld p 32 ≤ 32 := hld_le _ _
  have hmm : (m < 0 → hld m 65536 = 0) ∧ (65536 < m → hld m 65536 = 65536) ∧ (0 ≤ m → m ≤ 65536 → (hld m 65536 : Int) = m) := ⟨fun h => by unfold hld; rw [if_pos h], fun h => by unfold hld; rw [if_neg (by omega), if_pos (by omega)], fun h h2 => by unfold hld; rw [if_neg (by omega), if_neg (by omega)]; omega⟩
  have hq6 : rnV l (hld m 65536) ≤ 65536 := Nat.le_trans (rnV_le _ _) hmm6
  have hv3 : btV (rnL l (hld m 65536)) (hld p 32) < 4294967296 := Nat.lt_of_lt_of_le (btV_pow _ _) (Nat.le_trans (Nat.pow_le_pow_right (by omega) hk3) (by decide))
  have CH : Hid (∀ W, Calls Try.prog 69 #[.int .i64 p] W (Ret W (.int .i64 (hld p 32 : Int)))) := Lib.hid fun W => xheld_calls p W
  have CR0 := fun W => zrun_calls l (hld m 65536) (by omega) hl W
  have CT0 := fun W => ztake_calls (rnL l (hld m 65536)) (hld p 32) (by omega) W
  by_cases he : rnE l (hld m 65536) = 0
  · rw [he] at CR0
    by_cases hf : btE (rnL l (hld m 65536)) (hld p 32) = 0
    · have hE : gtE l p m = 0 := by unfold gtE; rw [he, if_neg (by simp), hf]
      have hL : gtL l p m = btL (rnL l (hld m 65536)) (hld p 32) := by unfold gtL; rw [hE, if_neg (by simp)]
      have hV : gtV l p m = rnV l (hld m 65536) * 2 ^ hld p 32 + btV (rnL l (hld m 65536)) (hld p 32) := by unfold gtV; rw [hE, if_neg (by simp)]
      rw [hf] at CT0
      rw [hE, hL, hV]
      exact xget_c p m _ _ _ _ _ 0 _ _ _ hmm hmm6 hk3 hq6 hv3 w CH (Lib.hid CR0) (Lib.hid CT0) (Lib.hid rfl)
    · have hE : gtE l p m = btE (rnL l (hld m 65536)) (hld p 32) := by unfold gtE; rw [he, if_neg (by simp)]
      have hL : gtL l p m = l := by unfold gtL; rw [hE, if_pos hf]
      have hV : gtV l p m = 0 := by unfold gtV; rw [hE, if_pos hf]
      rw [hE, hL, hV]
      exact xget_b p m _ _ _ _ 0 _ _ _ _ hmm hmm6 hk3 hq6 hv3 w CH (Lib.hid CR0) (Lib.hid CT0) (by omega)
  · have hE : gtE l p m = rnE l (hld m 65536) := by unfold gtE; rw [if_pos he]
    have hL : gtL l p m = l := by unfold gtL; rw [hE, if_pos he]
    have hV : gtV l p m = 0 := by unfold gtV; rw [hE, if_pos he]
    rw [hE, hL, hV]
    exact xget_a p m _ _ _ _ 0 _ _ _ ⟨#[]⟩ hmm hmm6 hk3 hq6 hv3 w CH (Lib.hid CR0) trivial (by omega)
end Go.Proofs.Ytplnmjdafchjbaa
