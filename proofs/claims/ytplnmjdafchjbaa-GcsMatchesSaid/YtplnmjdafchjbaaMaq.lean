/- Merged texts: BitA. -/
import Derived.Test.YtplnmjdafchjbaaMan
import Derived.Test.YtplnmjdafchjbaaMaj
/- The document's own answers of layer 11: bits as texts of 0 and 1. -/
namespace Go.Proofs.Ytplnmjdafchjbaa
open Go.RowKit
set_option linter.unusedVariables false
set_option linter.unusedSimpArgs false

def bc (b : Bool) : UInt8 := if b then 49 else 48
/-- Bits as a text. -/
def tx (l : List Bool) : ByteArray := ⟨(l.map bc).toArray⟩
set_option maxRecDepth 100000 in
theorem tx_size (l : List Bool) : (tx l).size = l.length := by unfold tx; rw [bstr_size, List.length_map]
set_option maxRecDepth 100000 in
theorem tx_add (x y : List Bool) (hx : x.length ≤ 8388608) (hy : y.length ≤ 8388608) (W : World) : (Op.stringOp .add (tx x) (tx y)).run Try.prog W = .ok (.string (tx (x ++ y))) W := by
  unfold tx
  rw [List.map_append]
  exact bstr_add _ _ (by rw [List.length_map]; exact hx) (by rw [List.length_map]; exact hy) W
set_option maxRecDepth 100000 in
theorem tx_from (l : List Bool) (a N : Nat) (h : l.length = N) : (tx l).extract a N = tx (l.drop a) := by
  unfold tx
  rw [bstr_from _ a N (by rw [List.length_map]; exact h), List.map_drop]
set_option maxRecDepth 100000 in
theorem tx_upto (l : List Bool) (b : Nat) : (tx l).extract 0 b = tx (l.take b) := by
  unfold tx
  rw [bstr_upto, List.map_take]
set_option maxRecDepth 100000 in
theorem tx_mid (l : List Bool) (a b : Nat) : (tx l).extract a b = tx ((l.drop a).take (b - a)) := by
  unfold tx
  rw [ByteArray.extract_mk, List.map_take, List.map_drop]
set_option maxRecDepth 100000 in
theorem tx_idx (l : List Bool) (i : Nat) (h : i < l.length) (W : World) : (Instr.index 9 (.string (tx l)) (.int .i64 (i : Int))).run Try.prog W = .ok (.int .u8 ((bc (l.getD i false)).toNat : Int)) W := by
  have hs : i < (l.map bc).length := by rw [List.length_map]; exact h
  have e : l.getD i false = l[i] := by rw [List.getD_eq_getElem?_getD, List.getElem?_eq_getElem h]; rfl
  rw [e]
  have hsz : (tx l).size = l.length := tx_size l
  have hz : ¬ (l.length : Int) ≤ (i : Int) := by omega
  have hn : ¬ (i : Int) < 0 := by omega
  have hg : ∀ hh : i < (tx l).size, (tx l)[i] = bc l[i] := fun hh => by
    have h2 : ∀ (m : List UInt8) (h1 : i < (⟨m.toArray⟩ : ByteArray).size) (h2 : i < m.length), (⟨m.toArray⟩ : ByteArray)[i] = m[i] := fun m h1 h2 => rfl
    have h3 := h2 (l.map bc) hh hs
    rw [List.getElem_map] at h3
    exact h3
  simp [Instr.index, run_underlying Try.underlying9, asIntOf, go_sem, hsz, hz, hn, h, hg]
set_option maxRecDepth 100000 in
theorem tx_one (l : List Bool) (i : Nat) (h : l[i]? = some true) (W : World) : (Instr.index 9 (.string (tx l)) (.int .i64 (i : Int))).run Try.prog W = .ok (.int .u8 49) W := by
  have hl := (List.getElem?_eq_some_iff.1 h).1
  have := tx_idx l i hl W
  rw [List.getD_eq_getElem?_getD, h] at this
  exact this
set_option maxRecDepth 100000 in
theorem tx_zero (l : List Bool) (i : Nat) (h : l[i]? = some false) (W : World) : (Instr.index 9 (.string (tx l)) (.int .i64 (i : Int))).run Try.prog W = .ok (.int .u8 48) W := by
  have hl := (List.getElem?_eq_some_iff.1 h).1
  have := tx_idx l i hl W
  rw [List.getD_eq_getElem?_getD, h] at this
  exact this
/-- How long a text is, as a measure. -/
def strLen : Value → Nat
  | .string s => s.size
  | _ => 0
set_option maxRecDepth 100000 in
set_option maxHeartbeats 2000000 in
theorem zbits_calls (n k : Nat) (hn : n < 18446744073709551616) (hk : k ≤ 64) (w : World) :
    Calls Try.prog 66 #[.int .u64 (n : Int), .int .i64 (k : Int)] w (Ret w (.string (tx (bN n k)))) := by
  go_enter Try.func66, Try.ntmps66
  go_wp2
  go_loopw [0, 5, 6] (fun nv ov kv wr => ∃ (i m : Nat) (s : ByteArray), kv = .int .i64 (i : Int) ∧ nv = .int .u64 (m : Int) ∧ ov = .string s ∧ i ≤ k ∧ m = n / 2 ^ i ∧ s = tx (bN n i) ∧ wr = w) (fun _ _ kv _ => k - (intOf kv).toNat)
  case atStart => exact ⟨0, n, _, by first | rfl | go_num, rfl, rfl, by omega, by simp, rfl, rfl⟩
  case round =>
    obtain ⟨i, m, s, rfl, rfl, rfl, hik, hm, hs, rfl⟩ := hrel
    by_cases hlt : i < k
    · have hlt' : (i : Int) < (k : Int) := by omega
      have hml : m < 18446744073709551616 := by rw [hm]; exact Nat.lt_of_le_of_lt (Nat.div_le_self _ _) hn
      obtain ⟨m', hm'⟩ : ∃ z, z = m / 2 := ⟨_, rfl⟩
      have HM : Hid (m' = n / 2 ^ (i + 1)) := Lib.hid (by rw [hm', hm, Nat.div_div_eq_div_mul, Nat.pow_succ])
      have hN := bN_cons i n
      rw [← hm] at hN
      have q1 : Int.tdiv (m : Int) 2 = (m' : Int) := by rw [Int.tdiv_eq_ediv_of_nonneg (by omega)]; omega
      have q2 : (m : Int) / 2 = (m' : Int) := by omega
      have q3 : IntKind.u64.wrap (m' : Int) = (m' : Int) := by rw [IntKind.wrap_u64]; omega
      have hbl : (bN n i).length ≤ 100 := by rw [bN_len]; omega
      by_cases hb : m % 2 = 1
      · have r1 : Int.tmod (m : Int) 2 = 1 := by rw [Int.tmod_eq_emod_of_nonneg (by omega)]; omega
        have r2 : (m : Int) % 2 = 1 := by omega
        have r3 : IntKind.u64.wrap 1 = 1 := by rw [IntKind.wrap_u64]; omega
        rw [decide_eq_true hb] at hN
        obtain ⟨s', hs'⟩ : ∃ z, z = tx (bN n (i + 1)) := ⟨_, rfl⟩
        have hadd : ∀ W, (Op.stringOp .add ⟨#[49]⟩ s).run Try.prog W = .ok (.string s') W := fun W => by
          rw [hs', hN, hs]
          exact tx_add [true] (bN n i) (by simp) (by omega) W
        have HS := Lib.hid hs'
        clear hs hs' hN hm hm' hbl hb
        go_wp2
        go_roundw
        case rel => exact ⟨i + 1, m', s', by go_num, rfl, rfl, by omega, HM.out, HS.out, by first | rfl | trivial⟩
        case measure => simp [intOf]; omega
      · have r1 : Int.tmod (m : Int) 2 = 0 := by rw [Int.tmod_eq_emod_of_nonneg (by omega)]; omega
        have r2 : (m : Int) % 2 = 0 := by omega
        have r3 : IntKind.u64.wrap 0 = 0 := by rw [IntKind.wrap_u64]; omega
        rw [decide_eq_false hb] at hN
        obtain ⟨s', hs'⟩ : ∃ z, z = tx (bN n (i + 1)) := ⟨_, rfl⟩
        have hadd : ∀ W, (Op.stringOp .add ⟨#[48]⟩ s).run Try.prog W = .ok (.string s') W := fun W => by
          rw [hs', hN, hs]
          exact tx_add [false] (bN n i) (by simp) (by omega) W
        have HS := Lib.hid hs'
        clear hs hs' hN hm hm' hbl hb
        go_wp2
        go_roundw
        case rel => exact ⟨i + 1, m', s', by go_num, rfl, rfl, by omega, HM.out, HS.out, by first | rfl | trivial⟩
        case measure => simp [intOf]; omega
    · have hlt' : ¬ (i : Int) < (k : Int) := by omega
      have e : i = k := by omega
      subst e
      have HS := Lib.hid hs
      clear hs hm
      go_wp2
      go_ret
      exact ⟨by rw [← HS.out]; rfl, Below.refl _ _⟩
set_option maxRecDepth 100000 in
set_option maxHeartbeats 2000000 in
theorem zones_calls (n : Nat) (hn : n ≤ 100000) (w : World) :
    Calls Try.prog 93 #[.int .i64 (n : Int)] w (Ret w (.string (tx (List.replicate n true)))) := by
  have he := own_empty w
  have hbe : Below w.heap.size w (w.alloc (.cells #[] 5)) := below_al (Below.refl _ w) _
  go_enter Try.func93, Try.ntmps93
  go_wp2
  go_loopw [3, 4] (fun ov kv wr => ∃ (i : Nat) (A : Option Addr) (c : Nat), kv = .int .i64 (i : Int) ∧ ov = .slice A i c ∧ i ≤ n ∧ Own wr w.heap.size A i c ((List.replicate i true).map bc) ∧ Below w.heap.size w wr) (fun _ kv _ => n - (intOf kv).toNat)
  case atStart => exact ⟨0, _, 0, by first | rfl | go_num, rfl, by omega, he, hbe⟩
  case round =>
    obtain ⟨i, A, c, rfl, rfl, hin, hown, hbel⟩ := hrel
    clear he hbe
    by_cases hlt : i < n
    · have hlt' : (i : Int) < (n : Int) := by omega
      have HN : Hid ((List.replicate (i + 1) true).map bc = (List.replicate i true).map bc ++ [49]) := Lib.hid (by rw [List.replicate_succ', List.map_append]; rfl)
      obtain ⟨R, hR⟩ : ∃ z, z = (List.replicate i true).map bc := ⟨_, rfl⟩
      rw [← hR] at hown HN
      clear hR
      go_wp2_with (at_builtin; refine app8_one _ rfl _ _ rfl w.heap.size A i c _ _ 49 rfl rfl rfl hown (by omega) hbel.size ?_; intro A' c' w' hown' hbel')
      go_roundw
      case rel => exact ⟨i + 1, A', c', by go_num, rfl, by omega, by rw [HN.out]; exact hown', hbel.trans hbel'⟩
      case measure => simp [intOf]; omega
    · have hlt' : ¬ (i : Int) < (n : Int) := by omega
      have e : i = n := by omega
      subst e
      have hc0 := conv8 wr A i c _ hown.rd
      obtain ⟨s, hs⟩ : ∃ z, z = tx (List.replicate i true) := ⟨_, rfl⟩
      have hcv : (convert 27 9 (.slice A i c)).run Try.prog wr = .ok (.string s) wr := by rw [hs]; exact hc0
      have HS := Lib.hid hs
      clear hown hs hc0
      go_wp2
      go_ret
      exact ⟨by rw [← HS.out]; rfl, hbel⟩
set_option maxRecDepth 100000 in
theorem take_bit (l : List Bool) (i : Nat) (b : Bool) (h : l[i]? = some b) : l.take (i + 1) = l.take i ++ [b] := by
  obtain ⟨hl, e⟩ := List.getElem?_eq_some_iff.1 h
  rw [List.take_succ_eq_append_getElem hl, e]
set_option maxRecDepth 100000 in
set_option maxHeartbeats 2000000 in
theorem znum_calls (l : List Bool) (hl : l.length ≤ 64) (w : World) :
    Calls Try.prog 42 #[.string (tx l)] w (Ret w (.int .u64 (num l : Int))) := by
  obtain ⟨s, hs⟩ : ∃ z, z = tx l := ⟨_, rfl⟩
  obtain ⟨n, hn⟩ : ∃ z, z = l.length := ⟨_, rfl⟩
  have hsz : s.size = n := by rw [hs, tx_size, hn]
  have H1 : Hid (∀ i : Nat, l[i]? = some true → ∀ W, (Instr.index 9 (.string s) (.int .i64 (i : Int))).run Try.prog W = .ok (.int .u8 49) W) := Lib.hid (by rw [hs]; exact fun i h W => tx_one l i h W)
  have H0 : Hid (∀ i : Nat, l[i]? = some false → ∀ W, (Instr.index 9 (.string s) (.int .i64 (i : Int))).run Try.prog W = .ok (.int .u8 48) W) := Lib.hid (by rw [hs]; exact fun i h W => tx_zero l i h W)
  have hn64 : n ≤ 64 := by omega
  have HN := Lib.hid hn
  rw [← hs]
  clear hs hn
  go_enter Try.func42, Try.ntmps42
  go_wp2
  go_loopw [3, 4] (fun ov kv wr => ∃ (i v : Nat), kv = .int .i64 (i : Int) ∧ ov = .int .u64 (v : Int) ∧ i ≤ n ∧ v = num (l.take i) ∧ wr = w) (fun _ kv _ => n - (intOf kv).toNat)
  case atStart => exact ⟨0, 0, by first | rfl | go_num, by first | rfl | go_num, by omega, rfl, rfl⟩
  case round =>
    obtain ⟨i, v, rfl, rfl, hin, hv, rfl⟩ := hrel
    by_cases hlt : i < n
    · have hlt' : (i : Int) < (n : Int) := by omega
      have hvl : v < 2 ^ 63 := by
        have h1 := num_lt (l.take i)
        have h2 : (2 : Nat) ^ (l.take i).length ≤ 2 ^ 63 := Nat.pow_le_pow_right (by omega) (by rw [List.length_take]; omega)
        omega
      obtain ⟨v2, hv2⟩ : ∃ z, z = 2 * v := ⟨_, rfl⟩
      obtain ⟨v3, hv3⟩ : ∃ z, z = v2 + 1 := ⟨_, rfl⟩
      have u1 : IntKind.u64.wrap ((v : Int) * 2) = (v2 : Int) := by rw [IntKind.wrap_u64]; omega
      have u2 : IntKind.u64.wrap ((v2 : Int) + 1) = (v3 : Int) := by rw [IntKind.wrap_u64]; omega
      obtain ⟨b, hb⟩ : ∃ b, l[i]? = some b := ⟨l[i]'(by rw [← HN.out]; exact hlt), List.getElem?_eq_getElem _⟩
      have ht := take_bit l i b hb
      cases b
      · have hidx := H0.out i hb
        have HV : Hid (v2 = num (l.take (i + 1))) := Lib.hid (by rw [ht, num_snoc, ← hv, hv2]; rfl)
        clear hv hv2 hv3 u2 hb ht hvl
        go_wp2
        go_roundw
        case rel => exact ⟨i + 1, v2, by go_num, rfl, by omega, HV.out, by first | rfl | trivial⟩
        case measure => simp [intOf]; omega
      · have hidx := H1.out i hb
        have HV : Hid (v3 = num (l.take (i + 1))) := Lib.hid (by rw [ht, num_snoc, ← hv, hv3, hv2]; rfl)
        clear hv hv2 hv3 hb ht hvl
        go_wp2
        go_roundw
        case rel => exact ⟨i + 1, v3, by go_num, rfl, by omega, HV.out, by first | rfl | trivial⟩
        case measure => simp [intOf]; omega
    · have hlt' : ¬ (i : Int) < (n : Int) := by omega
      have HV : Hid (v = num l) := Lib.hid (by rw [hv, List.take_of_length_le (by rw [← HN.out]; omega)])
      clear hv
      go_wp2
      go_ret
      exact ⟨by rw [← HV.out]; rfl, Below.refl _ _⟩
set_option maxRecDepth 100000 in
theorem unp_take (b : List UInt8) (t : Nat) (h : t < b.length) : unp (b.take (t + 1)) = unp (b.take t) ++ bN (b[t]).toNat 8 := by
  rw [List.take_succ_eq_append_getElem h, unp_snoc]
set_option maxRecDepth 100000 in
set_option maxHeartbeats 2000000 in
theorem zall_calls (A : Option Addr) (n c : Nat) (b : List UInt8) (w : World) (hr : Rd w A n b) (hn : n ≤ 1000) :
    Calls Try.prog 40 #[.slice A n c] w (Ret w (.string (tx (unp b)))) := by
  have hln := hr.len
  have HR := Lib.hid hr
  clear hr
  go_enter Try.func40, Try.ntmps40
  go_wp2
  go_loopw [3, 8] (fun ov kv wr => ∃ (t : Nat) (s : ByteArray), kv = .int .i64 (t : Int) ∧ ov = .string s ∧ t ≤ n ∧ s = tx (unp (b.take t)) ∧ Below w.heap.size w wr) (fun _ kv _ => n - (intOf kv).toNat)
  case atStart => exact ⟨0, _, by first | rfl | go_num, rfl, by omega, by rw [List.take_zero]; rfl, Below.refl _ _⟩
  case round =>
    obtain ⟨t, s, rfl, rfl, htn, hs, hbel⟩ := hrel
    obtain ⟨wo, hwo⟩ : ∃ x, x = wr := ⟨_, rfl⟩
    rw [← hwo] at hbel ⊢
    clear hwo
    by_cases hlt : t < n
    · have hlt' : (t : Int) < (n : Int) := by omega
      obtain ⟨g, off, hl, rfl, _, sc⟩ := (HR.out.below hbel).at_ hlt
      have hN := unp_take b t hl
      obtain ⟨x, hx⟩ : ∃ z, z = b[t] := ⟨_, rfl⟩
      rw [← hx] at sc hN
      have hx8 := x.toNat_lt
      obtain ⟨y, hy⟩ : ∃ z, z = tx (bN x.toNat 8) := ⟨_, rfl⟩
      obtain ⟨m, hm⟩ : ∃ z, z = x.toNat := ⟨_, rfl⟩
      have CB : Hid (∀ W, Calls Try.prog 66 #[.int .u64 (m : Int), .int .i64 8] W (Ret W (.string y))) := Lib.hid fun W => by rw [hy, hm]; exact zbits_calls x.toNat 8 (by omega) (by omega) W
      obtain ⟨s', hs'⟩ : ∃ z, z = tx (unp (b.take (t + 1))) := ⟨_, rfl⟩
      have hadd : ∀ W, (Op.stringOp .add s y).run Try.prog W = .ok (.string s') W := fun W => by
        rw [hs', hN, hs, hy]
        exact tx_add _ _ (by rw [unp_len, List.length_take]; omega) (by rw [bN_len]; omega) W
      rw [← hm] at sc hx8
      have u1 : IntKind.u64.wrap (m : Int) = (m : Int) := by rw [IntKind.wrap_u64]; omega
      have HS := Lib.hid hs'
      clear hs hs' hN hx hy hm
      go_wp2_with (go_at_call 66; refine (CB.out _).mono ?_; rintro e' w2 ⟨rfl, hB2⟩)
      go_roundw
      case rel => exact ⟨t + 1, s', by go_num, rfl, by omega, HS.out, below_more hbel hB2⟩
      case measure => simp [intOf]; omega
    · have hlt' : ¬ (t : Int) < (n : Int) := by omega
      have HS : Hid (s = tx (unp b)) := Lib.hid (by rw [hs, List.take_of_length_le (by omega)])
      clear hs
      go_wp2
      go_ret
      exact ⟨by rw [← HS.out]; rfl, hbel⟩
end Go.Proofs.Ytplnmjdafchjbaa
