/- The contract of the document's own Numbers: the words of a text, its last one too. -/
import Derived.Test.YtomkebbocbbfjaaSipG
import Derived.Test.YtomkebbocbbfjaaOwn64
import Derived.Test.YtomkebbocbbfjaaValue
import Derived.Test.YtomkebbocbbfjaaRoom
import Derived.Test.YtomkebbocbbfjaaSub
namespace Go.Proofs.Ytomkebbocbbfjaa
open Go.RowKit
set_option linter.unusedVariables false

/-- The text with its end. -/
def fullT (b : List UInt8) : List UInt8 := b ++ List.replicate (7 - b.length % 8) 0 ++ [UInt8.ofNat (b.length % 256)]
theorem fullT_len (b : List UInt8) : (fullT b).length = 8 * (b.length / 8 + 1) := by simp [fullT]; omega
/-- The words. -/
def nums (b : List UInt8) (t : Nat) : List Nat := (List.range t).map fun i => wordAt (fullT b) i
theorem nums_len (b : List UInt8) (t : Nat) : (nums b t).length = t := by simp [nums]
theorem nums_succ (b : List UInt8) (t : Nat) : nums b (t + 1) = nums b t ++ [wordAt (fullT b) t] := by simp [nums, List.range_succ]
theorem numL_zeros (n : Nat) : numL (List.replicate n 0) = 0 := by
  induction n with
  | zero => rfl
  | succ n ih => simp [List.replicate_succ, numL, ih]
theorem full_word (b : List UInt8) (t : Nat) (h : t < b.length / 8) : wordAt (fullT b) t = wordAt b t := by
  unfold wordAt fullT
  rw [List.append_assoc, List.drop_append_of_le_length (by omega), List.take_append_of_le_length (by rw [List.length_drop]; omega)]
theorem full_last (b : List UInt8) : wordAt (fullT b) (b.length / 8) = lastW b := by
  unfold wordAt fullT lastW
  rw [List.append_assoc, List.drop_append_of_le_length (by omega)]
  rw [List.take_of_length_le (by simp; omega), numL_append, numL_append, numL_zeros, List.length_replicate, List.length_drop]
  simp only [numL]
  rw [ofNat_toNat]
  have e : 256 ^ (b.length - 8 * (b.length / 8)) * (0 + 256 ^ (7 - b.length % 8) * (b.length % 256 % 256 + 256 * 0)) = 2 ^ 56 * (b.length % 256) := by
    rw [Nat.zero_add, Nat.mul_zero, Nat.add_zero, Nat.mod_mod, ← Nat.mul_assoc, ← Nat.pow_add, show b.length - 8 * (b.length / 8) + (7 - b.length % 8) = 7 from by omega]
  rw [e]

set_option maxRecDepth 100000 in
set_option maxHeartbeats 1000000 in
theorem numbers_calls (A : Option Addr) (n c : Nat) (b : List UInt8) (w : World) (hn : n ≤ 100000) (hr : Rd w A n b) :
    Calls Try.prog 22 #[.slice A n c] w fun e w' => ∃ A' c', e = .returned (.slice A' (n / 8 + 1) c') ∧ Own64 w' w.heap.size A' (n / 8 + 1) c' (nums b (n / 8 + 1)) ∧ Below w.heap.size w w' := by
  have hbl := hr.len
  have HR := Lib.hid hr
  have HL := Lib.hid hbl
  have hE : Own (w.alloc (.cells #[] 5)) w.heap.size (some ⟨w.heap.size, 0, none⟩) 0 0 [] := by
    have h := Own.room w 0 (by unfold maxLen; omega)
    rw [show madeCells #[Value.int .u8 0] 0 = #[] from Array.eq_empty_of_size_eq_zero (by rw [size_madeCells])] at h
    exact h
  have HE := Lib.hid hE
  clear hr hbl hE
  go_enter Try.func22, Try.ntmps22
  go_wp2_with (at_builtin; refine app8_all _ rfl _ _ rfl w.heap.size (some ⟨w.heap.size, 0, none⟩) 0 0 [] A n c b rfl rfl HE.out (HR.out.below ((Below.refl _ w).alloc (Nat.le_refl _) _)) (by omega) (by simp) ?_; intro A2 c2 w2 hown2 hbel2)
  rw [List.nil_append] at hown2
  simp only [Nat.zero_add] at hown2
  have hB2 : Below w.heap.size w w2 := ((Below.refl _ w).alloc (Nat.le_refl _) _).trans hbel2
  have H2 := Lib.hid (And.intro hown2 hB2)
  clear hown2 hB2 hbel2
  go_loopw [4] (fun v wr => ∃ (j : Nat) (B : Option Addr) (d : Nat), j ≤ 7 - n % 8 ∧ v = .slice B (n + j) d ∧ Own wr w.heap.size B (n + j) d (b ++ List.replicate j 0) ∧ Below w.heap.size w wr) (fun v _ => match v with | .slice _ p _ => n + 8 - p | _ => 0)
  case atStart => exact ⟨0, A2, c2, Nat.zero_le _, rfl, by simpa using H2.out.1, H2.out.2⟩
  case round =>
    obtain ⟨j, B, d, hj, rfl, hown, hbel⟩ := hrel
    obtain ⟨p, hp⟩ : ∃ p, p = n + j := ⟨_, rfl⟩
    rw [← hp] at hown ⊢
    have hmod : (p : Int).tmod 8 = ((p % 8 : Nat) : Int) := by rw [Int.tmod_eq_emod_of_nonneg (by omega)]; omega
    obtain ⟨r, hrr⟩ : ∃ r, r = p % 8 := ⟨_, rfl⟩
    rw [← hrr] at hmod
    by_cases hlt : j < 7 - n % 8
    · have hne : (r : Int) ≠ 7 := by omega
      have HB := Lib.hid hbel
      have HO := Lib.hid hown
      have HP := Lib.hid hp
      clear hbel hown hp hrr
      go_wp2_with (at_builtin; refine app8_one _ rfl _ _ rfl w.heap.size B p d _ _ 0 rfl rfl rfl HO.out (by have := HP.out; omega) HB.out.size ?_; intro A3 c3 w3 hown3 hbel3)
      go_roundw
      case rel =>
        have hpp := HP.out
        refine ⟨j + 1, A3, c3, by omega, by rw [hpp, Nat.add_assoc], ?_, HB.out.trans hbel3⟩
        rw [← Nat.add_assoc, ← hpp, List.replicate_succ', ← List.append_assoc]
        exact hown3
      case measure => have := HP.out; simp; omega
    · have hj7 : j = 7 - n % 8 := by omega
      have h7 : r = 7 := by omega
      subst h7
      obtain ⟨u, hu⟩ : ∃ u, u = n % 256 := ⟨_, rfl⟩
      have hmn : (n : Int).tmod 256 = (u : Int) := by rw [Int.tmod_eq_emod_of_nonneg (by omega)]; omega
      have hwu : IntKind.u8.wrap (u : Int) = (u : Int) := by rw [IntKind.wrap_u8]; omega
      have HB := Lib.hid hbel
      have HO := Lib.hid hown
      have HP := Lib.hid (And.intro hp (And.intro hj7 hu))
      clear hbel hown hp hrr hj7
      go_wp2_with (at_builtin; refine app8_one _ rfl _ _ rfl w.heap.size B p d _ _ (UInt8.ofNat u) (by rw [ofNat_toNat]; have := HP.out.2.2; omega) rfl rfl HO.out (by have := HP.out.1; omega) HB.out.size ?_; intro A3 c3 w3 hown3 hbel3)
      obtain ⟨hp, hj7, hu⟩ := HP.out
      have hfull : b ++ List.replicate j 0 ++ [UInt8.ofNat u] = fullT b := by unfold fullT; rw [HL.out, ← hj7, ← hu]
      rw [hfull] at hown3
      have hB3 := HB.out.trans hbel3
      have hrd := hown3.rd
      have hlen := fullT_len b
      rw [HL.out] at hlen
      obtain ⟨M, hM⟩ : ∃ M, M = n / 8 + 1 := ⟨_, rfl⟩
      rw [← hM] at hlen
      obtain ⟨P, hP⟩ : ∃ P, P = p + 1 := ⟨_, rfl⟩
      rw [← hP] at hrd hown3 ⊢
      have hP8 : P = 8 * M := by rw [← hown3.len, hlen]
      have hcap : P ≤ c3 := (own_cap hown3).1
      have H3 := Lib.hid (And.intro hB3 hrd)
      have hPa : P ≤ 8 * M := by omega
      have hPb : 8 * M ≤ P := by omega
      have hMn : M ≤ 100001 := by omega
      have HM := Lib.hid hM
      clear hP8 hM hown3 hbel3 hB3 hrd hfull hp hj7 hu HP HO HB hlen hP
      go_loopw [3, 5] (fun o i wr => ∃ (t : Nat) (B : Option Addr) (d : Nat), t ≤ M ∧ i = .int .i64 ((8 * t : Nat) : Int) ∧ o = .slice B t d ∧ Own64 wr w3.heap.size B t d (nums b t) ∧ Below w3.heap.size w3 wr) (fun _ i _ => 8 * M - (intOf i).toNat)
      case atStart => exact ⟨0, none, 0, Nat.zero_le _, rfl, rfl, Own64.nil _ _, Below.refl _ _⟩
      case round =>
        obtain ⟨t, B, d, ht, rfl, rfl, hown, hbel⟩ := hrel
        obtain ⟨q, hq⟩ : ∃ q, q = 8 * t := ⟨_, rfl⟩
        rw [← hq]
        by_cases hlt : t < M
        · have bq : (q : Int) < (P : Int) := by omega
          have hsl := fun W => run_subLH (P := Try.prog) 24 5 Try.underlying24 size8 A3 P c3 q (q + 8) (q : Int) ((q : Int) + 8) rfl (by omega) (by omega) (by omega) W
          rw [show q + 8 - q = 8 from by omega] at hsl
          obtain ⟨m, hm⟩ : ∃ m, m = wordAt (fullT b) t := ⟨_, rfl⟩
          have CV : Hid (Calls Try.prog 14 #[.slice (sub A3 c3 q) 8 (c3 - q)] wr fun e w' => e = .returned (.int .u64 (m : Int)) ∧ wr = w') := Lib.hid (by
            have h := value_calls (sub A3 c3 q) 8 (c3 - q) ((fullT b).drop q |>.take 8) wr (by omega) (by
              have h := (H3.out.2.below hbel).mid q (q + 8) hcap (by omega)
              rw [show q + 8 - q = 8 from by omega] at h
              exact h)
            rw [hm, wordAt, ← hq]
            rw [List.take_take, Nat.min_self] at h
            exact h)
          generalize sub A3 c3 q = A4 at *
          have hs := nums_succ b t
          rw [← hm] at hs
          have HS := Lib.hid hs
          have HO := Lib.hid hown
          have HB := Lib.hid hbel
          have HQ := Lib.hid hq
          clear hown hbel hs hm hq
          go_wp2_with (first
            | (go_at_call 14; refine CV.out.mono ?_; rintro e' w' ⟨rfl, rfl⟩)
            | (at_builtin; refine app64_one _ rfl _ _ rfl w3.heap.size B t d _ _ m rfl rfl rfl HO.out (by omega) HB.out.size ?_; intro A5 c5 w5 hown5 hbel5))
          go_roundw
          case rel =>
            rw [← HS.out] at hown5
            refine ⟨t + 1, A5, c5, by omega, ?_, rfl, hown5, HB.out.trans hbel5⟩
            have := HQ.out
            congr 1
            omega
          case measure => simp [intOf]; omega
        · have e : t = M := by omega
          subst e
          have bq : ¬ (q : Int) < (P : Int) := by omega
          have HO := Lib.hid hown
          have HB := Lib.hid hbel
          clear hown hbel
          go_wp2
          go_ret
          have hs3 := H3.out.1.size
          rw [← HM.out]
          refine ⟨_, _, rfl, ⟨HO.out.1, ?_⟩, H3.out.1.trans (HB.out.mono hs3)⟩
          obtain ⟨h0, h1, h | ⟨g, cap, cur, hv, hbg, hrest⟩⟩ := HO.out
          · exact ⟨h1, Or.inl h⟩
          · exact ⟨h1, Or.inr ⟨g, cap, cur, hv, by omega, hrest⟩⟩
end Go.Proofs.Ytomkebbocbbfjaa
