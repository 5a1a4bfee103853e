/- Merged texts: TxnK BytE TxnX. -/
import Derived.Test.YthkkllcpogagiaaMar
import Derived.Test.YthkkllcpogagiaaMaa
import Derived.Test.YthkkllcpogagiaaMaq
/- What package txn is to answer; layer 14's own awake. -/
namespace Go.Proofs.Ythkkllcpogagiaa
open Go.RowKit
set_option linter.unusedVariables false
set_option linter.unusedSimpArgs false

structure TxnOk : Prop where
  bytes : ∀ (W : World) (s : Nat) (A : Option Addr) (n c : Nat) (O : List (Nat × List UInt8)), s < 18446744073709551616 → RdT W A n O → n ≤ c → c ≤ maxLen → n ≤ 20 → (∀ o ∈ O, o.2.length ≤ 200) →
    Calls Try.prog 11 #[.agg #[.int .u64 (s : Int), .slice A n c]] W fun e w' => ∃ A' n' c', e = .returned (.tuple #[.slice A' n' c', .int .i64 (tbE s O : Int)]) ∧ Rd w' A' n' (tbB s O) ∧ n' ≤ c' ∧ c' ≤ maxLen ∧ Below W.heap.size W w'
  parse : ∀ (W : World) (A : Option Addr) (n c : Nat) (b : List UInt8), Rd W A n b → n ≤ c → c ≤ maxLen → n ≤ 1000 →
    Calls Try.prog 7 #[.slice A n c] W fun e w' => ∃ A' n' c', e = .returned (.tuple #[.agg #[.int .u64 (tpS b : Int), .slice A' n' c'], .int .i64 (tpE b : Int)]) ∧ RdT w' A' n' (tpO b) ∧ n' ≤ c' ∧ c' ≤ maxLen ∧ Below W.heap.size W w'
structure TxnPay : Prop where
  pays : ∀ (W : World) (s : Nat) (A : Option Addr) (n c : Nat) (O : List (Nat × List UInt8)) (X : Option Addr) (m d : Nat) (t : List UInt8), s < 18446744073709551616 → RdT W A n O → n ≤ c → c ≤ maxLen → n ≤ 20 → (∀ o ∈ O, o.2.length ≤ 200) → Rd W X m t → m ≤ d → d ≤ maxLen → m ≤ 200 →
    Calls Try.prog 15 #[.agg #[.int .u64 (s : Int), .slice A n c], .slice X m d] W (Ret W (.bool (pays t O)))
  sum : ∀ (W : World) (s : Nat) (A : Option Addr) (n c : Nat) (O : List (Nat × List UInt8)) (X : Option Addr) (m d : Nat) (t : List UInt8), s < 18446744073709551616 → RdT W A n O → n ≤ c → c ≤ maxLen → n ≤ 20 → (∀ o ∈ O, o.2.length ≤ 200) → Rd W X m t → m ≤ d → d ≤ maxLen → m ≤ 200 →
    Calls Try.prog 14 #[.agg #[.int .u64 (s : Int), .slice A n c], .slice X m d] W (Ret W (.tuple #[.int .u64 ((if paid t O < 18446744073709551616 then paid t O else 0 : Nat) : Int), .bool (decide (paid t O < 18446744073709551616))]))
set_option maxRecDepth 100000 in
theorem tb_five : tbE 5 [] = 0 ∧ tbB 5 [] = [1, 5, 0, 0, 0, 0, 0, 0, 0, 0] := by decide
set_option maxRecDepth 100000 in
set_option maxHeartbeats 2000000 in
theorem awake14_calls (K : TxnOk) (w : World) : Calls Try.prog 6 #[] w (Ret w (.bool true)) := by
  have C1 : Hid (∀ W : World, Calls Try.prog 11 #[.agg #[.int .u64 5, .slice none 0 0]] W fun e w' => ∃ A' c', e = .returned (.tuple #[.slice A' 10 c', .int .i64 0]) ∧ (convert 22 9 (.slice A' 10 c')).run Try.prog w' = .ok (.string ⟨#[1, 5, 0, 0, 0, 0, 0, 0, 0, 0]⟩) w' ∧ c' ≤ 9223372036854775807 ∧ 10 ≤ c' ∧ Below W.heap.size W w') := Lib.hid fun W => by
    have h := K.bytes W 5 none 0 0 [] (by omega) (RdT.nil _ _) (by omega) (by unfold maxLen; omega) (by omega) (fun o ho => by simp at ho)
    rw [tb_five.1, tb_five.2] at h
    refine h.mono ?_
    rintro e w' ⟨A', n', c', rfl, h1, h2, h3, h4⟩
    have hn := h1.len
    simp at hn
    subst hn
    exact ⟨A', c', rfl, conv8 w' A' 10 c' _ h1, by unfold maxLen at h3; omega, h2, h4⟩
  clear K
  go_enter Try.func6, Try.ntmps6
  go_wp2_with (go_at_call 11; refine (C1.out _).mono ?_; rintro e' w1 ⟨A1, c1, rfl, hcv, hc1, hc2, hB1⟩)
  go_ret
  exact ⟨rfl, hB1⟩
set_option maxRecDepth 100000 in
theorem tb_len (s : Nat) (O : List (Nat × List UInt8)) (h : tbE s O = 0) : (tbB s O).length ≠ 64 := by
  unfold tbB
  rw [if_pos h]
  exact (tbE_ok h).2.2
set_option maxRecDepth 100000 in
theorem tp_small (b : List UInt8) : (tpO b).length ≤ 8 ∧ ∀ o ∈ tpO b, o.2.length ≤ 64 := by
  by_cases h : tpE b = 0
  · obtain ⟨h1, h2, h3, h4⟩ := tp_back h
    exact ⟨(tbE_ok h2).1, fun o ho => (h4 o ho).2⟩
  · unfold tpO
    rw [if_neg h]
    exact ⟨Nat.zero_le _, fun o ho => by simp at ho⟩
set_option maxRecDepth 100000 in
theorem tpS_lt (b : List UInt8) : tpS b < 18446744073709551616 := by
  by_cases h : tpE b = 0
  · exact (tp_back h).2.2.1
  · unfold tpS
    rw [if_neg h]
    omega
end Go.Proofs.Ythkkllcpogagiaa

/- The contract of bytes.Equal. -/
namespace Go.Proofs.Ythkkllcpogagiaa
open Go.RowKit
set_option linter.unusedVariables false
set_option linter.unusedSimpArgs false

set_option maxRecDepth 100000 in
set_option maxHeartbeats 4000000 in
theorem bequal_calls (A : Option Addr) (m c : Nat) (x : List UInt8) (B : Option Addr) (n d : Nat) (y : List UInt8) (E : Bool) (w : World) (hx : Rd w A m x) (hy : Rd w B n y) (hE : decide (x = y) = E) :
    Calls Try.prog 34 #[.slice A m c, .slice B n d] w (Ret w (.bool E)) := by
  have h1 : (convert 22 9 (.slice A m c)).run Try.prog w = .ok (.string ⟨x.toArray⟩) w := conv8 w A m c x hx
  have h2 : (convert 22 9 (.slice B n d)).run Try.prog w = .ok (.string ⟨y.toArray⟩) w := conv8 w B n d y hy
  have hb : (x == y) = E := by rw [← hE]; by_cases h : x = y <;> simp [h]
  clear hx hy hE
  go_enter Try.func34, Try.ntmps34
  go_wp2
  go_ret
  exact ⟨rfl, Below.refl _ _⟩
end Go.Proofs.Ythkkllcpogagiaa

/- The contracts of package txn's own Pays and Sum. -/
namespace Go.Proofs.Ythkkllcpogagiaa
open Go.RowKit
set_option linter.unusedVariables false
set_option linter.unusedSimpArgs false

set_option maxRecDepth 100000 in
theorem paid_mono (t : List UInt8) (O : List (Nat × List UInt8)) (i : Nat) : ∀ k, paid t (O.take i) ≤ paid t (O.take (i + k))
  | 0 => Nat.le_refl _
  | k + 1 => by
    have h := paid_mono t O i k
    by_cases hk : i + k < O.length
    · have := paid_take t O (i + k) hk
      rw [show i + (k + 1) = (i + k) + 1 from rfl, this]
      omega
    · rw [List.take_of_length_le (show O.length ≤ i + (k + 1) by omega)]
      rw [List.take_of_length_le (show O.length ≤ i + k by omega)] at h
      exact h
set_option maxRecDepth 100000 in
theorem paid_part (t : List UInt8) (O : List (Nat × List UInt8)) (i : Nat) : paid t (O.take i) ≤ paid t O := by
  have h := paid_mono t O i O.length
  rwa [List.take_of_length_le (show O.length ≤ i + O.length by omega)] at h
set_option maxRecDepth 100000 in
set_option maxHeartbeats 4000000 in
theorem gpays_calls (s : Nat) (A : Option Addr) (n c : Nat) (O : List (Nat × List UInt8)) (X : Option Addr) (m d : Nat) (t : List UInt8) (w : World) (hr : RdT w A n O) (hX : Rd w X m t) (hn : n ≤ 1000) :
    Calls Try.prog 15 #[.agg #[.int .u64 (s : Int), .slice A n c], .slice X m d] w (Ret w (.bool (pays t O))) := by
  have hln := hr.len
  have HB0 : Hid (Below w.heap.size w (w.alloc (.cells #[.int .u64 (s : Int), .slice A n c] 27))) := Lib.hid ((Below.refl _ w).alloc (Nat.le_refl _) _)
  have HR := Lib.hid hr
  have HL := Lib.hid hln
  have CE : Hid (∀ (W : World) (Y : Option Addr) (k d' : Nat) (y : List UInt8) (E : Bool), Below w.heap.size w W → Rd W Y k y → decide (y = t) = E → Calls Try.prog 34 #[.slice Y k d', .slice X m d] W (Ret W (.bool E))) := Lib.hid fun W Y k d' y E hb hy hE => bequal_calls Y k d' y X m d t E W hy (hX.below hb) hE
  clear hr hX hln
  go_enter Try.func15, Try.ntmps15
  go_wp2
  go_loopw [10] (fun cv wr => ∃ (i : Nat), i ≤ n ∧ cv = .int .i64 (i : Int) ∧ pays t (O.take i) = false ∧ Below w.heap.size w wr) (fun cv _ => n - (intOf cv).toNat)
  case atStart => exact ⟨0, Nat.zero_le _, rfl, rfl, HB0.out⟩
  case round =>
    obtain ⟨i, hin, rfl, hpf, hB⟩ := hrel
    by_cases hlt : i < n
    · have hlt' : (i : Int) < (n : Int) := by omega
      obtain ⟨b, off, hl, rfl, hb, Y, k, c', hrg, h1, h2, h3, h4⟩ := (HR.out.below hB).at_ hlt
      have hpt := pays_take t O i hl
      rw [hpf, Bool.false_or] at hpt
      have HM := Lib.hid (List.getElem_mem hl)
      obtain ⟨y, hy⟩ : ∃ z, z = O[i].2 := ⟨_, rfl⟩
      obtain ⟨v, hv⟩ : ∃ z, z = O[i].1 := ⟨_, rfl⟩
      have HY := Lib.hid hy
      rw [← hy] at h3 hpt
      rw [← hv] at hrg
      have sc0 : wr.cell? ⟨b, off + i * 2, none⟩ = some (.int .u64 (v : Int)) := hrg 0 _ rfl
      have sc1 : wr.cell? ⟨b, off + i * 2 + 1, none⟩ = some (.slice Y k c') := hrg 1 _ rfl
      have hba : Below wr.heap.size wr (wr.alloc (.cells #[.int .u64 (v : Int), .slice Y k c'] 60)) := (Below.refl _ wr).alloc (Nat.le_refl _) _
      have k5 : Blk (wr.alloc (.cells #[.int .u64 (v : Int), .slice Y k c'] 60)) wr.heap.size [.int .u64 (v : Int), .slice Y k c'] 60 := Blk.new wr _ _
      obtain ⟨w5, hw5⟩ : ∃ z, z = wr.alloc (.cells #[.int .u64 (v : Int), .slice Y k c'] 60) := ⟨_, rfl⟩
      obtain ⟨g5, hg5⟩ : ∃ z, z = wr.heap.size := ⟨_, rfl⟩
      have HW5 := Lib.hid (And.intro hw5 hg5)
      rw [← hw5, ← hg5] at k5
      rw [← hw5] at hba
      have s50 : w5.cell? ⟨g5, 0, none⟩ = some (.int .u64 (v : Int)) := k5.cell 0
      have s51 : w5.cell? ⟨g5, 1, none⟩ = some (.slice Y k c') := k5.cell 1
      have HBE := Lib.hid (below_more hB hba)
      have HYR := Lib.hid (h3.below hba)
      clear hrg hy hv h1 h2 h3 h4 hpf hb hba k5 hw5 hg5
      by_cases he : y = t
      · have HP : Hid (pays t O = true) := Lib.hid (by
          unfold pays
          rw [List.any_eq_true]
          exact ⟨O[i], HM.out, by rw [← HY.out]; exact decide_eq_true he⟩)
        have C5 := Lib.hid (CE.out w5 Y k c' y true HBE.out HYR.out (decide_eq_true he))
        clear he hpt hB
        go_upto_region 4 with fail
        rw [← HW5.out.1, ← HW5.out.2]
        clear sc0 sc1
        go_wp2_with (go_at_call 34; refine C5.out.mono ?_; rintro e' w6 ⟨rfl, hB6⟩)
        go_ret
        rw [HP.out]
        exact ⟨rfl, below_more HBE.out hB6⟩
      · have HP : Hid (pays t (O.take (i + 1)) = false) := Lib.hid (by rw [hpt]; exact decide_eq_false he)
        have C5 := Lib.hid (CE.out w5 Y k c' y false HBE.out HYR.out (decide_eq_false he))
        clear he hpt hB
        go_upto_region 4 with fail
        rw [← HW5.out.1, ← HW5.out.2]
        clear sc0 sc1
        go_wp2_with (go_at_call 34; refine C5.out.mono ?_; rintro e' w6 ⟨rfl, hB6⟩)
        go_roundw
        case rel => exact ⟨i + 1, by omega, by go_num, HP.out, below_more HBE.out hB6⟩
        case measure => simp [intOf]; omega
    · have hlt' : ¬ (i : Int) < (n : Int) := by omega
      have HP : Hid (pays t O = false) := Lib.hid (by rwa [List.take_of_length_le (by rw [HL.out]; omega)] at hpf)
      have HBB := Lib.hid hB
      clear hpf hB
      go_wp2
      go_ret
      rw [HP.out]
      exact ⟨rfl, HBB.out⟩
set_option maxRecDepth 100000 in
set_option maxHeartbeats 4000000 in
theorem gsum_calls (s : Nat) (A : Option Addr) (n c : Nat) (O : List (Nat × List UInt8)) (X : Option Addr) (m d : Nat) (t : List UInt8) (w : World) (hr : RdT w A n O) (hX : Rd w X m t) (hn : n ≤ 1000) :
    Calls Try.prog 14 #[.agg #[.int .u64 (s : Int), .slice A n c], .slice X m d] w (Ret w (.tuple #[.int .u64 ((if paid t O < 18446744073709551616 then paid t O else 0 : Nat) : Int), .bool (decide (paid t O < 18446744073709551616))])) := by
  have hln := hr.len
  have HB0 : Hid (Below w.heap.size w (w.alloc (.cells #[.int .u64 (s : Int), .slice A n c] 27))) := Lib.hid ((Below.refl _ w).alloc (Nat.le_refl _) _)
  have HR := Lib.hid hr
  have HL := Lib.hid hln
  have CE : Hid (∀ (W : World) (Y : Option Addr) (k d' : Nat) (y : List UInt8) (E : Bool), Below w.heap.size w W → Rd W Y k y → decide (y = t) = E → Calls Try.prog 34 #[.slice Y k d', .slice X m d] W (Ret W (.bool E))) := Lib.hid fun W Y k d' y E hb hy hE => bequal_calls Y k d' y X m d t E W hy (hX.below hb) hE
  clear hr hX hln
  obtain ⟨R, hR⟩ : ∃ z, z = Value.tuple #[.int .u64 ((if paid t O < 18446744073709551616 then paid t O else 0 : Nat) : Int), .bool (decide (paid t O < 18446744073709551616))] := ⟨_, rfl⟩
  have HYES : Hid (∀ q : Nat, q < 18446744073709551616 → q = paid t O → R = .tuple #[.int .u64 (q : Int), .bool true]) := Lib.hid fun q h1 h2 => by rw [hR, ← h2, if_pos h1, decide_eq_true h1]
  have HNO : Hid (¬ paid t O < 18446744073709551616 → R = .tuple #[.int .u64 0, .bool false]) := Lib.hid fun h => by rw [hR, if_neg h, decide_eq_false h]; rfl
  rw [← hR]
  clear hR
  go_enter Try.func14, Try.ntmps14
  go_wp2
  go_loopw [12, 6] (fun cv pv wr => ∃ (i p : Nat), i ≤ n ∧ cv = .int .i64 (i : Int) ∧ pv = .int .u64 (p : Int) ∧ p < 18446744073709551616 ∧ p = paid t (O.take i) ∧ Below w.heap.size w wr) (fun cv _ _ => n - (intOf cv).toNat)
  case atStart => exact ⟨0, 0, Nat.zero_le _, rfl, rfl, by omega, rfl, HB0.out⟩
  case round =>
    obtain ⟨i, p, hin, rfl, rfl, hp64, hp, hB⟩ := hrel
    by_cases hlt : i < n
    · have hlt' : (i : Int) < (n : Int) := by omega
      obtain ⟨b, off, hl, rfl, hb, Y, k, c', hrg, h1, h2, h3, h4⟩ := (HR.out.below hB).at_ hlt
      have hpt := paid_take t O i hl
      rw [← hp] at hpt
      have hpp := paid_part t O (i + 1)
      obtain ⟨y, hy⟩ : ∃ z, z = O[i].2 := ⟨_, rfl⟩
      obtain ⟨v, hv⟩ : ∃ z, z = O[i].1 := ⟨_, rfl⟩
      rw [← hy] at h3
      rw [← hv] at hrg h4
      rw [← hy, ← hv] at hpt
      have sc0 : wr.cell? ⟨b, off + i * 2, none⟩ = some (.int .u64 (v : Int)) := hrg 0 _ rfl
      have sc1 : wr.cell? ⟨b, off + i * 2 + 1, none⟩ = some (.slice Y k c') := hrg 1 _ rfl
      have hba : Below wr.heap.size wr (wr.alloc (.cells #[.int .u64 (v : Int), .slice Y k c'] 60)) := (Below.refl _ wr).alloc (Nat.le_refl _) _
      have k5 : Blk (wr.alloc (.cells #[.int .u64 (v : Int), .slice Y k c'] 60)) wr.heap.size [.int .u64 (v : Int), .slice Y k c'] 60 := Blk.new wr _ _
      obtain ⟨w5, hw5⟩ : ∃ z, z = wr.alloc (.cells #[.int .u64 (v : Int), .slice Y k c'] 60) := ⟨_, rfl⟩
      obtain ⟨g5, hg5⟩ : ∃ z, z = wr.heap.size := ⟨_, rfl⟩
      have HW5 := Lib.hid (And.intro hw5 hg5)
      rw [← hw5, ← hg5] at k5
      rw [← hw5] at hba
      have s50 : w5.cell? ⟨g5, 0, none⟩ = some (.int .u64 (v : Int)) := k5.cell 0
      have s51 : w5.cell? ⟨g5, 1, none⟩ = some (.slice Y k c') := k5.cell 1
      have HBE := Lib.hid (below_more hB hba)
      have HYR := Lib.hid (h3.below hba)
      clear hrg hy hv h1 h2 h3 hp hb hba k5 hw5 hg5 hB
      by_cases he : y = t
      · rw [if_pos he] at hpt
        have C5 := Lib.hid (CE.out w5 Y k c' y true HBE.out HYR.out (decide_eq_true he))
        obtain ⟨q, hq⟩ : ∃ z, z = p + v := ⟨_, rfl⟩
        obtain ⟨z, hz⟩ : ∃ z : Int, z = 18446744073709551615 - (p : Int) := ⟨_, rfl⟩
        have hz1 : IntKind.u64.wrap (18446744073709551615 - (p : Int)) = z := by rw [IntKind.wrap_u64, hz]; omega
        by_cases hbig : 18446744073709551616 ≤ q
        · have HN : Hid (¬ paid t O < 18446744073709551616) := Lib.hid (by omega)
          have hz2 : z < (v : Int) := by omega
          clear he hpt hpp hq hz hbig h4
          go_upto_region 5 with fail
          rw [← HW5.out.1, ← HW5.out.2]
          clear sc0 sc1
          go_upto_region 6 with (go_at_call 34; refine C5.out.mono ?_; rintro e' w6 ⟨rfl, hB6⟩; have s60 : w6.cell? ⟨g5, 0, none⟩ = some (.int .u64 (v : Int)) := (hB6.cell (p := ⟨g5, 0, none⟩) (lt_of_cell s50)).trans s50)
          go_wp2
          go_ret2
          rw [HNO.out HN.out]
          exact ⟨rfl, below_more HBE.out hB6⟩
        · have HQ : Hid (q = paid t (O.take (i + 1)) ∧ q < 18446744073709551616) := Lib.hid (by omega)
          have hz2 : ¬ z < (v : Int) := by omega
          have hz3 : IntKind.u64.wrap ((p : Int) + (v : Int)) = (q : Int) := by rw [IntKind.wrap_u64]; omega
          clear he hpt hpp hq hz hbig h4
          go_upto_region 5 with fail
          rw [← HW5.out.1, ← HW5.out.2]
          clear sc0 sc1
          go_upto_region 6 with (go_at_call 34; refine C5.out.mono ?_; rintro e' w6 ⟨rfl, hB6⟩; have s60 : w6.cell? ⟨g5, 0, none⟩ = some (.int .u64 (v : Int)) := (hB6.cell (p := ⟨g5, 0, none⟩) (lt_of_cell s50)).trans s50)
          go_wp2
          go_roundw
          case rel => exact ⟨i + 1, q, by omega, by go_num, rfl, HQ.out.2, HQ.out.1, below_more HBE.out hB6⟩
          case measure => simp [intOf]; omega
      · rw [if_neg he, Nat.add_zero] at hpt
        have HP := Lib.hid (And.intro hp64 hpt.symm)
        have C5 := Lib.hid (CE.out w5 Y k c' y false HBE.out HYR.out (decide_eq_false he))
        clear he hpt hpp h4
        go_upto_region 5 with fail
        rw [← HW5.out.1, ← HW5.out.2]
        clear sc0 sc1
        go_wp2_with (go_at_call 34; refine C5.out.mono ?_; rintro e' w6 ⟨rfl, hB6⟩)
        go_roundw
        case rel => exact ⟨i + 1, p, by omega, by go_num, rfl, HP.out.1, HP.out.2, below_more HBE.out hB6⟩
        case measure => simp [intOf]; omega
    · have hlt' : ¬ (i : Int) < (n : Int) := by omega
      rw [List.take_of_length_le (by rw [HL.out]; omega)] at hp
      have HP := Lib.hid (And.intro hp64 hp)
      have HBB := Lib.hid hB
      clear hp hp64 hB
      go_wp2
      go_ret2
      rw [HYES.out p HP.out.1 HP.out.2]
      exact ⟨rfl, HBB.out⟩
set_option maxRecDepth 100000 in
theorem txnPay : TxnPay where
  pays := fun W s A n c O X m d t _ hr _ _ hn _ hX _ _ _ => gpays_calls s A n c O X m d t W hr hX (by omega)
  sum := fun W s A n c O X m d t _ hr _ _ hn _ hX _ _ _ => gsum_calls s A n c O X m d t W hr hX (by omega)
end Go.Proofs.Ythkkllcpogagiaa
