/- The walk of RiceSteps, over what packages bit and rice are to answer. -/
import Derived.Test.YtkmedbdaobficaaRicC
import Derived.Deep.RegionHeld3
import Derived.Deep.CutRange
import Derived.Deep.DeepCutAuto
namespace Go.Proofs.Ytkmedbdaobficaa
open Go.RowKit
set_option linter.unusedVariables false
set_option linter.unusedSimpArgs false

set_option maxRecDepth 100000 in
set_option maxHeartbeats 4000000 in
theorem riceSteps_walk {BW : World → Nat → (Nat → Prop) → List Bool → Prop} {BR : World → Nat → Nat → (Nat → Prop) → List Bool → Prop} (K : BitOk BW BR) (Q : RiceOk BW BR) (p : Int) (A : Option Addr) (m k : Nat) (N : List Nat) (w : World) (hp0 : -9223372036854775808 ≤ p) (hp1 : p ≤ 9223372036854775807) (w1 : RdN w A m N ∧ m ≤ k ∧ k ≤ maxLen) : Calls Try.prog 7 #[.int .i64 p, .slice A m k] w (Ret w (.bool true)) := by
  obtain ⟨hP, hmk, hkm⟩ := w1
  have HP := Lib.hid hP
  have hNl : N.length = m := hP.len
  have HQ := Lib.hid Q
  have HKM := Lib.hid hkm
  unfold maxLen at hkm
  have CA : Hid (∀ W, Calls Try.prog 10 #[] W (Ret W (.bool true))) := Lib.hid fun W => awake12_calls K Q W
  clear hP K Q
  go_enter Try.func7, Try.ntmps7
  by_cases h20 : 20 < m
  · have g1 : (20 : Int) < (m : Int) := by omega
    go_wp2_with (first
      | (go_at_call 10; refine (CA.out _).mono ?_; rintro e' y9 ⟨rfl, hB9⟩))
    go_ret
    exact ⟨rfl, hB9⟩
  have g1 : ¬ (20 : Int) < (m : Int) := by omega
  go_wp2
  go_loopw [18] (fun kv wr => ∃ (t : Nat), kv = .int .i64 (t : Int) ∧ t ≤ m ∧ (∀ j, j < t → rq p (N.getD j 0 - prv N j) ≤ 600 ∨ 65536 < rq p (N.getD j 0 - prv N j)) ∧ Below w.heap.size w wr) (fun kv _ => m - (intOf kv).toNat)
  case atStart => exact ⟨0, by first | rfl | go_num, by omega, fun j hj => absurd hj (by omega), Below.refl _ _⟩
  case round =>
    obtain ⟨t, rfl, htm, hall, hBr⟩ := hrel
    obtain ⟨wo, hwo⟩ : ∃ x, x = wr := ⟨_, rfl⟩
    rw [← hwo] at hBr ⊢
    clear hwo
    have hB := hBr
    by_cases hlt : t < m
    · have hlt' : (t : Int) < (m : Int) := by omega
      obtain ⟨bb, off, hl, rfl, sc, hm64⟩ := HP.out.at_ hB hlt
      have hgd : N.getD t 0 = N[t] := by rw [List.getD_eq_getElem?_getD, List.getElem?_eq_getElem hl]; rfl
      obtain ⟨x, hx⟩ : ∃ z, z = N[t] := ⟨_, rfl⟩
      rw [← hx] at sc hm64 hgd
      clear hx hBr
      by_cases ht0 : t = 0
      · subst ht0
        have hstep : N.getD 0 0 - prv N 0 = x := by rw [hgd]; rfl
        have g0 : ¬ (0 : Int) < 0 := by omega
        simp only [Nat.add_zero] at sc
        clear hgd
        obtain ⟨z, hz⟩ : ∃ z, z = rq p x := ⟨_, rfl⟩
        have CO : Hid (∀ W, Calls Try.prog 9 #[.int .i64 p, .int .u64 (x : Int)] W (Ret W (.int .u64 (z : Int)))) := Lib.hid fun W => by rw [hz]; exact xones_calls p x hm64 W
        by_cases hmid : 600 < z ∧ z ≤ 65536
        · have k1 : (600 : Int) < (z : Int) := by omega
          have k2 : (z : Int) ≤ 65536 := by omega
          have k3 : z ≤ 65536 := by omega
          clear hz hall hstep hmid
          go_wp2_with (first
            | (go_at_call 9; refine (CO.out _).mono ?_; rintro e' x6 ⟨rfl, hB6⟩; have hB := below_more hB hB6)
            | (go_at_call 10; refine (CA.out _).mono ?_; rintro e' y9 ⟨rfl, hB9⟩))
          go_ret
          exact ⟨rfl, below_more hB hB9⟩
        · have HALL : Hid (∀ j, j < 0 + 1 → rq p (N.getD j 0 - prv N j) ≤ 600 ∨ 65536 < rq p (N.getD j 0 - prv N j)) := Lib.hid fun j hj => by
            rcases Nat.lt_or_ge j 0 with h | h
            · exact hall j h
            · rw [show j = 0 by omega, hstep, ← hz]; omega
          clear hall hstep hz
          by_cases h6 : 600 < z
          · have k1 : (600 : Int) < (z : Int) := by omega
            have k2 : ¬ (z : Int) ≤ 65536 := by omega
            have k3 : ¬ z ≤ 65536 := by omega
            clear hmid
            go_wp2_with (first
              | (go_at_call 9; refine (CO.out _).mono ?_; rintro e' x6 ⟨rfl, hB6⟩; have hB := below_more hB hB6))
            go_roundw
            case rel => exact ⟨0 + 1, by go_num, by omega, HALL.out, hB⟩
            case measure => simp [intOf]; omega
          · have k1 : ¬ (600 : Int) < (z : Int) := by omega
            clear hmid
            go_wp2_with (first
              | (go_at_call 9; refine (CO.out _).mono ?_; rintro e' x6 ⟨rfl, hB6⟩; have hB := below_more hB hB6))
            go_roundw
            case rel => exact ⟨0 + 1, by go_num, by omega, HALL.out, hB⟩
            case measure => simp [intOf]; omega
      · have ht1 : (0 : Int) < (t : Int) := by omega
        obtain ⟨u, hu⟩ : ∃ u, t = u + 1 := ⟨t - 1, by omega⟩
        obtain ⟨bb', off', hl', e', sc', hb64⟩ := HP.out.at_ hB (j := u) (by omega)
        injection e' with e'
        injection e' with e1 e2
        subst e1 e2
        obtain ⟨b, hb⟩ : ∃ z, z = N[u] := ⟨_, rfl⟩
        rw [← hb] at sc' hb64
        have hprv : prv N t = b := by rw [hb, hu]; unfold prv; rw [if_neg (by omega), Nat.add_sub_cancel, List.getD_eq_getElem?_getD, List.getElem?_eq_getElem hl']; rfl
        have u1 : IntKind.i64.wrap ((t : Int) - 1) = (u : Int) := by rw [IntKind.wrap_i64]; omega
        have g2 : (u : Int) < (m : Int) := by omega
        obtain ⟨dd, hd⟩ : ∃ z, z = x - b := ⟨_, rfl⟩
        have hd64 : dd < 18446744073709551616 := by omega
        have hstep : N.getD t 0 - prv N t = dd := by rw [hgd, hprv, hd]
        clear hb hgd hprv hu
        by_cases hle : x ≤ b
        · have e1 : (x : Int) ≤ (b : Int) := by omega
          have e2 : ¬ (b : Int) < (x : Int) := by omega
          have e3 : ¬ b < x := by omega
          have e4 : dd = 0 := by omega
          have u2 : IntKind.u64.wrap ((x : Int) - (x : Int)) = 0 := by rw [IntKind.wrap_u64]; omega
          have u3 : IntKind.u64.wrap 0 = 0 := by rw [IntKind.wrap_u64]; omega
          rw [e4] at hstep
          clear hd e4
          obtain ⟨z, hz⟩ : ∃ z, z = rq p 0 := ⟨_, rfl⟩
          have CO : Hid (∀ W, Calls Try.prog 9 #[.int .i64 p, .int .u64 0] W (Ret W (.int .u64 (z : Int)))) := Lib.hid fun W => by rw [hz]; exact xones_calls p 0 (by omega) W
          by_cases hmid : 600 < z ∧ z ≤ 65536
          · have k1 : (600 : Int) < (z : Int) := by omega
            have k2 : (z : Int) ≤ 65536 := by omega
            have k3 : z ≤ 65536 := by omega
            clear hz hall hstep hmid
            go_wp2_with (first
              | (go_at_call 9; refine (CO.out _).mono ?_; rintro e' x6 ⟨rfl, hB6⟩; have hB := below_more hB hB6)
              | (go_at_call 10; refine (CA.out _).mono ?_; rintro e' y9 ⟨rfl, hB9⟩))
            go_ret
            exact ⟨rfl, below_more hB hB9⟩
          · have HALL : Hid (∀ j, j < t + 1 → rq p (N.getD j 0 - prv N j) ≤ 600 ∨ 65536 < rq p (N.getD j 0 - prv N j)) := Lib.hid fun j hj => by
              rcases Nat.lt_or_ge j t with h | h
              · exact hall j h
              · rw [show j = t by omega, hstep, ← hz]; omega
            clear hall hstep hz
            by_cases h6 : 600 < z
            · have k1 : (600 : Int) < (z : Int) := by omega
              have k2 : ¬ (z : Int) ≤ 65536 := by omega
              have k3 : ¬ z ≤ 65536 := by omega
              clear hmid
              go_wp2_with (first
                | (go_at_call 9; refine (CO.out _).mono ?_; rintro e' x6 ⟨rfl, hB6⟩; have hB := below_more hB hB6))
              go_roundw
              case rel => exact ⟨t + 1, by go_num, by omega, HALL.out, hB⟩
              case measure => simp [intOf]; omega
            · have k1 : ¬ (600 : Int) < (z : Int) := by omega
              clear hmid
              go_wp2_with (first
                | (go_at_call 9; refine (CO.out _).mono ?_; rintro e' x6 ⟨rfl, hB6⟩; have hB := below_more hB hB6))
              go_roundw
              case rel => exact ⟨t + 1, by go_num, by omega, HALL.out, hB⟩
              case measure => simp [intOf]; omega
        · have e1 : ¬ (x : Int) ≤ (b : Int) := by omega
          have e2 : (b : Int) < (x : Int) := by omega
          have e3 : b < x := by omega
          have e5 : ¬ (x : Int) < (b : Int) := by omega
          have u2 : IntKind.u64.wrap ((x : Int) - (b : Int)) = (dd : Int) := by rw [IntKind.wrap_u64]; omega
          clear hd
          obtain ⟨z, hz⟩ : ∃ z, z = rq p dd := ⟨_, rfl⟩
          have CO : Hid (∀ W, Calls Try.prog 9 #[.int .i64 p, .int .u64 (dd : Int)] W (Ret W (.int .u64 (z : Int)))) := Lib.hid fun W => by rw [hz]; exact xones_calls p dd hd64 W
          by_cases hmid : 600 < z ∧ z ≤ 65536
          · have k1 : (600 : Int) < (z : Int) := by omega
            have k2 : (z : Int) ≤ 65536 := by omega
            have k3 : z ≤ 65536 := by omega
            clear hz hall hstep hmid
            go_wp2_with (first
              | (go_at_call 9; refine (CO.out _).mono ?_; rintro e' x6 ⟨rfl, hB6⟩; have hB := below_more hB hB6)
              | (go_at_call 10; refine (CA.out _).mono ?_; rintro e' y9 ⟨rfl, hB9⟩))
            go_ret
            exact ⟨rfl, below_more hB hB9⟩
          · have HALL : Hid (∀ j, j < t + 1 → rq p (N.getD j 0 - prv N j) ≤ 600 ∨ 65536 < rq p (N.getD j 0 - prv N j)) := Lib.hid fun j hj => by
              rcases Nat.lt_or_ge j t with h | h
              · exact hall j h
              · rw [show j = t by omega, hstep, ← hz]; omega
            clear hall hstep hz
            by_cases h6 : 600 < z
            · have k1 : (600 : Int) < (z : Int) := by omega
              have k2 : ¬ (z : Int) ≤ 65536 := by omega
              have k3 : ¬ z ≤ 65536 := by omega
              clear hmid
              go_wp2_with (first
                | (go_at_call 9; refine (CO.out _).mono ?_; rintro e' x6 ⟨rfl, hB6⟩; have hB := below_more hB hB6))
              go_roundw
              case rel => exact ⟨t + 1, by go_num, by omega, HALL.out, hB⟩
              case measure => simp [intOf]; omega
            · have k1 : ¬ (600 : Int) < (z : Int) := by omega
              clear hmid
              go_wp2_with (first
                | (go_at_call 9; refine (CO.out _).mono ?_; rintro e' x6 ⟨rfl, hB6⟩; have hB := below_more hB hB6))
              go_roundw
              case rel => exact ⟨t + 1, by go_num, by omega, HALL.out, hB⟩
              case measure => simp [intOf]; omega
    · have hlt' : ¬ (t : Int) < (m : Int) := by omega
      have hst : ∀ t, t < m → rq p (N.getD t 0 - prv N t) ≤ 600 ∨ 65536 < rq p (N.getD t 0 - prv N t) := fun j hj => hall j (by omega)
      have hst : stL p 0 N ≤ 100000 := by
        have h1 := stL_few p N 600 N.length 0 (by omega) (fun j _ h => hst j (by omega))
        have e : stL p (prv N 0) (N.drop 0) = stL p 0 N := rfl
        rw [e] at h1
        exact Nat.le_trans h1 (Nat.le_trans (Nat.mul_le_mul_left _ (show N.length ≤ 20 by omega)) (by decide))
      obtain ⟨E, hE⟩ : ∃ z, z = (stp p 0 N).2 := ⟨_, rfl⟩
      obtain ⟨bs, hbs⟩ : ∃ z, z = stB (stp p 0 N) := ⟨_, rfl⟩
      obtain ⟨pb, hpb⟩ : ∃ z, z = (⟨bs.toArray⟩ : ByteArray) := ⟨_, rfl⟩
      have CS : Hid (∀ W, Below w.heap.size w W → Calls Try.prog 24 #[.int .i64 p, .slice A m k] W fun e w' => ∃ A' n' c', e = .returned (.tuple #[.slice A' n' c', .int .i64 (E : Int)]) ∧ Rd w' A' n' bs ∧ Below W.heap.size W w') := Lib.hid fun W h => by
        refine (HQ.out.steps W A m k N p (HP.out.below h) hmk HKM.out (by omega) hp0 hp1 hst).mono ?_
        rintro e w' ⟨A', n', c', rfl, k1, _, _, k2⟩
        exact ⟨A', n', c', by rw [hE], by rw [hbs]; exact k1, k2⟩
      have CD : Hid (∀ W, Below w.heap.size w W → Calls Try.prog 25 #[.int .i64 p, .slice A m k] W (Ret W (.tuple #[.string pb, .int .i64 (E : Int)]))) := Lib.hid fun W h => by rw [hpb, hbs, hE]; exact xsteps_calls p A m k N W (HP.out.below h) (by omega) hst
      have CV : Hid (∀ (W : World) A' n' c', Rd W A' n' bs → (convert 32 9 (.slice A' n' c')).run Try.prog W = .ok (.string pb) W) := Lib.hid fun W A' n' c' h => by rw [hpb]; exact conv8 W A' n' c' _ h
      clear hst hall hE hbs hpb hBr
      go_upto_region 14 with (first
        | (go_at_call 24; refine (CS.out _ hB).mono ?_; rintro e' x1 ⟨A8, n8, c8, rfl, hR8, hB8⟩; have hB := below_more hB hB8)
        | (go_at_call 25; refine (CD.out _ hB).mono ?_; rintro e' x2 ⟨rfl, hB9⟩; have hB := below_more hB hB9; have hR8 := hR8.below hB9))
      have hcv := CV.out _ A8 n8 c8 hR8
      go_wp2_with (first
        | (go_at_call 10; refine (CA.out _).mono ?_; rintro e' y9 ⟨rfl, hB9⟩))
      go_ret
      exact ⟨rfl, below_more hB hB9⟩
end Go.Proofs.Ytkmedbdaobficaa
