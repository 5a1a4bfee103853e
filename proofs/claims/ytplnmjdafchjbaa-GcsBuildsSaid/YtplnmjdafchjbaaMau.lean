/- Merged texts: RicB RicK RicC RicP RicG RicU RicT RicD. -/
import Derived.Test.YtplnmjdafchjbaaMat
import Derived.Test.YtplnmjdafchjbaaMas
import Derived.Test.YtplnmjdafchjbaaMan
import Derived.Test.YtplnmjdafchjbaaMar
import Derived.Deep.RegionHeld3
import Derived.Deep.CutRange
import Derived.Deep.DeepCutAuto
import Derived.Test.YtplnmjdafchjbaaMai
/- The document's own Steps of layer 12. -/
namespace Go.Proofs.Ytplnmjdafchjbaa
open Go.RowKit
set_option linter.unusedVariables false
set_option linter.unusedSimpArgs false

/-- The number ahead of number t. -/
def prv (N : List Nat) (t : Nat) : Nat := if t = 0 then 0 else N.getD (t - 1) 0
/-- Bits, and what follows. -/
def cmb (V : List Bool) (r : List Bool × Nat) : List Bool × Nat := if r.2 ≠ 0 then ([], r.2) else (V ++ r.1, 0)
set_option maxRecDepth 100000 in
theorem stp_cons (p : Int) (b n : Nat) (r : List Nat) : stp p b (n :: r) = if n < b then ([], 5) else if 65536 < rq p (n - b) then ([], 4) else cmb (rcode p (n - b)) (stp p n r) := rfl
set_option maxRecDepth 100000 in
theorem cmb_nil (p : Int) (b : Nat) (L : List Nat) : cmb [] (stp p b L) = stp p b L := by
  unfold cmb
  by_cases h : (stp p b L).2 ≠ 0
  · rw [if_pos h]
    have := stp_err p L b h
    rw [← this]
  · rw [if_neg h, List.nil_append]
    have : (stp p b L).2 = 0 := by omega
    rw [← this]
set_option maxRecDepth 100000 in
theorem cmb_cmb (V X : List Bool) (r : List Bool × Nat) : cmb V (cmb X r) = cmb (V ++ X) r := by
  unfold cmb
  by_cases h : r.2 ≠ 0
  · simp [h]
  · simp [h]
set_option maxRecDepth 100000 in
theorem cmb_err (V : List Bool) (e : Nat) (h : e ≠ 0) : cmb V ([], e) = ([], e) := by unfold cmb; rw [if_pos h]
/-- How many bits that may be. -/
def stL (p : Int) : Nat → List Nat → Nat
  | _, [] => 0
  | b, n :: r => (if rq p (n - b) ≤ 65536 then rq p (n - b) else 0) + 40 + stL p n r
set_option maxRecDepth 100000 in
theorem stL_few (p : Int) (N : List Nat) (Q : Nat) : ∀ (k t : Nat), t + k = N.length → (∀ j, t ≤ j → j < N.length → rq p (N.getD j 0 - prv N j) ≤ Q ∨ 65536 < rq p (N.getD j 0 - prv N j)) → stL p (prv N t) (N.drop t) ≤ (Q + 40) * k
  | 0, t, h, _ => by rw [List.drop_of_length_le (by omega)]; simp [stL]
  | k + 1, t, h, hh => by
    have hl : t < N.length := by omega
    have hgd : N.getD t 0 = N[t] := by rw [List.getD_eq_getElem?_getD, List.getElem?_eq_getElem hl]; rfl
    have ih := stL_few p N Q k (t + 1) (by omega) (fun j h1 h2 => hh j (by omega) h2)
    have hp : prv N (t + 1) = N[t] := by unfold prv; rw [if_neg (by omega), Nat.add_sub_cancel, hgd]
    have h0 := hh t (by omega) hl
    rw [hgd] at h0
    rw [hp] at ih
    rw [List.drop_eq_getElem_cons hl, stL, Nat.mul_succ]
    split
    · rcases h0 with h | h <;> omega
    · omega
/-- What Steps tells, as bytes. -/
def stB (r : List Bool × Nat) : List UInt8 := if r.2 ≠ 0 then [] else pack r.1
set_option maxRecDepth 100000 in
set_option maxHeartbeats 2000000 in
theorem xsteps_calls (p : Int) (A : Option Addr) (n c : Nat) (N : List Nat) (w : World) (hr : RdN w A n N) (hn : n ≤ 100000) (hst : stL p 0 N ≤ 100000) :
    Calls Try.prog 29 #[.int .i64 p, .slice A n c] w (Ret w (.tuple #[.string ⟨(stB (stp p 0 N)).toArray⟩, .int .i64 ((stp p 0 N).2 : Int)])) := by
  have hln := hr.len
  have HR := Lib.hid hr
  have hst0 : stL p (prv N 0) (N.drop 0) ≤ 100000 := hst
  clear hr hst
  go_enter Try.func29, Try.ntmps29
  go_wp2
  go_loopw [6, 7] (fun ov kv wr => ∃ (t : Nat) (s : ByteArray) (V : List Bool), kv = .int .i64 (t : Int) ∧ ov = .string s ∧ t ≤ n ∧ s = tx V ∧ V.length + stL p (prv N t) (N.drop t) ≤ 100000 ∧ stp p 0 N = cmb V (stp p (prv N t) (N.drop t)) ∧ Below w.heap.size w wr) (fun _ kv _ => n - (intOf kv).toNat)
  case atStart => exact ⟨0, _, [], by first | rfl | go_num, rfl, by omega, rfl, by simpa using hst0, by rw [cmb_nil]; rfl, Below.refl _ _⟩
  case round =>
    obtain ⟨t, s, V, rfl, rfl, htn, hs, hVl, hst, hB⟩ := hrel
    obtain ⟨wo, hwo⟩ : ∃ x, x = wr := ⟨_, rfl⟩
    rw [← hwo] at hB ⊢
    clear hwo
    by_cases hlt : t < n
    · have hlt' : (t : Int) < (n : Int) := by omega
      obtain ⟨bb, off, hl, rfl, sc, hm64⟩ := HR.out.at_ hB hlt
      have hdr : N.drop t = N[t] :: N.drop (t + 1) := List.drop_eq_getElem_cons hl
      have hgd : N.getD t 0 = N[t] := by rw [List.getD_eq_getElem?_getD, List.getElem?_eq_getElem hl]; rfl
      obtain ⟨m, hm⟩ : ∃ z, z = N[t] := ⟨_, rfl⟩
      have hprv : prv N (t + 1) = m := by unfold prv; rw [if_neg (by omega), Nat.add_sub_cancel, hgd, hm]
      rw [hdr, ← hm, stp_cons] at hst
      rw [hdr, ← hm, stL] at hVl
      rw [← hm] at sc hm64
      obtain ⟨b, hb⟩ : ∃ z, z = prv N t := ⟨_, rfl⟩
      rw [← hb] at hst hVl
      by_cases ht0 : t = 0
      · have hb0 : b = 0 := by rw [hb, ht0]; rfl
        have hd : m - b = m := by omega
        have hge : ¬ m < b := by omega
        subst ht0
        have g0 : ¬ (0 : Int) < 0 := by omega
        simp only [Nat.add_zero] at sc
        rw [hd] at hst hVl
        clear hb hdr hgd hm
        subst hb0
        by_cases hbig : 65536 < rq p m
        · have HE : Hid (stp p 0 N = ([], 4)) := Lib.hid (by rw [hst, if_neg hge, if_pos hbig]; rfl)
          have CB : Hid (∀ W, Calls Try.prog 56 #[.int .i64 p, .int .u64 (m : Int)] W (Ret W (.tuple #[.string ⟨#[]⟩, .bool false]))) := Lib.hid fun W => xbits_big p m hm64 hbig W
          clear hst hbig hs hVl hprv
          go_wp2_with (first
            | (go_at_call 56; refine (CB.out _).mono ?_; rintro e' w2 ⟨rfl, hB2⟩))
          go_ret2
          exact ⟨by rw [HE.out]; rfl, below_more hB hB2⟩
        · obtain ⟨s1, hs1⟩ : ∃ z, z = tx (rcode p m) := ⟨_, rfl⟩
          have CB : Hid (∀ W, Calls Try.prog 56 #[.int .i64 p, .int .u64 (m : Int)] W (Ret W (.tuple #[.string s1, .bool true]))) := Lib.hid fun W => by rw [hs1]; exact xbits_ok p m hm64 (by omega) W
          rw [if_pos (by omega)] at hVl
          obtain ⟨V2, hV2⟩ : ∃ z, z = V ++ rcode p m := ⟨_, rfl⟩
          obtain ⟨s2, hs2⟩ : ∃ z, z = tx V2 := ⟨_, rfl⟩
          have hcl := rcode_len p m
          have hk3 := hld_le p 32
          have hV2l : V2.length + stL p (prv N (0 + 1)) (N.drop (0 + 1)) ≤ 100000 := by rw [hV2, List.length_append, hprv]; omega
          have hadd : ∀ W, (Op.stringOp .add s s1).run Try.prog W = .ok (.string s2) W := fun W => by rw [hs2, hs1, hV2, hs]; exact tx_add V _ (by omega) (by omega) W
          have HST : Hid (stp p 0 N = cmb V2 (stp p (prv N (0 + 1)) (N.drop (0 + 1)))) := Lib.hid (by rw [hst, if_neg hge, if_neg hbig, cmb_cmb, ← hV2, hprv])
          have HS2 := Lib.hid hs2
          clear hst hbig hs hs1 hV2 hs2 hcl hprv hVl
          go_wp2_with (first
            | (go_at_call 56; refine (CB.out _).mono ?_; rintro e' w2 ⟨rfl, hB2⟩))
          go_roundw
          case rel => exact ⟨0 + 1, s2, V2, by go_num, rfl, by omega, HS2.out, hV2l, HST.out, below_more hB hB2⟩
          case measure => simp [intOf]; omega
      · have ht1 : (0 : Int) < (t : Int) := by omega
        obtain ⟨u, hu⟩ : ∃ u, t = u + 1 := ⟨t - 1, by omega⟩
        obtain ⟨bb', off', hl', e', sc', hb64⟩ := HR.out.at_ hB (j := u) (by omega)
        injection e' with e'
        injection e' with e1 e2
        subst e1 e2
        have hbu : N[u] = b := by rw [hb, hu]; unfold prv; rw [if_neg (by omega), Nat.add_sub_cancel, List.getD_eq_getElem?_getD, List.getElem?_eq_getElem hl']; rfl
        rw [hbu] at sc' hb64
        have u1 : IntKind.i64.wrap ((t : Int) - 1) = (u : Int) := by rw [IntKind.wrap_i64]; omega
        have g1 : (u : Int) < (n : Int) := by omega
        clear hb hdr hgd hm hbu hu
        by_cases hge : m < b
        · have g2 : (m : Int) < (b : Int) := by omega
          have HE : Hid (stp p 0 N = ([], 5)) := Lib.hid (by rw [hst, if_pos hge]; rfl)
          clear hst hs hVl hprv
          go_wp2
          go_ret2
          exact ⟨by rw [HE.out]; rfl, hB⟩
        · have g2 : ¬ (m : Int) < (b : Int) := by omega
          obtain ⟨d, hd⟩ : ∃ z, z = m - b := ⟨_, rfl⟩
          have u2 : IntKind.u64.wrap ((m : Int) - (b : Int)) = (d : Int) := by rw [IntKind.wrap_u64]; omega
          have hd64 : d < 18446744073709551616 := by omega
          rw [← hd] at hst hVl
          clear hd
          by_cases hbig : 65536 < rq p d
          · have HE : Hid (stp p 0 N = ([], 4)) := Lib.hid (by rw [hst, if_neg hge, if_pos hbig]; rfl)
            have CB : Hid (∀ W, Calls Try.prog 56 #[.int .i64 p, .int .u64 (d : Int)] W (Ret W (.tuple #[.string ⟨#[]⟩, .bool false]))) := Lib.hid fun W => xbits_big p d hd64 hbig W
            clear hst hbig hs hVl hprv
            go_wp2_with (first
              | (go_at_call 56; refine (CB.out _).mono ?_; rintro e' w2 ⟨rfl, hB2⟩))
            go_ret2
            exact ⟨by rw [HE.out]; rfl, below_more hB hB2⟩
          · obtain ⟨s1, hs1⟩ : ∃ z, z = tx (rcode p d) := ⟨_, rfl⟩
            have CB : Hid (∀ W, Calls Try.prog 56 #[.int .i64 p, .int .u64 (d : Int)] W (Ret W (.tuple #[.string s1, .bool true]))) := Lib.hid fun W => by rw [hs1]; exact xbits_ok p d hd64 (by omega) W
            rw [if_pos (by omega)] at hVl
            obtain ⟨V2, hV2⟩ : ∃ z, z = V ++ rcode p d := ⟨_, rfl⟩
            obtain ⟨s2, hs2⟩ : ∃ z, z = tx V2 := ⟨_, rfl⟩
            have hcl := rcode_len p d
            have hk3 := hld_le p 32
            have hV2l : V2.length + stL p (prv N (t + 1)) (N.drop (t + 1)) ≤ 100000 := by rw [hV2, List.length_append, hprv]; omega
            have hadd : ∀ W, (Op.stringOp .add s s1).run Try.prog W = .ok (.string s2) W := fun W => by rw [hs2, hs1, hV2, hs]; exact tx_add V _ (by omega) (by omega) W
            have HST : Hid (stp p 0 N = cmb V2 (stp p (prv N (t + 1)) (N.drop (t + 1)))) := Lib.hid (by rw [hst, if_neg hge, if_neg hbig, cmb_cmb, ← hV2, hprv])
            have HS2 := Lib.hid hs2
            clear hst hbig hs hs1 hV2 hs2 hcl hprv hVl
            go_wp2_with (first
              | (go_at_call 56; refine (CB.out _).mono ?_; rintro e' w2 ⟨rfl, hB2⟩))
            go_roundw
            case rel => exact ⟨t + 1, s2, V2, by go_num, rfl, by omega, HS2.out, hV2l, HST.out, below_more hB hB2⟩
            case measure => simp [intOf]; omega
    · have hlt' : ¬ (t : Int) < (n : Int) := by omega
      have hend : stp p 0 N = (V, 0) := by rw [hst, List.drop_of_length_le (by omega)]; unfold cmb stp; simp
      have HE : Hid (stp p 0 N = (V, 0)) := Lib.hid hend
      obtain ⟨pb, hpb⟩ : ∃ z, z = (⟨(pack V).toArray⟩ : ByteArray) := ⟨_, rfl⟩
      have CB : Hid (∀ W, Calls Try.prog 57 #[.string s] W (Ret W (.string pb))) := Lib.hid fun W => by rw [hpb, hs]; exact zbytes_calls V (by omega) W
      have HPB := Lib.hid hpb
      clear hend hst hs hpb
      go_wp2_with (first
        | (go_at_call 57; refine (CB.out _).mono ?_; rintro e' w2 ⟨rfl, hB2⟩))
      go_ret2
      exact ⟨by rw [HE.out, HPB.out]; rfl, below_more hB hB2⟩
end Go.Proofs.Ytplnmjdafchjbaa

/- What package rice is to answer, whatever bit's writers and readers are made of. -/
namespace Go.Proofs.Ytplnmjdafchjbaa
open Go.RowKit
set_option linter.unusedVariables false

end Go.Proofs.Ytplnmjdafchjbaa

/- The contract of layer 12's own awake, over what packages bit and rice are to answer. -/
namespace Go.Proofs.Ytplnmjdafchjbaa
open Go.RowKit
set_option linter.unusedVariables false
set_option linter.unusedSimpArgs false

set_option maxRecDepth 100000 in
theorem pack12 : pack ([] ++ rcode 2 9) = [200] := by decide
set_option maxRecDepth 100000 in
theorem wp_cvR {o : Oper} {a : Act} {W : World} {K : Act → World → Prop} {Q : Exit → Act → World → Prop} {s d : TypeId} {v u : Value} (x : Operand) (ho : o.op = .convert s d x) (hx : a.eval x = v) (h : (convert s d v).run Try.prog W = .ok u W) (hK : K (a.put o.dst u) W) : o.wp Try.prog a W K Q := by
  unfold Oper.wp execOp
  simp only [ho, hx, Sem.run_bind, h, Result.andThen_ok]
  exact hK
end Go.Proofs.Ytplnmjdafchjbaa

/- The walks of RicePuts and RiceSizes, over what packages bit and rice are to answer. -/
namespace Go.Proofs.Ytplnmjdafchjbaa
open Go.RowKit
set_option linter.unusedVariables false
set_option linter.unusedSimpArgs false

end Go.Proofs.Ytplnmjdafchjbaa

/- The walk of RiceGets, over what packages bit and rice are to answer. -/
namespace Go.Proofs.Ytplnmjdafchjbaa
open Go.RowKit
set_option linter.unusedVariables false
set_option linter.unusedSimpArgs false

set_option maxRecDepth 100000 in
theorem wf_i64 {z : Int} (h : (Lit.int .i64 z).wf = true) : -9223372036854775808 ≤ z ∧ z ≤ 9223372036854775807 := by
  have l0 : IntKind.i64.min = -9223372036854775808 := by decide
  have l1 : IntKind.i64.max = 9223372036854775807 := by decide
  simp only [Lit.wf, l0, l1, Bool.and_eq_true, decide_eq_true_eq] at h
  exact h
end Go.Proofs.Ytplnmjdafchjbaa

/- The walk of RiceBack, over what packages bit and rice are to answer. -/
namespace Go.Proofs.Ytplnmjdafchjbaa
open Go.RowKit
set_option linter.unusedVariables false
set_option linter.unusedSimpArgs false

/-- The codes of numbers, one by one. -/
def outR (p : Int) (N : List Nat) : List Bool := (N.map (rcode p)).flatten
set_option maxRecDepth 100000 in
theorem outR_take (p : Int) (N : List Nat) (t : Nat) (h : t < N.length) : outR p (N.take (t + 1)) = outR p (N.take t) ++ rcode p N[t] := by
  unfold outR
  rw [List.take_succ_eq_append_getElem h, List.map_append, List.flatten_append]
  simp
set_option maxRecDepth 100000 in
theorem outR_drop (p : Int) (N : List Nat) (t : Nat) (h : t < N.length) : outR p (N.drop t) = rcode p N[t] ++ outR p (N.drop (t + 1)) := by
  unfold outR
  rw [List.drop_eq_getElem_cons h]
  rfl
set_option maxRecDepth 100000 in
theorem outR_len (p : Int) : ∀ N : List Nat, (∀ x ∈ N, rq p x ≤ 100) → (outR p N).length ≤ 140 * N.length
  | [], _ => Nat.le_refl _
  | o :: P, h => by
    have h1 := outR_len p P (fun x hx => h x (List.mem_cons_of_mem _ hx))
    have h2 := h o List.mem_cons_self
    have h3 := rcode_len p o
    have h4 := hld_le p 32
    show (rcode p o ++ outR p P).length ≤ _
    rw [List.length_append, List.length_cons]
    omega
end Go.Proofs.Ytplnmjdafchjbaa

/- The walk of RiceSteps, over what packages bit and rice are to answer. -/
namespace Go.Proofs.Ytplnmjdafchjbaa
open Go.RowKit
set_option linter.unusedVariables false
set_option linter.unusedSimpArgs false

end Go.Proofs.Ytplnmjdafchjbaa

/- Package rice: clamp, Size, Put. -/
namespace Go.Proofs.Ytplnmjdafchjbaa
open Go.RowKit
set_option linter.unusedVariables false
set_option linter.unusedSimpArgs false

set_option maxRecDepth 100000 in
set_option maxHeartbeats 2000000 in
theorem rclamp_calls (n : Int) (w : World) :
    Calls Try.prog 60 #[.int .i64 n] w (fun e w' => e = .returned (.int .i64 (hld n 32 : Int)) ∧ w = w') := by
  by_cases h0 : n < 0
  · have e : hld n 32 = 0 := by unfold hld; rw [if_pos h0]
    have h1 : ¬ 0 < n := by omega
    have h2 : n ≤ 0 := by omega
    have h3 : ¬ 0 ≤ n := by omega
    rw [e]
    go_enter Try.func60, Try.ntmps60
    go_wp2
    go_ret
    exact ⟨by first | rfl | (simp; omega) | (simp [Int.max_def, Int.min_def, h0, h1, h2, h3]; omega), rfl⟩
  · by_cases h1 : (32 : Int) < n
    · have e : hld n 32 = 32 := by unfold hld; rw [if_neg h0, if_pos (show ((32 : Nat) : Int) < n by omega)]
      have h2 : ¬ n ≤ (32 : Int) := by omega
      have h3 : 0 ≤ n := by omega
      rw [e]
      go_enter Try.func60, Try.ntmps60
      go_wp2
      go_ret
      exact ⟨by first | rfl | (simp; omega) | (simp [Int.max_def, Int.min_def, h0, h1, h2, h3]; omega), rfl⟩
    · have e : (hld n 32 : Int) = n := by unfold hld; rw [if_neg h0, if_neg (show ¬ ((32 : Nat) : Int) < n by omega)]; omega
      have h2 : n ≤ (32 : Int) := by omega
      have h3 : 0 ≤ n := by omega
      rw [e]
      go_enter Try.func60, Try.ntmps60
      go_wp2
      go_ret
      exact ⟨by first | rfl | (simp; omega) | (simp [Int.max_def, Int.min_def, h0, h1, h2, h3]; omega), rfl⟩
set_option maxRecDepth 100000 in
set_option maxHeartbeats 2000000 in
theorem rputB_calls (W : World) (w : Nat) (p : Int) (n : Nat) (hn : n < 18446744073709551616) (hb : 65536 < rq p n) :
    Calls Try.prog 50 #[.pointer (some ⟨w, 0, none⟩), .int .i64 p, .int .u64 (n : Int)] W (Ret W (.int .i64 4)) := by
  obtain ⟨k, hk⟩ : ∃ z, z = hld p 32 := ⟨_, rfl⟩
  have hk3 : k ≤ 32 := by rw [hk]; exact hld_le _ _
  have CC : Hid (∀ W, Calls Try.prog 60 #[.int .i64 p] W (fun e w' => e = .returned (.int .i64 (k : Int)) ∧ W = w')) := Lib.hid fun W => by rw [hk]; exact rclamp_calls p W
  obtain ⟨q, hq⟩ : ∃ z, z = n / 2 ^ k := ⟨_, rfl⟩
  have q6 : (n : Int) / 2 ^ k = (q : Int) := by rw [hq, Int.natCast_ediv, Int.natCast_pow]; rfl
  have hqb : (65536 : Int) < (q : Int) := by unfold rq at hb; rw [← hk, ← hq] at hb; omega
  clear hk hq hb
  go_enter Try.func50, Try.ntmps50
  go_wp2_with (first
    | (go_at_call 60; refine (CC.out _).mono ?_; rintro e' w' ⟨rfl, rfl⟩))
  go_ret
  exact ⟨rfl, Below.refl _ _⟩
end Go.Proofs.Ytplnmjdafchjbaa
