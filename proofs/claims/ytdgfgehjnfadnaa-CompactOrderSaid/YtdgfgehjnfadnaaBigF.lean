/- The contracts of the reference's Of and of the law's big of layer 4: the digits of words. -/
import Derived.Test.YtdgfgehjnfadnaaBigO
namespace Go.Proofs.Ytdgfgehjnfadnaa
open Go.RowKit
set_option linter.unusedVariables false

/-- The number of words, the lowest first. -/
def valW : List Nat → Nat
  | [] => 0
  | x :: r => x + 2 ^ 64 * valW r
theorem valW_append (l r : List Nat) : valW (l ++ r) = valW l + 2 ^ (64 * l.length) * valW r := by
  induction l with
  | nil => simp [valW]
  | cons d l ih =>
    simp only [List.cons_append, valW, ih, List.length_cons, Nat.mul_add, Nat.mul_one, Nat.pow_add]
    rw [Nat.mul_comm (2 ^ (64 * l.length)) (2 ^ 64), Nat.mul_assoc]
    omega
theorem pow4 (t : Nat) : 65536 ^ (4 * t) = 2 ^ (64 * t) := by rw [show 65536 = 2 ^ 16 from rfl, ← Nat.pow_mul]; congr 1; omega
/-- The slice of n words that begins at A holds the words l. -/
def RdU (w : World) (A : Option Addr) (n : Nat) (l : List Nat) : Prop :=
  l.length = n ∧ (0 < n → ∃ b off, A = some ⟨b, off, none⟩ ∧ b < w.heap.size ∧ ∀ j, j < n → w.cell? ⟨b, off + j, none⟩ = some (.int .u64 (l.getD j 0 : Int)))
theorem RdU.below {w w' : World} {A : Option Addr} {n : Nat} {l : List Nat} (h : RdU w A n l) (hb : Below w.heap.size w w') : RdU w' A n l :=
  ⟨h.1, fun hn => by
    obtain ⟨b, off, e, hlt, hc⟩ := h.2 hn
    exact ⟨b, off, e, Nat.lt_of_lt_of_le hlt hb.size, fun j hj => (hb.cell (p := ⟨b, off + j, none⟩) hlt).trans (hc j hj)⟩⟩
theorem RdU.at_ {w : World} {A : Option Addr} {n : Nat} {l : List Nat} (h : RdU w A n l) {k : Nat} (hk : k < n) :
    ∃ b off, A = some ⟨b, off, none⟩ ∧ w.cell? ⟨b, off + k, none⟩ = some (.int .u64 (l.getD k 0 : Int)) := by
  obtain ⟨b, off, e, _, hc⟩ := h.2 (by omega)
  exact ⟨b, off, e, hc k hk⟩

set_option maxHeartbeats 2000000 in
theorem of_calls (A : Option Addr) (n c : Nat) (ws : List Nat) (w : World) (hn : n ≤ 100) (hlt : ∀ x ∈ ws, x < 2 ^ 64) (hr : RdU w A n ws) :
    Calls Try.prog 35 #[.slice A n c] w (MkB w (valW ws)) := by
  have HR := Lib.hid hr
  have HL := Lib.hid hr.1
  have HLT : Hid (∀ t, ws.getD t 0 < 2 ^ 64) := Lib.hid fun t => by
    rw [List.getD_eq_getElem?_getD]
    cases hx : ws[t]? with
    | none => simp
    | some x => exact hlt x (List.mem_of_getElem? hx)
  clear hr hlt
  go_enter Try.func35, Try.ntmps35
  go_wp2
  go_loopw [3, 9] (fun v i wr => ∃ (t u : Nat) (B : Option Addr) (e : Nat) (o : List Nat), t ≤ n ∧ u = 4 * t ∧ i = .int .i64 (t : Int) ∧ v = .slice B u e ∧ OwnI wr w.heap.size B u e o ∧ Hid (Dg o) ∧ valB o = valW (ws.take t) ∧ Below w.heap.size w wr) (fun _ i _ => n - (intOf i).toNat)
  case atStart => exact ⟨0, 0, none, 0, [], by omega, rfl, rfl, rfl, OwnI.nil _ _, fun d hd => by simp at hd, rfl, Below.refl _ _⟩
  case round =>
    obtain ⟨t, u, B, e, o, ht, hu, rfl, rfl, hown, hdo, hval, hbel⟩ := hrel
    by_cases hlt : t < n
    · obtain ⟨b, off, rfl, hc⟩ := (HR.out.below hbel).at_ (k := t) hlt
      obtain ⟨x, hx⟩ : ∃ x, x = ws.getD t 0 := ⟨_, rfl⟩
      rw [← hx] at hc
      have lx : x < 2 ^ 64 := by rw [hx]; exact HLT.out t
      have bt : (t : Int) < (n : Int) := by omega
      have hnext : valW (ws.take (t + 1)) = valB o + 65536 ^ u * x := by
        have hl : t < ws.length := by rw [HL.out]; exact hlt
        rw [hval, hu, pow4, List.take_succ_eq_append_getElem hl, valW_append, List.length_take, Nat.min_eq_left (Nat.le_of_lt hl), hx, List.getD_eq_getElem?_getD, List.getElem?_eq_getElem hl]
        simp [valW]
      have hub : u ≤ 400 := by omega
      have HN := Lib.hid hnext
      have HU := Lib.hid hu
      have K := Lib.hid (And.intro hown (And.intro hbel hown.len))
      clear hown hbel hval hnext hu hx
      go_wp2
      go_loopw [3, 5, 6] (fun v y k wq => ∃ (j z : Nat) (B2 : Option Addr) (e2 : Nat) (o2 : List Nat), j ≤ 4 ∧ k = .int .i64 (j : Int) ∧ y = .int .u64 (z : Int) ∧ Hid (z = x / 65536 ^ j) ∧ v = .slice B2 (u + j) e2 ∧ OwnI wq w.heap.size B2 (u + j) e2 o2 ∧ Hid (Dg o2) ∧ Hid (valB o2 + 65536 ^ (u + j) * z = valB o + 65536 ^ u * x) ∧ Below w.heap.size w wq) (fun _ _ k _ => 4 - (intOf k).toNat)
      case atStart => exact ⟨0, x, B, e, o, by omega, rfl, rfl, by show x = x / 65536 ^ 0; simp, rfl, K.out.1, hdo, rfl, K.out.2.1⟩
      case round =>
        obtain ⟨j, z, B2, e2, o2, hj, rfl, rfl, HZ, rfl, hown, hdo2, HV, hbel⟩ := hrel
        have lz : z < 2 ^ 64 := by rw [HZ.out]; exact Nat.lt_of_le_of_lt (Nat.div_le_self _ _) lx
        obtain ⟨p, hp⟩ : ∃ p, p = u + j := ⟨_, rfl⟩
        rw [← hp] at hown HV ⊢
        by_cases hj4 : j < 4
        · obtain ⟨d, hd⟩ : ∃ d, d = z % 65536 := ⟨_, rfl⟩
          obtain ⟨z2, hz2⟩ : ∃ z2, z2 = z / 65536 := ⟨_, rfl⟩
          have r1 : (z : Int).tmod 65536 = (d : Int) := by rw [Int.tmod_eq_emod_of_nonneg (by omega)]; omega
          have r2 : (z : Int).tdiv 65536 = (z2 : Int) := by rw [Int.tdiv_eq_ediv_of_nonneg (by omega)]; omega
          have r3 : (z : Int) % 65536 = (d : Int) := by omega
          have r4 : (z : Int) / 65536 = (z2 : Int) := by omega
          have r5 : IntKind.u64.wrap (z2 : Int) = (z2 : Int) := by rw [IntKind.wrap_u64]; omega
          have r6 : IntKind.i64.wrap (d : Int) = (d : Int) := by rw [IntKind.wrap_i64]; omega
          have HZ2 : Hid (z2 = x / 65536 ^ (j + 1)) := Lib.hid (by rw [hz2, HZ.out, Nat.div_div_eq_div_mul, Nat.pow_succ])
          have hol := hown.len
          have HV2 : Hid (valB (o2 ++ [d]) + 65536 ^ (p + 1) * z2 = valB o + 65536 ^ u * x) := Lib.hid (by
            rw [← HV.out, valB_append, hol, Nat.pow_succ]
            simp only [valB, Nat.mul_zero, Nat.add_zero]
            have e : 65536 ^ p * d + 65536 ^ p * 65536 * z2 = 65536 ^ p * z := by rw [Nat.mul_assoc, ← Nat.mul_add, hd, hz2, Nat.mod_add_div]
            omega)
          have HD2 : Hid (Dg (o2 ++ [d])) := Lib.hid fun e he => by
            rcases List.mem_append.1 he with h | h
            · exact hdo2.out e h
            · simp at h; omega
          have HO := Lib.hid hown
          have HBE := Lib.hid hbel
          have HP := Lib.hid hp
          have hpb : p ≤ 500 := by omega
          have bj : (j : Int) < 4 := by omega
          clear hown hbel hd hz2 hol hp
          go_wp2_with (at_builtin; refine appI_big _ rfl _ _ rfl w.heap.size B2 p e2 _ _ d rfl rfl rfl HO.out (by omega) HBE.out.size ?_; intro A5 c5 w5 hown5 hbel5)
          go_roundw
          case rel =>
            have hpp := HP.out
            refine ⟨j + 1, z2, A5, c5, o2 ++ [d], by omega, by go_num, rfl, HZ2, by rw [hpp, Nat.add_assoc], ?_, HD2, ?_, HBE.out.trans hbel5⟩
            · rw [← Nat.add_assoc, ← hpp]; exact hown5
            · rw [← Nat.add_assoc, ← hpp]; exact HV2
          case measure => simp [intOf]; omega
        · have e4 : j = 4 := by omega
          subst e4
          have hz0 : z = 0 := by rw [HZ.out]; exact Nat.div_eq_of_lt lx
          have hv4 : valB o2 = valW (ws.take (t + 1)) := by
            have h := HV.out
            rw [hz0, Nat.mul_zero, Nat.add_zero] at h
            rw [h, HN.out]
          have HO := Lib.hid (And.intro hown (And.intro hv4 (And.intro hbel hp)))
          clear hown hbel hv4 hp hz0
          go_wp2
          go_roundw
          case rel => exact ⟨t + 1, p, B2, e2, o2, by omega, by have h1 := HU.out; have h2 := HO.out.2.2.2; omega, by go_num, rfl, HO.out.1, hdo2, HO.out.2.1, HO.out.2.2.1⟩
          case measure => simp [intOf]; omega
    · have e1 : t = n := by omega
      have hv : valB o = valW ws := by rw [hval, e1, List.take_of_length_le (by rw [HL.out]; exact Nat.le_refl _)]
      have bt : ¬ (t : Int) < (n : Int) := by omega
      have hcap := hown.cap
      have CT := Lib.hid (trim_calls B u e o wr hdo.out hown.rd hcap.1 hcap.2)
      have HBE := Lib.hid hbel
      have HV := Lib.hid hv
      clear hown hbel hval hv hu
      go_wp2_with (go_at_call 41; refine CT.out.mono ?_; rintro e' w' ⟨A9, m9, rfl, hm9, hr9, rfl⟩)
      go_ret
      rw [HV.out] at hr9
      exact ⟨_, _, _, rfl, hr9, Nat.le_trans hm9 hcap.1, hcap.2, HBE.out⟩
end Go.Proofs.Ytdgfgehjnfadnaa
