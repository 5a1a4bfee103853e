/- The contract of the reference's Add of layer 4: the digits of a sum. -/
import Derived.Test.YtdgfgehjnfadnaaBigR
namespace Go.Proofs.Ytdgfgehjnfadnaa
open Go.RowKit
set_option linter.unusedVariables false

theorem getD_out (l : List Nat) (t : Nat) (h : l.length ≤ t) : l.getD t 0 = 0 := by
  rw [List.getD_eq_getElem?_getD, List.getElem?_eq_none h]; rfl
theorem Dg.getD {l : List Nat} (h : Dg l) (t : Nat) : l.getD t 0 < 65536 := by
  rw [List.getD_eq_getElem?_getD]
  cases hx : l[t]? with
  | none => simp
  | some x => exact h x (List.mem_of_getElem? hx)
theorem take_val (l : List Nat) (t : Nat) : valB (l.take (t + 1)) = valB (l.take t) + 65536 ^ t * l.getD t 0 := by
  by_cases h : t < l.length
  · rw [List.take_succ_eq_append_getElem h, valB_append, List.length_take, Nat.min_eq_left (by omega), List.getD_eq_getElem?_getD, List.getElem?_eq_getElem h]
    simp [valB]
  · rw [getD_out l t (by omega), List.take_of_length_le (by omega), List.take_of_length_le (by omega)]
    simp
theorem add_step (la lb o : List Nat) (t c x y d c2 : Nat) (hx : x = la.getD t 0) (hy : y = lb.getD t 0) (ho : o.length = t) (hn : d + 65536 * c2 = c + x + y) (h : valB o + 65536 ^ t * c = valB (la.take t) + valB (lb.take t)) :
    valB (o ++ [d]) + 65536 ^ (t + 1) * c2 = valB (la.take (t + 1)) + valB (lb.take (t + 1)) := by
  rw [take_val, take_val, ← hx, ← hy, valB_append, ho, Nat.pow_succ]
  simp only [valB, Nat.mul_zero, Nat.add_zero]
  have e : 65536 ^ t * d + 65536 ^ t * 65536 * c2 = 65536 ^ t * c + 65536 ^ t * x + 65536 ^ t * y := by
    rw [Nat.mul_assoc, ← Nat.mul_add, hn, Nat.mul_add, Nat.mul_add]
  omega

set_option maxHeartbeats 4000000 in
theorem badd_calls (A B : Option Addr) (na nb ca cb : Nat) (a b : Nat) (w : World) (hna : na ≤ 10000) (hnb : nb ≤ 10000) (hra : RdI w A na (digs a)) (hrb : RdI w B nb (digs b)) :
    Calls Try.prog 40 #[.slice A na ca, .slice B nb cb] w (MkB w (a + b)) := by
  obtain ⟨la, hla⟩ : ∃ la, la = digs a := ⟨_, rfl⟩
  obtain ⟨lb, hlb⟩ : ∃ lb, lb = digs b := ⟨_, rfl⟩
  rw [← hla] at hra
  rw [← hlb] at hrb
  have HDA : Hid (∀ t, la.getD t 0 < 65536) := Lib.hid fun t => by rw [hla]; exact (digs_lt a).getD t
  have HDB : Hid (∀ t, lb.getD t 0 < 65536) := Lib.hid fun t => by rw [hlb]; exact (digs_lt b).getD t
  have HVA : Hid (valB la = a) := Lib.hid (by rw [hla]; exact val_digs a)
  have HVB : Hid (valB lb = b) := Lib.hid (by rw [hlb]; exact val_digs b)
  have HA := Lib.hid hra
  have HB := Lib.hid hrb
  have HLA := Lib.hid hra.len
  have HLB := Lib.hid hrb.len
  obtain ⟨X, hXd⟩ : ∃ X, X = max na nb := ⟨_, rfl⟩
  have hXa : na ≤ X := by omega
  have hXb : nb ≤ X := by omega
  have hXX : X ≤ 10000 := by omega
  have HXD : Hid (X = na ∨ X = nb) := Lib.hid (show X = na ∨ X = nb by omega)
  clear hra hrb hla hlb hXd
  go_enter Try.func40, Try.ntmps40
  go_wp2
  go_loopw [5, 6, 7] (fun v cv i wr => ∃ (t c : Nat) (B : Option Addr) (e : Nat) (o : List Nat), t ≤ X + 1 ∧ c ≤ 1 ∧ (X < t → c = 0) ∧ v = .slice B t e ∧ cv = .int .i64 (c : Int) ∧ i = .int .i64 (t : Int) ∧ OwnI wr w.heap.size B t e o ∧ Hid (Dg o) ∧ valB o + 65536 ^ t * c = valB (la.take t) + valB (lb.take t) ∧ Below w.heap.size w wr) (fun _ _ i _ => X + 2 - (intOf i).toNat)
  case atStart => exact ⟨0, 0, none, 0, [], by omega, by omega, fun _ => rfl, rfl, rfl, rfl, OwnI.nil _ _, fun d hd => by simp at hd, rfl, Below.refl _ _⟩
  case round =>
    obtain ⟨t, c, B, e, o, ht, hc1, hX, rfl, rfl, rfl, hown, hdo, hval, hbel⟩ := hrel
    have hol := hown.len
    by_cases ia : t < na
    · by_cases ib : t < nb
      · have htX : t ≤ X := by omega
        have ka : (t : Int) < (na : Int) := by omega
        have kb : (t : Int) < (nb : Int) := by omega
        obtain ⟨ba, oa, rfl, ca⟩ := (HA.out.below hbel).at_ (k := t) (by omega)
        obtain ⟨bb, ob, rfl, cb⟩ := (HB.out.below hbel).at_ (k := t) (by omega)
        obtain ⟨x, hx⟩ : ∃ x, x = la.getD t 0 := ⟨_, rfl⟩
        obtain ⟨y, hy⟩ : ∃ y, y = lb.getD t 0 := ⟨_, rfl⟩
        rw [← hx] at ca
        have lx : x < 65536 := by rw [hx]; exact HDA.out t
        rw [← hy] at cb
        have ly : y < 65536 := by rw [hy]; exact HDB.out t
        obtain ⟨m, hm⟩ : ∃ m, m = c + x + y := ⟨_, rfl⟩
        obtain ⟨d, hdd⟩ : ∃ d, d = m % 65536 := ⟨_, rfl⟩
        obtain ⟨c2, hc2⟩ : ∃ c2, c2 = m / 65536 := ⟨_, rfl⟩
        obtain ⟨m1, hm1⟩ : ∃ m, m = c + x := ⟨_, rfl⟩
        have s1 : IntKind.i64.wrap ((c : Int) + (x : Int)) = (m1 : Int) := by rw [IntKind.wrap_i64]; omega
        have s1b : (c : Int) + (x : Int) = (m1 : Int) := by omega
        have s2 : IntKind.i64.wrap ((m1 : Int) + (y : Int)) = (m : Int) := by rw [IntKind.wrap_i64]; omega
        have s2b : (m1 : Int) + (y : Int) = (m : Int) := by omega
        have r1 : (m : Int).tmod 65536 = (d : Int) := by rw [Int.tmod_eq_emod_of_nonneg (by omega)]; omega
        have r2 : (m : Int).tdiv 65536 = (c2 : Int) := by rw [Int.tdiv_eq_ediv_of_nonneg (by omega)]; omega
        have r3 : (m : Int) % 65536 = (d : Int) := by omega
        have r4 : (m : Int) / 65536 = (c2 : Int) := by omega
        have hstep := add_step la lb o t c x y d c2 hx hy hol (by omega) hval
        have HS := Lib.hid hstep
        have HD2 : Hid (Dg (o ++ [d])) := Lib.hid fun e he => by rcases List.mem_append.1 he with h | h; (exact hdo.out e h); (simp at h; omega)
        have HO := Lib.hid hown
        have HBE := Lib.hid hbel
        have hc21 : c2 ≤ 1 := by omega
        have hcx : X < t + 1 → c2 = 0 := by intro h; have := hX; omega
        have HCX := Lib.hid hcx
        clear hown hbel hval hx hy hm hdd hc2 hstep hcx hm1
        go_wp2_with (at_builtin; refine appI_big _ rfl _ _ rfl w.heap.size B t e _ _ d rfl rfl rfl HO.out (by omega) HBE.out.size ?_; intro A5 c5 w5 hown5 hbel5)
        go_roundw
        case rel => exact ⟨t + 1, c2, A5, c5, o ++ [d], by omega, hc21, HCX.out, rfl, rfl, by go_num, hown5, HD2, HS.out, HBE.out.trans hbel5⟩
        case measure => simp [intOf]; omega
      · have htX : t ≤ X := by omega
        have ka : (t : Int) < (na : Int) := by omega
        have kb : ¬ (t : Int) < (nb : Int) := by omega
        obtain ⟨ba, oa, rfl, ca⟩ := (HA.out.below hbel).at_ (k := t) (by omega)
        obtain ⟨x, hx⟩ : ∃ x, x = la.getD t 0 := ⟨_, rfl⟩
        obtain ⟨y, hy⟩ : ∃ y, y = lb.getD t 0 := ⟨_, rfl⟩
        rw [← hx] at ca
        have lx : x < 65536 := by rw [hx]; exact HDA.out t
        have ly : y = 0 := by rw [hy]; exact getD_out lb t (by rw [HLB.out]; omega)
        obtain ⟨m, hm⟩ : ∃ m, m = c + x + y := ⟨_, rfl⟩
        obtain ⟨d, hdd⟩ : ∃ d, d = m % 65536 := ⟨_, rfl⟩
        obtain ⟨c2, hc2⟩ : ∃ c2, c2 = m / 65536 := ⟨_, rfl⟩
        have s1 : IntKind.i64.wrap ((c : Int) + (x : Int)) = (m : Int) := by rw [IntKind.wrap_i64]; omega
        have s1b : (c : Int) + (x : Int) = (m : Int) := by omega
        have r1 : (m : Int).tmod 65536 = (d : Int) := by rw [Int.tmod_eq_emod_of_nonneg (by omega)]; omega
        have r2 : (m : Int).tdiv 65536 = (c2 : Int) := by rw [Int.tdiv_eq_ediv_of_nonneg (by omega)]; omega
        have r3 : (m : Int) % 65536 = (d : Int) := by omega
        have r4 : (m : Int) / 65536 = (c2 : Int) := by omega
        have hstep := add_step la lb o t c x y d c2 hx hy hol (by omega) hval
        have HS := Lib.hid hstep
        have HD2 : Hid (Dg (o ++ [d])) := Lib.hid fun e he => by rcases List.mem_append.1 he with h | h; (exact hdo.out e h); (simp at h; omega)
        have HO := Lib.hid hown
        have HBE := Lib.hid hbel
        have hc21 : c2 ≤ 1 := by omega
        have hcx : X < t + 1 → c2 = 0 := by intro h; have := hX; omega
        have HCX := Lib.hid hcx
        clear hown hbel hval hx hy hm hdd hc2 hstep hcx
        go_wp2_with (at_builtin; refine appI_big _ rfl _ _ rfl w.heap.size B t e _ _ d rfl rfl rfl HO.out (by omega) HBE.out.size ?_; intro A5 c5 w5 hown5 hbel5)
        go_roundw
        case rel => exact ⟨t + 1, c2, A5, c5, o ++ [d], by omega, hc21, HCX.out, rfl, rfl, by go_num, hown5, HD2, HS.out, HBE.out.trans hbel5⟩
        case measure => simp [intOf]; omega
    · by_cases ib : t < nb
      · have htX : t ≤ X := by omega
        have ka : ¬ (t : Int) < (na : Int) := by omega
        have kb : (t : Int) < (nb : Int) := by omega
        obtain ⟨bb, ob, rfl, cb⟩ := (HB.out.below hbel).at_ (k := t) (by omega)
        obtain ⟨x, hx⟩ : ∃ x, x = la.getD t 0 := ⟨_, rfl⟩
        obtain ⟨y, hy⟩ : ∃ y, y = lb.getD t 0 := ⟨_, rfl⟩
        have lx : x = 0 := by rw [hx]; exact getD_out la t (by rw [HLA.out]; omega)
        rw [← hy] at cb
        have ly : y < 65536 := by rw [hy]; exact HDB.out t
        obtain ⟨m, hm⟩ : ∃ m, m = c + x + y := ⟨_, rfl⟩
        obtain ⟨d, hdd⟩ : ∃ d, d = m % 65536 := ⟨_, rfl⟩
        obtain ⟨c2, hc2⟩ : ∃ c2, c2 = m / 65536 := ⟨_, rfl⟩
        have s1 : IntKind.i64.wrap ((c : Int) + (y : Int)) = (m : Int) := by rw [IntKind.wrap_i64]; omega
        have s1b : (c : Int) + (y : Int) = (m : Int) := by omega
        have r1 : (m : Int).tmod 65536 = (d : Int) := by rw [Int.tmod_eq_emod_of_nonneg (by omega)]; omega
        have r2 : (m : Int).tdiv 65536 = (c2 : Int) := by rw [Int.tdiv_eq_ediv_of_nonneg (by omega)]; omega
        have r3 : (m : Int) % 65536 = (d : Int) := by omega
        have r4 : (m : Int) / 65536 = (c2 : Int) := by omega
        have hstep := add_step la lb o t c x y d c2 hx hy hol (by omega) hval
        have HS := Lib.hid hstep
        have HD2 : Hid (Dg (o ++ [d])) := Lib.hid fun e he => by rcases List.mem_append.1 he with h | h; (exact hdo.out e h); (simp at h; omega)
        have HO := Lib.hid hown
        have HBE := Lib.hid hbel
        have hc21 : c2 ≤ 1 := by omega
        have hcx : X < t + 1 → c2 = 0 := by intro h; have := hX; omega
        have HCX := Lib.hid hcx
        clear hown hbel hval hx hy hm hdd hc2 hstep hcx
        go_wp2_with (at_builtin; refine appI_big _ rfl _ _ rfl w.heap.size B t e _ _ d rfl rfl rfl HO.out (by omega) HBE.out.size ?_; intro A5 c5 w5 hown5 hbel5)
        go_roundw
        case rel => exact ⟨t + 1, c2, A5, c5, o ++ [d], by omega, hc21, HCX.out, rfl, rfl, by go_num, hown5, HD2, HS.out, HBE.out.trans hbel5⟩
        case measure => simp [intOf]; omega
      · by_cases hc0 : 0 < c
        · have hc0' : (0 : Int) < (c : Int) := by omega
          have htX : t ≤ X := by
            rcases Nat.lt_or_ge X t with h | h
            · have := hX h; omega
            · exact h
          have ka : ¬ (t : Int) < (na : Int) := by omega
          have kb : ¬ (t : Int) < (nb : Int) := by omega
          obtain ⟨x, hx⟩ : ∃ x, x = la.getD t 0 := ⟨_, rfl⟩
          obtain ⟨y, hy⟩ : ∃ y, y = lb.getD t 0 := ⟨_, rfl⟩
          have lx : x = 0 := by rw [hx]; exact getD_out la t (by rw [HLA.out]; omega)
          have ly : y = 0 := by rw [hy]; exact getD_out lb t (by rw [HLB.out]; omega)
          obtain ⟨m, hm⟩ : ∃ m, m = c + x + y := ⟨_, rfl⟩
          obtain ⟨d, hdd⟩ : ∃ d, d = m % 65536 := ⟨_, rfl⟩
          obtain ⟨c2, hc2⟩ : ∃ c2, c2 = m / 65536 := ⟨_, rfl⟩
          have r1 : (c : Int).tmod 65536 = (d : Int) := by rw [Int.tmod_eq_emod_of_nonneg (by omega)]; omega
          have r2 : (c : Int).tdiv 65536 = (c2 : Int) := by rw [Int.tdiv_eq_ediv_of_nonneg (by omega)]; omega
          have r3 : (c : Int) % 65536 = (d : Int) := by omega
          have r4 : (c : Int) / 65536 = (c2 : Int) := by omega
          have hstep := add_step la lb o t c x y d c2 hx hy hol (by omega) hval
          have HS := Lib.hid hstep
          have HD2 : Hid (Dg (o ++ [d])) := Lib.hid fun e he => by rcases List.mem_append.1 he with h | h; (exact hdo.out e h); (simp at h; omega)
          have HO := Lib.hid hown
          have HBE := Lib.hid hbel
          have hc21 : c2 ≤ 1 := by omega
          have hcx : X < t + 1 → c2 = 0 := by intro h; have := hX; omega
          have HCX := Lib.hid hcx
          clear hown hbel hval hx hy hm hdd hc2 hstep hcx
          go_wp2_with (at_builtin; refine appI_big _ rfl _ _ rfl w.heap.size B t e _ _ d rfl rfl rfl HO.out (by omega) HBE.out.size ?_; intro A5 c5 w5 hown5 hbel5)
          go_roundw
          case rel => exact ⟨t + 1, c2, A5, c5, o ++ [d], by omega, hc21, HCX.out, rfl, rfl, by go_num, hown5, HD2, HS.out, HBE.out.trans hbel5⟩
          case measure => simp [intOf]; omega
        · have hc00 : c = 0 := by omega
          subst hc00
          have hfin : valB o = a + b := by
            rw [List.take_of_length_le (by rw [HLA.out]; omega), List.take_of_length_le (by rw [HLB.out]; omega), HVA.out, HVB.out] at hval
            omega
          have hcap := hown.cap
          have CT := Lib.hid (trim_calls B t e o wr hdo.out hown.rd hcap.1 hcap.2)
          have HBE := Lib.hid hbel
          have HF := Lib.hid hfin
          have ka : ¬ (t : Int) < (na : Int) := by omega
          have kb : ¬ (t : Int) < (nb : Int) := by omega
          clear hown hbel hval hfin
          go_wp2_with (go_at_call 41; refine CT.out.mono ?_; rintro e' w' ⟨A9, m9, rfl, hm9, hr9, rfl⟩)
          go_ret
          rw [HF.out] at hr9
          exact ⟨_, _, _, rfl, hr9, Nat.le_trans hm9 hcap.1, hcap.2, HBE.out⟩
end Go.Proofs.Ytdgfgehjnfadnaa
