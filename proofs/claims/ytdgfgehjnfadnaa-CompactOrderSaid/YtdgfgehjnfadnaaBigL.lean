/- The contract of the reference's Less of layer 4. -/
import Derived.Test.YtdgfgehjnfadnaaBigA
import Derived.Test.YtdgfgehjnfadnaaRolP
import Derived.Deep.QuietTactic
import Derived.BigQuiet
namespace Go.Proofs.Ytdgfgehjnfadnaa
open Go.RowKit
set_option linter.unusedVariables false

theorem less_len (a b : Nat) (h : (digs a).length < (digs b).length) : a < b := by
  have h1 := (digs_len a (digs a).length).1 (Nat.le_refl _)
  rcases Nat.lt_or_ge a b with h2 | h2
  · exact h2
  · have h3 := (digs_len b (digs a).length).2 (Nat.lt_of_le_of_lt h2 h1)
    omega
theorem val_split (l : List Nat) (i : Nat) (hi : i < l.length) : valB l = valB (l.take i) + 65536 ^ i * (l.getD i 0 + 65536 * valB (l.drop (i + 1))) := by
  conv => lhs; rw [← List.take_append_drop i l]
  rw [valB_append, List.length_take, Nat.min_eq_left (by omega), List.drop_eq_getElem_cons hi, List.getD_eq_getElem?_getD, List.getElem?_eq_getElem hi]
  rfl
theorem less_at (la lb : List Nat) (i : Nat) (ha : Dg la) (hia : i < la.length) (hib : i < lb.length) (hd : la.drop (i + 1) = lb.drop (i + 1)) (hl : la.getD i 0 < lb.getD i 0) : valB la < valB lb := by
  rw [val_split la i hia, val_split lb i hib, hd]
  have h1 : valB (la.take i) < 65536 ^ i := by
    have := valB_lt (la.take i) (fun d hd => ha d (List.mem_of_mem_take hd))
    rw [List.length_take, Nat.min_eq_left (by omega)] at this
    exact this
  have h2 : 65536 ^ i * (la.getD i 0 + 65536 * valB (lb.drop (i + 1))) + 65536 ^ i ≤ 65536 ^ i * (lb.getD i 0 + 65536 * valB (lb.drop (i + 1))) := by
    have e : 65536 ^ i * (la.getD i 0 + 65536 * valB (lb.drop (i + 1))) + 65536 ^ i = 65536 ^ i * (la.getD i 0 + 65536 * valB (lb.drop (i + 1)) + 1) := by rw [Nat.mul_add (65536 ^ i) _ 1, Nat.mul_one]
    rw [e]
    exact Nat.mul_le_mul_left _ (by omega)
  omega

set_option maxHeartbeats 2000000 in
theorem bless_calls (A B : Option Addr) (na nb ca cb : Nat) (a b : Nat) (w : World) (hna : na ≤ 10000) (hnb : nb ≤ 10000) (hra : RdI w A na (digs a)) (hrb : RdI w B nb (digs b)) :
    Calls Try.prog 29 #[.slice A na ca, .slice B nb cb] w (Quiet w (.bool (decide (a < b)))) := by
  have hla := hra.len
  have hlb := hrb.len
  by_cases hne : na = nb
  · subst hne
    obtain ⟨la, hlae⟩ : ∃ la, la = digs a := ⟨_, rfl⟩
    obtain ⟨lb, hlbe⟩ : ∃ lb, lb = digs b := ⟨_, rfl⟩
    rw [← hlae] at hra hla
    rw [← hlbe] at hrb hlb
    have HDA : Hid (Dg la ∧ Dg lb ∧ valB la = a ∧ valB lb = b) := Lib.hid ⟨by rw [hlae]; exact digs_lt a, by rw [hlbe]; exact digs_lt b, by rw [hlae]; exact val_digs a, by rw [hlbe]; exact val_digs b⟩
    have HA := Lib.hid hra
    have HB := Lib.hid hrb
    have HLA := Lib.hid hla
    have HLB := Lib.hid hlb
    obtain ⟨res, hres⟩ : ∃ res, res = decide (a < b) := ⟨_, rfl⟩
    rw [← hres]
    have HRES := Lib.hid hres
    clear hra hrb hlae hlbe hla hlb hres
    go_enter Try.func29, Try.ntmps29
    go_wp2
    go_loopw [5] (fun i wr => ∃ (t n : Nat), t ≤ na ∧ i = .int .i64 ((t : Int) - 1) ∧ Hid (la.drop t = lb.drop t) ∧ wr = w.drewN n) (fun i _ => (intOf i + 1).toNat)
    case atStart => exact ⟨na, 0, Nat.le_refl _, rfl, by show la.drop na = lb.drop na; rw [List.drop_of_length_le (by rw [HLA.out]; exact Nat.le_refl _), List.drop_of_length_le (by rw [HLB.out]; exact Nat.le_refl _)], rfl⟩
    case round =>
      obtain ⟨t, n, ht, rfl, HD, rfl⟩ := hrel
      by_cases h0 : 0 < t
      · obtain ⟨q, hq⟩ : ∃ q, q = t - 1 := ⟨_, rfl⟩
        have hqi : (t : Int) - 1 = (q : Int) := by omega
        rw [hqi]
        obtain ⟨ba, oa, rfl, c1⟩ := HA.out.at_ (k := q) (by omega)
        obtain ⟨bb, ob, rfl, c2⟩ := HB.out.at_ (k := q) (by omega)
        obtain ⟨x, hx⟩ : ∃ x, x = la.getD q 0 := ⟨_, rfl⟩
        obtain ⟨y, hy⟩ : ∃ y, y = lb.getD q 0 := ⟨_, rfl⟩
        rw [← hx] at c1
        rw [← hy] at c2
        have bq : (q : Int) < (na : Int) := by omega
        have hqa : q < la.length := by rw [HLA.out]; omega
        have hqb : q < lb.length := by rw [HLB.out]; omega
        have hdq : la.drop (q + 1) = lb.drop (q + 1) := by rw [show q + 1 = t from by omega]; exact HD.out
        by_cases hxy : x = y
        · have hxy' : (x : Int) = (y : Int) := by omega
          have HD2 : Hid (la.drop q = lb.drop q) := Lib.hid (by
            rw [List.drop_eq_getElem_cons hqa, List.drop_eq_getElem_cons hqb, hdq]
            rw [List.getD_eq_getElem?_getD, List.getElem?_eq_getElem hqa] at hx
            rw [List.getD_eq_getElem?_getD, List.getElem?_eq_getElem hqb] at hy
            simp only [Option.getD_some] at hx hy
            rw [← hx, ← hy, hxy])
          have v1 : IntKind.i64.wrap ((q : Int) - 1) = (q : Int) - 1 := by rw [IntKind.wrap_i64]; omega
          subst hxy
          have hqn : q ≤ 10000 := by omega
          clear hx hy hq hqa hqb hdq hqi
          go_wp2
          go_quiet (fail)
          go_wp2
          exact ⟨⟨q, _, by omega, rfl, HD2, rfl⟩, by simp [intOf]⟩
        · have hxy' : ¬ (x : Int) = (y : Int) := by omega
          obtain ⟨d1, d2, d3, d4⟩ := HDA.out
          have hR : decide ((x : Int) < (y : Int)) = res := by
            rw [HRES.out]
            rcases Nat.lt_or_ge x y with h | h
            · have := less_at la lb q d1 hqa hqb hdq (by rw [← hx, ← hy]; exact h)
              rw [d3, d4] at this
              simp [this]
              omega
            · have := less_at lb la q d2 hqb hqa hdq.symm (by rw [← hx, ← hy]; omega)
              rw [d3, d4] at this
              have h3 : ¬ a < b := by omega
              have h4 : ¬ (x : Int) < (y : Int) := by omega
              simp [h3]
              omega
          have hR2 : decide (x < y) = res := by rw [← hR]; simp
          clear hx hy hq hqa hqb hdq hqi d1 d2 d3 d4
          go_wp2
          go_quiet (fail)
          go_wp2
          go_quiet (fail)
          go_wp2
          go_ret
          exact ⟨rfl, _, by rw [World.drewN_drewN, World.drewN_drewN]⟩
      · have e : t = 0 := by omega
        subst e
        obtain ⟨d1, d2, d3, d4⟩ := HDA.out
        have hR : res = false := by
          rw [HRES.out]
          have h1 := HD.out
          simp only [List.drop_zero] at h1
          rw [h1, d4] at d3
          simp
          omega
        subst hR
        clear d1 d2 d3 d4
        go_wp2
        go_ret
        exact ⟨rfl, n, rfl⟩
  · have hR : decide ((na : Int) < (nb : Int)) = decide (a < b) := by
      rcases Nat.lt_or_ge na nb with h | h
      · have h1 := less_len a b (by omega)
        have h2 : (na : Int) < (nb : Int) := by omega
        simp [h1, h2]
      · have h1 := less_len b a (by omega)
        have h2 : ¬ (na : Int) < (nb : Int) := by omega
        have h3 : ¬ a < b := by omega
        simp [h3]
        omega
    have hne' : ¬ (na : Int) = (nb : Int) := by omega
    have hR2 : decide (na < nb) = decide (a < b) := by rw [← hR]; simp
    obtain ⟨res, hres⟩ : ∃ res, res = decide (a < b) := ⟨_, rfl⟩
    rw [← hres] at hR hR2 ⊢
    clear hra hrb hla hlb hres hne
    go_enter Try.func29, Try.ntmps29
    go_wp2
    go_ret
    exact ⟨rfl, 0, rfl⟩
end Go.Proofs.Ytdgfgehjnfadnaa
