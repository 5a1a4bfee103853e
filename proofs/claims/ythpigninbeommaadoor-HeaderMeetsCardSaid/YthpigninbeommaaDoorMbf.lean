/- Merged texts: BigL BigO BigF. -/
import Derived.Test.YthpigninbeommaaDoorMbe
import Derived.Test.YthpigninbeommaaDoorMab
import Derived.Deep.QuietTactic
import Derived.BigQuiet
/- The contract of the reference's Less of layer 4. -/
namespace Go.Proofs.YthpigninbeommaaDoor
open Go.RowKit
set_option linter.unusedVariables false

set_option maxRecDepth 100000 in
theorem less_len (a b : Nat) (h : (digs a).length < (digs b).length) : a < b := by
  have h1 := (digs_len a (digs a).length).1 (Nat.le_refl _)
  rcases Nat.lt_or_ge a b with h2 | h2
  · exact h2
  · have h3 := (digs_len b (digs a).length).2 (Nat.lt_of_le_of_lt h2 h1)
    omega
set_option maxRecDepth 100000 in
theorem val_split (l : List Nat) (i : Nat) (hi : i < l.length) : valB l = valB (l.take i) + 65536 ^ i * (l.getD i 0 + 65536 * valB (l.drop (i + 1))) := by
  conv => lhs; rw [← List.take_append_drop i l]
  rw [valB_append, List.length_take, Nat.min_eq_left (by omega), List.drop_eq_getElem_cons hi, List.getD_eq_getElem?_getD, List.getElem?_eq_getElem hi]
  rfl
set_option maxRecDepth 100000 in
theorem less_at (la lb : List Nat) (i : Nat) (ha : Dg la) (hia : i < la.length) (hib : i < lb.length) (hd : la.drop (i + 1) = lb.drop (i + 1)) (hl : la.getD i 0 < lb.getD i 0) : valB la < valB lb := by
  rw [val_split la i hia, val_split lb i hib, hd]
  have h1 : valB (la.take i) < 65536 ^ i := by
    have := valB_lt (la.take i) (fun d hd => ha d (List.mem_of_mem_take hd))
    rw [List.length_take, Nat.min_eq_left (by omega)] at this
    exact this
  have h2 : 65536 ^ i * (la.getD i 0 + 65536 * valB (lb.drop (i + 1))) + 65536 ^ i ≤ 65536 ^ i * (lb.getD i 0 + 65536 * valB (lb.drop (i + 1))) := by
    have e : 65536 ^ i * (la.getD i 0 + 65536 * valB (lb.drop (i + 1))) + 65536 ^ i = 65536 ^ i * (la.getD i 0 + 65536 * valB (lb.drop (i + 1)) + 1) := by rw [Nat.mul_add (65536 ^ i) _ 1, Nat.mul_one]
    rw [e]
    exact Nat.mul_le_mul_left _ (by omega)
  omega

set_option maxRecDepth 100000 in
set_option maxHeartbeats 2000000 in
theorem bless_calls (A B : Option Addr) (na nb ca cb : Nat) (a b : Nat) (w : World) (hna : na ≤ 10000) (hnb : nb ≤ 10000) (hra : RdI w A na (digs a)) (hrb : RdI w B nb (digs b)) :
    Calls Tryd.prog 32 #[.slice A na ca, .slice B nb cb] w (Quiet w (.bool (decide (a < b)))) := by
  have hla := hra.len
  have hlb := hrb.len
  by_cases hne : na = nb
  · subst hne
    obtain ⟨la, hlae⟩ : ∃ la, la = digs a := ⟨_, rfl⟩
    obtain ⟨lb, hlbe⟩ : ∃ lb, lb = digs b := ⟨_, rfl⟩
    rw [← hlae] at hra hla
    rw [← hlbe] at hrb hlb
    have HDA : Hid (Dg la ∧ Dg lb ∧ valB la = a ∧ valB lb = b) := Lib.hid ⟨by rw [hlae]; exact digs_lt a, by rw [hlbe]; exact digs_lt b, by rw [hlae]; exact val_digs a, by rw [hlbe]; exact val_digs b⟩
    have HA := Lib.hid hra
    have HB := Lib.hid hrb
    have HLA := Lib.hid hla
    have HLB := Lib.hid hlb
    obtain ⟨res, hres⟩ : ∃ res, res = decide (a < b) := ⟨_, rfl⟩
    rw [← hres]
    have HRES := Lib.hid hres
    clear hra hrb hlae hlbe hla hlb hres
    go_enter Tryd.func32, Tryd.ntmps32
    go_wp2
    go_loopw [5] (fun i wr => ∃ (t n : Nat), t ≤ na ∧ i = .int .i64 ((t : Int) - 1) ∧ Hid (la.drop t = lb.drop t) ∧ wr = w.drewN n) (fun i _ => (intOf i + 1).toNat)
    case atStart => exact ⟨na, 0, Nat.le_refl _, rfl, by show la.drop na = lb.drop na; rw [List.drop_of_length_le (by rw [HLA.out]; exact Nat.le_refl _), List.drop_of_length_le (by rw [HLB.out]; exact Nat.le_refl _)], rfl⟩
    case round =>
      obtain ⟨t, n, ht, rfl, HD, rfl⟩ := hrel
      by_cases h0 : 0 < t
      · obtain ⟨q, hq⟩ : ∃ q, q = t - 1 := ⟨_, rfl⟩
        have hqi : (t : Int) - 1 = (q : Int) := by omega
        rw [hqi]
        obtain ⟨ba, oa, rfl, c1⟩ := HA.out.at_ (k := q) (by omega)
        obtain ⟨bb, ob, rfl, c2⟩ := HB.out.at_ (k := q) (by omega)
        obtain ⟨x, hx⟩ : ∃ x, x = la.getD q 0 := ⟨_, rfl⟩
        obtain ⟨y, hy⟩ : ∃ y, y = lb.getD q 0 := ⟨_, rfl⟩
        rw [← hx] at c1
        rw [← hy] at c2
        have bq : (q : Int) < (na : Int) := by omega
        have hqa : q < la.length := by rw [HLA.out]; omega
        have hqb : q < lb.length := by rw [HLB.out]; omega
        have hdq : la.drop (q + 1) = lb.drop (q + 1) := by rw [show q + 1 = t from by omega]; exact HD.out
        by_cases hxy : x = y
        · have hxy' : (x : Int) = (y : Int) := by omega
          have HD2 : Hid (la.drop q = lb.drop q) := Lib.hid (by
            rw [List.drop_eq_getElem_cons hqa, List.drop_eq_getElem_cons hqb, hdq]
            rw [List.getD_eq_getElem?_getD, List.getElem?_eq_getElem hqa] at hx
            rw [List.getD_eq_getElem?_getD, List.getElem?_eq_getElem hqb] at hy
            simp only [Option.getD_some] at hx hy
            rw [← hx, ← hy, hxy])
          have v1 : IntKind.i64.wrap ((q : Int) - 1) = (q : Int) - 1 := by rw [IntKind.wrap_i64]; omega
          subst hxy
          have hqn : q ≤ 10000 := by omega
          clear hx hy hq hqa hqb hdq hqi
          go_wp2
          go_quiet (fail)
          go_wp2
          exact ⟨⟨q, _, by omega, rfl, HD2, rfl⟩, by simp [intOf]⟩
        · have hxy' : ¬ (x : Int) = (y : Int) := by omega
          obtain ⟨d1, d2, d3, d4⟩ := HDA.out
          have hR : decide ((x : Int) < (y : Int)) = res := by
            rw [HRES.out]
            rcases Nat.lt_or_ge x y with h | h
            · have := less_at la lb q d1 hqa hqb hdq (by rw [← hx, ← hy]; exact h)
              rw [d3, d4] at this
              simp [this]
              omega
            · have := less_at lb la q d2 hqb hqa hdq.symm (by rw [← hx, ← hy]; omega)
              rw [d3, d4] at this
              have h3 : ¬ a < b := by omega
              have h4 : ¬ (x : Int) < (y : Int) := by omega
              simp [h3]
              omega
          have hR2 : decide (x < y) = res := by rw [← hR]; simp
          clear hx hy hq hqa hqb hdq hqi d1 d2 d3 d4
          go_wp2
          go_quiet (fail)
          go_wp2
          go_quiet (fail)
          go_wp2
          go_ret
          exact ⟨rfl, _, by rw [World.drewN_drewN, World.drewN_drewN]⟩
      · have e : t = 0 := by omega
        subst e
        obtain ⟨d1, d2, d3, d4⟩ := HDA.out
        have hR : res = false := by
          rw [HRES.out]
          have h1 := HD.out
          simp only [List.drop_zero] at h1
          rw [h1, d4] at d3
          simp
          omega
        subst hR
        clear d1 d2 d3 d4
        go_wp2
        go_ret
        exact ⟨rfl, n, rfl⟩
  · have hR : decide ((na : Int) < (nb : Int)) = decide (a < b) := by
      rcases Nat.lt_or_ge na nb with h | h
      · have h1 := less_len a b (by omega)
        have h2 : (na : Int) < (nb : Int) := by omega
        simp [h1, h2]
      · have h1 := less_len b a (by omega)
        have h2 : ¬ (na : Int) < (nb : Int) := by omega
        have h3 : ¬ a < b := by omega
        simp [h3]
        omega
    have hne' : ¬ (na : Int) = (nb : Int) := by omega
    have hR2 : decide (na < nb) = decide (a < b) := by rw [← hR]; simp
    obtain ⟨res, hres⟩ : ∃ res, res = decide (a < b) := ⟨_, rfl⟩
    rw [← hres] at hR hR2 ⊢
    clear hra hrb hla hlb hres hne
    go_enter Tryd.func32, Tryd.ntmps32
    go_wp2
    go_ret
    exact ⟨rfl, 0, rfl⟩
end Go.Proofs.YthpigninbeommaaDoor

/- The contracts of the reference's Low, High and Is of layer 4. -/
namespace Go.Proofs.YthpigninbeommaaDoor
open Go.RowKit
set_option linter.unusedVariables false

set_option maxRecDepth 100000 in
theorem p16 : 65536 ^ 16 = 2 ^ 256 := by decide
set_option maxRecDepth 100000 in
/-- append(Big{}, a...) -/
theorem appI_all {ops : Array Oper} {rest : List Oper} {o : Oper} {a : Act} {Q : Exit → Act → World → Prop} (w : World) (hgd : o.guard = none) (s x : Operand)
    (ho : o.op = .call { callee := .builtin .append, args := #[s, x], argTypes := #[66, 66] })
    (base : Nat) (A : Option Addr) (n c : Nat) (l : List Nat) (X : Option Addr) (m cx : Nat) (r : List Nat) (hs : a.eval s = .slice A n c) (hx : a.eval x = .slice X m cx)
    (hown : OwnI w base A n c l) (hr : RdI w X m r) (hb : n + m ≤ 1000000) (hbase : base ≤ w.heap.size)
    (h : ∀ A' c' w', OwnI w' base A' (n + m) c' (l ++ r) → Below base w w' → wpList Tryd.prog ops Q rest (a.put o.dst (.slice A' (n + m) c')) w') :
    wpList Tryd.prog ops Q (o :: rest) a w := by
  refine wpList_plain hgd fun _ hK => ?_
  refine wpo_appG _ s x 66 ho 3 (.int .i64 0) 8 Tryd.underlying66 infoI rfl base _ n (l.map WI) hs hown.2 X m cx (r.map WI) hx (by rw [List.length_map]; exact hr.1) ?_ ?_ (by unfold maxLen; omega) (by omega) hbase ?_
  · intro hm
    obtain ⟨b, off, rfl, _, hc⟩ := hr.2 hm
    refine ⟨_, rfl, fun j v hj => ?_⟩
    have hjl : j < r.length := by have := (List.getElem?_eq_some_iff.1 hj).1; simpa using this
    rw [Addr.add_mid, hc j (by have := hr.1; omega)]
    rw [mapI_at r j hjl] at hj
    exact hj
  · intro v hv; simp at hv; obtain ⟨u, _, rfl⟩ := hv; rfl
  · intro A' c' w' hown' hbel _ _
    exact hK _ _ (h A' c' w' ⟨by simp [hown.1, hr.1], by rw [List.map_append]; exact hown'⟩ hbel)
set_option maxRecDepth 100000 in
theorem OwnI.empty (w : World) : OwnI (w.alloc (.cells #[] 3)) w.heap.size (some ⟨w.heap.size, 0, none⟩) 0 0 [] :=
  ⟨rfl, rfl, .inr ⟨w.heap.size, 0, _, rfl, Nat.le_refl _, heap_alloc_new w _, Nat.zero_le _, by unfold maxLen; omega, rfl, rfl⟩⟩
set_option maxRecDepth 100000 in
theorem RdI.drop {w : World} {A : Option Addr} {n : Nat} {l : List Nat} (h : RdI w A n l) (c k : Nat) (hnc : n ≤ c) : RdI w (sub A c k) (n - k) (l.drop k) := by
  refine ⟨by rw [List.length_drop, h.1], fun h0 => ?_⟩
  obtain ⟨b, off, rfl, hlt, hc⟩ := h.2 (by omega)
  refine ⟨b, off + k, ?_, hlt, fun j hj => ?_⟩
  · unfold sub
    rw [if_neg (by omega), Option.map_some, Addr.add_mid]
  · rw [Nat.add_assoc, hc (k + j) (by omega)]
    rw [List.getD_eq_getElem?_getD, List.getD_eq_getElem?_getD, List.getElem?_drop]
set_option maxRecDepth 100000 in
theorem low_val (N : Nat) : valB ((digs N).take 16) = N % 2 ^ 256 := by
  have h1 := valB_append ((digs N).take 16) ((digs N).drop 16)
  rw [List.take_append_drop, val_digs] at h1
  have h2 := valB_lt ((digs N).take 16) (fun d hd => digs_lt N d (List.mem_of_mem_take hd))
  by_cases h : 16 ≤ (digs N).length
  · rw [List.length_take, Nat.min_eq_left h] at h1 h2
    rw [p16] at h1 h2
    generalize valB (List.take 16 (digs N)) = u at *
    generalize valB (List.drop 16 (digs N)) = v at *
    rw [h1, Nat.add_mul_mod_self_left, Nat.mod_eq_of_lt h2]
  · have e : (digs N).drop 16 = [] := List.drop_of_length_le (by omega)
    rw [e] at h1
    simp only [valB, Nat.mul_zero, Nat.add_zero] at h1
    have h3 := (digs_len N 16).1 (by omega)
    rw [p16] at h3
    rw [← h1, Nat.mod_eq_of_lt h3]
set_option maxRecDepth 100000 in
theorem high_val (N : Nat) : valB ((digs N).drop 16) = N / 2 ^ 256 := by
  have h1 := valB_append ((digs N).take 16) ((digs N).drop 16)
  rw [List.take_append_drop, val_digs] at h1
  have h2 := valB_lt ((digs N).take 16) (fun d hd => digs_lt N d (List.mem_of_mem_take hd))
  by_cases h : 16 ≤ (digs N).length
  · rw [List.length_take, Nat.min_eq_left h] at h1 h2
    rw [p16] at h1 h2
    generalize valB (List.take 16 (digs N)) = u at *
    generalize valB (List.drop 16 (digs N)) = v at *
    rw [h1, Nat.add_mul_div_left _ _ (by decide), Nat.div_eq_of_lt h2, Nat.zero_add]
  · have e : (digs N).drop 16 = [] := List.drop_of_length_le (by omega)
    have h3 := (digs_len N 16).1 (by omega)
    rw [p16] at h3
    rw [e, Nat.div_eq_of_lt h3]
    rfl

end Go.Proofs.YthpigninbeommaaDoor

/- The contracts of the reference's Of and of the law's big of layer 4: the digits of words. -/
namespace Go.Proofs.YthpigninbeommaaDoor
open Go.RowKit
set_option linter.unusedVariables false

/-- The number of words, the lowest first. -/
def valW : List Nat → Nat
  | [] => 0
  | x :: r => x + 2 ^ 64 * valW r
set_option maxRecDepth 100000 in
theorem valW_append (l r : List Nat) : valW (l ++ r) = valW l + 2 ^ (64 * l.length) * valW r := by
  induction l with
  | nil => simp [valW]
  | cons d l ih =>
    simp only [List.cons_append, valW, ih, List.length_cons, Nat.mul_add, Nat.mul_one, Nat.pow_add]
    rw [Nat.mul_comm (2 ^ (64 * l.length)) (2 ^ 64), Nat.mul_assoc]
    omega
set_option maxRecDepth 100000 in
theorem pow4 (t : Nat) : 65536 ^ (4 * t) = 2 ^ (64 * t) := by rw [show 65536 = 2 ^ 16 from rfl, ← Nat.pow_mul]; congr 1; omega
/-- The slice of n words that begins at A holds the words l. -/
def RdU (w : World) (A : Option Addr) (n : Nat) (l : List Nat) : Prop :=
  l.length = n ∧ (0 < n → ∃ b off, A = some ⟨b, off, none⟩ ∧ b < w.heap.size ∧ ∀ j, j < n → w.cell? ⟨b, off + j, none⟩ = some (.int .u64 (l.getD j 0 : Int)))
set_option maxRecDepth 100000 in
theorem RdU.below {w w' : World} {A : Option Addr} {n : Nat} {l : List Nat} (h : RdU w A n l) (hb : Below w.heap.size w w') : RdU w' A n l :=
  ⟨h.1, fun hn => by
    obtain ⟨b, off, e, hlt, hc⟩ := h.2 hn
    exact ⟨b, off, e, Nat.lt_of_lt_of_le hlt hb.size, fun j hj => (hb.cell (p := ⟨b, off + j, none⟩) hlt).trans (hc j hj)⟩⟩
set_option maxRecDepth 100000 in
theorem RdU.at_ {w : World} {A : Option Addr} {n : Nat} {l : List Nat} (h : RdU w A n l) {k : Nat} (hk : k < n) :
    ∃ b off, A = some ⟨b, off, none⟩ ∧ w.cell? ⟨b, off + k, none⟩ = some (.int .u64 (l.getD k 0 : Int)) := by
  obtain ⟨b, off, e, _, hc⟩ := h.2 (by omega)
  exact ⟨b, off, e, hc k hk⟩

set_option maxRecDepth 100000 in
set_option maxHeartbeats 2000000 in
theorem of_calls (A : Option Addr) (n c : Nat) (ws : List Nat) (w : World) (hn : n ≤ 100) (hlt : ∀ x ∈ ws, x < 2 ^ 64) (hr : RdU w A n ws) :
    Calls Tryd.prog 47 #[.slice A n c] w (MkB w (valW ws)) := by
  have HR := Lib.hid hr
  have HL := Lib.hid hr.1
  have HLT : Hid (∀ t, ws.getD t 0 < 2 ^ 64) := Lib.hid fun t => by
    rw [List.getD_eq_getElem?_getD]
    cases hx : ws[t]? with
    | none => simp
    | some x => exact hlt x (List.mem_of_getElem? hx)
  clear hr hlt
  go_enter Tryd.func47, Tryd.ntmps47
  go_wp2
  go_loopw [3, 9] (fun v i wr => ∃ (t u : Nat) (B : Option Addr) (e : Nat) (o : List Nat), t ≤ n ∧ u = 4 * t ∧ i = .int .i64 (t : Int) ∧ v = .slice B u e ∧ OwnI wr w.heap.size B u e o ∧ Hid (Dg o) ∧ valB o = valW (ws.take t) ∧ Below w.heap.size w wr) (fun _ i _ => n - (intOf i).toNat)
  case atStart => exact ⟨0, 0, none, 0, [], by omega, rfl, rfl, rfl, OwnI.nil _ _, fun d hd => by simp at hd, rfl, Below.refl _ _⟩
  case round =>
    obtain ⟨t, u, B, e, o, ht, hu, rfl, rfl, hown, hdo, hval, hbel⟩ := hrel
    by_cases hlt : t < n
    · obtain ⟨b, off, rfl, hc⟩ := (HR.out.below hbel).at_ (k := t) hlt
      obtain ⟨x, hx⟩ : ∃ x, x = ws.getD t 0 := ⟨_, rfl⟩
      rw [← hx] at hc
      have lx : x < 2 ^ 64 := by rw [hx]; exact HLT.out t
      have bt : (t : Int) < (n : Int) := by omega
      have hnext : valW (ws.take (t + 1)) = valB o + 65536 ^ u * x := by
        have hl : t < ws.length := by rw [HL.out]; exact hlt
        rw [hval, hu, pow4, List.take_succ_eq_append_getElem hl, valW_append, List.length_take, Nat.min_eq_left (Nat.le_of_lt hl), hx, List.getD_eq_getElem?_getD, List.getElem?_eq_getElem hl]
        simp [valW]
      have hub : u ≤ 400 := by omega
      have HN := Lib.hid hnext
      have HU := Lib.hid hu
      have K := Lib.hid (And.intro hown (And.intro hbel hown.len))
      clear hown hbel hval hnext hu hx
      go_wp2
      go_loopw [3, 5, 6] (fun v y k wq => ∃ (j z : Nat) (B2 : Option Addr) (e2 : Nat) (o2 : List Nat), j ≤ 4 ∧ k = .int .i64 (j : Int) ∧ y = .int .u64 (z : Int) ∧ Hid (z = x / 65536 ^ j) ∧ v = .slice B2 (u + j) e2 ∧ OwnI wq w.heap.size B2 (u + j) e2 o2 ∧ Hid (Dg o2) ∧ Hid (valB o2 + 65536 ^ (u + j) * z = valB o + 65536 ^ u * x) ∧ Below w.heap.size w wq) (fun _ _ k _ => 4 - (intOf k).toNat)
      case atStart => exact ⟨0, x, B, e, o, by omega, rfl, rfl, by show x = x / 65536 ^ 0; simp, rfl, K.out.1, hdo, rfl, K.out.2.1⟩
      case round =>
        obtain ⟨j, z, B2, e2, o2, hj, rfl, rfl, HZ, rfl, hown, hdo2, HV, hbel⟩ := hrel
        have lz : z < 2 ^ 64 := by rw [HZ.out]; exact Nat.lt_of_le_of_lt (Nat.div_le_self _ _) lx
        obtain ⟨p, hp⟩ : ∃ p, p = u + j := ⟨_, rfl⟩
        rw [← hp] at hown HV ⊢
        by_cases hj4 : j < 4
        · obtain ⟨d, hd⟩ : ∃ d, d = z % 65536 := ⟨_, rfl⟩
          obtain ⟨z2, hz2⟩ : ∃ z2, z2 = z / 65536 := ⟨_, rfl⟩
          have r1 : (z : Int).tmod 65536 = (d : Int) := by rw [Int.tmod_eq_emod_of_nonneg (by omega)]; omega
          have r2 : (z : Int).tdiv 65536 = (z2 : Int) := by rw [Int.tdiv_eq_ediv_of_nonneg (by omega)]; omega
          have r3 : (z : Int) % 65536 = (d : Int) := by omega
          have r4 : (z : Int) / 65536 = (z2 : Int) := by omega
          have r5 : IntKind.u64.wrap (z2 : Int) = (z2 : Int) := by rw [IntKind.wrap_u64]; omega
          have r6 : IntKind.i64.wrap (d : Int) = (d : Int) := by rw [IntKind.wrap_i64]; omega
          have HZ2 : Hid (z2 = x / 65536 ^ (j + 1)) := Lib.hid (by rw [hz2, HZ.out, Nat.div_div_eq_div_mul, Nat.pow_succ])
          have hol := hown.len
          have HV2 : Hid (valB (o2 ++ [d]) + 65536 ^ (p + 1) * z2 = valB o + 65536 ^ u * x) := Lib.hid (by
            rw [← HV.out, valB_append, hol, Nat.pow_succ]
            simp only [valB, Nat.mul_zero, Nat.add_zero]
            have e : 65536 ^ p * d + 65536 ^ p * 65536 * z2 = 65536 ^ p * z := by rw [Nat.mul_assoc, ← Nat.mul_add, hd, hz2, Nat.mod_add_div]
            omega)
          have HD2 : Hid (Dg (o2 ++ [d])) := Lib.hid fun e he => by
            rcases List.mem_append.1 he with h | h
            · exact hdo2.out e h
            · simp at h; omega
          have HO := Lib.hid hown
          have HBE := Lib.hid hbel
          have HP := Lib.hid hp
          have hpb : p ≤ 500 := by omega
          have bj : (j : Int) < 4 := by omega
          clear hown hbel hd hz2 hol hp
          go_wp2_with (at_builtin; refine appI_big _ rfl _ _ rfl w.heap.size B2 p e2 _ _ d rfl rfl rfl HO.out (by omega) HBE.out.size ?_; intro A5 c5 w5 hown5 hbel5)
          go_roundw
          case rel =>
            have hpp := HP.out
            refine ⟨j + 1, z2, A5, c5, o2 ++ [d], by omega, by go_num, rfl, HZ2, by rw [hpp, Nat.add_assoc], ?_, HD2, ?_, HBE.out.trans hbel5⟩
            · rw [← Nat.add_assoc, ← hpp]; exact hown5
            · rw [← Nat.add_assoc, ← hpp]; exact HV2
          case measure => simp [intOf]; omega
        · have e4 : j = 4 := by omega
          subst e4
          have hz0 : z = 0 := by rw [HZ.out]; exact Nat.div_eq_of_lt lx
          have hv4 : valB o2 = valW (ws.take (t + 1)) := by
            have h := HV.out
            rw [hz0, Nat.mul_zero, Nat.add_zero] at h
            rw [h, HN.out]
          have HO := Lib.hid (And.intro hown (And.intro hv4 (And.intro hbel hp)))
          clear hown hbel hv4 hp hz0
          go_wp2
          go_roundw
          case rel => exact ⟨t + 1, p, B2, e2, o2, by omega, by have h1 := HU.out; have h2 := HO.out.2.2.2; omega, by go_num, rfl, HO.out.1, hdo2, HO.out.2.1, HO.out.2.2.1⟩
          case measure => simp [intOf]; omega
    · have e1 : t = n := by omega
      have hv : valB o = valW ws := by rw [hval, e1, List.take_of_length_le (by rw [HL.out]; exact Nat.le_refl _)]
      have bt : ¬ (t : Int) < (n : Int) := by omega
      have hcap := hown.cap
      have CT := Lib.hid (trim_calls B u e o wr hdo.out hown.rd hcap.1 hcap.2)
      have HBE := Lib.hid hbel
      have HV := Lib.hid hv
      clear hown hbel hval hv hu
      go_wp2_with (go_at_call 61; refine CT.out.mono ?_; rintro e' w' ⟨A9, m9, rfl, hm9, hr9, rfl⟩)
      go_ret
      rw [HV.out] at hr9
      exact ⟨_, _, _, rfl, hr9, Nat.le_trans hm9 hcap.1, hcap.2, HBE.out⟩
end Go.Proofs.YthpigninbeommaaDoor
