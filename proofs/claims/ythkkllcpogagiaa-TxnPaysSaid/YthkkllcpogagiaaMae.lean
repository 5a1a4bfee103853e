/- Merged texts: BigO BigF BigU BigW BigP BigH. -/
import Derived.Test.YthkkllcpogagiaaMad
import Derived.Test.YthkkllcpogagiaaMab
/- The contracts of the reference's Low, High and Is of layer 4. -/
namespace Go.Proofs.Ythkkllcpogagiaa
open Go.RowKit
set_option linter.unusedVariables false

set_option maxRecDepth 100000 in
theorem p16 : 65536 ^ 16 = 2 ^ 256 := by decide
set_option maxRecDepth 100000 in
/-- append(Big{}, a...) -/
theorem appI_all {ops : Array Oper} {rest : List Oper} {o : Oper} {a : Act} {Q : Exit → Act → World → Prop} (w : World) (hgd : o.guard = none) (s x : Operand)
    (ho : o.op = .call { callee := .builtin .append, args := #[s, x], argTypes := #[43, 43] })
    (base : Nat) (A : Option Addr) (n c : Nat) (l : List Nat) (X : Option Addr) (m cx : Nat) (r : List Nat) (hs : a.eval s = .slice A n c) (hx : a.eval x = .slice X m cx)
    (hown : OwnI w base A n c l) (hr : RdI w X m r) (hb : n + m ≤ 1000000) (hbase : base ≤ w.heap.size)
    (h : ∀ A' c' w', OwnI w' base A' (n + m) c' (l ++ r) → Below base w w' → wpList Try.prog ops Q rest (a.put o.dst (.slice A' (n + m) c')) w') :
    wpList Try.prog ops Q (o :: rest) a w := by
  refine wpList_plain hgd fun _ hK => ?_
  refine wpo_appG _ s x 43 ho 3 (.int .i64 0) 8 Try.underlying43 infoI rfl base _ n (l.map WI) hs hown.2 X m cx (r.map WI) hx (by rw [List.length_map]; exact hr.1) ?_ ?_ (by unfold maxLen; omega) (by omega) hbase ?_
  · intro hm
    obtain ⟨b, off, rfl, _, hc⟩ := hr.2 hm
    refine ⟨_, rfl, fun j v hj => ?_⟩
    have hjl : j < r.length := by have := (List.getElem?_eq_some_iff.1 hj).1; simpa using this
    rw [Addr.add_mid, hc j (by have := hr.1; omega)]
    rw [mapI_at r j hjl] at hj
    exact hj
  · intro v hv; simp at hv; obtain ⟨u, _, rfl⟩ := hv; rfl
  · intro A' c' w' hown' hbel _ _
    exact hK _ _ (h A' c' w' ⟨by simp [hown.1, hr.1], by rw [List.map_append]; exact hown'⟩ hbel)
set_option maxRecDepth 100000 in
theorem OwnI.empty (w : World) : OwnI (w.alloc (.cells #[] 3)) w.heap.size (some ⟨w.heap.size, 0, none⟩) 0 0 [] :=
  ⟨rfl, rfl, .inr ⟨w.heap.size, 0, _, rfl, Nat.le_refl _, heap_alloc_new w _, Nat.zero_le _, by unfold maxLen; omega, rfl, rfl⟩⟩
set_option maxRecDepth 100000 in
theorem RdI.drop {w : World} {A : Option Addr} {n : Nat} {l : List Nat} (h : RdI w A n l) (c k : Nat) (hnc : n ≤ c) : RdI w (sub A c k) (n - k) (l.drop k) := by
  refine ⟨by rw [List.length_drop, h.1], fun h0 => ?_⟩
  obtain ⟨b, off, rfl, hlt, hc⟩ := h.2 (by omega)
  refine ⟨b, off + k, ?_, hlt, fun j hj => ?_⟩
  · unfold sub
    rw [if_neg (by omega), Option.map_some, Addr.add_mid]
  · rw [Nat.add_assoc, hc (k + j) (by omega)]
    rw [List.getD_eq_getElem?_getD, List.getD_eq_getElem?_getD, List.getElem?_drop]
set_option maxRecDepth 100000 in
theorem low_val (N : Nat) : valB ((digs N).take 16) = N % 2 ^ 256 := by
  have h1 := valB_append ((digs N).take 16) ((digs N).drop 16)
  rw [List.take_append_drop, val_digs] at h1
  have h2 := valB_lt ((digs N).take 16) (fun d hd => digs_lt N d (List.mem_of_mem_take hd))
  by_cases h : 16 ≤ (digs N).length
  · rw [List.length_take, Nat.min_eq_left h] at h1 h2
    rw [p16] at h1 h2
    generalize valB (List.take 16 (digs N)) = u at *
    generalize valB (List.drop 16 (digs N)) = v at *
    rw [h1, Nat.add_mul_mod_self_left, Nat.mod_eq_of_lt h2]
  · have e : (digs N).drop 16 = [] := List.drop_of_length_le (by omega)
    rw [e] at h1
    simp only [valB, Nat.mul_zero, Nat.add_zero] at h1
    have h3 := (digs_len N 16).1 (by omega)
    rw [p16] at h3
    rw [← h1, Nat.mod_eq_of_lt h3]
set_option maxRecDepth 100000 in
theorem high_val (N : Nat) : valB ((digs N).drop 16) = N / 2 ^ 256 := by
  have h1 := valB_append ((digs N).take 16) ((digs N).drop 16)
  rw [List.take_append_drop, val_digs] at h1
  have h2 := valB_lt ((digs N).take 16) (fun d hd => digs_lt N d (List.mem_of_mem_take hd))
  by_cases h : 16 ≤ (digs N).length
  · rw [List.length_take, Nat.min_eq_left h] at h1 h2
    rw [p16] at h1 h2
    generalize valB (List.take 16 (digs N)) = u at *
    generalize valB (List.drop 16 (digs N)) = v at *
    rw [h1, Nat.add_mul_div_left _ _ (by decide), Nat.div_eq_of_lt h2, Nat.zero_add]
  · have e : (digs N).drop 16 = [] := List.drop_of_length_le (by omega)
    have h3 := (digs_len N 16).1 (by omega)
    rw [p16] at h3
    rw [e, Nat.div_eq_of_lt h3]
    rfl

end Go.Proofs.Ythkkllcpogagiaa

/- The contracts of the reference's Of and of the law's big of layer 4: the digits of words. -/
namespace Go.Proofs.Ythkkllcpogagiaa
open Go.RowKit
set_option linter.unusedVariables false

/-- The number of words, the lowest first. -/
def valW : List Nat → Nat
  | [] => 0
  | x :: r => x + 2 ^ 64 * valW r
set_option maxRecDepth 100000 in
theorem valW_append (l r : List Nat) : valW (l ++ r) = valW l + 2 ^ (64 * l.length) * valW r := by
  induction l with
  | nil => simp [valW]
  | cons d l ih =>
    simp only [List.cons_append, valW, ih, List.length_cons, Nat.mul_add, Nat.mul_one, Nat.pow_add]
    rw [Nat.mul_comm (2 ^ (64 * l.length)) (2 ^ 64), Nat.mul_assoc]
    omega
set_option maxRecDepth 100000 in
theorem pow4 (t : Nat) : 65536 ^ (4 * t) = 2 ^ (64 * t) := by rw [show 65536 = 2 ^ 16 from rfl, ← Nat.pow_mul]; congr 1; omega
/-- The slice of n words that begins at A holds the words l. -/
def RdU (w : World) (A : Option Addr) (n : Nat) (l : List Nat) : Prop :=
  l.length = n ∧ (0 < n → ∃ b off, A = some ⟨b, off, none⟩ ∧ b < w.heap.size ∧ ∀ j, j < n → w.cell? ⟨b, off + j, none⟩ = some (.int .u64 (l.getD j 0 : Int)))
set_option maxRecDepth 100000 in
theorem RdU.below {w w' : World} {A : Option Addr} {n : Nat} {l : List Nat} (h : RdU w A n l) (hb : Below w.heap.size w w') : RdU w' A n l :=
  ⟨h.1, fun hn => by
    obtain ⟨b, off, e, hlt, hc⟩ := h.2 hn
    exact ⟨b, off, e, Nat.lt_of_lt_of_le hlt hb.size, fun j hj => (hb.cell (p := ⟨b, off + j, none⟩) hlt).trans (hc j hj)⟩⟩
set_option maxRecDepth 100000 in
theorem RdU.at_ {w : World} {A : Option Addr} {n : Nat} {l : List Nat} (h : RdU w A n l) {k : Nat} (hk : k < n) :
    ∃ b off, A = some ⟨b, off, none⟩ ∧ w.cell? ⟨b, off + k, none⟩ = some (.int .u64 (l.getD k 0 : Int)) := by
  obtain ⟨b, off, e, _, hc⟩ := h.2 (by omega)
  exact ⟨b, off, e, hc k hk⟩

set_option maxRecDepth 100000 in
set_option maxHeartbeats 2000000 in
theorem of_calls (A : Option Addr) (n c : Nat) (ws : List Nat) (w : World) (hn : n ≤ 100) (hlt : ∀ x ∈ ws, x < 2 ^ 64) (hr : RdU w A n ws) :
    Calls Try.prog 33 #[.slice A n c] w (MkB w (valW ws)) := by
  have HR := Lib.hid hr
  have HL := Lib.hid hr.1
  have HLT : Hid (∀ t, ws.getD t 0 < 2 ^ 64) := Lib.hid fun t => by
    rw [List.getD_eq_getElem?_getD]
    cases hx : ws[t]? with
    | none => simp
    | some x => exact hlt x (List.mem_of_getElem? hx)
  clear hr hlt
  go_enter Try.func33, Try.ntmps33
  go_wp2
  go_loopw [3, 9] (fun v i wr => ∃ (t u : Nat) (B : Option Addr) (e : Nat) (o : List Nat), t ≤ n ∧ u = 4 * t ∧ i = .int .i64 (t : Int) ∧ v = .slice B u e ∧ OwnI wr w.heap.size B u e o ∧ Hid (Dg o) ∧ valB o = valW (ws.take t) ∧ Below w.heap.size w wr) (fun _ i _ => n - (intOf i).toNat)
  case atStart => exact ⟨0, 0, none, 0, [], by omega, rfl, rfl, rfl, OwnI.nil _ _, fun d hd => by simp at hd, rfl, Below.refl _ _⟩
  case round =>
    obtain ⟨t, u, B, e, o, ht, hu, rfl, rfl, hown, hdo, hval, hbel⟩ := hrel
    by_cases hlt : t < n
    · obtain ⟨b, off, rfl, hc⟩ := (HR.out.below hbel).at_ (k := t) hlt
      obtain ⟨x, hx⟩ : ∃ x, x = ws.getD t 0 := ⟨_, rfl⟩
      rw [← hx] at hc
      have lx : x < 2 ^ 64 := by rw [hx]; exact HLT.out t
      have bt : (t : Int) < (n : Int) := by omega
      have hnext : valW (ws.take (t + 1)) = valB o + 65536 ^ u * x := by
        have hl : t < ws.length := by rw [HL.out]; exact hlt
        rw [hval, hu, pow4, List.take_succ_eq_append_getElem hl, valW_append, List.length_take, Nat.min_eq_left (Nat.le_of_lt hl), hx, List.getD_eq_getElem?_getD, List.getElem?_eq_getElem hl]
        simp [valW]
      have hub : u ≤ 400 := by omega
      have HN := Lib.hid hnext
      have HU := Lib.hid hu
      have K := Lib.hid (And.intro hown (And.intro hbel hown.len))
      clear hown hbel hval hnext hu hx
      go_wp2
      go_loopw [3, 5, 6] (fun v y k wq => ∃ (j z : Nat) (B2 : Option Addr) (e2 : Nat) (o2 : List Nat), j ≤ 4 ∧ k = .int .i64 (j : Int) ∧ y = .int .u64 (z : Int) ∧ Hid (z = x / 65536 ^ j) ∧ v = .slice B2 (u + j) e2 ∧ OwnI wq w.heap.size B2 (u + j) e2 o2 ∧ Hid (Dg o2) ∧ Hid (valB o2 + 65536 ^ (u + j) * z = valB o + 65536 ^ u * x) ∧ Below w.heap.size w wq) (fun _ _ k _ => 4 - (intOf k).toNat)
      case atStart => exact ⟨0, x, B, e, o, by omega, rfl, rfl, by show x = x / 65536 ^ 0; simp, rfl, K.out.1, hdo, rfl, K.out.2.1⟩
      case round =>
        obtain ⟨j, z, B2, e2, o2, hj, rfl, rfl, HZ, rfl, hown, hdo2, HV, hbel⟩ := hrel
        have lz : z < 2 ^ 64 := by rw [HZ.out]; exact Nat.lt_of_le_of_lt (Nat.div_le_self _ _) lx
        obtain ⟨p, hp⟩ : ∃ p, p = u + j := ⟨_, rfl⟩
        rw [← hp] at hown HV ⊢
        by_cases hj4 : j < 4
        · obtain ⟨d, hd⟩ : ∃ d, d = z % 65536 := ⟨_, rfl⟩
          obtain ⟨z2, hz2⟩ : ∃ z2, z2 = z / 65536 := ⟨_, rfl⟩
          have r1 : (z : Int).tmod 65536 = (d : Int) := by rw [Int.tmod_eq_emod_of_nonneg (by omega)]; omega
          have r2 : (z : Int).tdiv 65536 = (z2 : Int) := by rw [Int.tdiv_eq_ediv_of_nonneg (by omega)]; omega
          have r3 : (z : Int) % 65536 = (d : Int) := by omega
          have r4 : (z : Int) / 65536 = (z2 : Int) := by omega
          have r5 : IntKind.u64.wrap (z2 : Int) = (z2 : Int) := by rw [IntKind.wrap_u64]; omega
          have r6 : IntKind.i64.wrap (d : Int) = (d : Int) := by rw [IntKind.wrap_i64]; omega
          have HZ2 : Hid (z2 = x / 65536 ^ (j + 1)) := Lib.hid (by rw [hz2, HZ.out, Nat.div_div_eq_div_mul, Nat.pow_succ])
          have hol := hown.len
          have HV2 : Hid (valB (o2 ++ [d]) + 65536 ^ (p + 1) * z2 = valB o + 65536 ^ u * x) := Lib.hid (by
            rw [← HV.out, valB_append, hol, Nat.pow_succ]
            simp only [valB, Nat.mul_zero, Nat.add_zero]
            have e : 65536 ^ p * d + 65536 ^ p * 65536 * z2 = 65536 ^ p * z := by rw [Nat.mul_assoc, ← Nat.mul_add, hd, hz2, Nat.mod_add_div]
            omega)
          have HD2 : Hid (Dg (o2 ++ [d])) := Lib.hid fun e he => by
            rcases List.mem_append.1 he with h | h
            · exact hdo2.out e h
            · simp at h; omega
          have HO := Lib.hid hown
          have HBE := Lib.hid hbel
          have HP := Lib.hid hp
          have hpb : p ≤ 500 := by omega
          have bj : (j : Int) < 4 := by omega
          clear hown hbel hd hz2 hol hp
          go_wp2_with (at_builtin; refine appI_big _ rfl _ _ rfl w.heap.size B2 p e2 _ _ d rfl rfl rfl HO.out (by omega) HBE.out.size ?_; intro A5 c5 w5 hown5 hbel5)
          go_roundw
          case rel =>
            have hpp := HP.out
            refine ⟨j + 1, z2, A5, c5, o2 ++ [d], by omega, by go_num, rfl, HZ2, by rw [hpp, Nat.add_assoc], ?_, HD2, ?_, HBE.out.trans hbel5⟩
            · rw [← Nat.add_assoc, ← hpp]; exact hown5
            · rw [← Nat.add_assoc, ← hpp]; exact HV2
          case measure => simp [intOf]; omega
        · have e4 : j = 4 := by omega
          subst e4
          have hz0 : z = 0 := by rw [HZ.out]; exact Nat.div_eq_of_lt lx
          have hv4 : valB o2 = valW (ws.take (t + 1)) := by
            have h := HV.out
            rw [hz0, Nat.mul_zero, Nat.add_zero] at h
            rw [h, HN.out]
          have HO := Lib.hid (And.intro hown (And.intro hv4 (And.intro hbel hp)))
          clear hown hbel hv4 hp hz0
          go_wp2
          go_roundw
          case rel => exact ⟨t + 1, p, B2, e2, o2, by omega, by have h1 := HU.out; have h2 := HO.out.2.2.2; omega, by go_num, rfl, HO.out.1, hdo2, HO.out.2.1, HO.out.2.2.1⟩
          case measure => simp [intOf]; omega
    · have e1 : t = n := by omega
      have hv : valB o = valW ws := by rw [hval, e1, List.take_of_length_le (by rw [HL.out]; exact Nat.le_refl _)]
      have bt : ¬ (t : Int) < (n : Int) := by omega
      have hcap := hown.cap
      have CT := Lib.hid (trim_calls B u e o wr hdo.out hown.rd hcap.1 hcap.2)
      have HBE := Lib.hid hbel
      have HV := Lib.hid hv
      clear hown hbel hval hv hu
      go_wp2_with (go_at_call 46; refine CT.out.mono ?_; rintro e' w' ⟨A9, m9, rfl, hm9, hr9, rfl⟩)
      go_ret
      rw [HV.out] at hr9
      exact ⟨_, _, _, rfl, hr9, Nat.le_trans hm9 hcap.1, hcap.2, HBE.out⟩
end Go.Proofs.Ythkkllcpogagiaa

/- The contract of the reference's Mul of layer 4: the digits of a product. -/
namespace Go.Proofs.Ythkkllcpogagiaa
open Go.RowKit
set_option linter.unusedVariables false

set_option maxRecDepth 100000 in
theorem val_set (o : List Nat) (p d : Nat) (hp : p < o.length) : valB (o.set p d) + 65536 ^ p * o.getD p 0 = valB o + 65536 ^ p * d := by
  have h1 := val_split (o.set p d) p (by rw [List.length_set]; exact hp)
  have h2 := val_split o p hp
  rw [List.take_set_of_le (Nat.le_refl _), List.drop_set_of_lt (by omega)] at h1
  have e : (o.set p d).getD p 0 = d := by rw [List.getD_eq_getElem?_getD, List.getElem?_set_self hp]; rfl
  rw [e] at h1
  rw [h1, h2, Nat.mul_add, Nat.mul_add]
  omega
set_option maxRecDepth 100000 in
theorem getD_set_ne (o : List Nat) (p k d : Nat) (h : p ≠ k) : (o.set p d).getD k 0 = o.getD k 0 := by
  rw [List.getD_eq_getElem?_getD, List.getD_eq_getElem?_getD, List.getElem?_set_ne h]
set_option maxRecDepth 100000 in
theorem Dg.set {o : List Nat} (h : Dg o) (p d : Nat) (hd : d < 65536) : Dg (o.set p d) := fun e he => by
  rcases List.mem_or_eq_of_mem_set he with h1 | h1
  · exact h e h1
  · omega
set_option maxRecDepth 100000 in
theorem mul_step (o o2 la lb : List Nat) (i j c x y d c2 : Nat) (b : Nat) (hp : i + j < o2.length) (hy : y = lb.getD j 0) (hm : d + 65536 * c2 = o2.getD (i + j) 0 + c + x * y)
    (h : valB o2 + 65536 ^ (i + j) * c = valB o + 65536 ^ i * (x * valB (lb.take j))) : valB (o2.set (i + j) d) + 65536 ^ (i + (j + 1)) * c2 = valB o + 65536 ^ i * (x * valB (lb.take (j + 1))) := by
  have h1 := val_set o2 (i + j) d hp
  rw [take_val, ← hy]
  have e1 : 65536 ^ i * (x * (valB (lb.take j) + 65536 ^ j * y)) = 65536 ^ i * (x * valB (lb.take j)) + 65536 ^ (i + j) * (x * y) := by
    rw [Nat.mul_add x, Nat.mul_add, Nat.pow_add]
    congr 1
    rw [Nat.mul_left_comm x, Nat.mul_assoc]
  have e2 : 65536 ^ (i + j) * d + 65536 ^ (i + (j + 1)) * c2 = 65536 ^ (i + j) * o2.getD (i + j) 0 + 65536 ^ (i + j) * c + 65536 ^ (i + j) * (x * y) := by
    rw [show i + (j + 1) = (i + j) + 1 from by omega, Nat.pow_succ, Nat.mul_assoc, ← Nat.mul_add, hm, Nat.mul_add, Nat.mul_add]
  rw [e1]
  omega
set_option maxRecDepth 100000 in
theorem run_mkI (n : Nat) (hn : n ≤ 281474976710656) (w : World) (hb : n * 8 ≤ 281474976710656) :
    (Instr.makeSlice 43 (.int .i64 (n : Int)) (.int .i64 (n : Int))).run Try.prog w = .ok (.slice (some ⟨w.heap.size, 0, none⟩) n n) (w.alloc (.cells (madeCells #[.int .i64 0] n) 3)) :=
  run_make_row' 43 3 (.int .i64 0) 8 Try.underlying43 infoI rfl .i64 .i64 n (by omega) (by omega) w
set_option maxRecDepth 100000 in
theorem blk_made (w : World) (n : Nat) : Blk (w.alloc (.cells (madeCells #[.int .i64 0] n) 3)) w.heap.size ((List.replicate n 0).map WI) 3 := by
  have h := Blk.new w (madeCells #[.int .i64 0] n) 3
  rw [toList_madeCells_one] at h
  rw [List.map_replicate]
  exact h
set_option maxRecDepth 100000 in
theorem rd_blk {w : World} {g : Nat} {o : List Nat} (h : Blk w g (o.map WI) 3) : RdI w (some ⟨g, 0, none⟩) o.length o :=
  ⟨rfl, fun _ => ⟨g, 0, rfl, h.lt, fun j hj => by rw [Nat.zero_add, h.cell, mapI_at o j hj]⟩⟩
set_option maxRecDepth 100000 in
theorem replicate_getD (n k : Nat) : (List.replicate n 0).getD k 0 = 0 := by
  rw [List.getD_eq_getElem?_getD, List.getElem?_replicate]
  split <;> rfl

end Go.Proofs.Ythkkllcpogagiaa

/- The contract of the reference's Words of layer 4: the four words of a number. -/
namespace Go.Proofs.Ythkkllcpogagiaa
open Go.RowKit
set_option linter.unusedVariables false

/-- The word k of digits, as far as they are taken down to t. -/
def wk (l : List Nat) (t k : Nat) : Nat := valB ((l.take (4 * k + 4)).drop (max t (4 * k)))
set_option maxRecDepth 100000 in
theorem wk_top (l : List Nat) (k : Nat) : wk l l.length k = 0 := by
  unfold wk
  rw [List.drop_of_length_le (by rw [List.length_take]; omega)]
  rfl
set_option maxRecDepth 100000 in
theorem wk_other (l : List Nat) (i k : Nat) (h : i / 4 ≠ k) : wk l (i + 1) k = wk l i k := by
  unfold wk
  rcases Nat.lt_or_ge (i / 4) k with h1 | h1
  · rw [Nat.max_eq_right (by omega), Nat.max_eq_right (by omega)]
  · rw [List.drop_of_length_le (by rw [List.length_take]; omega), List.drop_of_length_le (by rw [List.length_take]; omega)]
set_option maxRecDepth 100000 in
theorem wk_same (l : List Nat) (i : Nat) (h : i < l.length) : wk l i (i / 4) = wk l (i + 1) (i / 4) * 65536 + l.getD i 0 := by
  unfold wk
  rw [Nat.max_eq_left (by omega), Nat.max_eq_left (by omega)]
  have hl : i < (l.take (4 * (i / 4) + 4)).length := by rw [List.length_take]; omega
  rw [List.drop_eq_getElem_cons hl, valB, List.getElem_take, List.getD_eq_getElem?_getD, List.getElem?_eq_getElem h, Option.getD_some]
  omega
set_option maxRecDepth 100000 in
theorem wk_lt (l : List Nat) (i : Nat) (hd : Dg l) : wk l (i + 1) (i / 4) < 281474976710656 := by
  unfold wk
  rw [Nat.max_eq_left (by omega)]
  have h := valB_lt ((l.take (4 * (i / 4) + 4)).drop (i + 1)) (fun d h => hd d (List.mem_of_mem_take (List.mem_of_mem_drop h)))
  have h2 : ((l.take (4 * (i / 4) + 4)).drop (i + 1)).length ≤ 3 := by rw [List.length_drop, List.length_take]; omega
  have h3 := Nat.pow_le_pow_right (n := 65536) (by omega) h2
  have e : 65536 ^ 3 = 281474976710656 := by decide
  omega
/-- The four words. -/
def ws4 (l : List Nat) (t : Nat) : List Value := [.int .u64 (wk l t 0 : Int), .int .u64 (wk l t 1 : Int), .int .u64 (wk l t 2 : Int), .int .u64 (wk l t 3 : Int)]
set_option maxRecDepth 100000 in
theorem ws4_at (l : List Nat) (t k : Nat) (h : k < 4) : (ws4 l t)[k]? = some (.int .u64 (wk l t k : Int)) := by
  rcases (show k = 0 ∨ k = 1 ∨ k = 2 ∨ k = 3 by omega) with rfl | rfl | rfl | rfl <;> rfl
set_option maxRecDepth 100000 in
theorem ws4_set (l : List Nat) (i : Nat) (h : i < 16) (v : Nat) (hv : v = wk l i (i / 4)) : (ws4 l (i + 1)).set (i / 4) (.int .u64 (v : Int)) = ws4 l i := by
  subst hv
  have ho := wk_other l i
  rcases (show i / 4 = 0 ∨ i / 4 = 1 ∨ i / 4 = 2 ∨ i / 4 = 3 by omega) with h | h | h | h <;> rw [h] at ho ⊢
  · simp only [ws4, List.set_cons_zero]; rw [ho 1 (by omega), ho 2 (by omega), ho 3 (by omega)]
  · simp only [ws4, List.set_cons_succ, List.set_cons_zero]; rw [ho 0 (by omega), ho 2 (by omega), ho 3 (by omega)]
  · simp only [ws4, List.set_cons_succ, List.set_cons_zero]; rw [ho 0 (by omega), ho 1 (by omega), ho 3 (by omega)]
  · simp only [ws4, List.set_cons_succ, List.set_cons_zero]; rw [ho 0 (by omega), ho 1 (by omega), ho 2 (by omega)]
set_option maxRecDepth 100000 in
theorem iw4 (l : List Nat) (t : Nat) : (Try.prog.info? 48).map (·.size) = some (ws4 l t).length := by
  show (Try.prog.info? 48).map (·.size) = some 4
  kernel_rfl
set_option maxRecDepth 100000 in
theorem ws4_one (l : List Nat) (t : Nat) : ∀ v ∈ ws4 l t, v.oneCell' = true := fun v hv => by
  simp only [ws4, List.mem_cons, List.not_mem_nil, or_false] at hv
  rcases hv with rfl | rfl | rfl | rfl <;> rfl
set_option maxRecDepth 100000 in
/-- The word k of a number. -/
theorem wk_val (l : List Nat) (k : Nat) (hd : Dg l) : wk l 0 k = valB l / 2 ^ (64 * k) % 2 ^ 64 := by
  unfold wk
  rw [Nat.max_eq_right (by omega), ← pow4]
  obtain ⟨p, hp⟩ : ∃ p, p = (l.drop (4 * k)) := ⟨_, rfl⟩
  have e1 : (l.take (4 * k + 4)).drop (4 * k) = p.take 4 := by rw [hp, List.drop_take]; congr 1; omega
  have hlo : valB (l.take (4 * k)) < 65536 ^ (4 * k) ∧ valB l = valB (l.take (4 * k)) + 65536 ^ (4 * k) * valB p := by
    have h1 := valB_lt (l.take (4 * k)) (fun d h => hd d (List.mem_of_mem_take h))
    have h2 := valB_append (l.take (4 * k)) (l.drop (4 * k))
    rw [List.take_append_drop] at h2
    by_cases h : 4 * k ≤ l.length
    · rw [List.length_take, Nat.min_eq_left h] at h1 h2
      rw [hp]
      exact ⟨h1, h2⟩
    · have e : p = [] := by rw [hp]; exact List.drop_of_length_le (by omega)
      rw [← hp, e] at h2
      rw [e]
      simp only [valB, Nat.mul_zero, Nat.add_zero] at h2 ⊢
      refine ⟨Nat.lt_of_lt_of_le h1 (Nat.pow_le_pow_right (by omega) (by rw [List.length_take]; omega)), h2⟩
  have hq : valB l / 65536 ^ (4 * k) = valB p := by
    rw [hlo.2, Nat.add_mul_div_left _ _ (Nat.pow_pos (by omega)), Nat.div_eq_of_lt hlo.1, Nat.zero_add]
  rw [e1, hq]
  have hdp : Dg p := by rw [hp]; exact fun d h => hd d (List.mem_of_mem_drop h)
  have h3 := valB_append (p.take 4) (p.drop 4)
  rw [List.take_append_drop] at h3
  have h4 := valB_lt (p.take 4) (fun d h => hdp d (List.mem_of_mem_take h))
  have e4 : 65536 ^ 4 = 2 ^ 64 := by decide
  by_cases h : 4 ≤ p.length
  · rw [List.length_take, Nat.min_eq_left h, e4] at h3 h4
    rw [h3, Nat.add_mul_mod_self_left, Nat.mod_eq_of_lt h4]
  · have e : p.drop 4 = [] := List.drop_of_length_le (by omega)
    rw [e] at h3
    simp only [valB, Nat.mul_zero, Nat.add_zero] at h3
    have h5 : 65536 ^ (p.take 4).length ≤ 2 ^ 64 := by rw [← e4]; exact Nat.pow_le_pow_right (by omega) (by rw [List.length_take]; omega)
    rw [h3, Nat.mod_eq_of_lt (by omega)]

set_option maxRecDepth 100000 in
set_option maxHeartbeats 2000000 in
theorem bwords_calls (A : Option Addr) (n c : Nat) (l : List Nat) (w : World) (hn : n ≤ 16) (hd : Dg l) (hr : RdI w A n l) :
    Calls Try.prog 16 #[.slice A n c] w (Ret w (.agg (ws4 l 0).toArray)) := by
  have HR := Lib.hid hr
  have HL := Lib.hid hr.len
  have HD := Lib.hid hd
  have hz : ws4 l n = [.int .u64 0, .int .u64 0, .int .u64 0, .int .u64 0] := by rw [← hr.len]; unfold ws4; rw [wk_top, wk_top, wk_top, wk_top]; rfl
  have HZ := Lib.hid hz
  clear hr hd hz
  go_enter Try.func16, Try.ntmps16
  go_wp2
  go_loopw [4] (fun i wr => ∃ t : Nat, t ≤ n ∧ i = .int .i64 ((t : Int) - 1) ∧ Blk wr (w.heap.size + 1) (ws4 l t) 48 ∧ Blk wr w.heap.size [.int .u64 0, .int .u64 0, .int .u64 0, .int .u64 0] 48 ∧ Below w.heap.size w wr) (fun i _ => (intOf i + 1).toNat)
  case atStart => exact ⟨n, Nat.le_refl _, rfl, by rw [HZ.out]; exact Blk.new' (w.alloc _) _ _ _ (by simp), (Blk.new w _ _).alloc _, ((Below.refl _ w).alloc (Nat.le_refl _) _).alloc (by simp) _⟩
  case round =>
    obtain ⟨t, ht, rfl, hb, hb0, hbel⟩ := hrel
    by_cases h0 : 0 < t
    · obtain ⟨q, hq⟩ : ∃ q, q = t - 1 := ⟨_, rfl⟩
      have hqi : (t : Int) - 1 = (q : Int) := by omega
      rw [hqi]
      have htq : t = q + 1 := by omega
      rw [htq] at hb
      obtain ⟨ba, oa, rfl, c1⟩ := (HR.out.below hbel).at_ (k := q) (by omega)
      obtain ⟨x, hx⟩ : ∃ x, x = l.getD q 0 := ⟨_, rfl⟩
      rw [← hx] at c1
      have lx : x < 65536 := by rw [hx]; exact HD.out.getD q
      obtain ⟨k, hk⟩ : ∃ k, k = q / 4 := ⟨_, rfl⟩
      obtain ⟨v, hv⟩ : ∃ v, v = wk l (q + 1) k := ⟨_, rfl⟩
      have lv : v < 281474976710656 := by rw [hv, hk]; exact wk_lt l q HD.out
      have c2 := hb.cell k
      rw [ws4_at l (q + 1) k (by omega), ← hv] at c2
      have f2 := hb.free k
      obtain ⟨v2, hv2⟩ : ∃ v2, v2 = v * 65536 := ⟨_, rfl⟩
      obtain ⟨v3, hv3⟩ : ∃ v3, v3 = v2 + x := ⟨_, rfl⟩
      have d1 : (q : Int).tdiv 4 = (k : Int) := by rw [Int.tdiv_eq_ediv_of_nonneg (by omega)]; omega
      have d2 : IntKind.i64.wrap (k : Int) = (k : Int) := by rw [IntKind.wrap_i64]; omega
      have d3 : IntKind.u64.wrap ((v : Int) * 65536) = (v2 : Int) := by rw [IntKind.wrap_u64]; omega
      have d4 : IntKind.u64.wrap (x : Int) = (x : Int) := by rw [IntKind.wrap_u64]; omega
      have d5 : IntKind.u64.wrap ((v2 : Int) + (x : Int)) = (v3 : Int) := by rw [IntKind.wrap_u64]; omega
      have d6 : (q : Int) / 4 = (k : Int) := by omega
      have bq : (q : Int) < (n : Int) := by omega
      have bq16 : (q : Int) < 16 := by omega
      have bk : (k : Int) < 4 := by omega
      have hset := ws4_set l q (by omega) v3 (by rw [wk_same l q (by rw [HL.out]; omega), ← hk, ← hv, ← hx]; omega)
      rw [← hk] at hset
      have R : Hid (∀ m : Nat, Blk ((wr.drewN m).setCell ⟨w.heap.size + 1, k, none⟩ (.int .u64 (v3 : Int))) (w.heap.size + 1) (ws4 l q) 48 ∧ Blk ((wr.drewN m).setCell ⟨w.heap.size + 1, k, none⟩ (.int .u64 (v3 : Int))) w.heap.size [.int .u64 0, .int .u64 0, .int .u64 0, .int .u64 0] 48 ∧ Below w.heap.size w ((wr.drewN m).setCell ⟨w.heap.size + 1, k, none⟩ (.int .u64 (v3 : Int)))) := Lib.hid fun m =>
        ⟨by rw [← hset]; exact (hb.drewN m).set k _, (hb0.drewN m).set_other _ _ (by simp), (below_drewN hbel m).setCell (by simp) _⟩
      have hqn : q + 1 ≤ n := by omega
      clear hb hb0 hbel hset hv hv2 hv3 hx hk htq hqi hq
      go_wp2
      go_region
      all_goals go_wp2
      all_goals exact ⟨⟨q, by omega, rfl, (R.out 1).1, (R.out 1).2.1, (R.out 1).2.2⟩, by simp [intOf]⟩
    · have e : t = 0 := by omega
      subst e
      have H3 := Lib.hid hb
      have H2 := Lib.hid hb0
      clear hb hb0
      go_wp2_with (first
        | (refine at_load 48 (.tmp 3) ?_; refine wpList_load_mid rfl 48 (.tmp 3) rfl (w.heap.size + 1) 0 rfl (ws4 l 0) _ H3.out.range Try.underlying48 rfl (iw4 l 0) ?_)
        | (refine at_store 48 (.tmp 2) (.tmp 28) ?_; refine wpList_store_blk rfl 48 (.tmp 2) (.tmp 28) rfl w.heap.size [.int .u64 0, .int .u64 0, .int .u64 0, .int .u64 0] (ws4 l 0) _ rfl rfl H2.out rfl (iw4 l 0) (ws4_one l 0) ?_; intro w3 hb9 ho9))
      refine bodyPost_ret (v := .agg (ws4 l 0).toArray) ?_ rfl ⟨rfl, hbel.trans (ho9.below (Nat.le_refl _))⟩
      exact results_cell_row Try.results16 _ _ w.heap.size 48 _ (0, 0) _ (by rfl) hb9 Try.underlying48 rfl (by rw [List.size_toArray]; exact iw4 l 0)
end Go.Proofs.Ythkkllcpogagiaa

/- The contracts of the reference's Pow and Is of layer 4. -/
namespace Go.Proofs.Ythkkllcpogagiaa
open Go.RowKit
set_option linter.unusedVariables false

set_option maxRecDepth 100000 in
theorem pow_digs (k : Nat) : List.replicate (k / 16) 0 ++ [2 ^ (k % 16)] = digs (2 ^ k) := by
  have hv : valB (List.replicate (k / 16) 0 ++ [2 ^ (k % 16)]) = 2 ^ k := by
    rw [valB_append, valB_zeros, List.length_replicate]
    simp only [valB, Nat.mul_zero, Nat.add_zero, Nat.zero_add]
    rw [show 65536 = 2 ^ 16 from rfl, ← Nat.pow_mul, ← Nat.pow_add]
    congr 1
    omega
  have hlt : 2 ^ (k % 16) < 65536 := by
    have := Nat.pow_lt_pow_right (a := 2) (by omega) (Nat.mod_lt k (show 0 < 16 by omega))
    exact this
  rw [← hv]
  refine canon _ (fun d hd => ?_) (fun h => ?_)
  · rcases List.mem_append.1 hd with h | h
    · simp at h; omega
    · simp at h; omega
  · rw [List.getLast_append_of_ne_nil _ (by simp)]
    simp only [List.getLast_singleton]
    exact Nat.ne_of_gt (Nat.pow_pos (by omega))
set_option maxRecDepth 100000 in
theorem set_last (n v u : Nat) : (List.replicate n 0 ++ [v]).set n u = List.replicate n 0 ++ [u] := by
  rw [List.set_append_right _ _ (by simp)]
  simp

set_option maxRecDepth 100000 in
theorem digs_le {w : World} {A : Option Addr} {n N k : Nat} (h : RdI w A n (digs N)) (hk : N < 65536 ^ k) : n ≤ k := by
  rw [← h.len]
  exact (digs_len N k).2 hk
set_option maxRecDepth 100000 in
theorem two_digs {x y j k : Nat} (hx : x < 65536 ^ j) (hy : y < 65536 ^ k) : x * y < 65536 ^ (j + k) := by
  rw [Nat.pow_add]
  exact Nat.mul_lt_mul'' hx hy

end Go.Proofs.Ythkkllcpogagiaa

/- The contract of the reference's Half of layer 4. -/
namespace Go.Proofs.Ythkkllcpogagiaa
open Go.RowKit
set_option linter.unusedVariables false

set_option maxRecDepth 100000 in
theorem half_step (la nx : List Nat) (i c m : Nat) (hia : i < la.length) (hin : i < nx.length) (hm : m = c * 65536 + la.getD i 0) (h : valB (nx.drop (i + 1)) * 2 + c = valB (la.drop (i + 1))) :
    valB ((nx.set i (m / 2)).drop i) * 2 + m % 2 = valB (la.drop i) := by
  have e1 : (nx.set i (m / 2)).drop i = (m / 2) :: nx.drop (i + 1) := by
    rw [List.drop_eq_getElem_cons (by rw [List.length_set]; exact hin), List.getElem_set_self, List.drop_set_of_lt (by omega)]
  have e2 : la.drop i = la.getD i 0 :: la.drop (i + 1) := by
    rw [List.drop_eq_getElem_cons hia, List.getD_eq_getElem?_getD, List.getElem?_eq_getElem hia]; rfl
  rw [e1, e2, valB, valB, ← h]
  omega
end Go.Proofs.Ythkkllcpogagiaa
