/- Merged texts: BigU BigW. -/
import Derived.Test.YthpigninbeommaaDoorMbf
import Derived.Test.YthpigninbeommaaDoorMaf
/- The contract of the reference's Mul of layer 4: the digits of a product. -/
namespace Go.Proofs.YthpigninbeommaaDoor
open Go.RowKit
set_option linter.unusedVariables false

set_option maxRecDepth 100000 in
theorem val_set (o : List Nat) (p d : Nat) (hp : p < o.length) : valB (o.set p d) + 65536 ^ p * o.getD p 0 = valB o + 65536 ^ p * d := by
  have h1 := val_split (o.set p d) p (by rw [List.length_set]; exact hp)
  have h2 := val_split o p hp
  rw [List.take_set_of_le (Nat.le_refl _), List.drop_set_of_lt (by omega)] at h1
  have e : (o.set p d).getD p 0 = d := by rw [List.getD_eq_getElem?_getD, List.getElem?_set_self hp]; rfl
  rw [e] at h1
  rw [h1, h2, Nat.mul_add, Nat.mul_add]
  omega
set_option maxRecDepth 100000 in
theorem getD_set_ne (o : List Nat) (p k d : Nat) (h : p ≠ k) : (o.set p d).getD k 0 = o.getD k 0 := by
  rw [List.getD_eq_getElem?_getD, List.getD_eq_getElem?_getD, List.getElem?_set_ne h]
set_option maxRecDepth 100000 in
theorem Dg.set {o : List Nat} (h : Dg o) (p d : Nat) (hd : d < 65536) : Dg (o.set p d) := fun e he => by
  rcases List.mem_or_eq_of_mem_set he with h1 | h1
  · exact h e h1
  · omega
set_option maxRecDepth 100000 in
theorem mul_step (o o2 la lb : List Nat) (i j c x y d c2 : Nat) (b : Nat) (hp : i + j < o2.length) (hy : y = lb.getD j 0) (hm : d + 65536 * c2 = o2.getD (i + j) 0 + c + x * y)
    (h : valB o2 + 65536 ^ (i + j) * c = valB o + 65536 ^ i * (x * valB (lb.take j))) : valB (o2.set (i + j) d) + 65536 ^ (i + (j + 1)) * c2 = valB o + 65536 ^ i * (x * valB (lb.take (j + 1))) := by
  have h1 := val_set o2 (i + j) d hp
  rw [take_val, ← hy]
  have e1 : 65536 ^ i * (x * (valB (lb.take j) + 65536 ^ j * y)) = 65536 ^ i * (x * valB (lb.take j)) + 65536 ^ (i + j) * (x * y) := by
    rw [Nat.mul_add x, Nat.mul_add, Nat.pow_add]
    congr 1
    rw [Nat.mul_left_comm x, Nat.mul_assoc]
  have e2 : 65536 ^ (i + j) * d + 65536 ^ (i + (j + 1)) * c2 = 65536 ^ (i + j) * o2.getD (i + j) 0 + 65536 ^ (i + j) * c + 65536 ^ (i + j) * (x * y) := by
    rw [show i + (j + 1) = (i + j) + 1 from by omega, Nat.pow_succ, Nat.mul_assoc, ← Nat.mul_add, hm, Nat.mul_add, Nat.mul_add]
  rw [e1]
  omega
set_option maxRecDepth 100000 in
theorem run_mkI (n : Nat) (hn : n ≤ 281474976710656) (w : World) (hb : n * 8 ≤ 281474976710656) :
    (Instr.makeSlice 66 (.int .i64 (n : Int)) (.int .i64 (n : Int))).run Tryd.prog w = .ok (.slice (some ⟨w.heap.size, 0, none⟩) n n) (w.alloc (.cells (madeCells #[.int .i64 0] n) 3)) :=
  run_make_row' 66 3 (.int .i64 0) 8 Tryd.underlying66 infoI rfl .i64 .i64 n (by omega) (by omega) w
set_option maxRecDepth 100000 in
theorem blk_made (w : World) (n : Nat) : Blk (w.alloc (.cells (madeCells #[.int .i64 0] n) 3)) w.heap.size ((List.replicate n 0).map WI) 3 := by
  have h := Blk.new w (madeCells #[.int .i64 0] n) 3
  rw [toList_madeCells_one] at h
  rw [List.map_replicate]
  exact h
set_option maxRecDepth 100000 in
theorem rd_blk {w : World} {g : Nat} {o : List Nat} (h : Blk w g (o.map WI) 3) : RdI w (some ⟨g, 0, none⟩) o.length o :=
  ⟨rfl, fun _ => ⟨g, 0, rfl, h.lt, fun j hj => by rw [Nat.zero_add, h.cell, mapI_at o j hj]⟩⟩
set_option maxRecDepth 100000 in
theorem replicate_getD (n k : Nat) : (List.replicate n 0).getD k 0 = 0 := by
  rw [List.getD_eq_getElem?_getD, List.getElem?_replicate]
  split <;> rfl

set_option maxRecDepth 100000 in
set_option maxHeartbeats 4000000 in
theorem bmul_calls (A B : Option Addr) (na nb ca cb : Nat) (a b : Nat) (w : World) (hna : na ≤ 10000) (hnb : nb ≤ 10000) (hra : RdI w A na (digs a)) (hrb : RdI w B nb (digs b)) :
    Calls Tryd.prog 59 #[.slice A na ca, .slice B nb cb] w (MkB w (a * b)) := by
  obtain ⟨la, hla⟩ : ∃ la, la = digs a := ⟨_, rfl⟩
  obtain ⟨lb, hlb⟩ : ∃ lb, lb = digs b := ⟨_, rfl⟩
  rw [← hla] at hra
  rw [← hlb] at hrb
  have HDA : Hid (∀ t, la.getD t 0 < 65536) := Lib.hid fun t => by rw [hla]; exact (digs_lt a).getD t
  have HDB : Hid (∀ t, lb.getD t 0 < 65536) := Lib.hid fun t => by rw [hlb]; exact (digs_lt b).getD t
  have HVA : Hid (valB la = a) := Lib.hid (by rw [hla]; exact val_digs a)
  have HVB : Hid (valB lb = b) := Lib.hid (by rw [hlb]; exact val_digs b)
  have HA := Lib.hid hra
  have HB := Lib.hid hrb
  have HLA := Lib.hid hra.len
  have HLB := Lib.hid hrb.len
  obtain ⟨T, hT⟩ : ∃ T, T = na + nb + 1 := ⟨_, rfl⟩
  have v1 : IntKind.i64.wrap ((na : Int) + (nb : Int)) = (na : Int) + (nb : Int) := by rw [IntKind.wrap_i64]; omega
  have v2 : (na : Int) + (nb : Int) + 1 = (T : Int) := by omega
  have hmk := fun W => run_mkI T (by omega) W (by omega)
  have hTb : T ≤ 20001 := by omega
  have hT1 : na + nb < T := by omega
  have HT := Lib.hid hT
  clear hra hrb hla hlb hT
  go_enter Tryd.func59, Tryd.ntmps59
  go_wp2
  go_loopw [6] (fun i wr => ∃ (s : Nat) (o : List Nat), s ≤ na ∧ i = .int .i64 (s : Int) ∧ Blk wr w.heap.size (o.map WI) 3 ∧ Hid (o.length = T ∧ Dg o ∧ valB o = valB (la.take s) * b ∧ ∀ k, s + nb ≤ k → o.getD k 0 = 0) ∧ Below w.heap.size w wr) (fun i _ => na - (intOf i).toNat)
  case atStart => exact ⟨0, List.replicate T 0, by omega, rfl, blk_made w T, ⟨by simp, fun d hd => by simp at hd; omega, by rw [valB_zeros]; simp [valB], fun k _ => replicate_getD T k⟩, (Below.refl _ w).alloc (Nat.le_refl _) _⟩
  case round =>
    obtain ⟨s, o, hs, rfl, hb, HO, hbel⟩ := hrel
    by_cases hlt : s < na
    · obtain ⟨x, hx⟩ : ∃ x, x = la.getD s 0 := ⟨_, rfl⟩
      have lx : x < 65536 := by rw [hx]; exact HDA.out s
      have bs : (s : Int) < (na : Int) := by omega
      have HX := Lib.hid hx
      have K := Lib.hid (And.intro hb hbel)
      clear hb hbel hx
      go_wp2
      go_loopw [7, 8] (fun cv jv wr => ∃ (j c : Nat) (o2 : List Nat), j ≤ nb + 1 ∧ c < 65536 ∧ (nb < j → c = 0) ∧ cv = .int .i64 (c : Int) ∧ jv = .int .i64 (j : Int) ∧ Blk wr w.heap.size (o2.map WI) 3 ∧ Hid (o2.length = T ∧ Dg o2 ∧ valB o2 + 65536 ^ (s + j) * c = valB o + 65536 ^ s * (x * valB (lb.take j)) ∧ ∀ k, s + j ≤ k → o2.getD k 0 = o.getD k 0) ∧ Below w.heap.size w wr) (fun _ jv _ => nb + 2 - (intOf jv).toNat)
      case atStart => exact ⟨0, 0, o, by omega, by omega, fun _ => rfl, rfl, rfl, K.out.1, ⟨HO.out.1, HO.out.2.1, by simp [valB], fun k _ => rfl⟩, K.out.2⟩
      case round =>
        obtain ⟨j, c, o2, hj, hc, hcz, rfl, rfl, hb, HO2, hbel⟩ := hrel
        obtain ⟨h1, h2, h3, h4⟩ := HO2.out
        by_cases hjb : j < nb
        · obtain ⟨ba, oa, rfl, c1⟩ := (HA.out.below hbel).at_ (k := s) hlt
          obtain ⟨bb, ob, rfl, c2⟩ := (HB.out.below hbel).at_ (k := j) hjb
          obtain ⟨y, hy⟩ : ∃ y, y = lb.getD j 0 := ⟨_, rfl⟩
          rw [← HX.out] at c1
          rw [← hy] at c2
          have ly : y < 65536 := by rw [hy]; exact HDB.out j
          obtain ⟨p, hp⟩ : ∃ p, p = s + j := ⟨_, rfl⟩
          have hpT : p < T := by omega
          obtain ⟨z, hz⟩ : ∃ z, z = o2.getD p 0 := ⟨_, rfl⟩
          have lz : z < 65536 := by rw [hz]; exact h2.getD p
          have cz := hb.cell p
          rw [mapI_at o2 p (by omega), ← hz] at cz
          have fz := hb.free p
          have hxy : x * y ≤ 65535 * 65535 := Nat.mul_le_mul (by omega) (by omega)
          obtain ⟨xy, hxye⟩ : ∃ xy, xy = x * y := ⟨_, rfl⟩
          rw [← hxye] at hxy
          obtain ⟨n1, hn1⟩ : ∃ n1, n1 = z + c := ⟨_, rfl⟩
          obtain ⟨m, hm⟩ : ∃ m, m = n1 + xy := ⟨_, rfl⟩
          obtain ⟨d, hd⟩ : ∃ d, d = m % 65536 := ⟨_, rfl⟩
          obtain ⟨c3, hc3⟩ : ∃ c3, c3 = m / 65536 := ⟨_, rfl⟩
          have s1 : IntKind.i64.wrap ((s : Int) + (j : Int)) = (p : Int) := by rw [IntKind.wrap_i64]; omega
          have s1b : (s : Int) + (j : Int) = (p : Int) := by omega
          have s2 : IntKind.i64.wrap ((z : Int) + (c : Int)) = (n1 : Int) := by rw [IntKind.wrap_i64]; omega
          have s2b : (z : Int) + (c : Int) = (n1 : Int) := by omega
          have s3c : (x : Int) * (y : Int) = (xy : Int) := by rw [hxye, Int.natCast_mul]
          have s3 : IntKind.i64.wrap ((x : Int) * (y : Int)) = (xy : Int) := by rw [s3c, IntKind.wrap_i64]; omega
          have s4 : IntKind.i64.wrap ((n1 : Int) + (xy : Int)) = (m : Int) := by rw [IntKind.wrap_i64]; omega
          have s4b : (n1 : Int) + (xy : Int) = (m : Int) := by omega
          have r1 : (m : Int).tmod 65536 = (d : Int) := by rw [Int.tmod_eq_emod_of_nonneg (by omega)]; omega
          have r2 : (m : Int).tdiv 65536 = (c3 : Int) := by rw [Int.tdiv_eq_ediv_of_nonneg (by omega)]; omega
          have r3 : (m : Int) % 65536 = (d : Int) := by omega
          have r4 : (m : Int) / 65536 = (c3 : Int) := by omega
          have hst := mul_step o o2 la lb s j c x y d c3 b (by omega) hy (by rw [← hp, ← hz, ← hxye]; omega) h3
          rw [← hp] at hst
          have hset := hb.set p (WI d)
          rw [← List.map_set] at hset
          have R : Hid (∀ n : Nat, Blk ((wr.drewN n).setCell ⟨w.heap.size, p, none⟩ (.int .i64 (d : Int))) w.heap.size ((o2.set p d).map WI) 3 ∧ Below w.heap.size w ((wr.drewN n).setCell ⟨w.heap.size, p, none⟩ (.int .i64 (d : Int)))) := Lib.hid fun n => ⟨by have h := (hb.drewN n).set p (WI d); rw [← List.map_set] at h; exact h, (below_drewN hbel n).setCell (Nat.le_refl _) _⟩
          have HS : Hid ((o2.set p d).length = T ∧ Dg (o2.set p d) ∧ valB (o2.set p d) + 65536 ^ (s + (j + 1)) * c3 = valB o + 65536 ^ s * (x * valB (lb.take (j + 1))) ∧ ∀ k, s + (j + 1) ≤ k → (o2.set p d).getD k 0 = o.getD k 0) := Lib.hid ⟨by rw [List.length_set]; exact h1, h2.set p d (by omega), hst, fun k hk => by rw [getD_set_ne o2 p k d (by omega)]; exact h4 k (by omega)⟩
          have bj : (j : Int) < (nb : Int) := by omega
          have bp : (p : Int) < (T : Int) := by omega
          have lc3 : c3 < 65536 := by omega
          clear hb hbel HO2 h1 h2 h3 h4 hy hp hz hn1 hm hd hc3 hst hset hxye
          go_wp2
          go_quiet (fail)
          go_wp2
          exact ⟨⟨j + 1, c3, o2.set p d, by omega, lc3, fun h => by omega, rfl, by go_num, (R.out nq).1, HS, (R.out nq).2⟩, by simp [intOf]; omega⟩
        · have bj : ¬ (j : Int) < (nb : Int) := by omega
          by_cases hc0 : 0 < c
          · have hjn : j = nb := by
              rcases Nat.lt_or_ge nb j with h | h
              · have := hcz h; omega
              · omega
            obtain ⟨p, hp⟩ : ∃ p, p = s + j := ⟨_, rfl⟩
            have hpT : p < T := by omega
            have hz0 : o2.getD p 0 = 0 := by rw [h4 p (by omega)]; exact HO.out.2.2.2 p (by omega)
            have cz := hb.cell p
            rw [mapI_at o2 p (by omega), hz0] at cz
            have fz := hb.free p
            have cz' : wr.cell? ⟨w.heap.size, p, none⟩ = some (.int .i64 0) := cz
            have s1 : IntKind.i64.wrap ((s : Int) + (j : Int)) = (p : Int) := by rw [IntKind.wrap_i64]; omega
            have s1b : (s : Int) + (j : Int) = (p : Int) := by omega
            have r1 : (c : Int).tmod 65536 = (c : Int) := by rw [Int.tmod_eq_emod_of_nonneg (by omega)]; omega
            have r2 : (c : Int).tdiv 65536 = 0 := by rw [Int.tdiv_eq_ediv_of_nonneg (by omega)]; omega
            have r3 : (c : Int) % 65536 = (c : Int) := by omega
            have r4 : (c : Int) / 65536 = 0 := by omega
            have hy0 : 0 = lb.getD j 0 := (getD_out lb j (by rw [HLB.out]; omega)).symm
            have hst := mul_step o o2 la lb s j c x 0 c 0 b (by omega) hy0 (by rw [← hp, hz0]; omega) h3
            rw [← hp] at hst
            have R : Hid (Blk (wr.setCell ⟨w.heap.size, p, none⟩ (.int .i64 (c : Int))) w.heap.size ((o2.set p c).map WI) 3 ∧ Below w.heap.size w (wr.setCell ⟨w.heap.size, p, none⟩ (.int .i64 (c : Int)))) := Lib.hid ⟨by have h := hb.set p (WI c); rw [← List.map_set] at h; exact h, hbel.setCell (Nat.le_refl _) _⟩
            have HS : Hid ((o2.set p c).length = T ∧ Dg (o2.set p c) ∧ valB (o2.set p c) + 65536 ^ (s + (j + 1)) * 0 = valB o + 65536 ^ s * (x * valB (lb.take (j + 1))) ∧ ∀ k, s + (j + 1) ≤ k → (o2.set p c).getD k 0 = o.getD k 0) := Lib.hid ⟨by rw [List.length_set]; exact h1, h2.set p c hc, hst, fun k hk => by rw [getD_set_ne o2 p k c (by omega)]; exact h4 k (by omega)⟩
            have bc : (0 : Int) < (c : Int) := by omega
            have bp : (p : Int) < (T : Int) := by omega
            have hjb1 : j ≤ nb := by omega
            clear hb hbel HO2 h1 h2 h3 h4 hp hst cz hz0 hy0 hjn
            go_wp2
            exact ⟨⟨j + 1, 0, o2.set p c, by omega, by omega, fun _ => rfl, rfl, by go_num, R.out.1, HS, R.out.2⟩, by simp [intOf]; omega⟩
          · have hc00 : c = 0 := by omega
            subst hc00
            have hfin : valB o2 = valB (la.take (s + 1)) * b := by
              rw [Nat.mul_zero, Nat.add_zero, List.take_of_length_le (by rw [HLB.out]; omega), HVB.out] at h3
              rw [h3, HO.out.2.2.1, take_val, ← HX.out, Nat.add_mul, Nat.mul_assoc]
            have HS : Hid (o2.length = T ∧ Dg o2 ∧ valB o2 = valB (la.take (s + 1)) * b ∧ ∀ k, s + 1 + nb ≤ k → o2.getD k 0 = 0) := Lib.hid ⟨h1, h2, hfin, fun k hk => by rw [h4 k (by omega)]; exact HO.out.2.2.2 k (by omega)⟩
            have R := Lib.hid (And.intro hb hbel)
            clear hb hbel HO2 h1 h2 h3 h4 hfin
            go_wp2
            go_roundw
            case rel => exact ⟨s + 1, o2, by omega, by go_num, R.out.1, HS, R.out.2⟩
            case measure => simp [intOf]; omega
    · have e : s = na := by omega
      have bs : ¬ (s : Int) < (na : Int) := by omega
      obtain ⟨h1, h2, h3, _⟩ := HO.out
      have hv : valB o = a * b := by rw [h3, e, List.take_of_length_le (by rw [HLA.out]; exact Nat.le_refl _), HVA.out]
      have hrd := rd_blk hb
      rw [h1] at hrd
      have CT := Lib.hid (trim_calls (some ⟨w.heap.size, 0, none⟩) T T o wr h2 hrd (Nat.le_refl _) (by unfold maxLen; omega))
      have HBE := Lib.hid hbel
      have HV := Lib.hid hv
      clear hb hbel HO h1 h2 h3 hv hrd
      go_wp2_with (go_at_call 61; refine CT.out.mono ?_; rintro e' w' ⟨A9, m9, rfl, hm9, hr9, rfl⟩)
      go_ret
      rw [HV.out] at hr9
      exact ⟨_, _, _, rfl, hr9, hm9, by unfold maxLen; omega, HBE.out⟩
end Go.Proofs.YthpigninbeommaaDoor

/- The contract of the reference's Words of layer 4: the four words of a number. -/
namespace Go.Proofs.YthpigninbeommaaDoor
open Go.RowKit
set_option linter.unusedVariables false

/-- The word k of digits, as far as they are taken down to t. -/
def wk (l : List Nat) (t k : Nat) : Nat := valB ((l.take (4 * k + 4)).drop (max t (4 * k)))
set_option maxRecDepth 100000 in
theorem wk_top (l : List Nat) (k : Nat) : wk l l.length k = 0 := by
  unfold wk
  rw [List.drop_of_length_le (by rw [List.length_take]; omega)]
  rfl
set_option maxRecDepth 100000 in
theorem wk_other (l : List Nat) (i k : Nat) (h : i / 4 ≠ k) : wk l (i + 1) k = wk l i k := by
  unfold wk
  rcases Nat.lt_or_ge (i / 4) k with h1 | h1
  · rw [Nat.max_eq_right (by omega), Nat.max_eq_right (by omega)]
  · rw [List.drop_of_length_le (by rw [List.length_take]; omega), List.drop_of_length_le (by rw [List.length_take]; omega)]
set_option maxRecDepth 100000 in
theorem wk_same (l : List Nat) (i : Nat) (h : i < l.length) : wk l i (i / 4) = wk l (i + 1) (i / 4) * 65536 + l.getD i 0 := by
  unfold wk
  rw [Nat.max_eq_left (by omega), Nat.max_eq_left (by omega)]
  have hl : i < (l.take (4 * (i / 4) + 4)).length := by rw [List.length_take]; omega
  rw [List.drop_eq_getElem_cons hl, valB, List.getElem_take, List.getD_eq_getElem?_getD, List.getElem?_eq_getElem h, Option.getD_some]
  omega
set_option maxRecDepth 100000 in
theorem wk_lt (l : List Nat) (i : Nat) (hd : Dg l) : wk l (i + 1) (i / 4) < 281474976710656 := by
  unfold wk
  rw [Nat.max_eq_left (by omega)]
  have h := valB_lt ((l.take (4 * (i / 4) + 4)).drop (i + 1)) (fun d h => hd d (List.mem_of_mem_take (List.mem_of_mem_drop h)))
  have h2 : ((l.take (4 * (i / 4) + 4)).drop (i + 1)).length ≤ 3 := by rw [List.length_drop, List.length_take]; omega
  have h3 := Nat.pow_le_pow_right (n := 65536) (by omega) h2
  have e : 65536 ^ 3 = 281474976710656 := by decide
  omega
/-- The four words. -/
def ws4 (l : List Nat) (t : Nat) : List Value := [.int .u64 (wk l t 0 : Int), .int .u64 (wk l t 1 : Int), .int .u64 (wk l t 2 : Int), .int .u64 (wk l t 3 : Int)]
set_option maxRecDepth 100000 in
theorem ws4_at (l : List Nat) (t k : Nat) (h : k < 4) : (ws4 l t)[k]? = some (.int .u64 (wk l t k : Int)) := by
  rcases (show k = 0 ∨ k = 1 ∨ k = 2 ∨ k = 3 by omega) with rfl | rfl | rfl | rfl <;> rfl
set_option maxRecDepth 100000 in
theorem ws4_set (l : List Nat) (i : Nat) (h : i < 16) (v : Nat) (hv : v = wk l i (i / 4)) : (ws4 l (i + 1)).set (i / 4) (.int .u64 (v : Int)) = ws4 l i := by
  subst hv
  have ho := wk_other l i
  rcases (show i / 4 = 0 ∨ i / 4 = 1 ∨ i / 4 = 2 ∨ i / 4 = 3 by omega) with h | h | h | h <;> rw [h] at ho ⊢
  · simp only [ws4, List.set_cons_zero]; rw [ho 1 (by omega), ho 2 (by omega), ho 3 (by omega)]
  · simp only [ws4, List.set_cons_succ, List.set_cons_zero]; rw [ho 0 (by omega), ho 2 (by omega), ho 3 (by omega)]
  · simp only [ws4, List.set_cons_succ, List.set_cons_zero]; rw [ho 0 (by omega), ho 1 (by omega), ho 3 (by omega)]
  · simp only [ws4, List.set_cons_succ, List.set_cons_zero]; rw [ho 0 (by omega), ho 1 (by omega), ho 2 (by omega)]
set_option maxRecDepth 100000 in
theorem iw4 (l : List Nat) (t : Nat) : (Tryd.prog.info? 60).map (·.size) = some (ws4 l t).length := by
  show (Tryd.prog.info? 60).map (·.size) = some 4
  kernel_rfl
set_option maxRecDepth 100000 in
theorem ws4_one (l : List Nat) (t : Nat) : ∀ v ∈ ws4 l t, v.oneCell' = true := fun v hv => by
  simp only [ws4, List.mem_cons, List.not_mem_nil, or_false] at hv
  rcases hv with rfl | rfl | rfl | rfl <;> rfl
set_option maxRecDepth 100000 in
/-- The word k of a number. -/
theorem wk_val (l : List Nat) (k : Nat) (hd : Dg l) : wk l 0 k = valB l / 2 ^ (64 * k) % 2 ^ 64 := by
  unfold wk
  rw [Nat.max_eq_right (by omega), ← pow4]
  obtain ⟨p, hp⟩ : ∃ p, p = (l.drop (4 * k)) := ⟨_, rfl⟩
  have e1 : (l.take (4 * k + 4)).drop (4 * k) = p.take 4 := by rw [hp, List.drop_take]; congr 1; omega
  have hlo : valB (l.take (4 * k)) < 65536 ^ (4 * k) ∧ valB l = valB (l.take (4 * k)) + 65536 ^ (4 * k) * valB p := by
    have h1 := valB_lt (l.take (4 * k)) (fun d h => hd d (List.mem_of_mem_take h))
    have h2 := valB_append (l.take (4 * k)) (l.drop (4 * k))
    rw [List.take_append_drop] at h2
    by_cases h : 4 * k ≤ l.length
    · rw [List.length_take, Nat.min_eq_left h] at h1 h2
      rw [hp]
      exact ⟨h1, h2⟩
    · have e : p = [] := by rw [hp]; exact List.drop_of_length_le (by omega)
      rw [← hp, e] at h2
      rw [e]
      simp only [valB, Nat.mul_zero, Nat.add_zero] at h2 ⊢
      refine ⟨Nat.lt_of_lt_of_le h1 (Nat.pow_le_pow_right (by omega) (by rw [List.length_take]; omega)), h2⟩
  have hq : valB l / 65536 ^ (4 * k) = valB p := by
    rw [hlo.2, Nat.add_mul_div_left _ _ (Nat.pow_pos (by omega)), Nat.div_eq_of_lt hlo.1, Nat.zero_add]
  rw [e1, hq]
  have hdp : Dg p := by rw [hp]; exact fun d h => hd d (List.mem_of_mem_drop h)
  have h3 := valB_append (p.take 4) (p.drop 4)
  rw [List.take_append_drop] at h3
  have h4 := valB_lt (p.take 4) (fun d h => hdp d (List.mem_of_mem_take h))
  have e4 : 65536 ^ 4 = 2 ^ 64 := by decide
  by_cases h : 4 ≤ p.length
  · rw [List.length_take, Nat.min_eq_left h, e4] at h3 h4
    rw [h3, Nat.add_mul_mod_self_left, Nat.mod_eq_of_lt h4]
  · have e : p.drop 4 = [] := List.drop_of_length_le (by omega)
    rw [e] at h3
    simp only [valB, Nat.mul_zero, Nat.add_zero] at h3
    have h5 : 65536 ^ (p.take 4).length ≤ 2 ^ 64 := by rw [← e4]; exact Nat.pow_le_pow_right (by omega) (by rw [List.length_take]; omega)
    rw [h3, Nat.mod_eq_of_lt (by omega)]

end Go.Proofs.YthpigninbeommaaDoor
