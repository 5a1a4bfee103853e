/- The contract of the reference's Words of layer 4: the four words of a number. -/
import Derived.Test.YtdgfgehjnfadnaaBigU
import Derived.Test.YtdgfgehjnfadnaaBlk2
namespace Go.Proofs.Ytdgfgehjnfadnaa
open Go.RowKit
set_option linter.unusedVariables false

/-- The word k of digits, as far as they are taken down to t. -/
def wk (l : List Nat) (t k : Nat) : Nat := valB ((l.take (4 * k + 4)).drop (max t (4 * k)))
theorem wk_top (l : List Nat) (k : Nat) : wk l l.length k = 0 := by
  unfold wk
  rw [List.drop_of_length_le (by rw [List.length_take]; omega)]
  rfl
theorem wk_other (l : List Nat) (i k : Nat) (h : i / 4 ≠ k) : wk l (i + 1) k = wk l i k := by
  unfold wk
  rcases Nat.lt_or_ge (i / 4) k with h1 | h1
  · rw [Nat.max_eq_right (by omega), Nat.max_eq_right (by omega)]
  · rw [List.drop_of_length_le (by rw [List.length_take]; omega), List.drop_of_length_le (by rw [List.length_take]; omega)]
theorem wk_same (l : List Nat) (i : Nat) (h : i < l.length) : wk l i (i / 4) = wk l (i + 1) (i / 4) * 65536 + l.getD i 0 := by
  unfold wk
  rw [Nat.max_eq_left (by omega), Nat.max_eq_left (by omega)]
  have hl : i < (l.take (4 * (i / 4) + 4)).length := by rw [List.length_take]; omega
  rw [List.drop_eq_getElem_cons hl, valB, List.getElem_take, List.getD_eq_getElem?_getD, List.getElem?_eq_getElem h, Option.getD_some]
  omega
theorem wk_lt (l : List Nat) (i : Nat) (hd : Dg l) : wk l (i + 1) (i / 4) < 281474976710656 := by
  unfold wk
  rw [Nat.max_eq_left (by omega)]
  have h := valB_lt ((l.take (4 * (i / 4) + 4)).drop (i + 1)) (fun d h => hd d (List.mem_of_mem_take (List.mem_of_mem_drop h)))
  have h2 : ((l.take (4 * (i / 4) + 4)).drop (i + 1)).length ≤ 3 := by rw [List.length_drop, List.length_take]; omega
  have h3 := Nat.pow_le_pow_right (n := 65536) (by omega) h2
  have e : 65536 ^ 3 = 281474976710656 := by decide
  omega
/-- The four words. -/
def ws4 (l : List Nat) (t : Nat) : List Value := [.int .u64 (wk l t 0 : Int), .int .u64 (wk l t 1 : Int), .int .u64 (wk l t 2 : Int), .int .u64 (wk l t 3 : Int)]
theorem ws4_at (l : List Nat) (t k : Nat) (h : k < 4) : (ws4 l t)[k]? = some (.int .u64 (wk l t k : Int)) := by
  rcases (show k = 0 ∨ k = 1 ∨ k = 2 ∨ k = 3 by omega) with rfl | rfl | rfl | rfl <;> rfl
theorem ws4_set (l : List Nat) (i : Nat) (h : i < 16) (v : Nat) (hv : v = wk l i (i / 4)) : (ws4 l (i + 1)).set (i / 4) (.int .u64 (v : Int)) = ws4 l i := by
  subst hv
  have ho := wk_other l i
  rcases (show i / 4 = 0 ∨ i / 4 = 1 ∨ i / 4 = 2 ∨ i / 4 = 3 by omega) with h | h | h | h <;> rw [h] at ho ⊢
  · simp only [ws4, List.set_cons_zero]; rw [ho 1 (by omega), ho 2 (by omega), ho 3 (by omega)]
  · simp only [ws4, List.set_cons_succ, List.set_cons_zero]; rw [ho 0 (by omega), ho 2 (by omega), ho 3 (by omega)]
  · simp only [ws4, List.set_cons_succ, List.set_cons_zero]; rw [ho 0 (by omega), ho 1 (by omega), ho 3 (by omega)]
  · simp only [ws4, List.set_cons_succ, List.set_cons_zero]; rw [ho 0 (by omega), ho 1 (by omega), ho 2 (by omega)]
theorem iw4 (l : List Nat) (t : Nat) : (Try.prog.info? 24).map (·.size) = some (ws4 l t).length := by
  show (Try.prog.info? 24).map (·.size) = some 4
  kernel_rfl
theorem ws4_one (l : List Nat) (t : Nat) : ∀ v ∈ ws4 l t, v.oneCell' = true := fun v hv => by
  simp only [ws4, List.mem_cons, List.not_mem_nil, or_false] at hv
  rcases hv with rfl | rfl | rfl | rfl <;> rfl
/-- The word k of a number. -/
theorem wk_val (l : List Nat) (k : Nat) (hd : Dg l) : wk l 0 k = valB l / 2 ^ (64 * k) % 2 ^ 64 := by
  unfold wk
  rw [Nat.max_eq_right (by omega), ← pow4]
  obtain ⟨p, hp⟩ : ∃ p, p = (l.drop (4 * k)) := ⟨_, rfl⟩
  have e1 : (l.take (4 * k + 4)).drop (4 * k) = p.take 4 := by rw [hp, List.drop_take]; congr 1; omega
  have hlo : valB (l.take (4 * k)) < 65536 ^ (4 * k) ∧ valB l = valB (l.take (4 * k)) + 65536 ^ (4 * k) * valB p := by
    have h1 := valB_lt (l.take (4 * k)) (fun d h => hd d (List.mem_of_mem_take h))
    have h2 := valB_append (l.take (4 * k)) (l.drop (4 * k))
    rw [List.take_append_drop] at h2
    by_cases h : 4 * k ≤ l.length
    · rw [List.length_take, Nat.min_eq_left h] at h1 h2
      rw [hp]
      exact ⟨h1, h2⟩
    · have e : p = [] := by rw [hp]; exact List.drop_of_length_le (by omega)
      rw [← hp, e] at h2
      rw [e]
      simp only [valB, Nat.mul_zero, Nat.add_zero] at h2 ⊢
      refine ⟨Nat.lt_of_lt_of_le h1 (Nat.pow_le_pow_right (by omega) (by rw [List.length_take]; omega)), h2⟩
  have hq : valB l / 65536 ^ (4 * k) = valB p := by
    rw [hlo.2, Nat.add_mul_div_left _ _ (Nat.pow_pos (by omega)), Nat.div_eq_of_lt hlo.1, Nat.zero_add]
  rw [e1, hq]
  have hdp : Dg p := by rw [hp]; exact fun d h => hd d (List.mem_of_mem_drop h)
  have h3 := valB_append (p.take 4) (p.drop 4)
  rw [List.take_append_drop] at h3
  have h4 := valB_lt (p.take 4) (fun d h => hdp d (List.mem_of_mem_take h))
  have e4 : 65536 ^ 4 = 2 ^ 64 := by decide
  by_cases h : 4 ≤ p.length
  · rw [List.length_take, Nat.min_eq_left h, e4] at h3 h4
    rw [h3, Nat.add_mul_mod_self_left, Nat.mod_eq_of_lt h4]
  · have e : p.drop 4 = [] := List.drop_of_length_le (by omega)
    rw [e] at h3
    simp only [valB, Nat.mul_zero, Nat.add_zero] at h3
    have h5 : 65536 ^ (p.take 4).length ≤ 2 ^ 64 := by rw [← e4]; exact Nat.pow_le_pow_right (by omega) (by rw [List.length_take]; omega)
    rw [h3, Nat.mod_eq_of_lt (by omega)]

set_option maxHeartbeats 2000000 in
theorem bwords_calls (A : Option Addr) (n c : Nat) (l : List Nat) (w : World) (hn : n ≤ 16) (hd : Dg l) (hr : RdI w A n l) :
    Calls Try.prog 14 #[.slice A n c] w (Ret w (.agg (ws4 l 0).toArray)) := by
  have HR := Lib.hid hr
  have HL := Lib.hid hr.len
  have HD := Lib.hid hd
  have hz : ws4 l n = [.int .u64 0, .int .u64 0, .int .u64 0, .int .u64 0] := by rw [← hr.len]; unfold ws4; rw [wk_top, wk_top, wk_top, wk_top]; rfl
  have HZ := Lib.hid hz
  clear hr hd hz
  go_enter Try.func14, Try.ntmps14
  go_wp2
  go_loopw [4] (fun i wr => ∃ t : Nat, t ≤ n ∧ i = .int .i64 ((t : Int) - 1) ∧ Blk wr (w.heap.size + 1) (ws4 l t) 24 ∧ Blk wr w.heap.size [.int .u64 0, .int .u64 0, .int .u64 0, .int .u64 0] 24 ∧ Below w.heap.size w wr) (fun i _ => (intOf i + 1).toNat)
  case atStart => exact ⟨n, Nat.le_refl _, rfl, by rw [HZ.out]; exact Blk.new' (w.alloc _) _ _ _ (by simp), (Blk.new w _ _).alloc _, ((Below.refl _ w).alloc (Nat.le_refl _) _).alloc (by simp) _⟩
  case round =>
    obtain ⟨t, ht, rfl, hb, hb0, hbel⟩ := hrel
    by_cases h0 : 0 < t
    · obtain ⟨q, hq⟩ : ∃ q, q = t - 1 := ⟨_, rfl⟩
      have hqi : (t : Int) - 1 = (q : Int) := by omega
      rw [hqi]
      have htq : t = q + 1 := by omega
      rw [htq] at hb
      obtain ⟨ba, oa, rfl, c1⟩ := (HR.out.below hbel).at_ (k := q) (by omega)
      obtain ⟨x, hx⟩ : ∃ x, x = l.getD q 0 := ⟨_, rfl⟩
      rw [← hx] at c1
      have lx : x < 65536 := by rw [hx]; exact HD.out.getD q
      obtain ⟨k, hk⟩ : ∃ k, k = q / 4 := ⟨_, rfl⟩
      obtain ⟨v, hv⟩ : ∃ v, v = wk l (q + 1) k := ⟨_, rfl⟩
      have lv : v < 281474976710656 := by rw [hv, hk]; exact wk_lt l q HD.out
      have c2 := hb.cell k
      rw [ws4_at l (q + 1) k (by omega), ← hv] at c2
      have f2 := hb.free k
      obtain ⟨v2, hv2⟩ : ∃ v2, v2 = v * 65536 := ⟨_, rfl⟩
      obtain ⟨v3, hv3⟩ : ∃ v3, v3 = v2 + x := ⟨_, rfl⟩
      have d1 : (q : Int).tdiv 4 = (k : Int) := by rw [Int.tdiv_eq_ediv_of_nonneg (by omega)]; omega
      have d2 : IntKind.i64.wrap (k : Int) = (k : Int) := by rw [IntKind.wrap_i64]; omega
      have d3 : IntKind.u64.wrap ((v : Int) * 65536) = (v2 : Int) := by rw [IntKind.wrap_u64]; omega
      have d4 : IntKind.u64.wrap (x : Int) = (x : Int) := by rw [IntKind.wrap_u64]; omega
      have d5 : IntKind.u64.wrap ((v2 : Int) + (x : Int)) = (v3 : Int) := by rw [IntKind.wrap_u64]; omega
      have d6 : (q : Int) / 4 = (k : Int) := by omega
      have bq : (q : Int) < (n : Int) := by omega
      have bq16 : (q : Int) < 16 := by omega
      have bk : (k : Int) < 4 := by omega
      have hset := ws4_set l q (by omega) v3 (by rw [wk_same l q (by rw [HL.out]; omega), ← hk, ← hv, ← hx]; omega)
      rw [← hk] at hset
      have R : Hid (∀ m : Nat, Blk ((wr.drewN m).setCell ⟨w.heap.size + 1, k, none⟩ (.int .u64 (v3 : Int))) (w.heap.size + 1) (ws4 l q) 24 ∧ Blk ((wr.drewN m).setCell ⟨w.heap.size + 1, k, none⟩ (.int .u64 (v3 : Int))) w.heap.size [.int .u64 0, .int .u64 0, .int .u64 0, .int .u64 0] 24 ∧ Below w.heap.size w ((wr.drewN m).setCell ⟨w.heap.size + 1, k, none⟩ (.int .u64 (v3 : Int)))) := Lib.hid fun m =>
        ⟨by rw [← hset]; exact (hb.drewN m).set k _, (hb0.drewN m).set_other _ _ (by simp), (below_drewN hbel m).setCell (by simp) _⟩
      have hqn : q + 1 ≤ n := by omega
      clear hb hb0 hbel hset hv hv2 hv3 hx hk htq hqi hq
      go_wp2
      go_region
      all_goals go_wp2
      all_goals exact ⟨⟨q, by omega, rfl, (R.out 1).1, (R.out 1).2.1, (R.out 1).2.2⟩, by simp [intOf]⟩
    · have e : t = 0 := by omega
      subst e
      have H3 := Lib.hid hb
      have H2 := Lib.hid hb0
      clear hb hb0
      go_wp2_with (first
        | (refine at_load 24 (.tmp 3) ?_; refine wpList_load_mid rfl 24 (.tmp 3) rfl (w.heap.size + 1) 0 rfl (ws4 l 0) _ H3.out.range Try.underlying24 rfl (iw4 l 0) ?_)
        | (refine at_store 24 (.tmp 2) (.tmp 28) ?_; refine wpList_store_blk rfl 24 (.tmp 2) (.tmp 28) rfl w.heap.size [.int .u64 0, .int .u64 0, .int .u64 0, .int .u64 0] (ws4 l 0) _ rfl rfl H2.out rfl (iw4 l 0) (ws4_one l 0) ?_; intro w3 hb9 ho9))
      refine bodyPost_ret (v := .agg (ws4 l 0).toArray) ?_ rfl ⟨rfl, hbel.trans (ho9.below (Nat.le_refl _))⟩
      exact results_cell_row Try.results14 _ _ w.heap.size 24 _ (0, 0) _ (by rfl) hb9 Try.underlying24 rfl (by rw [List.size_toArray]; exact iw4 l 0)
end Go.Proofs.Ytdgfgehjnfadnaa
