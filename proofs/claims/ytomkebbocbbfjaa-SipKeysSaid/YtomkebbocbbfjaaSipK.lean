/- The contract of sip.Key: the first two words of a hash. -/
import Derived.Test.YtomkebbocbbfjaaArrS
import Derived.Test.YtomkebbocbbfjaaHold
namespace Go.Proofs.Ytomkebbocbbfjaa
open Go.RowKit
set_option linter.unusedVariables false

/-- What stands in the key while it is made. -/
def kpart (l : List UInt8) (t : Nat) : List Value := [.int .u64 ((if 0 < t then wordAt l 0 else 0 : Nat) : Int), .int .u64 ((if 1 < t then wordAt l 1 else 0 : Nat) : Int)]
theorem kpart_set (l : List UInt8) (t : Nat) (h : t < 2) : (kpart l t).set t (.int .u64 (wordAt l t : Int)) = kpart l (t + 1) := by
  rcases (show t = 0 ∨ t = 1 by omega) with rfl | rfl <;> rfl
theorem kpart_len (l : List UInt8) (t : Nat) : (kpart l t).length = 2 := rfl
theorem kpart_at (l : List UInt8) (t : Nat) (h : t < 2) : ∃ v, (kpart l t)[t]? = some v := by
  rcases (show t = 0 ∨ t = 1 by omega) with rfl | rfl <;> exact ⟨_, rfl⟩
theorem kpart_one (l : List UInt8) (t : Nat) : ∀ v ∈ kpart l t, v.oneCell' = true := fun v hv => by
  simp only [kpart, List.mem_cons, List.not_mem_nil, or_false] at hv
  rcases hv with rfl | rfl <;> rfl
theorem i2 (l : List UInt8) (t : Nat) : (Try.prog.info? 23).map (·.size) = some (kpart l t).length := by
  show (Try.prog.info? 23).map (·.size) = some 2
  kernel_rfl

set_option maxHeartbeats 1000000 in
theorem key_calls (l : List UInt8) (w : World) (hl : l.length = 32) :
    Calls Try.prog 13 #[.agg (l.map B8).toArray] w (Ret w (.agg #[.int .u64 (wordAt l 0 : Int), .int .u64 (wordAt l 1 : Int)])) := by
  obtain ⟨V, hV⟩ : ∃ V, V = l.map B8 := ⟨_, rfl⟩
  have hVl : V.length = 32 := by rw [hV, List.length_map, hl]
  rw [← hV]
  have HV := Lib.hid hV
  clear hV
  go_enter Try.func13, Try.ntmps13
  go_wp2
  go_loopw [5] (fun i wr => ∃ t : Nat, t ≤ 2 ∧ i = .int .i64 t ∧ Blk wr (w.heap.size + 1 + 1) (kpart l t) 23 ∧ Blk wr (w.heap.size + 1) [.int .u64 0, .int .u64 0] 23 ∧ Blk wr w.heap.size V 33 ∧ Below w.heap.size w wr) (fun i _ => 2 - (intOf i).toNat)
  case atStart =>
    refine ⟨0, Nat.zero_le _, rfl, Blk.new' ((w.alloc _).alloc _) _ _ _ (by simp), (Blk.new' (w.alloc _) _ _ _ (by simp)).alloc _, ?_, (((Below.refl _ w).alloc (Nat.le_refl _) _).alloc (by simp) _).alloc (by simp <;> omega) _⟩
    exact ((Blk.new w V.toArray _).alloc _).alloc _
  case round =>
    obtain ⟨t, ht, rfl, hb3, hb2, hb1, hbel⟩ := hrel
    by_cases hlt : t < 2
    · obtain ⟨v0, hv0⟩ := kpart_at l t hlt
      have c0 := hb3.cell t
      rw [hv0] at c0
      have f0 := hb3.free t
      have bt : (t : Int) < 2 := by omega
      obtain ⟨p, hp⟩ : ∃ p, p = 8 * t := ⟨_, rfl⟩
      have hv : IntKind.i64.wrap (8 * (t : Int)) = (p : Int) := by rw [IntKind.wrap_i64, hp]; omega
      have hsl := fun W => run_sl_l (P := Try.prog) 33 5 32 Try.underlying33 size8 w.heap.size 0 p (p : Int) rfl (by omega) W
      rw [Nat.zero_add] at hsl
      obtain ⟨m, hm⟩ : ∃ m, m = wordAt l t := ⟨_, rfl⟩
      have CN : Hid (Calls Try.prog 19 #[.slice (some ⟨w.heap.size, p, none⟩) (32 - p) (32 - p)] wr fun e w' => e = .returned (.int .u64 (m : Int)) ∧ wr = w') := Lib.hid (by
        have h := num_calls (some ⟨w.heap.size, p, none⟩) (32 - p) (32 - p) (l.drop p) wr (hb1.rd p (32 - p) (l.drop p) (by rw [List.length_drop, hl]) (fun j hj => by
          rw [List.length_drop] at hj
          rw [HV.out, List.getElem?_map, List.getElem?_eq_getElem (by omega), List.getElem_drop]
          rfl))
        rw [hm, wordAt, ← hp]
        exact h)
      have hs := kpart_set l t hlt
      rw [← hm] at hs
      have HS := Lib.hid hs
      have H3 := Lib.hid hb3
      have H2 := Lib.hid hb2
      have H1 := Lib.hid hb1
      clear hb3 hb2 hb1 hs hm hp hv0
      go_wp2_with (go_at_call 19; refine CN.out.mono ?_; rintro e' w' ⟨rfl, rfl⟩)
      go_roundw
      case rel =>
        refine ⟨t + 1, by omega, by go_num, ?_, H2.out.set_other _ _ (by simp), H1.out.set_other _ _ (by simp; omega), hbel.setCell (by simp; omega) _⟩
        rw [← HS.out]
        exact H3.out.set t _
      case measure => simp [intOf]; omega
    · have e : t = 2 := by omega
      subst e
      have H3 := Lib.hid hb3
      have H2 := Lib.hid hb2
      clear hb3 hb2 hb1
      go_wp2_with (first
        | (refine at_load 23 (.tmp 3) ?_; refine wpList_load_mid rfl 23 (.tmp 3) rfl (w.heap.size + 1 + 1) 0 rfl (kpart l 2) _ H3.out.range Try.underlying23 rfl (i2 l 2) ?_)
        | (refine at_store 23 (.tmp 2) (.tmp 15) ?_; refine wpList_store_blk rfl 23 (.tmp 2) (.tmp 15) rfl (w.heap.size + 1) [.int .u64 0, .int .u64 0] (kpart l 2) _ rfl rfl H2.out rfl (i2 l 2) (kpart_one l 2) ?_; intro w3 hb9 ho9))
      refine bodyPost_ret (v := .agg (kpart l 2).toArray) ?_ rfl ⟨rfl, hbel.trans (ho9.below (by omega))⟩
      exact results_cell_row Try.results13 _ _ (w.heap.size + 1) 23 _ (0, 0) _ (by rfl) hb9 Try.underlying23 rfl (by rw [List.size_toArray]; exact i2 l 2)
end Go.Proofs.Ytomkebbocbbfjaa
