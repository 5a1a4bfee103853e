/- Merged texts: TxnA TxnB TxnD TxnK. -/
import Derived.Test.YthkkllcpogagiaaDoorMar
import Derived.Test.YthkkllcpogagiaaDoorMap
import Derived.Deep.RegionHeld3
import Derived.Deep.CutRange
import Derived.Deep.DeepCutAuto
/- The law's own Ref of layer 14; the document's Same. -/
namespace Go.Proofs.YthkkllcpogagiaaDoor
open Go.RowKit
set_option linter.unusedVariables false
set_option linter.unusedSimpArgs false

set_option maxRecDepth 100000 in
theorem ty_ne {w : World} {g : Nat} {cs : List Value} {t e : TypeId} {cs' : Array Value} {d : Nat × Nat} (h : Blk w g cs t) (hr : w.heap[g]? = some (.cells cs' e d)) (hne : e ≠ t) : False := by
  have h2 : w.heap[g]? = some (.cells cs.toArray t (0, 0)) := h
  rw [hr] at h2
  injection h2 with h2
  injection h2 with _ h3
  exact hne h3
set_option maxRecDepth 100000 in
theorem Blk.appG {w W : World} {b g k n c : Nat} {t e : TypeId} {cs : List Value} {A : Option Addr} {V : List (List Value)} (h : Blk w g cs t) (ho : OwnG w b e k A n c V) (hne : e ≠ t) (hf : Frm (fun i => blkOf A = some i) w W) : Blk W g cs t :=
  hf.blk h fun hP => by
    obtain ⟨_, _, cs', d, hr⟩ := ho.blk g hP
    exact ty_ne h hr hne
set_option maxRecDepth 100000 in
theorem OwnG.setB {w : World} {b g o k n c : Nat} {t e : TypeId} {cs : List Value} {v : Value} {A : Option Addr} {V : List (List Value)} (ho : OwnG w b e k A n c V) (h : Blk w g cs t) (hne : e ≠ t) : OwnG (w.setCell ⟨g, o, none⟩ v) b e k A n c V :=
  ho.frm (P := fun i => i = g) ((Frm.refl _ w).setCell g o v rfl) fun i hi e1 => by
    obtain ⟨_, _, cs', d, hr⟩ := ho.blk i hi
    rw [e1] at hr
    exact ty_ne h hr hne
/-- An output as the document has it. -/
def DO (o : Nat × List UInt8) : List Value := [.int .u64 (o.1 : Int), .string ⟨o.2.toArray⟩]
set_option maxRecDepth 100000 in
theorem do_len (O : List (Nat × List UInt8)) : ∀ x ∈ O.map DO, x.length = 2 := fun x hx => by
  obtain ⟨o, _, rfl⟩ := List.mem_map.1 hx
  rfl
set_option maxRecDepth 100000 in
theorem I2tx : (Tryd.prog.info? 36).map (·.size) = some 2 := by kernel_rfl
def zDO : List Value := [.int .u64 0, .string ByteArray.empty]
set_option maxRecDepth 100000 in
theorem infoDO : (Tryd.prog.info? 57).map (fun i => (i.zero, i.size, i.bytes)) = some (some (.agg zDO.toArray), 2, 24) := by kernel_rfl
set_option maxRecDepth 100000 in
theorem zDO_arr : (Array.range (1 * 2)).map ((Value.agg zDO.toArray).cells[· % (Value.agg zDO.toArray).cells.size]!) = zDO.toArray := by kernel_rfl
set_option maxRecDepth 100000 in
set_option maxHeartbeats 4000000 in
theorem tref_calls (s : Nat) (A : Option Addr) (n c : Nat) (O : List (Nat × List UInt8)) (w : World) (hr : RdT w A n O) (hn : n ≤ 1000) :
    Calls Tryd.prog 8 #[.agg #[.int .u64 (s : Int), .slice A n c]] w fun e w' => ∃ A' c', e = .returned (.agg #[.int .u64 (s : Int), .slice A' n c']) ∧ OwnG w' w.heap.size 57 2 A' n c' (O.map DO) ∧ Below w.heap.size w w' := by
  have HR := Lib.hid hr
  have HL := Lib.hid hr.len
  clear hr
  go_enter Tryd.func8, Tryd.ntmps8
  go_upto_region 3 with fail
  obtain ⟨W0, hW0⟩ : ∃ z, z = ((w.alloc (.cells #[.int .u64 (s : Int), .slice A n c] 25)).alloc (.cells #[.int .u64 0, .slice none 0 0] 36)).alloc (.cells #[.int .u64 (s : Int), .slice none 0 0] 36) := ⟨_, rfl⟩
  obtain ⟨g2, hg2⟩ : ∃ g, g = w.heap.size + 1 := ⟨_, rfl⟩
  rw [← hg2]
  obtain ⟨g3, hg3⟩ : ∃ g, g = g2 + 1 := ⟨_, rfl⟩
  rw [← hg3]
  have k2 : Blk W0 g2 [.int .u64 0, .slice none 0 0] 36 := by rw [hW0]; exact (Blk.new' _ _ _ _ (by rw [hg2]; simp)).alloc _
  have k3 : Blk W0 g3 [.int .u64 (s : Int), .slice none 0 0] 36 := by rw [hW0]; exact Blk.new' _ _ _ _ (by rw [hg3, hg2]; simp)
  have hB0 : Below w.heap.size w W0 := by rw [hW0]; exact below_al (below_al (below_al (Below.refl _ w) _) _) _
  rw [← hW0]
  have h23 : g2 ≠ g3 := by omega
  have hg2w : w.heap.size ≤ g2 := by omega
  have hg3w : w.heap.size ≤ g3 := by omega
  have HK := Lib.hid (And.intro k2 (And.intro k3 hB0))
  clear k2 k3 hB0 hW0 hg2 hg3
  go_loopw [12] (fun cv wr => ∃ (i : Nat) (A1 : Option Addr) (c1 : Nat), i ≤ n ∧ cv = .int .i64 (i : Int) ∧ Blk wr g3 [.int .u64 (s : Int), .slice A1 i c1] 36 ∧ Blk wr g2 [.int .u64 0, .slice none 0 0] 36 ∧ OwnG wr w.heap.size 57 2 A1 i c1 ((O.take i).map DO) ∧ Below w.heap.size w wr) (fun cv _ => n - (intOf cv).toNat)
  case atStart => exact ⟨0, none, 0, Nat.zero_le _, rfl, HK.out.2.1, HK.out.1, OwnG.nil _ _ _ _, HK.out.2.2⟩
  case round =>
    obtain ⟨i, A1, c1, hin, rfl, k3, k2, hown, hbel⟩ := hrel
    by_cases hlt : i < n
    · have hlt' : (i : Int) < (n : Int) := by omega
      obtain ⟨b, off, hl, rfl, hb, X, m, c', hrg, h1, h2, h3, hv64⟩ := (HR.out.below hbel).at_ hlt
      have sc0 : wr.cell? ⟨b, off + i * 2, none⟩ = some (.int .u64 (O[i].1 : Int)) := hrg 0 _ rfl
      have sc1 : wr.cell? ⟨b, off + i * 2 + 1, none⟩ = some (.slice X m c') := hrg 1 _ rfl
      have HN : Hid ((O.take (i + 1)).map DO = (O.take i).map DO ++ [DO O[i]]) := Lib.hid (by rw [List.take_succ_eq_append_getElem hl, List.map_append]; rfl)
      obtain ⟨v, hv⟩ : ∃ z, z = O[i].1 := ⟨_, rfl⟩
      obtain ⟨t, ht⟩ : ∃ z, z = O[i].2 := ⟨_, rfl⟩
      obtain ⟨S, hS⟩ : ∃ z : ByteArray, z = ⟨t.toArray⟩ := ⟨_, rfl⟩
      have HD : Hid (DO O[i] = [.int .u64 (v : Int), .string S]) := Lib.hid (by rw [hS, ht, hv]; rfl)
      rw [HD.out] at HN
      rw [← hv] at sc0
      rw [← ht] at h3
      unfold maxLen at h2
      clear hrg hv ht hv64
      go_upto_region 5 with fail
      have hba : Below wr.heap.size wr (wr.alloc (.cells #[.int .u64 (v : Int), .slice X m c'] 46)) := (Below.refl _ wr).alloc (Nat.le_refl _) _
      have k5 : Blk (wr.alloc (.cells #[.int .u64 (v : Int), .slice X m c'] 46)) wr.heap.size [.int .u64 (v : Int), .slice X m c'] 46 := Blk.new wr _ _
      obtain ⟨w5, hw5⟩ : ∃ z, z = wr.alloc (.cells #[.int .u64 (v : Int), .slice X m c'] 46) := ⟨_, rfl⟩
      rw [← hw5] at hba k5
      rw [← hw5]
      obtain ⟨g5, hg5⟩ : ∃ z, z = wr.heap.size := ⟨_, rfl⟩
      rw [← hg5] at k5
      rw [← hg5]
      have k3 := k3.below hba k3.lt
      have k2 := k2.below hba k2.lt
      have hown := hown.up hba
      have hcv0 := conv8 w5 X m c' t (h3.below hba)
      have hcv : (convert 28 9 (.slice X m c')).run Tryd.prog w5 = .ok (.string S) w5 := by rw [hS]; exact hcv0
      have hbel := below_more hbel hba
      have s3 : w5.cell? ⟨g3, 1, none⟩ = some (.slice A1 i c1) := k3.cell 1
      have s50 : w5.cell? ⟨g5, 0, none⟩ = some (.int .u64 (v : Int)) := k5.cell 0
      have s51 : w5.cell? ⟨g5, 1, none⟩ = some (.slice X m c') := k5.cell 1
      have HH := Lib.hid (And.intro k3 (And.intro k2 (And.intro hown hbel)))
      clear hba k5 hw5 hg5 k3 k2 hown hcv0 hS h3 hbel hb sc0 sc1 HD hl
      go_wp2_with (first
        | ((with_reducible refine at_bsX 34 1 #[(0, .tmp 23)] ?_); refine wpList_bsG rfl 34 57 2 24 (.agg zDO.toArray) [.int .u64 (v : Int), .string S] rfl Tryd.underlying34 infoDO (by decide) (by decide) zDO zDO_arr rfl (.tmp 23) rfl (by first | rfl | simp [Act.eval]) ?_; intro g w1 hb1 hg1 hl1 hB1)
        | ((with_reducible refine at_appX 34 (.tmp 17) (.tmp 24) ?_); refine wpList_appG rfl 34 57 2 24 (.agg zDO.toArray) Tryd.underlying34 infoDO rfl (by decide) (by decide) (by decide) (.tmp 17) (.tmp 24) rfl w.heap.size w (below_more HH.out.2.2.2 hB1) (Nat.le_refl _) A1 i c1 ((O.take i).map DO) (by first | rfl | simp [Act.eval]) (HH.out.2.2.1.up hB1) ⟨g, 0, none⟩ rfl 1 1 (by decide) [[.int .u64 (v : Int), .string S]] (by first | rfl | simp [Act.eval]) (hb1.rdG rfl) (fun y hy u hu => by rw [List.mem_singleton.1 hy] at hu; simp at hu; rcases hu with rfl | rfl <;> rfl) (by omega) ?_; intro A3 c3 w2 ho2 hf2 hB2
           have j3 := (HH.out.1.below hB1 HH.out.1.lt).appG (HH.out.2.2.1.up hB1) (by decide) hf2
           have j2 := (HH.out.2.1.below hB1 HH.out.2.1.lt).appG (HH.out.2.2.1.up hB1) (by decide) hf2
           have s31 : w2.cell? ⟨g3, 1, none⟩ = some (.slice A1 i c1) := j3.cell 1
           have f31 : w2.frozen? ⟨g3, 1, none⟩ = false := j3.free 1))
      go_roundw
      case rel => exact ⟨i + 1, A3, c3, by omega, by go_num, j3.set 1 _, j2.set_other ⟨g3, 1, none⟩ _ h23, by rw [HN.out]; exact ho2.setB j3 (by decide), hB2.setCell (p := ⟨g3, 1, none⟩) hg3w _⟩
      case measure => simp [intOf]; omega
    · have hlt' : ¬ (i : Int) < (n : Int) := by omega
      have e : i = n := by omega
      subst e
      rw [List.take_of_length_le (by rw [HL.out]; omega)] at hown
      have s30 : wr.cell? ⟨g3, 0, none⟩ = some (.int .u64 (s : Int)) := k3.cell 0
      have s31 : wr.cell? ⟨g3, 1, none⟩ = some (.slice A1 i c1) := k3.cell 1
      have s20 : wr.cell? ⟨g2, 0, none⟩ = some (.int .u64 0) := k2.cell 0
      have s21 : wr.cell? ⟨g2, 1, none⟩ = some (.slice none 0 0) := k2.cell 1
      have f20 : wr.frozen? ⟨g2, 0, none⟩ = false := k2.free 0
      have f21 : wr.frozen? ⟨g2, 1, none⟩ = false := k2.free 1
      have HH := Lib.hid (And.intro hown (And.intro k2 hbel))
      clear hown k2 k3 hbel
      go_wp2
      have kz := (HH.out.2.1.set 0 (.int .u64 (s : Int))).set 1 (.slice A1 i c1)
      refine bodyPost_ret (v := .agg #[.int .u64 (s : Int), .slice A1 i c1]) ?_ rfl ?_
      · exact results_one Tryd.results8 _ _ g2 36 _ (0, 0) _ (by rfl) kz Tryd.underlying36 rfl I2tx
      · exact ⟨A1, c1, rfl, (HH.out.1.setB HH.out.2.1 (by decide)).setB (HH.out.2.1.set 0 _) (by decide), (HH.out.2.2.setCell (p := ⟨g2, 0, none⟩) hg2w _).setCell (p := ⟨g2, 1, none⟩) hg2w _⟩
end Go.Proofs.YthkkllcpogagiaaDoor

/- The document's Same, of one and the same, and its Sum of layer 14. -/
namespace Go.Proofs.YthkkllcpogagiaaDoor
open Go.RowKit
set_option linter.unusedVariables false
set_option linter.unusedSimpArgs false

set_option maxRecDepth 100000 in
set_option maxHeartbeats 4000000 in
theorem tsame_calls (s : Nat) (A B : Option Addr) (n c d : Nat) (O : List (Nat × List UInt8)) (w : World) (hA : RdG w 2 A n (O.map DO)) (hB : RdG w 2 B n (O.map DO)) (hn : n ≤ 1000) :
    Calls Tryd.prog 10 #[.agg #[.int .u64 (s : Int), .slice A n c], .agg #[.int .u64 (s : Int), .slice B n d]] w (Ret w (.bool true)) := by
  have hln : O.length = n := by have := hA.len; simpa using this
  have HA := Lib.hid hA
  have HB := Lib.hid hB
  have HL := Lib.hid hln
  clear hA hB hln
  go_enter Tryd.func10, Tryd.ntmps10
  go_upto_region 1 with fail
  obtain ⟨W0, hW0⟩ : ∃ z, z = (w.alloc (.cells #[.int .u64 (s : Int), .slice A n c] 36)).alloc (.cells #[.int .u64 (s : Int), .slice B n d] 36) := ⟨_, rfl⟩
  obtain ⟨g2, hg2⟩ : ∃ g, g = w.heap.size := ⟨_, rfl⟩
  rw [← hg2]
  obtain ⟨g3, hg3⟩ : ∃ g, g = g2 + 1 := ⟨_, rfl⟩
  rw [← hg3]
  have k2 : Blk W0 g2 [.int .u64 (s : Int), .slice A n c] 36 := by rw [hW0]; exact (Blk.new' _ _ _ _ (by rw [hg2])).alloc _
  have k3 : Blk W0 g3 [.int .u64 (s : Int), .slice B n d] 36 := by rw [hW0]; exact Blk.new' _ _ _ _ (by rw [hg3, hg2]; simp)
  have hB0 : Below w.heap.size w W0 := by rw [hW0]; exact below_al (below_al (Below.refl _ w) _) _
  rw [← hW0]
  have s20 : W0.cell? ⟨g2, 0, none⟩ = some (.int .u64 (s : Int)) := k2.cell 0
  have s21 : W0.cell? ⟨g2, 1, none⟩ = some (.slice A n c) := k2.cell 1
  have s30 : W0.cell? ⟨g3, 0, none⟩ = some (.int .u64 (s : Int)) := k3.cell 0
  have s31 : W0.cell? ⟨g3, 1, none⟩ = some (.slice B n d) := k3.cell 1
  have HK := Lib.hid (And.intro k2 (And.intro k3 hB0))
  clear k2 k3 hB0 hW0 hg2 hg3
  go_upto_region 4 with fail
  clear s20 s21 s30 s31
  go_loopw [23] (fun cv wr => ∃ (i : Nat), i ≤ n ∧ cv = .int .i64 (i : Int) ∧ Below W0.heap.size W0 wr) (fun cv _ => n - (intOf cv).toNat)
  case atStart => exact ⟨0, Nat.zero_le _, rfl, Below.refl _ _⟩
  case round =>
    obtain ⟨i, hin, rfl, hbel⟩ := hrel
    have hbw : Below w.heap.size w wr := HK.out.2.2.trans (hbel.mono HK.out.2.2.size)
    by_cases hlt : i < n
    · have hlt' : (i : Int) < (n : Int) := by omega
      obtain ⟨b1, o1, hl1, rfl, hb1, r1⟩ := (HA.out.below hbw).at_ hlt
      obtain ⟨b2, o2, hl2, rfl, hb2, r2⟩ := (HB.out.below hbw).at_ hlt
      rw [List.getElem_map] at r1 r2
      obtain ⟨v, hv⟩ : ∃ z, z = (O[i]'(by rw [HL.out]; exact hlt)).1 := ⟨_, rfl⟩
      obtain ⟨Z, hZ⟩ : ∃ z : ByteArray, z = ⟨(O[i]'(by rw [HL.out]; exact hlt)).2.toArray⟩ := ⟨_, rfl⟩
      have hD : DO (O[i]'(by rw [HL.out]; exact hlt)) = [.int .u64 (v : Int), .string Z] := by rw [hZ, hv]; rfl
      rw [hD] at r1 r2
      have s2 : wr.cell? ⟨g2, 1, none⟩ = some (.slice (some ⟨b1, o1, none⟩) n c) := (HK.out.1.below hbel HK.out.1.lt).cell 1
      have s3 : wr.cell? ⟨g3, 1, none⟩ = some (.slice (some ⟨b2, o2, none⟩) n d) := (HK.out.2.1.below hbel HK.out.2.1.lt).cell 1
      have HBD : Hid (Below W0.heap.size W0 wr.drew) := Lib.hid hbel.drew
      clear hv hZ hD hbel hbw hb1 hb2 hl1 hl2
      go_upto_region 6 with fail
      refine wp_region_held_drew (S := fun W => W.cell? ⟨g2, 1, none⟩ = some (.slice (some ⟨b1, o1, none⟩) n c) ∧ W.cell? ⟨g3, 1, none⟩ = some (.slice (some ⟨b2, o2, none⟩) n d) ∧ W.rangeAt b1 (o1 + i * 2) [.int .u64 (v : Int), .string Z] ∧ W.rangeAt b2 (o2 + i * 2) [.int .u64 (v : Int), .string Z]) (by kernel_rfl) ?_ (fun hHeld => ?_)
      · exact ⟨s2, s3, r1, r2⟩
      refine wpAnyH_take (i := 0) (v := ?_) rfl (by kernel_rfl) (by kernel_rfl) (by kernel_rfl) (fun _ _ _ h => h) (Or.inl ⟨by rfl, ?_⟩) (by assumption) ?_
      rotate_left 1
      · intro w hSw; (try dsimp only at hSw); simp only [List.getElem_toArray, List.getElem_cons_succ, List.getElem_cons_zero]; go_simp; try (with_reducible rfl)
      (try simp only [List.getElem_toArray, List.getElem_cons_succ, List.getElem_cons_zero, Act.put, List.setIfInBounds_toArray, List.set_cons_succ, List.set_cons_zero])
      refine wpAnyH_take (i := 1) (v := .slice (some ⟨b1, o1, none⟩) n c) rfl (by kernel_rfl) (by kernel_rfl) (by kernel_rfl) (fun _ _ _ h => h) (Or.inl ⟨by rfl, ?_⟩) (by assumption) ?_
      · intro w hSw; (try dsimp only at hSw); simp only [List.getElem_toArray, List.getElem_cons_succ, List.getElem_cons_zero]; first | (go_simp; done) | (simp [execOp, Act.eval, hSw.1]; done)
      (try simp only [List.getElem_toArray, List.getElem_cons_succ, List.getElem_cons_zero, Act.put, List.setIfInBounds_toArray, List.set_cons_succ, List.set_cons_zero])
      refine wpAnyH_take (i := 2) (v := ?_) rfl (by kernel_rfl) (by kernel_rfl) (by kernel_rfl) (fun _ _ _ h => h) (Or.inl ⟨by rfl, ?_⟩) (by assumption) ?_
      rotate_left 1
      · intro w hSw; (try dsimp only at hSw); simp only [List.getElem_toArray, List.getElem_cons_succ, List.getElem_cons_zero]; go_simp; try (with_reducible rfl)
      (try simp only [List.getElem_toArray, List.getElem_cons_succ, List.getElem_cons_zero, Act.put, List.setIfInBounds_toArray, List.set_cons_succ, List.set_cons_zero])
      refine wpAnyH_take (i := 3) (v := ?_) rfl (by kernel_rfl) (by kernel_rfl) (by kernel_rfl) (fun _ _ _ h => h) (Or.inl ⟨by rfl, ?_⟩) (by assumption) ?_
      rotate_left 1
      · intro w hSw; (try dsimp only at hSw); simp only [List.getElem_toArray, List.getElem_cons_succ, List.getElem_cons_zero]; go_simp; try (with_reducible rfl)
      (try simp only [List.getElem_toArray, List.getElem_cons_succ, List.getElem_cons_zero, Act.put, List.setIfInBounds_toArray, List.set_cons_succ, List.set_cons_zero])
      refine wpAnyH_take (i := 4) rfl (by kernel_rfl) (by kernel_rfl) (by kernel_rfl) (fun _ _ _ h => h) (yieldsIf_load_mid (by rfl) _ _ rfl _ _ rfl [.int .u64 (v : Int), .string Z] _ (fun w hSw => hSw.2.2.1) Tryd.underlying57 rfl (by kernel_rfl)) (by assumption) ?_
      (try simp only [List.getElem_toArray, List.getElem_cons_succ, List.getElem_cons_zero, Act.put, List.setIfInBounds_toArray, List.set_cons_succ, List.set_cons_zero])
      refine wpAnyH_take (i := 5) (v := ?_) rfl (by kernel_rfl) (by kernel_rfl) (by kernel_rfl) (fun _ _ _ h => h) (Or.inl ⟨by rfl, ?_⟩) (by assumption) ?_
      rotate_left 1
      · intro w hSw; (try dsimp only at hSw); simp only [List.getElem_toArray, List.getElem_cons_succ, List.getElem_cons_zero]; go_simp; try (with_reducible rfl)
      (try simp only [List.getElem_toArray, List.getElem_cons_succ, List.getElem_cons_zero, Act.put, List.setIfInBounds_toArray, List.set_cons_succ, List.set_cons_zero])
      refine wpAnyH_take (i := 6) (v := .slice (some ⟨b2, o2, none⟩) n d) rfl (by kernel_rfl) (by kernel_rfl) (by kernel_rfl) (fun _ _ _ h => h) (Or.inl ⟨by rfl, ?_⟩) (by assumption) ?_
      · intro w hSw; (try dsimp only at hSw); simp only [List.getElem_toArray, List.getElem_cons_succ, List.getElem_cons_zero]; first | (go_simp; done) | (simp [execOp, Act.eval, hSw.2.1]; done)
      (try simp only [List.getElem_toArray, List.getElem_cons_succ, List.getElem_cons_zero, Act.put, List.setIfInBounds_toArray, List.set_cons_succ, List.set_cons_zero])
      refine wpAnyH_take (i := 7) (v := ?_) rfl (by kernel_rfl) (by kernel_rfl) (by kernel_rfl) (fun _ _ _ h => h) (Or.inl ⟨by rfl, ?_⟩) (by assumption) ?_
      rotate_left 1
      · intro w hSw; (try dsimp only at hSw); simp only [List.getElem_toArray, List.getElem_cons_succ, List.getElem_cons_zero]; go_simp; try (with_reducible rfl)
      (try simp only [List.getElem_toArray, List.getElem_cons_succ, List.getElem_cons_zero, Act.put, List.setIfInBounds_toArray, List.set_cons_succ, List.set_cons_zero])
      refine wpAnyH_take (i := 8) (v := ?_) rfl (by kernel_rfl) (by kernel_rfl) (by kernel_rfl) (fun _ _ _ h => h) (Or.inl ⟨by rfl, ?_⟩) (by assumption) ?_
      rotate_left 1
      · intro w hSw; (try dsimp only at hSw); simp only [List.getElem_toArray, List.getElem_cons_succ, List.getElem_cons_zero]; go_simp; try (with_reducible rfl)
      (try simp only [List.getElem_toArray, List.getElem_cons_succ, List.getElem_cons_zero, Act.put, List.setIfInBounds_toArray, List.set_cons_succ, List.set_cons_zero])
      refine wpAnyH_take (i := 9) rfl (by kernel_rfl) (by kernel_rfl) (by kernel_rfl) (fun _ _ _ h => h) (yieldsIf_load_mid (by rfl) _ _ rfl _ _ rfl [.int .u64 (v : Int), .string Z] _ (fun w hSw => hSw.2.2.2) Tryd.underlying57 rfl (by kernel_rfl)) (by assumption) ?_
      (try simp only [List.getElem_toArray, List.getElem_cons_succ, List.getElem_cons_zero, Act.put, List.setIfInBounds_toArray, List.set_cons_succ, List.set_cons_zero])
      refine wpAnyH_take (i := 10) (v := .bool false) rfl (by kernel_rfl) (by kernel_rfl) (by kernel_rfl) (fun _ _ _ h => h) (Or.inl ⟨by rfl, ?_⟩) (by assumption) ?_
      · intro w hSw; (try dsimp only at hSw); simp only [List.getElem_toArray, List.getElem_cons_succ, List.getElem_cons_zero]; first | (go_simp; done) | (simp [execOp, Act.eval, NEQ.out v Z]; done)
      (try simp only [List.getElem_toArray, List.getElem_cons_succ, List.getElem_cons_zero, Act.put, List.setIfInBounds_toArray, List.set_cons_succ, List.set_cons_zero])
      refine wpAnyH_done (by kernel_rfl) ?_ _
      go_wp2
      go_roundw
      case rel => exact ⟨i + 1, by omega, by go_num, HBD.out⟩
      case measure => simp [intOf]; omega
    · have hlt' : ¬ (i : Int) < (n : Int) := by omega
      have HBB := Lib.hid hbw
      clear hbel hbw
      go_wp2
      go_ret
      exact ⟨rfl, HBB.out⟩
end Go.Proofs.YthkkllcpogagiaaDoor

/- The document's Parse of layer 14. -/
namespace Go.Proofs.YthkkllcpogagiaaDoor
open Go.RowKit
set_option linter.unusedVariables false
set_option linter.unusedSimpArgs false

set_option maxRecDepth 100000 in
theorem tkL_le (l : List UInt8) (e n : Nat) : (tkL l e n).length ≤ l.length := by
  unfold tkL
  split
  · rw [List.length_drop]; omega
  · exact Nat.le_refl _
set_option maxRecDepth 100000 in
theorem cvL_le (l : List UInt8) (e m : Nat) : (cvL l e m).length ≤ l.length := by
  unfold cvL
  split
  · rw [List.length_drop]; omega
  · exact Nat.le_refl _
set_option maxRecDepth 100000 in
theorem txL_le (l : List UInt8) (e m : Nat) : (txL l e m).length ≤ l.length := by
  unfold txL
  split
  · exact Nat.le_trans (tkL_le _ _ _) (cvL_le _ _ _)
  · exact Nat.le_refl _
set_option maxRecDepth 100000 in
theorem ogo_step (n : Nat) (O : List (Nat × List UInt8)) (li : List UInt8) (ei k : Nat) (r : List (Nat × List UInt8) × List UInt8 × Nat) (h : r = (O ++ (ogo (k + 1) li ei).1, (ogo (k + 1) li ei).2)) :
    r = ((O ++ [(numL (tkV li ei 8), txV (tkL li ei 8) (tkE li ei 8) 64)]) ++ (ogo k (txL (tkL li ei 8) (tkE li ei 8) 64) (txE (tkL li ei 8) (tkE li ei 8) 64)).1, (ogo k (txL (tkL li ei 8) (tkE li ei 8) 64) (txE (tkL li ei 8) (tkE li ei 8) 64)).2) := by
  rw [h]
  simp [ogo]
end Go.Proofs.YthkkllcpogagiaaDoor

/- What package txn is to answer; layer 14's own awake. -/
namespace Go.Proofs.YthkkllcpogagiaaDoor
open Go.RowKit
set_option linter.unusedVariables false
set_option linter.unusedSimpArgs false

structure TxnOk : Prop where
  bytes : ∀ (W : World) (s : Nat) (A : Option Addr) (n c : Nat) (O : List (Nat × List UInt8)), s < 18446744073709551616 → RdT W A n O → n ≤ c → c ≤ maxLen → n ≤ 20 → (∀ o ∈ O, o.2.length ≤ 200) →
    Calls Tryd.prog 6 #[.agg #[.int .u64 (s : Int), .slice A n c]] W fun e w' => ∃ A' n' c', e = .returned (.tuple #[.slice A' n' c', .int .i64 (tbE s O : Int)]) ∧ Rd w' A' n' (tbB s O) ∧ n' ≤ c' ∧ c' ≤ maxLen ∧ Below W.heap.size W w'
  parse : ∀ (W : World) (A : Option Addr) (n c : Nat) (b : List UInt8), Rd W A n b → n ≤ c → c ≤ maxLen → n ≤ 1000 →
    Calls Tryd.prog 9 #[.slice A n c] W fun e w' => ∃ A' n' c', e = .returned (.tuple #[.agg #[.int .u64 (tpS b : Int), .slice A' n' c'], .int .i64 (tpE b : Int)]) ∧ RdT w' A' n' (tpO b) ∧ n' ≤ c' ∧ c' ≤ maxLen ∧ Below W.heap.size W w'
set_option maxRecDepth 100000 in
theorem tb_five : tbE 5 [] = 0 ∧ tbB 5 [] = [1, 5, 0, 0, 0, 0, 0, 0, 0, 0] := by decide
set_option maxRecDepth 100000 in
set_option maxHeartbeats 2000000 in
theorem awake14_calls (K : TxnOk) (w : World) : Calls Tryd.prog 5 #[] w (Ret w (.bool true)) := by
  have C1 : Hid (∀ W : World, Calls Tryd.prog 6 #[.agg #[.int .u64 5, .slice none 0 0]] W fun e w' => ∃ A' c', e = .returned (.tuple #[.slice A' 10 c', .int .i64 0]) ∧ (convert 28 9 (.slice A' 10 c')).run Tryd.prog w' = .ok (.string ⟨#[1, 5, 0, 0, 0, 0, 0, 0, 0, 0]⟩) w' ∧ c' ≤ 9223372036854775807 ∧ 10 ≤ c' ∧ Below W.heap.size W w') := Lib.hid fun W => by
    have h := K.bytes W 5 none 0 0 [] (by omega) (RdT.nil _ _) (by omega) (by unfold maxLen; omega) (by omega) (fun o ho => by simp at ho)
    rw [tb_five.1, tb_five.2] at h
    refine h.mono ?_
    rintro e w' ⟨A', n', c', rfl, h1, h2, h3, h4⟩
    have hn := h1.len
    simp at hn
    subst hn
    exact ⟨A', c', rfl, conv8 w' A' 10 c' _ h1, by unfold maxLen at h3; omega, h2, h4⟩
  clear K
  go_enter Tryd.func5, Tryd.ntmps5
  go_wp2_with (go_at_call 6; refine (C1.out _).mono ?_; rintro e' w1 ⟨A1, c1, rfl, hcv, hc1, hc2, hB1⟩)
  go_ret
  exact ⟨rfl, hB1⟩
set_option maxRecDepth 100000 in
theorem tb_len (s : Nat) (O : List (Nat × List UInt8)) (h : tbE s O = 0) : (tbB s O).length ≠ 64 := by
  unfold tbB
  rw [if_pos h]
  exact (tbE_ok h).2.2
set_option maxRecDepth 100000 in
theorem tp_small (b : List UInt8) : (tpO b).length ≤ 8 ∧ ∀ o ∈ tpO b, o.2.length ≤ 64 := by
  by_cases h : tpE b = 0
  · obtain ⟨h1, h2, h3, h4⟩ := tp_back h
    exact ⟨(tbE_ok h2).1, fun o ho => (h4 o ho).2⟩
  · unfold tpO
    rw [if_neg h]
    exact ⟨Nat.zero_le _, fun o ho => by simp at ho⟩
set_option maxRecDepth 100000 in
theorem tpS_lt (b : List UInt8) : tpS b < 18446744073709551616 := by
  by_cases h : tpE b = 0
  · exact (tp_back h).2.2.1
  · unfold tpS
    rw [if_neg h]
    omega
end Go.Proofs.YthkkllcpogagiaaDoor
