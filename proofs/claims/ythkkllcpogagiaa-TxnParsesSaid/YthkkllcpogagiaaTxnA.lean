/- The law's own Ref of layer 14; the document's Same. -/
import Derived.Test.YthkkllcpogagiaaTxnO
import Derived.Test.YthkkllcpogagiaaCodD
import Derived.Deep.RegionHeld3
import Derived.Deep.CutRange
import Derived.Deep.DeepCutAuto
namespace Go.Proofs.Ythkkllcpogagiaa
open Go.RowKit
set_option linter.unusedVariables false
set_option linter.unusedSimpArgs false

set_option maxRecDepth 100000 in
theorem ty_ne {w : World} {g : Nat} {cs : List Value} {t e : TypeId} {cs' : Array Value} {d : Nat × Nat} (h : Blk w g cs t) (hr : w.heap[g]? = some (.cells cs' e d)) (hne : e ≠ t) : False := by
  have h2 : w.heap[g]? = some (.cells cs.toArray t (0, 0)) := h
  rw [hr] at h2
  injection h2 with h2
  injection h2 with _ h3
  exact hne h3
set_option maxRecDepth 100000 in
theorem Blk.appG {w W : World} {b g k n c : Nat} {t e : TypeId} {cs : List Value} {A : Option Addr} {V : List (List Value)} (h : Blk w g cs t) (ho : OwnG w b e k A n c V) (hne : e ≠ t) (hf : Frm (fun i => blkOf A = some i) w W) : Blk W g cs t :=
  hf.blk h fun hP => by
    obtain ⟨_, _, cs', d, hr⟩ := ho.blk g hP
    exact ty_ne h hr hne
set_option maxRecDepth 100000 in
theorem OwnG.setB {w : World} {b g o k n c : Nat} {t e : TypeId} {cs : List Value} {v : Value} {A : Option Addr} {V : List (List Value)} (ho : OwnG w b e k A n c V) (h : Blk w g cs t) (hne : e ≠ t) : OwnG (w.setCell ⟨g, o, none⟩ v) b e k A n c V :=
  ho.frm (P := fun i => i = g) ((Frm.refl _ w).setCell g o v rfl) fun i hi e1 => by
    obtain ⟨_, _, cs', d, hr⟩ := ho.blk i hi
    rw [e1] at hr
    exact ty_ne h hr hne
/-- An output as the document has it. -/
def DO (o : Nat × List UInt8) : List Value := [.int .u64 (o.1 : Int), .string ⟨o.2.toArray⟩]
set_option maxRecDepth 100000 in
theorem do_len (O : List (Nat × List UInt8)) : ∀ x ∈ O.map DO, x.length = 2 := fun x hx => by
  obtain ⟨o, _, rfl⟩ := List.mem_map.1 hx
  rfl
set_option maxRecDepth 100000 in
theorem I2tx : (Try.prog.info? 33).map (·.size) = some 2 := by kernel_rfl
def zDO : List Value := [.int .u64 0, .string ByteArray.empty]
set_option maxRecDepth 100000 in
theorem infoDO : (Try.prog.info? 67).map (fun i => (i.zero, i.size, i.bytes)) = some (some (.agg zDO.toArray), 2, 24) := by kernel_rfl
set_option maxRecDepth 100000 in
theorem zDO_arr : (Array.range (1 * 2)).map ((Value.agg zDO.toArray).cells[· % (Value.agg zDO.toArray).cells.size]!) = zDO.toArray := by kernel_rfl
set_option maxRecDepth 100000 in
set_option maxHeartbeats 4000000 in
theorem tref_calls (s : Nat) (A : Option Addr) (n c : Nat) (O : List (Nat × List UInt8)) (w : World) (hr : RdT w A n O) (hn : n ≤ 1000) :
    Calls Try.prog 10 #[.agg #[.int .u64 (s : Int), .slice A n c]] w fun e w' => ∃ A' c', e = .returned (.agg #[.int .u64 (s : Int), .slice A' n c']) ∧ OwnG w' w.heap.size 67 2 A' n c' (O.map DO) ∧ Below w.heap.size w w' := by
  have HR := Lib.hid hr
  have HL := Lib.hid hr.len
  clear hr
  go_enter Try.func10, Try.ntmps10
  go_upto_region 3 with fail
  obtain ⟨W0, hW0⟩ : ∃ z, z = ((w.alloc (.cells #[.int .u64 (s : Int), .slice A n c] 27)).alloc (.cells #[.int .u64 0, .slice none 0 0] 33)).alloc (.cells #[.int .u64 (s : Int), .slice none 0 0] 33) := ⟨_, rfl⟩
  obtain ⟨g2, hg2⟩ : ∃ g, g = w.heap.size + 1 := ⟨_, rfl⟩
  rw [← hg2]
  obtain ⟨g3, hg3⟩ : ∃ g, g = g2 + 1 := ⟨_, rfl⟩
  rw [← hg3]
  have k2 : Blk W0 g2 [.int .u64 0, .slice none 0 0] 33 := by rw [hW0]; exact (Blk.new' _ _ _ _ (by rw [hg2]; simp)).alloc _
  have k3 : Blk W0 g3 [.int .u64 (s : Int), .slice none 0 0] 33 := by rw [hW0]; exact Blk.new' _ _ _ _ (by rw [hg3, hg2]; simp)
  have hB0 : Below w.heap.size w W0 := by rw [hW0]; exact below_al (below_al (below_al (Below.refl _ w) _) _) _
  rw [← hW0]
  have h23 : g2 ≠ g3 := by omega
  have hg2w : w.heap.size ≤ g2 := by omega
  have hg3w : w.heap.size ≤ g3 := by omega
  have HK := Lib.hid (And.intro k2 (And.intro k3 hB0))
  clear k2 k3 hB0 hW0 hg2 hg3
  go_loopw [12] (fun cv wr => ∃ (i : Nat) (A1 : Option Addr) (c1 : Nat), i ≤ n ∧ cv = .int .i64 (i : Int) ∧ Blk wr g3 [.int .u64 (s : Int), .slice A1 i c1] 33 ∧ Blk wr g2 [.int .u64 0, .slice none 0 0] 33 ∧ OwnG wr w.heap.size 67 2 A1 i c1 ((O.take i).map DO) ∧ Below w.heap.size w wr) (fun cv _ => n - (intOf cv).toNat)
  case atStart => exact ⟨0, none, 0, Nat.zero_le _, rfl, HK.out.2.1, HK.out.1, OwnG.nil _ _ _ _, HK.out.2.2⟩
  case round =>
    obtain ⟨i, A1, c1, hin, rfl, k3, k2, hown, hbel⟩ := hrel
    by_cases hlt : i < n
    · have hlt' : (i : Int) < (n : Int) := by omega
      obtain ⟨b, off, hl, rfl, hb, X, m, c', hrg, h1, h2, h3, hv64⟩ := (HR.out.below hbel).at_ hlt
      have sc0 : wr.cell? ⟨b, off + i * 2, none⟩ = some (.int .u64 (O[i].1 : Int)) := hrg 0 _ rfl
      have sc1 : wr.cell? ⟨b, off + i * 2 + 1, none⟩ = some (.slice X m c') := hrg 1 _ rfl
      have HN : Hid ((O.take (i + 1)).map DO = (O.take i).map DO ++ [DO O[i]]) := Lib.hid (by rw [List.take_succ_eq_append_getElem hl, List.map_append]; rfl)
      obtain ⟨v, hv⟩ : ∃ z, z = O[i].1 := ⟨_, rfl⟩
      obtain ⟨t, ht⟩ : ∃ z, z = O[i].2 := ⟨_, rfl⟩
      obtain ⟨S, hS⟩ : ∃ z : ByteArray, z = ⟨t.toArray⟩ := ⟨_, rfl⟩
      have HD : Hid (DO O[i] = [.int .u64 (v : Int), .string S]) := Lib.hid (by rw [hS, ht, hv]; rfl)
      rw [HD.out] at HN
      rw [← hv] at sc0
      rw [← ht] at h3
      unfold maxLen at h2
      clear hrg hv ht hv64
      go_upto_region 5 with fail
      have hba : Below wr.heap.size wr (wr.alloc (.cells #[.int .u64 (v : Int), .slice X m c'] 60)) := (Below.refl _ wr).alloc (Nat.le_refl _) _
      have k5 : Blk (wr.alloc (.cells #[.int .u64 (v : Int), .slice X m c'] 60)) wr.heap.size [.int .u64 (v : Int), .slice X m c'] 60 := Blk.new wr _ _
      obtain ⟨w5, hw5⟩ : ∃ z, z = wr.alloc (.cells #[.int .u64 (v : Int), .slice X m c'] 60) := ⟨_, rfl⟩
      rw [← hw5] at hba k5
      rw [← hw5]
      obtain ⟨g5, hg5⟩ : ∃ z, z = wr.heap.size := ⟨_, rfl⟩
      rw [← hg5] at k5
      rw [← hg5]
      have k3 := k3.below hba k3.lt
      have k2 := k2.below hba k2.lt
      have hown := hown.up hba
      have hcv0 := conv8 w5 X m c' t (h3.below hba)
      have hcv : (convert 22 9 (.slice X m c')).run Try.prog w5 = .ok (.string S) w5 := by rw [hS]; exact hcv0
      have hbel := below_more hbel hba
      have s3 : w5.cell? ⟨g3, 1, none⟩ = some (.slice A1 i c1) := k3.cell 1
      have s50 : w5.cell? ⟨g5, 0, none⟩ = some (.int .u64 (v : Int)) := k5.cell 0
      have s51 : w5.cell? ⟨g5, 1, none⟩ = some (.slice X m c') := k5.cell 1
      have HH := Lib.hid (And.intro k3 (And.intro k2 (And.intro hown hbel)))
      clear hba k5 hw5 hg5 k3 k2 hown hcv0 hS h3 hbel hb sc0 sc1 HD hl
      go_wp2_with (first
        | ((with_reducible refine at_bsX 31 1 #[(0, .tmp 23)] ?_); refine wpList_bsG rfl 31 67 2 24 (.agg zDO.toArray) [.int .u64 (v : Int), .string S] rfl Try.underlying31 infoDO (by decide) (by decide) zDO zDO_arr rfl (.tmp 23) rfl (by first | rfl | simp [Act.eval]) ?_; intro g w1 hb1 hg1 hl1 hB1)
        | ((with_reducible refine at_appX 31 (.tmp 17) (.tmp 24) ?_); refine wpList_appG rfl 31 67 2 24 (.agg zDO.toArray) Try.underlying31 infoDO rfl (by decide) (by decide) (by decide) (.tmp 17) (.tmp 24) rfl w.heap.size w (below_more HH.out.2.2.2 hB1) (Nat.le_refl _) A1 i c1 ((O.take i).map DO) (by first | rfl | simp [Act.eval]) (HH.out.2.2.1.up hB1) ⟨g, 0, none⟩ rfl 1 1 (by decide) [[.int .u64 (v : Int), .string S]] (by first | rfl | simp [Act.eval]) (hb1.rdG rfl) (fun y hy u hu => by rw [List.mem_singleton.1 hy] at hu; simp at hu; rcases hu with rfl | rfl <;> rfl) (by omega) ?_; intro A3 c3 w2 ho2 hf2 hB2
           have j3 := (HH.out.1.below hB1 HH.out.1.lt).appG (HH.out.2.2.1.up hB1) (by decide) hf2
           have j2 := (HH.out.2.1.below hB1 HH.out.2.1.lt).appG (HH.out.2.2.1.up hB1) (by decide) hf2
           have s31 : w2.cell? ⟨g3, 1, none⟩ = some (.slice A1 i c1) := j3.cell 1
           have f31 : w2.frozen? ⟨g3, 1, none⟩ = false := j3.free 1))
      go_roundw
      case rel => exact ⟨i + 1, A3, c3, by omega, by go_num, j3.set 1 _, j2.set_other ⟨g3, 1, none⟩ _ h23, by rw [HN.out]; exact ho2.setB j3 (by decide), hB2.setCell (p := ⟨g3, 1, none⟩) hg3w _⟩
      case measure => simp [intOf]; omega
    · have hlt' : ¬ (i : Int) < (n : Int) := by omega
      have e : i = n := by omega
      subst e
      rw [List.take_of_length_le (by rw [HL.out]; omega)] at hown
      have s30 : wr.cell? ⟨g3, 0, none⟩ = some (.int .u64 (s : Int)) := k3.cell 0
      have s31 : wr.cell? ⟨g3, 1, none⟩ = some (.slice A1 i c1) := k3.cell 1
      have s20 : wr.cell? ⟨g2, 0, none⟩ = some (.int .u64 0) := k2.cell 0
      have s21 : wr.cell? ⟨g2, 1, none⟩ = some (.slice none 0 0) := k2.cell 1
      have f20 : wr.frozen? ⟨g2, 0, none⟩ = false := k2.free 0
      have f21 : wr.frozen? ⟨g2, 1, none⟩ = false := k2.free 1
      have HH := Lib.hid (And.intro hown (And.intro k2 hbel))
      clear hown k2 k3 hbel
      go_wp2
      have kz := (HH.out.2.1.set 0 (.int .u64 (s : Int))).set 1 (.slice A1 i c1)
      refine bodyPost_ret (v := .agg #[.int .u64 (s : Int), .slice A1 i c1]) ?_ rfl ?_
      · exact results_one Try.results10 _ _ g2 33 _ (0, 0) _ (by rfl) kz Try.underlying33 rfl I2tx
      · exact ⟨A1, c1, rfl, (HH.out.1.setB HH.out.2.1 (by decide)).setB (HH.out.2.1.set 0 _) (by decide), (HH.out.2.2.setCell (p := ⟨g2, 0, none⟩) hg2w _).setCell (p := ⟨g2, 1, none⟩) hg2w _⟩
end Go.Proofs.Ythkkllcpogagiaa
