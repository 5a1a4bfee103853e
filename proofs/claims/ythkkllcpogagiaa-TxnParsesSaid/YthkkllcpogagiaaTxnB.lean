/- The document's Same, of one and the same, and its Sum of layer 14. -/
import Derived.Test.YthkkllcpogagiaaTxnA
namespace Go.Proofs.Ythkkllcpogagiaa
open Go.RowKit
set_option linter.unusedVariables false
set_option linter.unusedSimpArgs false

set_option maxRecDepth 100000 in
set_option maxHeartbeats 4000000 in
theorem tsame_calls (s : Nat) (A B : Option Addr) (n c d : Nat) (O : List (Nat × List UInt8)) (w : World) (hA : RdG w 2 A n (O.map DO)) (hB : RdG w 2 B n (O.map DO)) (hn : n ≤ 1000) :
    Calls Try.prog 9 #[.agg #[.int .u64 (s : Int), .slice A n c], .agg #[.int .u64 (s : Int), .slice B n d]] w (Ret w (.bool true)) := by
  have hln : O.length = n := by have := hA.len; simpa using this
  have HA := Lib.hid hA
  have HB := Lib.hid hB
  have HL := Lib.hid hln
  clear hA hB hln
  go_enter Try.func9, Try.ntmps9
  go_upto_region 1 with fail
  obtain ⟨W0, hW0⟩ : ∃ z, z = (w.alloc (.cells #[.int .u64 (s : Int), .slice A n c] 33)).alloc (.cells #[.int .u64 (s : Int), .slice B n d] 33) := ⟨_, rfl⟩
  obtain ⟨g2, hg2⟩ : ∃ g, g = w.heap.size := ⟨_, rfl⟩
  rw [← hg2]
  obtain ⟨g3, hg3⟩ : ∃ g, g = g2 + 1 := ⟨_, rfl⟩
  rw [← hg3]
  have k2 : Blk W0 g2 [.int .u64 (s : Int), .slice A n c] 33 := by rw [hW0]; exact (Blk.new' _ _ _ _ (by rw [hg2])).alloc _
  have k3 : Blk W0 g3 [.int .u64 (s : Int), .slice B n d] 33 := by rw [hW0]; exact Blk.new' _ _ _ _ (by rw [hg3, hg2]; simp)
  have hB0 : Below w.heap.size w W0 := by rw [hW0]; exact below_al (below_al (Below.refl _ w) _) _
  rw [← hW0]
  have s20 : W0.cell? ⟨g2, 0, none⟩ = some (.int .u64 (s : Int)) := k2.cell 0
  have s21 : W0.cell? ⟨g2, 1, none⟩ = some (.slice A n c) := k2.cell 1
  have s30 : W0.cell? ⟨g3, 0, none⟩ = some (.int .u64 (s : Int)) := k3.cell 0
  have s31 : W0.cell? ⟨g3, 1, none⟩ = some (.slice B n d) := k3.cell 1
  have HK := Lib.hid (And.intro k2 (And.intro k3 hB0))
  clear k2 k3 hB0 hW0 hg2 hg3
  go_upto_region 4 with fail
  clear s20 s21 s30 s31
  go_loopw [23] (fun cv wr => ∃ (i : Nat), i ≤ n ∧ cv = .int .i64 (i : Int) ∧ Below W0.heap.size W0 wr) (fun cv _ => n - (intOf cv).toNat)
  case atStart => exact ⟨0, Nat.zero_le _, rfl, Below.refl _ _⟩
  case round =>
    obtain ⟨i, hin, rfl, hbel⟩ := hrel
    have hbw : Below w.heap.size w wr := HK.out.2.2.trans (hbel.mono HK.out.2.2.size)
    by_cases hlt : i < n
    · have hlt' : (i : Int) < (n : Int) := by omega
      obtain ⟨b1, o1, hl1, rfl, hb1, r1⟩ := (HA.out.below hbw).at_ hlt
      obtain ⟨b2, o2, hl2, rfl, hb2, r2⟩ := (HB.out.below hbw).at_ hlt
      rw [List.getElem_map] at r1 r2
      obtain ⟨v, hv⟩ : ∃ z, z = (O[i]'(by rw [HL.out]; exact hlt)).1 := ⟨_, rfl⟩
      obtain ⟨Z, hZ⟩ : ∃ z : ByteArray, z = ⟨(O[i]'(by rw [HL.out]; exact hlt)).2.toArray⟩ := ⟨_, rfl⟩
      have hD : DO (O[i]'(by rw [HL.out]; exact hlt)) = [.int .u64 (v : Int), .string Z] := by rw [hZ, hv]; rfl
      rw [hD] at r1 r2
      have s2 : wr.cell? ⟨g2, 1, none⟩ = some (.slice (some ⟨b1, o1, none⟩) n c) := (HK.out.1.below hbel HK.out.1.lt).cell 1
      have s3 : wr.cell? ⟨g3, 1, none⟩ = some (.slice (some ⟨b2, o2, none⟩) n d) := (HK.out.2.1.below hbel HK.out.2.1.lt).cell 1
      have HBD : Hid (Below W0.heap.size W0 wr.drew) := Lib.hid hbel.drew
      clear hv hZ hD hbel hbw hb1 hb2 hl1 hl2
      go_upto_region 6 with fail
      refine wp_region_held_drew (S := fun W => W.cell? ⟨g2, 1, none⟩ = some (.slice (some ⟨b1, o1, none⟩) n c) ∧ W.cell? ⟨g3, 1, none⟩ = some (.slice (some ⟨b2, o2, none⟩) n d) ∧ W.rangeAt b1 (o1 + i * 2) [.int .u64 (v : Int), .string Z] ∧ W.rangeAt b2 (o2 + i * 2) [.int .u64 (v : Int), .string Z]) (by kernel_rfl) ?_ (fun hHeld => ?_)
      · exact ⟨s2, s3, r1, r2⟩
      refine wpAnyH_take (i := 0) (v := ?_) rfl (by kernel_rfl) (by kernel_rfl) (by kernel_rfl) (fun _ _ _ h => h) (Or.inl ⟨by rfl, ?_⟩) (by assumption) ?_
      rotate_left 1
      · intro w hSw; (try dsimp only at hSw); simp only [List.getElem_toArray, List.getElem_cons_succ, List.getElem_cons_zero]; go_simp; try (with_reducible rfl)
      (try simp only [List.getElem_toArray, List.getElem_cons_succ, List.getElem_cons_zero, Act.put, List.setIfInBounds_toArray, List.set_cons_succ, List.set_cons_zero])
      refine wpAnyH_take (i := 1) (v := .slice (some ⟨b1, o1, none⟩) n c) rfl (by kernel_rfl) (by kernel_rfl) (by kernel_rfl) (fun _ _ _ h => h) (Or.inl ⟨by rfl, ?_⟩) (by assumption) ?_
      · intro w hSw; (try dsimp only at hSw); simp only [List.getElem_toArray, List.getElem_cons_succ, List.getElem_cons_zero]; first | (go_simp; done) | (simp [execOp, Act.eval, hSw.1]; done)
      (try simp only [List.getElem_toArray, List.getElem_cons_succ, List.getElem_cons_zero, Act.put, List.setIfInBounds_toArray, List.set_cons_succ, List.set_cons_zero])
      refine wpAnyH_take (i := 2) (v := ?_) rfl (by kernel_rfl) (by kernel_rfl) (by kernel_rfl) (fun _ _ _ h => h) (Or.inl ⟨by rfl, ?_⟩) (by assumption) ?_
      rotate_left 1
      · intro w hSw; (try dsimp only at hSw); simp only [List.getElem_toArray, List.getElem_cons_succ, List.getElem_cons_zero]; go_simp; try (with_reducible rfl)
      (try simp only [List.getElem_toArray, List.getElem_cons_succ, List.getElem_cons_zero, Act.put, List.setIfInBounds_toArray, List.set_cons_succ, List.set_cons_zero])
      refine wpAnyH_take (i := 3) (v := ?_) rfl (by kernel_rfl) (by kernel_rfl) (by kernel_rfl) (fun _ _ _ h => h) (Or.inl ⟨by rfl, ?_⟩) (by assumption) ?_
      rotate_left 1
      · intro w hSw; (try dsimp only at hSw); simp only [List.getElem_toArray, List.getElem_cons_succ, List.getElem_cons_zero]; go_simp; try (with_reducible rfl)
      (try simp only [List.getElem_toArray, List.getElem_cons_succ, List.getElem_cons_zero, Act.put, List.setIfInBounds_toArray, List.set_cons_succ, List.set_cons_zero])
      refine wpAnyH_take (i := 4) rfl (by kernel_rfl) (by kernel_rfl) (by kernel_rfl) (fun _ _ _ h => h) (yieldsIf_load_mid (by rfl) _ _ rfl _ _ rfl [.int .u64 (v : Int), .string Z] _ (fun w hSw => hSw.2.2.1) Try.underlying67 rfl (by kernel_rfl)) (by assumption) ?_
      (try simp only [List.getElem_toArray, List.getElem_cons_succ, List.getElem_cons_zero, Act.put, List.setIfInBounds_toArray, List.set_cons_succ, List.set_cons_zero])
      refine wpAnyH_take (i := 5) (v := ?_) rfl (by kernel_rfl) (by kernel_rfl) (by kernel_rfl) (fun _ _ _ h => h) (Or.inl ⟨by rfl, ?_⟩) (by assumption) ?_
      rotate_left 1
      · intro w hSw; (try dsimp only at hSw); simp only [List.getElem_toArray, List.getElem_cons_succ, List.getElem_cons_zero]; go_simp; try (with_reducible rfl)
      (try simp only [List.getElem_toArray, List.getElem_cons_succ, List.getElem_cons_zero, Act.put, List.setIfInBounds_toArray, List.set_cons_succ, List.set_cons_zero])
      refine wpAnyH_take (i := 6) (v := .slice (some ⟨b2, o2, none⟩) n d) rfl (by kernel_rfl) (by kernel_rfl) (by kernel_rfl) (fun _ _ _ h => h) (Or.inl ⟨by rfl, ?_⟩) (by assumption) ?_
      · intro w hSw; (try dsimp only at hSw); simp only [List.getElem_toArray, List.getElem_cons_succ, List.getElem_cons_zero]; first | (go_simp; done) | (simp [execOp, Act.eval, hSw.2.1]; done)
      (try simp only [List.getElem_toArray, List.getElem_cons_succ, List.getElem_cons_zero, Act.put, List.setIfInBounds_toArray, List.set_cons_succ, List.set_cons_zero])
      refine wpAnyH_take (i := 7) (v := ?_) rfl (by kernel_rfl) (by kernel_rfl) (by kernel_rfl) (fun _ _ _ h => h) (Or.inl ⟨by rfl, ?_⟩) (by assumption) ?_
      rotate_left 1
      · intro w hSw; (try dsimp only at hSw); simp only [List.getElem_toArray, List.getElem_cons_succ, List.getElem_cons_zero]; go_simp; try (with_reducible rfl)
      (try simp only [List.getElem_toArray, List.getElem_cons_succ, List.getElem_cons_zero, Act.put, List.setIfInBounds_toArray, List.set_cons_succ, List.set_cons_zero])
      refine wpAnyH_take (i := 8) (v := ?_) rfl (by kernel_rfl) (by kernel_rfl) (by kernel_rfl) (fun _ _ _ h => h) (Or.inl ⟨by rfl, ?_⟩) (by assumption) ?_
      rotate_left 1
      · intro w hSw; (try dsimp only at hSw); simp only [List.getElem_toArray, List.getElem_cons_succ, List.getElem_cons_zero]; go_simp; try (with_reducible rfl)
      (try simp only [List.getElem_toArray, List.getElem_cons_succ, List.getElem_cons_zero, Act.put, List.setIfInBounds_toArray, List.set_cons_succ, List.set_cons_zero])
      refine wpAnyH_take (i := 9) rfl (by kernel_rfl) (by kernel_rfl) (by kernel_rfl) (fun _ _ _ h => h) (yieldsIf_load_mid (by rfl) _ _ rfl _ _ rfl [.int .u64 (v : Int), .string Z] _ (fun w hSw => hSw.2.2.2) Try.underlying67 rfl (by kernel_rfl)) (by assumption) ?_
      (try simp only [List.getElem_toArray, List.getElem_cons_succ, List.getElem_cons_zero, Act.put, List.setIfInBounds_toArray, List.set_cons_succ, List.set_cons_zero])
      refine wpAnyH_take (i := 10) (v := .bool false) rfl (by kernel_rfl) (by kernel_rfl) (by kernel_rfl) (fun _ _ _ h => h) (Or.inl ⟨by rfl, ?_⟩) (by assumption) ?_
      · intro w hSw; (try dsimp only at hSw); simp only [List.getElem_toArray, List.getElem_cons_succ, List.getElem_cons_zero]; first | (go_simp; done) | (simp [execOp, Act.eval, NEQ.out v Z]; done)
      (try simp only [List.getElem_toArray, List.getElem_cons_succ, List.getElem_cons_zero, Act.put, List.setIfInBounds_toArray, List.set_cons_succ, List.set_cons_zero])
      refine wpAnyH_done (by kernel_rfl) ?_ _
      go_wp2
      go_roundw
      case rel => exact ⟨i + 1, by omega, by go_num, HBD.out⟩
      case measure => simp [intOf]; omega
    · have hlt' : ¬ (i : Int) < (n : Int) := by omega
      have HBB := Lib.hid hbw
      clear hbel hbw
      go_wp2
      go_ret
      exact ⟨rfl, HBB.out⟩
end Go.Proofs.Ythkkllcpogagiaa
