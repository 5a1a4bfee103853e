/- Proved: for every list of up to 20 hashes, every place in it and every hash: a path that is one too long, or one too short, is none's. The argument reads as it did. The condition is the card's own: sha2's two tables are as they are laid. -/
import Derived.Test.YtnfcnjboeocnmaaDoorRows
import Derived.Test.YtnfcnjboeocnmaaDoorMbn
import Derived.Test.YtnfcnjboeocnmaaDoorMaz
import Derived.Test.YtnfcnjboeocnmaaDoorMbp
import Derived.Test.YtnfcnjboeocnmaaDoorMay
import Derived.Deep.RegionHeld3
import Derived.Deep.DeepCutAuto
import Derived.ProofKit
import Derived.OpenShut
import Derived.ShutString
import Derived.ChangeOld
import Derived.Test.YtnfcnjboeocnmaaDoorMac
import Derived.Test.YtnfcnjboeocnmaaDoorMal
import Derived.Test.YtnfcnjboeocnmaaDoorTie
import Derived.Test.YtnfcnjboeocnmaaDoorCards
import Derived.SevenTiedAt
namespace Go.Proofs.YtnfcnjboeocnmaaDoor.branchLevels
open Go.ChangeShapes Go.WideShapes Go.ChangeAt Go.RowKit
open Go.ChangeMaps (open_string shut_string)
set_option linter.unusedVariables false
set_option linter.unusedSimpArgs false

set_option maxRecDepth 100000 in
theorem own : ownKnob Tryd.prog.godebug = none := by kernel_rfl
set_option maxRecDepth 100000 in
theorem laidOut : laidOutB Tryd.prog = true := by kernel_rfl

set_option maxRecDepth 100000 in
set_option maxHeartbeats 4000000 in
theorem asleepA (A : Option Addr) (n c : Nat) (k : Int) (HC : List Value) (w : World) (CA : Hid (∀ W, Below w.heap.size w W → Calls Tryd.prog 8 #[] W (Ret W (.bool true)))) (h1 : (20 : Int) < (n : Int)) : Calls Tryd.prog 6 #[.slice A n c, .int .i64 k, .agg HC.toArray] w (Ret w (.bool true)) := by
  have hB0 : Below w.heap.size w (w.alloc (.cells HC.toArray 35)) := below_al (Below.refl _ _) _
  go_enter Tryd.func6, Tryd.ntmps6
  go_wp2_with (go_at_call 8; refine (CA.out _ hB0).mono ?_; rintro e' v9 ⟨rfl, d9⟩)
  go_ret
  exact ⟨rfl, below_more hB0 d9⟩
set_option maxRecDepth 100000 in
set_option maxHeartbeats 4000000 in
theorem asleepB (A : Option Addr) (n c : Nat) (k : Int) (HC : List Value) (w : World) (CA : Hid (∀ W, Below w.heap.size w W → Calls Tryd.prog 8 #[] W (Ret W (.bool true)))) (h1 : ¬ (20 : Int) < (n : Int)) (h2 : k < 0) : Calls Tryd.prog 6 #[.slice A n c, .int .i64 k, .agg HC.toArray] w (Ret w (.bool true)) := by
  have hB0 : Below w.heap.size w (w.alloc (.cells HC.toArray 35)) := below_al (Below.refl _ _) _
  go_enter Tryd.func6, Tryd.ntmps6
  go_wp2_with (go_at_call 8; refine (CA.out _ hB0).mono ?_; rintro e' v9 ⟨rfl, d9⟩)
  go_ret
  exact ⟨rfl, below_more hB0 d9⟩
set_option maxRecDepth 100000 in
set_option maxHeartbeats 4000000 in
theorem asleepC (A : Option Addr) (n c : Nat) (k : Int) (HC : List Value) (w : World) (CA : Hid (∀ W, Below w.heap.size w W → Calls Tryd.prog 8 #[] W (Ret W (.bool true)))) (h1 : ¬ (20 : Int) < (n : Int)) (h2 : ¬ k < 0) (h3 : (n : Int) ≤ k) : Calls Tryd.prog 6 #[.slice A n c, .int .i64 k, .agg HC.toArray] w (Ret w (.bool true)) := by
  have hB0 : Below w.heap.size w (w.alloc (.cells HC.toArray 35)) := below_al (Below.refl _ _) _
  go_enter Tryd.func6, Tryd.ntmps6
  go_wp2_with (go_at_call 8; refine (CA.out _ hB0).mono ?_; rintro e' v9 ⟨rfl, d9⟩)
  go_ret
  exact ⟨rfl, below_more hB0 d9⟩
set_option maxRecDepth 100000 in
set_option maxHeartbeats 4000000 in
theorem main (n c i b off D E1 : Nat) (l P : List (List UInt8)) (hh : List UInt8) (X HC : List Value) (w : World) (CA : Hid (∀ W, Below w.heap.size w W → Calls Tryd.prog 8 #[] W (Ret W (.bool true)))) (n1 : ¬ (20 : Int) < (n : Int)) (n2 : ¬ (i : Int) < 0) (n3 : ¬ (n : Int) ≤ (i : Int)) (n4 : (i : Int) < (n : Int)) (hb : b < w.heap.size) (hga : w.rangeAt b (off + i * 32) X) (IX : Hid ((Tryd.prog.info? 35).map (·.size) = some X.length)) (IH : Hid ((Tryd.prog.info? 35).map (·.size) = some HC.length)) (LHC : Hid (HC.length = 32)) (hHC : Hid (HC = hh.map B8)) (hh32 : Hid (hh.length = 32)) (HE1 : Hid (E1 = D + 1)) (hD6 : D ≤ 6)
    (CM : Hid (∀ W, Below w.heap.size w W → Calls Tryd.prog 9 #[.slice (some ⟨b, off, none⟩) n c, .int .i64 (i : Int)] W fun e w' => ∃ A' c', e = .returned (.tuple #[.agg #[.int .i64 (n : Int), .int .i64 (i : Int), .slice A' D c'], .int .i64 0]) ∧ RdH w' A' D P ∧ D ≤ c' ∧ Below W.heap.size W w'))
    (CL1 : Hid (∀ (W : World) (A' : Option Addr) (c' : Nat), Calls Tryd.prog 18 #[.agg #[.int .i64 (n : Int), .int .i64 (i : Int), .slice A' E1 c']] W (Ret W (.int .i64 3))))
    (CL2 : Hid (∀ (W : World) (A' : Option Addr) (c' : Nat), RdH W A' E1 (P ++ [hh]) → Below w.heap.size w W → Calls Tryd.prog 13 #[.agg #[.int .i64 (n : Int), .int .i64 (i : Int), .slice A' E1 c'], .agg HC.toArray, .agg X.toArray] W (Ret W (.int .i64 3))))
    (CS0 : Hid (1 ≤ D → ∀ (W : World) (A' : Option Addr) (c' : Nat), RdH W A' (D - 1) (P.drop 1) → Below w.heap.size w W → Calls Tryd.prog 15 #[.agg #[.int .i64 (n : Int), .int .i64 (i : Int), .slice A' (D - 1) c'], .agg X.toArray] W (Ret W (.tuple #[.agg z32.toArray, .int .i64 3])))) :
    Calls Tryd.prog 6 #[.slice (some ⟨b, off, none⟩) n c, .int .i64 (i : Int), .agg HC.toArray] w (Ret w (.bool true)) := by
  obtain ⟨w0, hw0⟩ : ∃ x, x = w.alloc (.cells HC.toArray 35) := ⟨_, rfl⟩
  have hs0 : w0.heap.size = w.heap.size + 1 := by rw [hw0]; simp
  have hB0 : Below w.heap.size w w0 := by rw [hw0]; exact below_al (Below.refl _ _) _
  have hk0 : Blk w0 w.heap.size HC 35 := by rw [hw0]; exact Blk.new w _ _
  have hw1 : w.alloc (.cells HC.toArray 35) = w0 := hw0.symm
  have BRL : ∀ (A' : Option Addr) (c' : Nat) W, (Instr.build 25 #[(0, .int .i64 (n : Int)), (1, .int .i64 (i : Int)), (2, .slice A' E1 c')]).run Tryd.prog W = .ok (.agg #[.int .i64 (n : Int), .int .i64 (i : Int), .slice A' E1 c']) W := fun A' c' W => run_build W _ _ _ (by kernel_rfl)
  clear hw0
  go_enter Tryd.func6, Tryd.ntmps6
  go_upto_region 1 with fail
  try rw [hw1]
  clear hw1
  go_upto_region 6 with (first
    | (go_at_call 9; refine (CM.out _ hB0).mono ?_; rintro e' x1 ⟨A1, c1, rfl, hr1, hc1, d1⟩)
    | ((with_reducible refine at_alloc 25 ?_); refine wpList_allocT rfl 25 [.int .i64 0, .int .i64 0, .slice none 0 0] Z3b rfl w.heap.size w (below_more hB0 d1) (Nat.le_refl _) ?_; intro g7 x2 hbx2 hgx2 hlx2 hfx2 hBx2)
    | ((with_reducible refine at_store 25 (.tmp 7) (.tmp 31) ?_); refine wpList_store_blk rfl 25 (.tmp 7) (.tmp 31) rfl (g7) [.int .i64 0, .int .i64 0, .slice none 0 0] [.int .i64 (n : Int), .int .i64 (i : Int), .slice A1 D c1] 25 rfl rfl (hbx2) rfl I3b (by simp [Value.oneCell']) ?_; intro x3 hx3 hox3))
  have hs1 := d1.size
  have h13 : Below x1.heap.size x1 x3 := (hfx2.below (Nat.le_refl _) (fun _ h => h.elim)).trans (hox3.below (by omega))
  have h03 : Below w0.heap.size w0 x3 := below_more d1 h13
  have hB3 : Below w.heap.size w x3 := below_more hB0 h03
  have HRP := Lib.hid (hr1.below h13)
  have hk7 := hx3
  have hk03 := hk0.up h03
  have K6 : Hid (∀ W, Below x3.heap.size x3 W → W.cell? ⟨g7, 0, none⟩ = some (.int .i64 (n : Int)) ∧ W.cell? ⟨g7, 1, none⟩ = some (.int .i64 (i : Int)) ∧ W.cell? ⟨g7, 2, none⟩ = some (.slice A1 D c1) ∧ W.rangeAt (w.heap.size) 0 HC) := Lib.hid fun W h => ⟨(hk7.up h).cell 0, (hk7.up h).cell 1, (hk7.up h).cell 2, (hk03.up h).range⟩
  clear hbx2 hfx2 hBx2 hox3 hr1 d1 hs1 hx3 hk0 hs0 CM h13
  go_cut [9] from 35 to 46 (fun p9 wx => ∃ (g9 : Nat) (A3 : Option Addr) (c3 : Nat), p9 = .pointer (some ⟨g9, 0, none⟩) ∧ Blk wx g9 [.int .i64 (n : Int), .int .i64 (i : Int), .slice A3 E1 c3] 25 ∧ RdH wx A3 E1 (P ++ [hh]) ∧ Below x3.heap.size x3 wx)
  case first =>
    have hBc := below_dr (Below.refl x3.heap.size x3)
    refine wp_region_held_drew (S := fun W => W.cell? ⟨g7, 0, none⟩ = some (.int .i64 (n : Int)) ∧ W.cell? ⟨g7, 1, none⟩ = some (.int .i64 (i : Int)) ∧ W.cell? ⟨g7, 2, none⟩ = some (.slice A1 D c1) ∧ W.rangeAt (w.heap.size) 0 HC) (by kernel_rfl) ?_ (fun hHeld => ?_)
    · exact K6.out _ hBc
    refine wpAnyH_take (i := 0) (v := ?_) rfl (by kernel_rfl) (by kernel_rfl) (by kernel_rfl) (fun _ _ _ h => h) (Or.inl ⟨by rfl, ?_⟩) (by assumption) ?_
    rotate_left 1
    · intro w hSw; (try dsimp only at hSw); simp only [List.getElem_toArray, List.getElem_cons_succ, List.getElem_cons_zero]; go_simp; try (with_reducible rfl)
    (try simp only [List.getElem_toArray, List.getElem_cons_succ, List.getElem_cons_zero, Act.put, List.setIfInBounds_toArray, List.set_cons_succ, List.set_cons_zero])
    refine wpAnyH_take (i := 1) (v := ?_) rfl (by kernel_rfl) (by kernel_rfl) (by kernel_rfl) (fun _ _ _ h => h) (Or.inl ⟨by rfl, ?_⟩) (by assumption) ?_
    rotate_left 1
    · intro w hSw; (try dsimp only at hSw); simp only [List.getElem_toArray, List.getElem_cons_succ, List.getElem_cons_zero]; go_simp; try (with_reducible rfl)
    (try simp only [List.getElem_toArray, List.getElem_cons_succ, List.getElem_cons_zero, Act.put, List.setIfInBounds_toArray, List.set_cons_succ, List.set_cons_zero])
    refine wpAnyH_take (i := 2) (v := ?_) rfl (by kernel_rfl) (by kernel_rfl) (by kernel_rfl) (fun _ _ _ h => h) (Or.inl ⟨by rfl, ?_⟩) (by assumption) ?_
    rotate_left 1
    · intro w hSw; (try dsimp only at hSw); simp only [List.getElem_toArray, List.getElem_cons_succ, List.getElem_cons_zero]; go_simp; try (with_reducible rfl)
    (try simp only [List.getElem_toArray, List.getElem_cons_succ, List.getElem_cons_zero, Act.put, List.setIfInBounds_toArray, List.set_cons_succ, List.set_cons_zero])
    refine wpAnyH_take (i := 3) (v := ?_) rfl (by kernel_rfl) (by kernel_rfl) (by kernel_rfl) (fun _ _ _ h => h) (Or.inl ⟨by rfl, ?_⟩) (by assumption) ?_
    rotate_left 1
    · intro w hSw; (try dsimp only at hSw); simp only [List.getElem_toArray, List.getElem_cons_succ, List.getElem_cons_zero]; go_simp; try (with_reducible rfl)
    (try simp only [List.getElem_toArray, List.getElem_cons_succ, List.getElem_cons_zero, Act.put, List.setIfInBounds_toArray, List.set_cons_succ, List.set_cons_zero])
    refine wpAnyH_take (i := 5) (v := ?_) rfl (by kernel_rfl) (by kernel_rfl) (by kernel_rfl) (fun _ _ _ h => h) (Or.inl ⟨by rfl, ?_⟩) (by assumption) ?_
    rotate_left 1
    · intro w hSw; (try dsimp only at hSw); simp only [List.getElem_toArray, List.getElem_cons_succ, List.getElem_cons_zero]; go_simp; try (with_reducible rfl)
    (try simp only [List.getElem_toArray, List.getElem_cons_succ, List.getElem_cons_zero, Act.put, List.setIfInBounds_toArray, List.set_cons_succ, List.set_cons_zero])
    refine wpAnyH_take (i := 6) (v := ?_) rfl (by kernel_rfl) (by kernel_rfl) (by kernel_rfl) (fun _ _ _ h => h) (Or.inl ⟨by rfl, ?_⟩) (by assumption) ?_
    rotate_left 1
    · intro w hSw; (try dsimp only at hSw); simp only [List.getElem_toArray, List.getElem_cons_succ, List.getElem_cons_zero]; go_simp; try (with_reducible rfl)
    (try simp only [List.getElem_toArray, List.getElem_cons_succ, List.getElem_cons_zero, Act.put, List.setIfInBounds_toArray, List.set_cons_succ, List.set_cons_zero])
    refine wpAnyH_take (i := 8) rfl (by kernel_rfl) (by kernel_rfl) (by kernel_rfl) (fun _ _ _ h => h) (yieldsIf_load_mid (by rfl) _ _ rfl _ _ rfl HC _ (fun w hSw => by (try dsimp only at hSw); go_split_ands; assumption) Tryd.underlying35 rfl IH.out) (by assumption) ?_
    (try simp only [List.getElem_toArray, List.getElem_cons_succ, List.getElem_cons_zero, Act.put, List.setIfInBounds_toArray, List.set_cons_succ, List.set_cons_zero])
    refine wpAnyH_ready (rs := [4, 9, 12]) (by kernel_rfl) (by simp) ?_
    refine AllReadyH.cons rfl (fun K hK => ?_) ?_
    · (try simp only [List.getElem_toArray, List.getElem_cons_succ, List.getElem_cons_zero])
      refine Eq.mpr (if_pos (by first | rfl | simp [Region.wanted, yielded, Act.put])) ?_
      refine wp_bs0 rfl x3.heap.size x3 hBc (Nat.le_refl _) ?_
      intro g0 x0 ho hg0 hl0 hf0 hBc
      have s0 := hf0.size
      refine hK.out _ _ ?_ (fun hHeld => ?_)
      · exact K6.out _ hBc
      clear hK K
      (try simp only [Act.put, List.setIfInBounds_toArray, List.set_cons_succ, List.set_cons_zero])
      refine wpAnyH_ready (rs := [7, 9, 12]) (by kernel_rfl) (by simp) ?_
      refine AllReadyH.cons rfl (fun K hK => ?_) ?_
      · (try simp only [List.getElem_toArray, List.getElem_cons_succ, List.getElem_cons_zero])
        refine Eq.mpr (if_pos (by first | rfl | simp [Region.wanted, yielded, Act.put])) ?_
        refine wp_appZs (.tmp 39) (.tmp 41) rfl x3.heap.size x3 hBc (Nat.le_refl _) (some ⟨g0, 0, none⟩) 0 0 [] (by first | rfl | simp [Act.eval]) ho A1 D c1 P (by first | rfl | simp [Act.eval]) (HRP.out.below hBc) (by omega) ?_
        intro A7 c7 xd ho hf7 hBc
        have s7 := hf7.size
        rw [Nat.zero_add, List.nil_append] at ho
        rw [Nat.zero_add]
        refine hK.out _ _ ?_ (fun hHeld => ?_)
        · exact K6.out _ hBc
        clear hK K
        (try simp only [Act.put, List.setIfInBounds_toArray, List.set_cons_succ, List.set_cons_zero])
        refine wpAnyH_ready (rs := [9, 12]) (by kernel_rfl) (by simp) ?_
        refine AllReadyH.cons rfl (fun K hK => ?_) ?_
        · (try simp only [List.getElem_toArray, List.getElem_cons_succ, List.getElem_cons_zero])
          refine Eq.mpr (if_pos (by first | rfl | simp [Region.wanted, yielded, Act.put])) ?_
          refine wp_bs1 _ rfl HC (by first | rfl | simp [Act.eval]) LHC.out x3.heap.size x3 hBc (Nat.le_refl _) ?_
          intro g1 xb hb9 hg9 hl9 hf9 hBc
          have s9 := hf9.size
          have ho := ho.frm hf9 (fun _ _ h => h)
          refine hK.out _ _ ?_ (fun hHeld => ?_)
          · exact K6.out _ hBc
          clear hK K
          (try simp only [Act.put, List.setIfInBounds_toArray, List.set_cons_succ, List.set_cons_zero])
          refine wpAnyH_ready (rs := [10, 12]) (by kernel_rfl) (by simp) ?_
          refine AllReadyH.cons rfl (fun K hK => ?_) ?_
          · (try simp only [List.getElem_toArray, List.getElem_cons_succ, List.getElem_cons_zero])
            refine Eq.mpr (if_pos (by first | rfl | simp [Region.wanted, yielded, Act.put])) ?_
            refine wp_appHs (.tmp 42) (.tmp 44) rfl x3.heap.size x3 hBc (Nat.le_refl _) A7 D c7 P (by first | rfl | simp [Act.eval]) ho (some ⟨g1, 0, none⟩) 1 1 [hh] (by first | rfl | simp [Act.eval]) (RdH.oneV hh32.out hHC.out hb9) (by omega) (by omega) ?_
            intro A10 c10 xe ho hf10 hBc
            have s10 := hf10.size
            rw [← HE1.out] at ho
            rw [← HE1.out]
            refine hK.out _ _ ?_ (fun hHeld => ?_)
            · exact K6.out _ hBc
            clear hK K
            (try simp only [Act.put, List.setIfInBounds_toArray, List.set_cons_succ, List.set_cons_zero])
            refine wpAnyH_take (i := 11) (v := .agg #[.int .i64 (n : Int), .int .i64 (i : Int), .slice A10 E1 c10]) rfl (by kernel_rfl) (by kernel_rfl) (by kernel_rfl) (fun _ _ _ h => h) (Or.inl ⟨by rfl, ?_⟩) (by assumption) ?_
            · intro w hSw; (try dsimp only at hSw); simp only [List.getElem_toArray, List.getElem_cons_succ, List.getElem_cons_zero]; first | (simp [execOp, Act.eval, BRL]; done) | (go_simp; done)
            (try simp only [List.getElem_toArray, List.getElem_cons_succ, List.getElem_cons_zero, Act.put, List.setIfInBounds_toArray, List.set_cons_succ, List.set_cons_zero])
            refine wpAnyH_ready (rs := [12]) (by kernel_rfl) (by simp) ?_
            refine AllReadyH.cons rfl (fun K hK => ?_) AllReadyH.nil
            (try simp only [List.getElem_toArray, List.getElem_cons_succ, List.getElem_cons_zero])
            refine Eq.mpr (if_pos (by first | rfl | simp [Region.wanted, yielded, Act.put])) ?_
            have hsz := hBc.size
            refine wp_allocT 25 [.int .i64 0, .int .i64 0, .slice none 0 0] Z3b rfl x3.heap.size x3 hBc (Nat.le_refl _) ?_
            intro g12 xc hb12 hg12 hl12 hf12 hBc
            have s12 := hf12.size
            have hx12 : x3.heap.size ≤ g12 := Nat.le_trans hsz hg12
            have ho := ho.frm hf12 (fun _ _ h => h)
            refine hK.out _ _ ?_ (fun hHeld => ?_)
            · exact K6.out _ hBc
            clear hK K
            (try simp only [Act.put, List.setIfInBounds_toArray, List.set_cons_succ, List.set_cons_zero])
            refine wpAnyH_ready (rs := [13]) (by kernel_rfl) (by simp) ?_
            refine AllReadyH.cons rfl (fun K hK => ?_) AllReadyH.nil
            (try simp only [List.getElem_toArray, List.getElem_cons_succ, List.getElem_cons_zero])
            refine Eq.mpr (if_pos (by first | rfl | simp [Region.wanted, yielded, Act.put])) ?_
            have hne := ho.ne_blk hb12 (by decide)
            refine wp_store_in 25 (.tmp 9) (.tmp 46) rfl g12 [.int .i64 0, .int .i64 0, .slice none 0 0] [.int .i64 (n : Int), .int .i64 (i : Int), .slice A10 E1 c10] 25 rfl rfl hb12 rfl I3b (by simp [Value.oneCell']) ?_
            intro xf hb12 ho13
            have ho := ho.frm (Frm.only ho13 (S := fun k => k = g12) rfl) (fun k hk he => hne k hk he)
            have hBc := hBc.trans (ho13.below (by omega))
            refine hK.out _ _ ?_ (fun hHeld => ?_)
            · exact K6.out _ hBc
            clear hK K
            (try simp only [Act.put, List.setIfInBounds_toArray, List.set_cons_succ, List.set_cons_zero])
            refine wpAnyH_done (by kernel_rfl) ?_ _
            go_wp2
            go_meet
            exact ⟨g12, A10, c10, rfl, hb12, ho.rd, hBc⟩
          refine AllReadyH.cons rfl (fun K hK => ?_) AllReadyH.nil
          (try simp only [List.getElem_toArray, List.getElem_cons_succ, List.getElem_cons_zero])
          refine Eq.mpr (if_pos (by first | rfl | simp [Region.wanted, yielded, Act.put])) ?_
          have hsz := hBc.size
          refine wp_allocT 25 [.int .i64 0, .int .i64 0, .slice none 0 0] Z3b rfl x3.heap.size x3 hBc (Nat.le_refl _) ?_
          intro g12 xc hb12 hg12 hl12 hf12 hBc
          have s12 := hf12.size
          have hx12 : x3.heap.size ≤ g12 := Nat.le_trans hsz hg12
          have ho := ho.frm hf12 (fun _ _ h => h)
          have hb9 := hf12.blk hb9 (fun h => h)
          refine hK.out _ _ ?_ (fun hHeld => ?_)
          · exact K6.out _ hBc
          clear hK K
          (try simp only [Act.put, List.setIfInBounds_toArray, List.set_cons_succ, List.set_cons_zero])
          refine wpAnyH_ready (rs := [10]) (by kernel_rfl) (by simp) ?_
          refine AllReadyH.cons rfl (fun K hK => ?_) AllReadyH.nil
          (try simp only [List.getElem_toArray, List.getElem_cons_succ, List.getElem_cons_zero])
          refine Eq.mpr (if_pos (by first | rfl | simp [Region.wanted, yielded, Act.put])) ?_
          have hne12 := ho.ne_blk hb12 (by decide)
          refine wp_appHs (.tmp 42) (.tmp 44) rfl x3.heap.size x3 hBc (Nat.le_refl _) A7 D c7 P (by first | rfl | simp [Act.eval]) ho (some ⟨g1, 0, none⟩) 1 1 [hh] (by first | rfl | simp [Act.eval]) (RdH.oneV hh32.out hHC.out hb9) (by omega) (by omega) ?_
          intro A10 c10 xe ho hf10 hBc
          have s10 := hf10.size
          rw [← HE1.out] at ho
          rw [← HE1.out]
          have hb12 := hf10.blk hb12 (fun h => hne12 _ h rfl)
          refine hK.out _ _ ?_ (fun hHeld => ?_)
          · exact K6.out _ hBc
          clear hK K
          (try simp only [Act.put, List.setIfInBounds_toArray, List.set_cons_succ, List.set_cons_zero])
          refine wpAnyH_take (i := 11) (v := .agg #[.int .i64 (n : Int), .int .i64 (i : Int), .slice A10 E1 c10]) rfl (by kernel_rfl) (by kernel_rfl) (by kernel_rfl) (fun _ _ _ h => h) (Or.inl ⟨by rfl, ?_⟩) (by assumption) ?_
          · intro w hSw; (try dsimp only at hSw); simp only [List.getElem_toArray, List.getElem_cons_succ, List.getElem_cons_zero]; first | (simp [execOp, Act.eval, BRL]; done) | (go_simp; done)
          (try simp only [List.getElem_toArray, List.getElem_cons_succ, List.getElem_cons_zero, Act.put, List.setIfInBounds_toArray, List.set_cons_succ, List.set_cons_zero])
          refine wpAnyH_ready (rs := [13]) (by kernel_rfl) (by simp) ?_
          refine AllReadyH.cons rfl (fun K hK => ?_) AllReadyH.nil
          (try simp only [List.getElem_toArray, List.getElem_cons_succ, List.getElem_cons_zero])
          refine Eq.mpr (if_pos (by first | rfl | simp [Region.wanted, yielded, Act.put])) ?_
          have hne := ho.ne_blk hb12 (by decide)
          refine wp_store_in 25 (.tmp 9) (.tmp 46) rfl g12 [.int .i64 0, .int .i64 0, .slice none 0 0] [.int .i64 (n : Int), .int .i64 (i : Int), .slice A10 E1 c10] 25 rfl rfl hb12 rfl I3b (by simp [Value.oneCell']) ?_
          intro xf hb12 ho13
          have ho := ho.frm (Frm.only ho13 (S := fun k => k = g12) rfl) (fun k hk he => hne k hk he)
          have hBc := hBc.trans (ho13.below (by omega))
          refine hK.out _ _ ?_ (fun hHeld => ?_)
          · exact K6.out _ hBc
          clear hK K
          (try simp only [Act.put, List.setIfInBounds_toArray, List.set_cons_succ, List.set_cons_zero])
          refine wpAnyH_done (by kernel_rfl) ?_ _
          go_wp2
          go_meet
          exact ⟨g12, A10, c10, rfl, hb12, ho.rd, hBc⟩
        refine AllReadyH.cons rfl (fun K hK => ?_) AllReadyH.nil
        (try simp only [List.getElem_toArray, List.getElem_cons_succ, List.getElem_cons_zero])
        refine Eq.mpr (if_pos (by first | rfl | simp [Region.wanted, yielded, Act.put])) ?_
        have hsz := hBc.size
        refine wp_allocT 25 [.int .i64 0, .int .i64 0, .slice none 0 0] Z3b rfl x3.heap.size x3 hBc (Nat.le_refl _) ?_
        intro g12 xc hb12 hg12 hl12 hf12 hBc
        have s12 := hf12.size
        have hx12 : x3.heap.size ≤ g12 := Nat.le_trans hsz hg12
        have ho := ho.frm hf12 (fun _ _ h => h)
        refine hK.out _ _ ?_ (fun hHeld => ?_)
        · exact K6.out _ hBc
        clear hK K
        (try simp only [Act.put, List.setIfInBounds_toArray, List.set_cons_succ, List.set_cons_zero])
        refine wpAnyH_ready (rs := [9]) (by kernel_rfl) (by simp) ?_
        refine AllReadyH.cons rfl (fun K hK => ?_) AllReadyH.nil
        (try simp only [List.getElem_toArray, List.getElem_cons_succ, List.getElem_cons_zero])
        refine Eq.mpr (if_pos (by first | rfl | simp [Region.wanted, yielded, Act.put])) ?_
        refine wp_bs1 _ rfl HC (by first | rfl | simp [Act.eval]) LHC.out x3.heap.size x3 hBc (Nat.le_refl _) ?_
        intro g1 xb hb9 hg9 hl9 hf9 hBc
        have s9 := hf9.size
        have ho := ho.frm hf9 (fun _ _ h => h)
        have hb12 := hf9.blk hb12 (fun h => h)
        refine hK.out _ _ ?_ (fun hHeld => ?_)
        · exact K6.out _ hBc
        clear hK K
        (try simp only [Act.put, List.setIfInBounds_toArray, List.set_cons_succ, List.set_cons_zero])
        refine wpAnyH_ready (rs := [10]) (by kernel_rfl) (by simp) ?_
        refine AllReadyH.cons rfl (fun K hK => ?_) AllReadyH.nil
        (try simp only [List.getElem_toArray, List.getElem_cons_succ, List.getElem_cons_zero])
        refine Eq.mpr (if_pos (by first | rfl | simp [Region.wanted, yielded, Act.put])) ?_
        have hne12 := ho.ne_blk hb12 (by decide)
        refine wp_appHs (.tmp 42) (.tmp 44) rfl x3.heap.size x3 hBc (Nat.le_refl _) A7 D c7 P (by first | rfl | simp [Act.eval]) ho (some ⟨g1, 0, none⟩) 1 1 [hh] (by first | rfl | simp [Act.eval]) (RdH.oneV hh32.out hHC.out hb9) (by omega) (by omega) ?_
        intro A10 c10 xe ho hf10 hBc
        have s10 := hf10.size
        rw [← HE1.out] at ho
        rw [← HE1.out]
        have hb12 := hf10.blk hb12 (fun h => hne12 _ h rfl)
        refine hK.out _ _ ?_ (fun hHeld => ?_)
        · exact K6.out _ hBc
        clear hK K
        (try simp only [Act.put, List.setIfInBounds_toArray, List.set_cons_succ, List.set_cons_zero])
        refine wpAnyH_take (i := 11) (v := .agg #[.int .i64 (n : Int), .int .i64 (i : Int), .slice A10 E1 c10]) rfl (by kernel_rfl) (by kernel_rfl) (by kernel_rfl) (fun _ _ _ h => h) (Or.inl ⟨by rfl, ?_⟩) (by assumption) ?_
        · intro w hSw; (try dsimp only at hSw); simp only [List.getElem_toArray, List.getElem_cons_succ, List.getElem_cons_zero]; first | (simp [execOp, Act.eval, BRL]; done) | (go_simp; done)
        (try simp only [List.getElem_toArray, List.getElem_cons_succ, List.getElem_cons_zero, Act.put, List.setIfInBounds_toArray, List.set_cons_succ, List.set_cons_zero])
        refine wpAnyH_ready (rs := [13]) (by kernel_rfl) (by simp) ?_
        refine AllReadyH.cons rfl (fun K hK => ?_) AllReadyH.nil
        (try simp only [List.getElem_toArray, List.getElem_cons_succ, List.getElem_cons_zero])
        refine Eq.mpr (if_pos (by first | rfl | simp [Region.wanted, yielded, Act.put])) ?_
        have hne := ho.ne_blk hb12 (by decide)
        refine wp_store_in 25 (.tmp 9) (.tmp 46) rfl g12 [.int .i64 0, .int .i64 0, .slice none 0 0] [.int .i64 (n : Int), .int .i64 (i : Int), .slice A10 E1 c10] 25 rfl rfl hb12 rfl I3b (by simp [Value.oneCell']) ?_
        intro xf hb12 ho13
        have ho := ho.frm (Frm.only ho13 (S := fun k => k = g12) rfl) (fun k hk he => hne k hk he)
        have hBc := hBc.trans (ho13.below (by omega))
        refine hK.out _ _ ?_ (fun hHeld => ?_)
        · exact K6.out _ hBc
        clear hK K
        (try simp only [Act.put, List.setIfInBounds_toArray, List.set_cons_succ, List.set_cons_zero])
        refine wpAnyH_done (by kernel_rfl) ?_ _
        go_wp2
        go_meet
        exact ⟨g12, A10, c10, rfl, hb12, ho.rd, hBc⟩
      refine AllReadyH.cons rfl (fun K hK => ?_) ?_
      · (try simp only [List.getElem_toArray, List.getElem_cons_succ, List.getElem_cons_zero])
        refine Eq.mpr (if_pos (by first | rfl | simp [Region.wanted, yielded, Act.put])) ?_
        refine wp_bs1 _ rfl HC (by first | rfl | simp [Act.eval]) LHC.out x3.heap.size x3 hBc (Nat.le_refl _) ?_
        intro g1 xb hb9 hg9 hl9 hf9 hBc
        have s9 := hf9.size
        have ho := ho.frm hf9 (fun _ _ h => h)
        refine hK.out _ _ ?_ (fun hHeld => ?_)
        · exact K6.out _ hBc
        clear hK K
        (try simp only [Act.put, List.setIfInBounds_toArray, List.set_cons_succ, List.set_cons_zero])
        refine wpAnyH_ready (rs := [7, 12]) (by kernel_rfl) (by simp) ?_
        refine AllReadyH.cons rfl (fun K hK => ?_) ?_
        · (try simp only [List.getElem_toArray, List.getElem_cons_succ, List.getElem_cons_zero])
          refine Eq.mpr (if_pos (by first | rfl | simp [Region.wanted, yielded, Act.put])) ?_
          refine wp_appZs (.tmp 39) (.tmp 41) rfl x3.heap.size x3 hBc (Nat.le_refl _) (some ⟨g0, 0, none⟩) 0 0 [] (by first | rfl | simp [Act.eval]) ho A1 D c1 P (by first | rfl | simp [Act.eval]) (HRP.out.below hBc) (by omega) ?_
          intro A7 c7 xd ho hf7 hBc
          have s7 := hf7.size
          rw [Nat.zero_add, List.nil_append] at ho
          rw [Nat.zero_add]
          have hb9 := hf7.blk hb9 (by simp [blkOf]; omega)
          refine hK.out _ _ ?_ (fun hHeld => ?_)
          · exact K6.out _ hBc
          clear hK K
          (try simp only [Act.put, List.setIfInBounds_toArray, List.set_cons_succ, List.set_cons_zero])
          refine wpAnyH_ready (rs := [10, 12]) (by kernel_rfl) (by simp) ?_
          refine AllReadyH.cons rfl (fun K hK => ?_) ?_
          · (try simp only [List.getElem_toArray, List.getElem_cons_succ, List.getElem_cons_zero])
            refine Eq.mpr (if_pos (by first | rfl | simp [Region.wanted, yielded, Act.put])) ?_
            refine wp_appHs (.tmp 42) (.tmp 44) rfl x3.heap.size x3 hBc (Nat.le_refl _) A7 D c7 P (by first | rfl | simp [Act.eval]) ho (some ⟨g1, 0, none⟩) 1 1 [hh] (by first | rfl | simp [Act.eval]) (RdH.oneV hh32.out hHC.out hb9) (by omega) (by omega) ?_
            intro A10 c10 xe ho hf10 hBc
            have s10 := hf10.size
            rw [← HE1.out] at ho
            rw [← HE1.out]
            refine hK.out _ _ ?_ (fun hHeld => ?_)
            · exact K6.out _ hBc
            clear hK K
            (try simp only [Act.put, List.setIfInBounds_toArray, List.set_cons_succ, List.set_cons_zero])
            refine wpAnyH_take (i := 11) (v := .agg #[.int .i64 (n : Int), .int .i64 (i : Int), .slice A10 E1 c10]) rfl (by kernel_rfl) (by kernel_rfl) (by kernel_rfl) (fun _ _ _ h => h) (Or.inl ⟨by rfl, ?_⟩) (by assumption) ?_
            · intro w hSw; (try dsimp only at hSw); simp only [List.getElem_toArray, List.getElem_cons_succ, List.getElem_cons_zero]; first | (simp [execOp, Act.eval, BRL]; done) | (go_simp; done)
            (try simp only [List.getElem_toArray, List.getElem_cons_succ, List.getElem_cons_zero, Act.put, List.setIfInBounds_toArray, List.set_cons_succ, List.set_cons_zero])
            refine wpAnyH_ready (rs := [12]) (by kernel_rfl) (by simp) ?_
            refine AllReadyH.cons rfl (fun K hK => ?_) AllReadyH.nil
            (try simp only [List.getElem_toArray, List.getElem_cons_succ, List.getElem_cons_zero])
            refine Eq.mpr (if_pos (by first | rfl | simp [Region.wanted, yielded, Act.put])) ?_
            have hsz := hBc.size
            refine wp_allocT 25 [.int .i64 0, .int .i64 0, .slice none 0 0] Z3b rfl x3.heap.size x3 hBc (Nat.le_refl _) ?_
            intro g12 xc hb12 hg12 hl12 hf12 hBc
            have s12 := hf12.size
            have hx12 : x3.heap.size ≤ g12 := Nat.le_trans hsz hg12
            have ho := ho.frm hf12 (fun _ _ h => h)
            refine hK.out _ _ ?_ (fun hHeld => ?_)
            · exact K6.out _ hBc
            clear hK K
            (try simp only [Act.put, List.setIfInBounds_toArray, List.set_cons_succ, List.set_cons_zero])
            refine wpAnyH_ready (rs := [13]) (by kernel_rfl) (by simp) ?_
            refine AllReadyH.cons rfl (fun K hK => ?_) AllReadyH.nil
            (try simp only [List.getElem_toArray, List.getElem_cons_succ, List.getElem_cons_zero])
            refine Eq.mpr (if_pos (by first | rfl | simp [Region.wanted, yielded, Act.put])) ?_
            have hne := ho.ne_blk hb12 (by decide)
            refine wp_store_in 25 (.tmp 9) (.tmp 46) rfl g12 [.int .i64 0, .int .i64 0, .slice none 0 0] [.int .i64 (n : Int), .int .i64 (i : Int), .slice A10 E1 c10] 25 rfl rfl hb12 rfl I3b (by simp [Value.oneCell']) ?_
            intro xf hb12 ho13
            have ho := ho.frm (Frm.only ho13 (S := fun k => k = g12) rfl) (fun k hk he => hne k hk he)
            have hBc := hBc.trans (ho13.below (by omega))
            refine hK.out _ _ ?_ (fun hHeld => ?_)
            · exact K6.out _ hBc
            clear hK K
            (try simp only [Act.put, List.setIfInBounds_toArray, List.set_cons_succ, List.set_cons_zero])
            refine wpAnyH_done (by kernel_rfl) ?_ _
            go_wp2
            go_meet
            exact ⟨g12, A10, c10, rfl, hb12, ho.rd, hBc⟩
          refine AllReadyH.cons rfl (fun K hK => ?_) AllReadyH.nil
          (try simp only [List.getElem_toArray, List.getElem_cons_succ, List.getElem_cons_zero])
          refine Eq.mpr (if_pos (by first | rfl | simp [Region.wanted, yielded, Act.put])) ?_
          have hsz := hBc.size
          refine wp_allocT 25 [.int .i64 0, .int .i64 0, .slice none 0 0] Z3b rfl x3.heap.size x3 hBc (Nat.le_refl _) ?_
          intro g12 xc hb12 hg12 hl12 hf12 hBc
          have s12 := hf12.size
          have hx12 : x3.heap.size ≤ g12 := Nat.le_trans hsz hg12
          have ho := ho.frm hf12 (fun _ _ h => h)
          have hb9 := hf12.blk hb9 (fun h => h)
          refine hK.out _ _ ?_ (fun hHeld => ?_)
          · exact K6.out _ hBc
          clear hK K
          (try simp only [Act.put, List.setIfInBounds_toArray, List.set_cons_succ, List.set_cons_zero])
          refine wpAnyH_ready (rs := [10]) (by kernel_rfl) (by simp) ?_
          refine AllReadyH.cons rfl (fun K hK => ?_) AllReadyH.nil
          (try simp only [List.getElem_toArray, List.getElem_cons_succ, List.getElem_cons_zero])
          refine Eq.mpr (if_pos (by first | rfl | simp [Region.wanted, yielded, Act.put])) ?_
          have hne12 := ho.ne_blk hb12 (by decide)
          refine wp_appHs (.tmp 42) (.tmp 44) rfl x3.heap.size x3 hBc (Nat.le_refl _) A7 D c7 P (by first | rfl | simp [Act.eval]) ho (some ⟨g1, 0, none⟩) 1 1 [hh] (by first | rfl | simp [Act.eval]) (RdH.oneV hh32.out hHC.out hb9) (by omega) (by omega) ?_
          intro A10 c10 xe ho hf10 hBc
          have s10 := hf10.size
          rw [← HE1.out] at ho
          rw [← HE1.out]
          have hb12 := hf10.blk hb12 (fun h => hne12 _ h rfl)
          refine hK.out _ _ ?_ (fun hHeld => ?_)
          · exact K6.out _ hBc
          clear hK K
          (try simp only [Act.put, List.setIfInBounds_toArray, List.set_cons_succ, List.set_cons_zero])
          refine wpAnyH_take (i := 11) (v := .agg #[.int .i64 (n : Int), .int .i64 (i : Int), .slice A10 E1 c10]) rfl (by kernel_rfl) (by kernel_rfl) (by kernel_rfl) (fun _ _ _ h => h) (Or.inl ⟨by rfl, ?_⟩) (by assumption) ?_
          · intro w hSw; (try dsimp only at hSw); simp only [List.getElem_toArray, List.getElem_cons_succ, List.getElem_cons_zero]; first | (simp [execOp, Act.eval, BRL]; done) | (go_simp; done)
          (try simp only [List.getElem_toArray, List.getElem_cons_succ, List.getElem_cons_zero, Act.put, List.setIfInBounds_toArray, List.set_cons_succ, List.set_cons_zero])
          refine wpAnyH_ready (rs := [13]) (by kernel_rfl) (by simp) ?_
          refine AllReadyH.cons rfl (fun K hK => ?_) AllReadyH.nil
          (try simp only [List.getElem_toArray, List.getElem_cons_succ, List.getElem_cons_zero])
          refine Eq.mpr (if_pos (by first | rfl | simp [Region.wanted, yielded, Act.put])) ?_
          have hne := ho.ne_blk hb12 (by decide)
          refine wp_store_in 25 (.tmp 9) (.tmp 46) rfl g12 [.int .i64 0, .int .i64 0, .slice none 0 0] [.int .i64 (n : Int), .int .i64 (i : Int), .slice A10 E1 c10] 25 rfl rfl hb12 rfl I3b (by simp [Value.oneCell']) ?_
          intro xf hb12 ho13
          have ho := ho.frm (Frm.only ho13 (S := fun k => k = g12) rfl) (fun k hk he => hne k hk he)
          have hBc := hBc.trans (ho13.below (by omega))
          refine hK.out _ _ ?_ (fun hHeld => ?_)
          · exact K6.out _ hBc
          clear hK K
          (try simp only [Act.put, List.setIfInBounds_toArray, List.set_cons_succ, List.set_cons_zero])
          refine wpAnyH_done (by kernel_rfl) ?_ _
          go_wp2
          go_meet
          exact ⟨g12, A10, c10, rfl, hb12, ho.rd, hBc⟩
        refine AllReadyH.cons rfl (fun K hK => ?_) AllReadyH.nil
        (try simp only [List.getElem_toArray, List.getElem_cons_succ, List.getElem_cons_zero])
        refine Eq.mpr (if_pos (by first | rfl | simp [Region.wanted, yielded, Act.put])) ?_
        have hsz := hBc.size
        refine wp_allocT 25 [.int .i64 0, .int .i64 0, .slice none 0 0] Z3b rfl x3.heap.size x3 hBc (Nat.le_refl _) ?_
        intro g12 xc hb12 hg12 hl12 hf12 hBc
        have s12 := hf12.size
        have hx12 : x3.heap.size ≤ g12 := Nat.le_trans hsz hg12
        have ho := ho.frm hf12 (fun _ _ h => h)
        have hb9 := hf12.blk hb9 (fun h => h)
        refine hK.out _ _ ?_ (fun hHeld => ?_)
        · exact K6.out _ hBc
        clear hK K
        (try simp only [Act.put, List.setIfInBounds_toArray, List.set_cons_succ, List.set_cons_zero])
        refine wpAnyH_ready (rs := [7]) (by kernel_rfl) (by simp) ?_
        refine AllReadyH.cons rfl (fun K hK => ?_) AllReadyH.nil
        (try simp only [List.getElem_toArray, List.getElem_cons_succ, List.getElem_cons_zero])
        refine Eq.mpr (if_pos (by first | rfl | simp [Region.wanted, yielded, Act.put])) ?_
        have hne12 := ho.ne_blk hb12 (by decide)
        refine wp_appZs (.tmp 39) (.tmp 41) rfl x3.heap.size x3 hBc (Nat.le_refl _) (some ⟨g0, 0, none⟩) 0 0 [] (by first | rfl | simp [Act.eval]) ho A1 D c1 P (by first | rfl | simp [Act.eval]) (HRP.out.below hBc) (by omega) ?_
        intro A7 c7 xd ho hf7 hBc
        have s7 := hf7.size
        rw [Nat.zero_add, List.nil_append] at ho
        rw [Nat.zero_add]
        have hb9 := hf7.blk hb9 (by simp [blkOf]; omega)
        have hb12 := hf7.blk hb12 (fun h => hne12 _ h rfl)
        refine hK.out _ _ ?_ (fun hHeld => ?_)
        · exact K6.out _ hBc
        clear hK K
        (try simp only [Act.put, List.setIfInBounds_toArray, List.set_cons_succ, List.set_cons_zero])
        refine wpAnyH_ready (rs := [10]) (by kernel_rfl) (by simp) ?_
        refine AllReadyH.cons rfl (fun K hK => ?_) AllReadyH.nil
        (try simp only [List.getElem_toArray, List.getElem_cons_succ, List.getElem_cons_zero])
        refine Eq.mpr (if_pos (by first | rfl | simp [Region.wanted, yielded, Act.put])) ?_
        have hne12 := ho.ne_blk hb12 (by decide)
        refine wp_appHs (.tmp 42) (.tmp 44) rfl x3.heap.size x3 hBc (Nat.le_refl _) A7 D c7 P (by first | rfl | simp [Act.eval]) ho (some ⟨g1, 0, none⟩) 1 1 [hh] (by first | rfl | simp [Act.eval]) (RdH.oneV hh32.out hHC.out hb9) (by omega) (by omega) ?_
        intro A10 c10 xe ho hf10 hBc
        have s10 := hf10.size
        rw [← HE1.out] at ho
        rw [← HE1.out]
        have hb12 := hf10.blk hb12 (fun h => hne12 _ h rfl)
        refine hK.out _ _ ?_ (fun hHeld => ?_)
        · exact K6.out _ hBc
        clear hK K
        (try simp only [Act.put, List.setIfInBounds_toArray, List.set_cons_succ, List.set_cons_zero])
        refine wpAnyH_take (i := 11) (v := .agg #[.int .i64 (n : Int), .int .i64 (i : Int), .slice A10 E1 c10]) rfl (by kernel_rfl) (by kernel_rfl) (by kernel_rfl) (fun _ _ _ h => h) (Or.inl ⟨by rfl, ?_⟩) (by assumption) ?_
        · intro w hSw; (try dsimp only at hSw); simp only [List.getElem_toArray, List.getElem_cons_succ, List.getElem_cons_zero]; first | (simp [execOp, Act.eval, BRL]; done) | (go_simp; done)
        (try simp only [List.getElem_toArray, List.getElem_cons_succ, List.getElem_cons_zero, Act.put, List.setIfInBounds_toArray, List.set_cons_succ, List.set_cons_zero])
        refine wpAnyH_ready (rs := [13]) (by kernel_rfl) (by simp) ?_
        refine AllReadyH.cons rfl (fun K hK => ?_) AllReadyH.nil
        (try simp only [List.getElem_toArray, List.getElem_cons_succ, List.getElem_cons_zero])
        refine Eq.mpr (if_pos (by first | rfl | simp [Region.wanted, yielded, Act.put])) ?_
        have hne := ho.ne_blk hb12 (by decide)
        refine wp_store_in 25 (.tmp 9) (.tmp 46) rfl g12 [.int .i64 0, .int .i64 0, .slice none 0 0] [.int .i64 (n : Int), .int .i64 (i : Int), .slice A10 E1 c10] 25 rfl rfl hb12 rfl I3b (by simp [Value.oneCell']) ?_
        intro xf hb12 ho13
        have ho := ho.frm (Frm.only ho13 (S := fun k => k = g12) rfl) (fun k hk he => hne k hk he)
        have hBc := hBc.trans (ho13.below (by omega))
        refine hK.out _ _ ?_ (fun hHeld => ?_)
        · exact K6.out _ hBc
        clear hK K
        (try simp only [Act.put, List.setIfInBounds_toArray, List.set_cons_succ, List.set_cons_zero])
        refine wpAnyH_done (by kernel_rfl) ?_ _
        go_wp2
        go_meet
        exact ⟨g12, A10, c10, rfl, hb12, ho.rd, hBc⟩
      refine AllReadyH.cons rfl (fun K hK => ?_) AllReadyH.nil
      (try simp only [List.getElem_toArray, List.getElem_cons_succ, List.getElem_cons_zero])
      refine Eq.mpr (if_pos (by first | rfl | simp [Region.wanted, yielded, Act.put])) ?_
      have hsz := hBc.size
      refine wp_allocT 25 [.int .i64 0, .int .i64 0, .slice none 0 0] Z3b rfl x3.heap.size x3 hBc (Nat.le_refl _) ?_
      intro g12 xc hb12 hg12 hl12 hf12 hBc
      have s12 := hf12.size
      have hx12 : x3.heap.size ≤ g12 := Nat.le_trans hsz hg12
      have ho := ho.frm hf12 (fun _ _ h => h)
      refine hK.out _ _ ?_ (fun hHeld => ?_)
      · exact K6.out _ hBc
      clear hK K
      (try simp only [Act.put, List.setIfInBounds_toArray, List.set_cons_succ, List.set_cons_zero])
      refine wpAnyH_ready (rs := [7, 9]) (by kernel_rfl) (by simp) ?_
      refine AllReadyH.cons rfl (fun K hK => ?_) ?_
      · (try simp only [List.getElem_toArray, List.getElem_cons_succ, List.getElem_cons_zero])
        refine Eq.mpr (if_pos (by first | rfl | simp [Region.wanted, yielded, Act.put])) ?_
        have hne12 := ho.ne_blk hb12 (by decide)
        refine wp_appZs (.tmp 39) (.tmp 41) rfl x3.heap.size x3 hBc (Nat.le_refl _) (some ⟨g0, 0, none⟩) 0 0 [] (by first | rfl | simp [Act.eval]) ho A1 D c1 P (by first | rfl | simp [Act.eval]) (HRP.out.below hBc) (by omega) ?_
        intro A7 c7 xd ho hf7 hBc
        have s7 := hf7.size
        rw [Nat.zero_add, List.nil_append] at ho
        rw [Nat.zero_add]
        have hb12 := hf7.blk hb12 (fun h => hne12 _ h rfl)
        refine hK.out _ _ ?_ (fun hHeld => ?_)
        · exact K6.out _ hBc
        clear hK K
        (try simp only [Act.put, List.setIfInBounds_toArray, List.set_cons_succ, List.set_cons_zero])
        refine wpAnyH_ready (rs := [9]) (by kernel_rfl) (by simp) ?_
        refine AllReadyH.cons rfl (fun K hK => ?_) AllReadyH.nil
        (try simp only [List.getElem_toArray, List.getElem_cons_succ, List.getElem_cons_zero])
        refine Eq.mpr (if_pos (by first | rfl | simp [Region.wanted, yielded, Act.put])) ?_
        refine wp_bs1 _ rfl HC (by first | rfl | simp [Act.eval]) LHC.out x3.heap.size x3 hBc (Nat.le_refl _) ?_
        intro g1 xb hb9 hg9 hl9 hf9 hBc
        have s9 := hf9.size
        have ho := ho.frm hf9 (fun _ _ h => h)
        have hb12 := hf9.blk hb12 (fun h => h)
        refine hK.out _ _ ?_ (fun hHeld => ?_)
        · exact K6.out _ hBc
        clear hK K
        (try simp only [Act.put, List.setIfInBounds_toArray, List.set_cons_succ, List.set_cons_zero])
        refine wpAnyH_ready (rs := [10]) (by kernel_rfl) (by simp) ?_
        refine AllReadyH.cons rfl (fun K hK => ?_) AllReadyH.nil
        (try simp only [List.getElem_toArray, List.getElem_cons_succ, List.getElem_cons_zero])
        refine Eq.mpr (if_pos (by first | rfl | simp [Region.wanted, yielded, Act.put])) ?_
        have hne12 := ho.ne_blk hb12 (by decide)
        refine wp_appHs (.tmp 42) (.tmp 44) rfl x3.heap.size x3 hBc (Nat.le_refl _) A7 D c7 P (by first | rfl | simp [Act.eval]) ho (some ⟨g1, 0, none⟩) 1 1 [hh] (by first | rfl | simp [Act.eval]) (RdH.oneV hh32.out hHC.out hb9) (by omega) (by omega) ?_
        intro A10 c10 xe ho hf10 hBc
        have s10 := hf10.size
        rw [← HE1.out] at ho
        rw [← HE1.out]
        have hb12 := hf10.blk hb12 (fun h => hne12 _ h rfl)
        refine hK.out _ _ ?_ (fun hHeld => ?_)
        · exact K6.out _ hBc
        clear hK K
        (try simp only [Act.put, List.setIfInBounds_toArray, List.set_cons_succ, List.set_cons_zero])
        refine wpAnyH_take (i := 11) (v := .agg #[.int .i64 (n : Int), .int .i64 (i : Int), .slice A10 E1 c10]) rfl (by kernel_rfl) (by kernel_rfl) (by kernel_rfl) (fun _ _ _ h => h) (Or.inl ⟨by rfl, ?_⟩) (by assumption) ?_
        · intro w hSw; (try dsimp only at hSw); simp only [List.getElem_toArray, List.getElem_cons_succ, List.getElem_cons_zero]; first | (simp [execOp, Act.eval, BRL]; done) | (go_simp; done)
        (try simp only [List.getElem_toArray, List.getElem_cons_succ, List.getElem_cons_zero, Act.put, List.setIfInBounds_toArray, List.set_cons_succ, List.set_cons_zero])
        refine wpAnyH_ready (rs := [13]) (by kernel_rfl) (by simp) ?_
        refine AllReadyH.cons rfl (fun K hK => ?_) AllReadyH.nil
        (try simp only [List.getElem_toArray, List.getElem_cons_succ, List.getElem_cons_zero])
        refine Eq.mpr (if_pos (by first | rfl | simp [Region.wanted, yielded, Act.put])) ?_
        have hne := ho.ne_blk hb12 (by decide)
        refine wp_store_in 25 (.tmp 9) (.tmp 46) rfl g12 [.int .i64 0, .int .i64 0, .slice none 0 0] [.int .i64 (n : Int), .int .i64 (i : Int), .slice A10 E1 c10] 25 rfl rfl hb12 rfl I3b (by simp [Value.oneCell']) ?_
        intro xf hb12 ho13
        have ho := ho.frm (Frm.only ho13 (S := fun k => k = g12) rfl) (fun k hk he => hne k hk he)
        have hBc := hBc.trans (ho13.below (by omega))
        refine hK.out _ _ ?_ (fun hHeld => ?_)
        · exact K6.out _ hBc
        clear hK K
        (try simp only [Act.put, List.setIfInBounds_toArray, List.set_cons_succ, List.set_cons_zero])
        refine wpAnyH_done (by kernel_rfl) ?_ _
        go_wp2
        go_meet
        exact ⟨g12, A10, c10, rfl, hb12, ho.rd, hBc⟩
      refine AllReadyH.cons rfl (fun K hK => ?_) AllReadyH.nil
      (try simp only [List.getElem_toArray, List.getElem_cons_succ, List.getElem_cons_zero])
      refine Eq.mpr (if_pos (by first | rfl | simp [Region.wanted, yielded, Act.put])) ?_
      refine wp_bs1 _ rfl HC (by first | rfl | simp [Act.eval]) LHC.out x3.heap.size x3 hBc (Nat.le_refl _) ?_
      intro g1 xb hb9 hg9 hl9 hf9 hBc
      have s9 := hf9.size
      have ho := ho.frm hf9 (fun _ _ h => h)
      have hb12 := hf9.blk hb12 (fun h => h)
      refine hK.out _ _ ?_ (fun hHeld => ?_)
      · exact K6.out _ hBc
      clear hK K
      (try simp only [Act.put, List.setIfInBounds_toArray, List.set_cons_succ, List.set_cons_zero])
      refine wpAnyH_ready (rs := [7]) (by kernel_rfl) (by simp) ?_
      refine AllReadyH.cons rfl (fun K hK => ?_) AllReadyH.nil
      (try simp only [List.getElem_toArray, List.getElem_cons_succ, List.getElem_cons_zero])
      refine Eq.mpr (if_pos (by first | rfl | simp [Region.wanted, yielded, Act.put])) ?_
      have hne12 := ho.ne_blk hb12 (by decide)
      refine wp_appZs (.tmp 39) (.tmp 41) rfl x3.heap.size x3 hBc (Nat.le_refl _) (some ⟨g0, 0, none⟩) 0 0 [] (by first | rfl | simp [Act.eval]) ho A1 D c1 P (by first | rfl | simp [Act.eval]) (HRP.out.below hBc) (by omega) ?_
      intro A7 c7 xd ho hf7 hBc
      have s7 := hf7.size
      rw [Nat.zero_add, List.nil_append] at ho
      rw [Nat.zero_add]
      have hb9 := hf7.blk hb9 (by simp [blkOf]; omega)
      have hb12 := hf7.blk hb12 (fun h => hne12 _ h rfl)
      refine hK.out _ _ ?_ (fun hHeld => ?_)
      · exact K6.out _ hBc
      clear hK K
      (try simp only [Act.put, List.setIfInBounds_toArray, List.set_cons_succ, List.set_cons_zero])
      refine wpAnyH_ready (rs := [10]) (by kernel_rfl) (by simp) ?_
      refine AllReadyH.cons rfl (fun K hK => ?_) AllReadyH.nil
      (try simp only [List.getElem_toArray, List.getElem_cons_succ, List.getElem_cons_zero])
      refine Eq.mpr (if_pos (by first | rfl | simp [Region.wanted, yielded, Act.put])) ?_
      have hne12 := ho.ne_blk hb12 (by decide)
      refine wp_appHs (.tmp 42) (.tmp 44) rfl x3.heap.size x3 hBc (Nat.le_refl _) A7 D c7 P (by first | rfl | simp [Act.eval]) ho (some ⟨g1, 0, none⟩) 1 1 [hh] (by first | rfl | simp [Act.eval]) (RdH.oneV hh32.out hHC.out hb9) (by omega) (by omega) ?_
      intro A10 c10 xe ho hf10 hBc
      have s10 := hf10.size
      rw [← HE1.out] at ho
      rw [← HE1.out]
      have hb12 := hf10.blk hb12 (fun h => hne12 _ h rfl)
      refine hK.out _ _ ?_ (fun hHeld => ?_)
      · exact K6.out _ hBc
      clear hK K
      (try simp only [Act.put, List.setIfInBounds_toArray, List.set_cons_succ, List.set_cons_zero])
      refine wpAnyH_take (i := 11) (v := .agg #[.int .i64 (n : Int), .int .i64 (i : Int), .slice A10 E1 c10]) rfl (by kernel_rfl) (by kernel_rfl) (by kernel_rfl) (fun _ _ _ h => h) (Or.inl ⟨by rfl, ?_⟩) (by assumption) ?_
      · intro w hSw; (try dsimp only at hSw); simp only [List.getElem_toArray, List.getElem_cons_succ, List.getElem_cons_zero]; first | (simp [execOp, Act.eval, BRL]; done) | (go_simp; done)
      (try simp only [List.getElem_toArray, List.getElem_cons_succ, List.getElem_cons_zero, Act.put, List.setIfInBounds_toArray, List.set_cons_succ, List.set_cons_zero])
      refine wpAnyH_ready (rs := [13]) (by kernel_rfl) (by simp) ?_
      refine AllReadyH.cons rfl (fun K hK => ?_) AllReadyH.nil
      (try simp only [List.getElem_toArray, List.getElem_cons_succ, List.getElem_cons_zero])
      refine Eq.mpr (if_pos (by first | rfl | simp [Region.wanted, yielded, Act.put])) ?_
      have hne := ho.ne_blk hb12 (by decide)
      refine wp_store_in 25 (.tmp 9) (.tmp 46) rfl g12 [.int .i64 0, .int .i64 0, .slice none 0 0] [.int .i64 (n : Int), .int .i64 (i : Int), .slice A10 E1 c10] 25 rfl rfl hb12 rfl I3b (by simp [Value.oneCell']) ?_
      intro xf hb12 ho13
      have ho := ho.frm (Frm.only ho13 (S := fun k => k = g12) rfl) (fun k hk he => hne k hk he)
      have hBc := hBc.trans (ho13.below (by omega))
      refine hK.out _ _ ?_ (fun hHeld => ?_)
      · exact K6.out _ hBc
      clear hK K
      (try simp only [Act.put, List.setIfInBounds_toArray, List.set_cons_succ, List.set_cons_zero])
      refine wpAnyH_done (by kernel_rfl) ?_ _
      go_wp2
      go_meet
      exact ⟨g12, A10, c10, rfl, hb12, ho.rd, hBc⟩
    refine AllReadyH.cons rfl (fun K hK => ?_) ?_
    · (try simp only [List.getElem_toArray, List.getElem_cons_succ, List.getElem_cons_zero])
      refine Eq.mpr (if_pos (by first | rfl | simp [Region.wanted, yielded, Act.put])) ?_
      refine wp_bs1 _ rfl HC (by first | rfl | simp [Act.eval]) LHC.out x3.heap.size x3 hBc (Nat.le_refl _) ?_
      intro g1 xb hb9 hg9 hl9 hf9 hBc
      have s9 := hf9.size
      refine hK.out _ _ ?_ (fun hHeld => ?_)
      · exact K6.out _ hBc
      clear hK K
      (try simp only [Act.put, List.setIfInBounds_toArray, List.set_cons_succ, List.set_cons_zero])
      refine wpAnyH_ready (rs := [4, 12]) (by kernel_rfl) (by simp) ?_
      refine AllReadyH.cons rfl (fun K hK => ?_) ?_
      · (try simp only [List.getElem_toArray, List.getElem_cons_succ, List.getElem_cons_zero])
        refine Eq.mpr (if_pos (by first | rfl | simp [Region.wanted, yielded, Act.put])) ?_
        refine wp_bs0 rfl x3.heap.size x3 hBc (Nat.le_refl _) ?_
        intro g0 x0 ho hg0 hl0 hf0 hBc
        have s0 := hf0.size
        have hb9 := hf0.blk hb9 (fun h => h)
        refine hK.out _ _ ?_ (fun hHeld => ?_)
        · exact K6.out _ hBc
        clear hK K
        (try simp only [Act.put, List.setIfInBounds_toArray, List.set_cons_succ, List.set_cons_zero])
        refine wpAnyH_ready (rs := [7, 12]) (by kernel_rfl) (by simp) ?_
        refine AllReadyH.cons rfl (fun K hK => ?_) ?_
        · (try simp only [List.getElem_toArray, List.getElem_cons_succ, List.getElem_cons_zero])
          refine Eq.mpr (if_pos (by first | rfl | simp [Region.wanted, yielded, Act.put])) ?_
          refine wp_appZs (.tmp 39) (.tmp 41) rfl x3.heap.size x3 hBc (Nat.le_refl _) (some ⟨g0, 0, none⟩) 0 0 [] (by first | rfl | simp [Act.eval]) ho A1 D c1 P (by first | rfl | simp [Act.eval]) (HRP.out.below hBc) (by omega) ?_
          intro A7 c7 xd ho hf7 hBc
          have s7 := hf7.size
          rw [Nat.zero_add, List.nil_append] at ho
          rw [Nat.zero_add]
          have hb9 := hf7.blk hb9 (by simp [blkOf]; omega)
          refine hK.out _ _ ?_ (fun hHeld => ?_)
          · exact K6.out _ hBc
          clear hK K
          (try simp only [Act.put, List.setIfInBounds_toArray, List.set_cons_succ, List.set_cons_zero])
          refine wpAnyH_ready (rs := [10, 12]) (by kernel_rfl) (by simp) ?_
          refine AllReadyH.cons rfl (fun K hK => ?_) ?_
          · (try simp only [List.getElem_toArray, List.getElem_cons_succ, List.getElem_cons_zero])
            refine Eq.mpr (if_pos (by first | rfl | simp [Region.wanted, yielded, Act.put])) ?_
            refine wp_appHs (.tmp 42) (.tmp 44) rfl x3.heap.size x3 hBc (Nat.le_refl _) A7 D c7 P (by first | rfl | simp [Act.eval]) ho (some ⟨g1, 0, none⟩) 1 1 [hh] (by first | rfl | simp [Act.eval]) (RdH.oneV hh32.out hHC.out hb9) (by omega) (by omega) ?_
            intro A10 c10 xe ho hf10 hBc
            have s10 := hf10.size
            rw [← HE1.out] at ho
            rw [← HE1.out]
            refine hK.out _ _ ?_ (fun hHeld => ?_)
            · exact K6.out _ hBc
            clear hK K
            (try simp only [Act.put, List.setIfInBounds_toArray, List.set_cons_succ, List.set_cons_zero])
            refine wpAnyH_take (i := 11) (v := .agg #[.int .i64 (n : Int), .int .i64 (i : Int), .slice A10 E1 c10]) rfl (by kernel_rfl) (by kernel_rfl) (by kernel_rfl) (fun _ _ _ h => h) (Or.inl ⟨by rfl, ?_⟩) (by assumption) ?_
            · intro w hSw; (try dsimp only at hSw); simp only [List.getElem_toArray, List.getElem_cons_succ, List.getElem_cons_zero]; first | (simp [execOp, Act.eval, BRL]; done) | (go_simp; done)
            (try simp only [List.getElem_toArray, List.getElem_cons_succ, List.getElem_cons_zero, Act.put, List.setIfInBounds_toArray, List.set_cons_succ, List.set_cons_zero])
            refine wpAnyH_ready (rs := [12]) (by kernel_rfl) (by simp) ?_
            refine AllReadyH.cons rfl (fun K hK => ?_) AllReadyH.nil
            (try simp only [List.getElem_toArray, List.getElem_cons_succ, List.getElem_cons_zero])
            refine Eq.mpr (if_pos (by first | rfl | simp [Region.wanted, yielded, Act.put])) ?_
            have hsz := hBc.size
            refine wp_allocT 25 [.int .i64 0, .int .i64 0, .slice none 0 0] Z3b rfl x3.heap.size x3 hBc (Nat.le_refl _) ?_
            intro g12 xc hb12 hg12 hl12 hf12 hBc
            have s12 := hf12.size
            have hx12 : x3.heap.size ≤ g12 := Nat.le_trans hsz hg12
            have ho := ho.frm hf12 (fun _ _ h => h)
            refine hK.out _ _ ?_ (fun hHeld => ?_)
            · exact K6.out _ hBc
            clear hK K
            (try simp only [Act.put, List.setIfInBounds_toArray, List.set_cons_succ, List.set_cons_zero])
            refine wpAnyH_ready (rs := [13]) (by kernel_rfl) (by simp) ?_
            refine AllReadyH.cons rfl (fun K hK => ?_) AllReadyH.nil
            (try simp only [List.getElem_toArray, List.getElem_cons_succ, List.getElem_cons_zero])
            refine Eq.mpr (if_pos (by first | rfl | simp [Region.wanted, yielded, Act.put])) ?_
            have hne := ho.ne_blk hb12 (by decide)
            refine wp_store_in 25 (.tmp 9) (.tmp 46) rfl g12 [.int .i64 0, .int .i64 0, .slice none 0 0] [.int .i64 (n : Int), .int .i64 (i : Int), .slice A10 E1 c10] 25 rfl rfl hb12 rfl I3b (by simp [Value.oneCell']) ?_
            intro xf hb12 ho13
            have ho := ho.frm (Frm.only ho13 (S := fun k => k = g12) rfl) (fun k hk he => hne k hk he)
            have hBc := hBc.trans (ho13.below (by omega))
            refine hK.out _ _ ?_ (fun hHeld => ?_)
            · exact K6.out _ hBc
            clear hK K
            (try simp only [Act.put, List.setIfInBounds_toArray, List.set_cons_succ, List.set_cons_zero])
            refine wpAnyH_done (by kernel_rfl) ?_ _
            go_wp2
            go_meet
            exact ⟨g12, A10, c10, rfl, hb12, ho.rd, hBc⟩
          refine AllReadyH.cons rfl (fun K hK => ?_) AllReadyH.nil
          (try simp only [List.getElem_toArray, List.getElem_cons_succ, List.getElem_cons_zero])
          refine Eq.mpr (if_pos (by first | rfl | simp [Region.wanted, yielded, Act.put])) ?_
          have hsz := hBc.size
          refine wp_allocT 25 [.int .i64 0, .int .i64 0, .slice none 0 0] Z3b rfl x3.heap.size x3 hBc (Nat.le_refl _) ?_
          intro g12 xc hb12 hg12 hl12 hf12 hBc
          have s12 := hf12.size
          have hx12 : x3.heap.size ≤ g12 := Nat.le_trans hsz hg12
          have ho := ho.frm hf12 (fun _ _ h => h)
          have hb9 := hf12.blk hb9 (fun h => h)
          refine hK.out _ _ ?_ (fun hHeld => ?_)
          · exact K6.out _ hBc
          clear hK K
          (try simp only [Act.put, List.setIfInBounds_toArray, List.set_cons_succ, List.set_cons_zero])
          refine wpAnyH_ready (rs := [10]) (by kernel_rfl) (by simp) ?_
          refine AllReadyH.cons rfl (fun K hK => ?_) AllReadyH.nil
          (try simp only [List.getElem_toArray, List.getElem_cons_succ, List.getElem_cons_zero])
          refine Eq.mpr (if_pos (by first | rfl | simp [Region.wanted, yielded, Act.put])) ?_
          have hne12 := ho.ne_blk hb12 (by decide)
          refine wp_appHs (.tmp 42) (.tmp 44) rfl x3.heap.size x3 hBc (Nat.le_refl _) A7 D c7 P (by first | rfl | simp [Act.eval]) ho (some ⟨g1, 0, none⟩) 1 1 [hh] (by first | rfl | simp [Act.eval]) (RdH.oneV hh32.out hHC.out hb9) (by omega) (by omega) ?_
          intro A10 c10 xe ho hf10 hBc
          have s10 := hf10.size
          rw [← HE1.out] at ho
          rw [← HE1.out]
          have hb12 := hf10.blk hb12 (fun h => hne12 _ h rfl)
          refine hK.out _ _ ?_ (fun hHeld => ?_)
          · exact K6.out _ hBc
          clear hK K
          (try simp only [Act.put, List.setIfInBounds_toArray, List.set_cons_succ, List.set_cons_zero])
          refine wpAnyH_take (i := 11) (v := .agg #[.int .i64 (n : Int), .int .i64 (i : Int), .slice A10 E1 c10]) rfl (by kernel_rfl) (by kernel_rfl) (by kernel_rfl) (fun _ _ _ h => h) (Or.inl ⟨by rfl, ?_⟩) (by assumption) ?_
          · intro w hSw; (try dsimp only at hSw); simp only [List.getElem_toArray, List.getElem_cons_succ, List.getElem_cons_zero]; first | (simp [execOp, Act.eval, BRL]; done) | (go_simp; done)
          (try simp only [List.getElem_toArray, List.getElem_cons_succ, List.getElem_cons_zero, Act.put, List.setIfInBounds_toArray, List.set_cons_succ, List.set_cons_zero])
          refine wpAnyH_ready (rs := [13]) (by kernel_rfl) (by simp) ?_
          refine AllReadyH.cons rfl (fun K hK => ?_) AllReadyH.nil
          (try simp only [List.getElem_toArray, List.getElem_cons_succ, List.getElem_cons_zero])
          refine Eq.mpr (if_pos (by first | rfl | simp [Region.wanted, yielded, Act.put])) ?_
          have hne := ho.ne_blk hb12 (by decide)
          refine wp_store_in 25 (.tmp 9) (.tmp 46) rfl g12 [.int .i64 0, .int .i64 0, .slice none 0 0] [.int .i64 (n : Int), .int .i64 (i : Int), .slice A10 E1 c10] 25 rfl rfl hb12 rfl I3b (by simp [Value.oneCell']) ?_
          intro xf hb12 ho13
          have ho := ho.frm (Frm.only ho13 (S := fun k => k = g12) rfl) (fun k hk he => hne k hk he)
          have hBc := hBc.trans (ho13.below (by omega))
          refine hK.out _ _ ?_ (fun hHeld => ?_)
          · exact K6.out _ hBc
          clear hK K
          (try simp only [Act.put, List.setIfInBounds_toArray, List.set_cons_succ, List.set_cons_zero])
          refine wpAnyH_done (by kernel_rfl) ?_ _
          go_wp2
          go_meet
          exact ⟨g12, A10, c10, rfl, hb12, ho.rd, hBc⟩
        refine AllReadyH.cons rfl (fun K hK => ?_) AllReadyH.nil
        (try simp only [List.getElem_toArray, List.getElem_cons_succ, List.getElem_cons_zero])
        refine Eq.mpr (if_pos (by first | rfl | simp [Region.wanted, yielded, Act.put])) ?_
        have hsz := hBc.size
        refine wp_allocT 25 [.int .i64 0, .int .i64 0, .slice none 0 0] Z3b rfl x3.heap.size x3 hBc (Nat.le_refl _) ?_
        intro g12 xc hb12 hg12 hl12 hf12 hBc
        have s12 := hf12.size
        have hx12 : x3.heap.size ≤ g12 := Nat.le_trans hsz hg12
        have ho := ho.frm hf12 (fun _ _ h => h)
        have hb9 := hf12.blk hb9 (fun h => h)
        refine hK.out _ _ ?_ (fun hHeld => ?_)
        · exact K6.out _ hBc
        clear hK K
        (try simp only [Act.put, List.setIfInBounds_toArray, List.set_cons_succ, List.set_cons_zero])
        refine wpAnyH_ready (rs := [7]) (by kernel_rfl) (by simp) ?_
        refine AllReadyH.cons rfl (fun K hK => ?_) AllReadyH.nil
        (try simp only [List.getElem_toArray, List.getElem_cons_succ, List.getElem_cons_zero])
        refine Eq.mpr (if_pos (by first | rfl | simp [Region.wanted, yielded, Act.put])) ?_
        have hne12 := ho.ne_blk hb12 (by decide)
        refine wp_appZs (.tmp 39) (.tmp 41) rfl x3.heap.size x3 hBc (Nat.le_refl _) (some ⟨g0, 0, none⟩) 0 0 [] (by first | rfl | simp [Act.eval]) ho A1 D c1 P (by first | rfl | simp [Act.eval]) (HRP.out.below hBc) (by omega) ?_
        intro A7 c7 xd ho hf7 hBc
        have s7 := hf7.size
        rw [Nat.zero_add, List.nil_append] at ho
        rw [Nat.zero_add]
        have hb9 := hf7.blk hb9 (by simp [blkOf]; omega)
        have hb12 := hf7.blk hb12 (fun h => hne12 _ h rfl)
        refine hK.out _ _ ?_ (fun hHeld => ?_)
        · exact K6.out _ hBc
        clear hK K
        (try simp only [Act.put, List.setIfInBounds_toArray, List.set_cons_succ, List.set_cons_zero])
        refine wpAnyH_ready (rs := [10]) (by kernel_rfl) (by simp) ?_
        refine AllReadyH.cons rfl (fun K hK => ?_) AllReadyH.nil
        (try simp only [List.getElem_toArray, List.getElem_cons_succ, List.getElem_cons_zero])
        refine Eq.mpr (if_pos (by first | rfl | simp [Region.wanted, yielded, Act.put])) ?_
        have hne12 := ho.ne_blk hb12 (by decide)
        refine wp_appHs (.tmp 42) (.tmp 44) rfl x3.heap.size x3 hBc (Nat.le_refl _) A7 D c7 P (by first | rfl | simp [Act.eval]) ho (some ⟨g1, 0, none⟩) 1 1 [hh] (by first | rfl | simp [Act.eval]) (RdH.oneV hh32.out hHC.out hb9) (by omega) (by omega) ?_
        intro A10 c10 xe ho hf10 hBc
        have s10 := hf10.size
        rw [← HE1.out] at ho
        rw [← HE1.out]
        have hb12 := hf10.blk hb12 (fun h => hne12 _ h rfl)
        refine hK.out _ _ ?_ (fun hHeld => ?_)
        · exact K6.out _ hBc
        clear hK K
        (try simp only [Act.put, List.setIfInBounds_toArray, List.set_cons_succ, List.set_cons_zero])
        refine wpAnyH_take (i := 11) (v := .agg #[.int .i64 (n : Int), .int .i64 (i : Int), .slice A10 E1 c10]) rfl (by kernel_rfl) (by kernel_rfl) (by kernel_rfl) (fun _ _ _ h => h) (Or.inl ⟨by rfl, ?_⟩) (by assumption) ?_
        · intro w hSw; (try dsimp only at hSw); simp only [List.getElem_toArray, List.getElem_cons_succ, List.getElem_cons_zero]; first | (simp [execOp, Act.eval, BRL]; done) | (go_simp; done)
        (try simp only [List.getElem_toArray, List.getElem_cons_succ, List.getElem_cons_zero, Act.put, List.setIfInBounds_toArray, List.set_cons_succ, List.set_cons_zero])
        refine wpAnyH_ready (rs := [13]) (by kernel_rfl) (by simp) ?_
        refine AllReadyH.cons rfl (fun K hK => ?_) AllReadyH.nil
        (try simp only [List.getElem_toArray, List.getElem_cons_succ, List.getElem_cons_zero])
        refine Eq.mpr (if_pos (by first | rfl | simp [Region.wanted, yielded, Act.put])) ?_
        have hne := ho.ne_blk hb12 (by decide)
        refine wp_store_in 25 (.tmp 9) (.tmp 46) rfl g12 [.int .i64 0, .int .i64 0, .slice none 0 0] [.int .i64 (n : Int), .int .i64 (i : Int), .slice A10 E1 c10] 25 rfl rfl hb12 rfl I3b (by simp [Value.oneCell']) ?_
        intro xf hb12 ho13
        have ho := ho.frm (Frm.only ho13 (S := fun k => k = g12) rfl) (fun k hk he => hne k hk he)
        have hBc := hBc.trans (ho13.below (by omega))
        refine hK.out _ _ ?_ (fun hHeld => ?_)
        · exact K6.out _ hBc
        clear hK K
        (try simp only [Act.put, List.setIfInBounds_toArray, List.set_cons_succ, List.set_cons_zero])
        refine wpAnyH_done (by kernel_rfl) ?_ _
        go_wp2
        go_meet
        exact ⟨g12, A10, c10, rfl, hb12, ho.rd, hBc⟩
      refine AllReadyH.cons rfl (fun K hK => ?_) AllReadyH.nil
      (try simp only [List.getElem_toArray, List.getElem_cons_succ, List.getElem_cons_zero])
      refine Eq.mpr (if_pos (by first | rfl | simp [Region.wanted, yielded, Act.put])) ?_
      have hsz := hBc.size
      refine wp_allocT 25 [.int .i64 0, .int .i64 0, .slice none 0 0] Z3b rfl x3.heap.size x3 hBc (Nat.le_refl _) ?_
      intro g12 xc hb12 hg12 hl12 hf12 hBc
      have s12 := hf12.size
      have hx12 : x3.heap.size ≤ g12 := Nat.le_trans hsz hg12
      have hb9 := hf12.blk hb9 (fun h => h)
      refine hK.out _ _ ?_ (fun hHeld => ?_)
      · exact K6.out _ hBc
      clear hK K
      (try simp only [Act.put, List.setIfInBounds_toArray, List.set_cons_succ, List.set_cons_zero])
      refine wpAnyH_ready (rs := [4]) (by kernel_rfl) (by simp) ?_
      refine AllReadyH.cons rfl (fun K hK => ?_) AllReadyH.nil
      (try simp only [List.getElem_toArray, List.getElem_cons_succ, List.getElem_cons_zero])
      refine Eq.mpr (if_pos (by first | rfl | simp [Region.wanted, yielded, Act.put])) ?_
      refine wp_bs0 rfl x3.heap.size x3 hBc (Nat.le_refl _) ?_
      intro g0 x0 ho hg0 hl0 hf0 hBc
      have s0 := hf0.size
      have hb9 := hf0.blk hb9 (fun h => h)
      have hb12 := hf0.blk hb12 (fun h => h)
      refine hK.out _ _ ?_ (fun hHeld => ?_)
      · exact K6.out _ hBc
      clear hK K
      (try simp only [Act.put, List.setIfInBounds_toArray, List.set_cons_succ, List.set_cons_zero])
      refine wpAnyH_ready (rs := [7]) (by kernel_rfl) (by simp) ?_
      refine AllReadyH.cons rfl (fun K hK => ?_) AllReadyH.nil
      (try simp only [List.getElem_toArray, List.getElem_cons_succ, List.getElem_cons_zero])
      refine Eq.mpr (if_pos (by first | rfl | simp [Region.wanted, yielded, Act.put])) ?_
      have hne12 := ho.ne_blk hb12 (by decide)
      refine wp_appZs (.tmp 39) (.tmp 41) rfl x3.heap.size x3 hBc (Nat.le_refl _) (some ⟨g0, 0, none⟩) 0 0 [] (by first | rfl | simp [Act.eval]) ho A1 D c1 P (by first | rfl | simp [Act.eval]) (HRP.out.below hBc) (by omega) ?_
      intro A7 c7 xd ho hf7 hBc
      have s7 := hf7.size
      rw [Nat.zero_add, List.nil_append] at ho
      rw [Nat.zero_add]
      have hb9 := hf7.blk hb9 (by simp [blkOf]; omega)
      have hb12 := hf7.blk hb12 (fun h => hne12 _ h rfl)
      refine hK.out _ _ ?_ (fun hHeld => ?_)
      · exact K6.out _ hBc
      clear hK K
      (try simp only [Act.put, List.setIfInBounds_toArray, List.set_cons_succ, List.set_cons_zero])
      refine wpAnyH_ready (rs := [10]) (by kernel_rfl) (by simp) ?_
      refine AllReadyH.cons rfl (fun K hK => ?_) AllReadyH.nil
      (try simp only [List.getElem_toArray, List.getElem_cons_succ, List.getElem_cons_zero])
      refine Eq.mpr (if_pos (by first | rfl | simp [Region.wanted, yielded, Act.put])) ?_
      have hne12 := ho.ne_blk hb12 (by decide)
      refine wp_appHs (.tmp 42) (.tmp 44) rfl x3.heap.size x3 hBc (Nat.le_refl _) A7 D c7 P (by first | rfl | simp [Act.eval]) ho (some ⟨g1, 0, none⟩) 1 1 [hh] (by first | rfl | simp [Act.eval]) (RdH.oneV hh32.out hHC.out hb9) (by omega) (by omega) ?_
      intro A10 c10 xe ho hf10 hBc
      have s10 := hf10.size
      rw [← HE1.out] at ho
      rw [← HE1.out]
      have hb12 := hf10.blk hb12 (fun h => hne12 _ h rfl)
      refine hK.out _ _ ?_ (fun hHeld => ?_)
      · exact K6.out _ hBc
      clear hK K
      (try simp only [Act.put, List.setIfInBounds_toArray, List.set_cons_succ, List.set_cons_zero])
      refine wpAnyH_take (i := 11) (v := .agg #[.int .i64 (n : Int), .int .i64 (i : Int), .slice A10 E1 c10]) rfl (by kernel_rfl) (by kernel_rfl) (by kernel_rfl) (fun _ _ _ h => h) (Or.inl ⟨by rfl, ?_⟩) (by assumption) ?_
      · intro w hSw; (try dsimp only at hSw); simp only [List.getElem_toArray, List.getElem_cons_succ, List.getElem_cons_zero]; first | (simp [execOp, Act.eval, BRL]; done) | (go_simp; done)
      (try simp only [List.getElem_toArray, List.getElem_cons_succ, List.getElem_cons_zero, Act.put, List.setIfInBounds_toArray, List.set_cons_succ, List.set_cons_zero])
      refine wpAnyH_ready (rs := [13]) (by kernel_rfl) (by simp) ?_
      refine AllReadyH.cons rfl (fun K hK => ?_) AllReadyH.nil
      (try simp only [List.getElem_toArray, List.getElem_cons_succ, List.getElem_cons_zero])
      refine Eq.mpr (if_pos (by first | rfl | simp [Region.wanted, yielded, Act.put])) ?_
      have hne := ho.ne_blk hb12 (by decide)
      refine wp_store_in 25 (.tmp 9) (.tmp 46) rfl g12 [.int .i64 0, .int .i64 0, .slice none 0 0] [.int .i64 (n : Int), .int .i64 (i : Int), .slice A10 E1 c10] 25 rfl rfl hb12 rfl I3b (by simp [Value.oneCell']) ?_
      intro xf hb12 ho13
      have ho := ho.frm (Frm.only ho13 (S := fun k => k = g12) rfl) (fun k hk he => hne k hk he)
      have hBc := hBc.trans (ho13.below (by omega))
      refine hK.out _ _ ?_ (fun hHeld => ?_)
      · exact K6.out _ hBc
      clear hK K
      (try simp only [Act.put, List.setIfInBounds_toArray, List.set_cons_succ, List.set_cons_zero])
      refine wpAnyH_done (by kernel_rfl) ?_ _
      go_wp2
      go_meet
      exact ⟨g12, A10, c10, rfl, hb12, ho.rd, hBc⟩
    refine AllReadyH.cons rfl (fun K hK => ?_) AllReadyH.nil
    (try simp only [List.getElem_toArray, List.getElem_cons_succ, List.getElem_cons_zero])
    refine Eq.mpr (if_pos (by first | rfl | simp [Region.wanted, yielded, Act.put])) ?_
    have hsz := hBc.size
    refine wp_allocT 25 [.int .i64 0, .int .i64 0, .slice none 0 0] Z3b rfl x3.heap.size x3 hBc (Nat.le_refl _) ?_
    intro g12 xc hb12 hg12 hl12 hf12 hBc
    have s12 := hf12.size
    have hx12 : x3.heap.size ≤ g12 := Nat.le_trans hsz hg12
    refine hK.out _ _ ?_ (fun hHeld => ?_)
    · exact K6.out _ hBc
    clear hK K
    (try simp only [Act.put, List.setIfInBounds_toArray, List.set_cons_succ, List.set_cons_zero])
    refine wpAnyH_ready (rs := [4, 9]) (by kernel_rfl) (by simp) ?_
    refine AllReadyH.cons rfl (fun K hK => ?_) ?_
    · (try simp only [List.getElem_toArray, List.getElem_cons_succ, List.getElem_cons_zero])
      refine Eq.mpr (if_pos (by first | rfl | simp [Region.wanted, yielded, Act.put])) ?_
      refine wp_bs0 rfl x3.heap.size x3 hBc (Nat.le_refl _) ?_
      intro g0 x0 ho hg0 hl0 hf0 hBc
      have s0 := hf0.size
      have hb12 := hf0.blk hb12 (fun h => h)
      refine hK.out _ _ ?_ (fun hHeld => ?_)
      · exact K6.out _ hBc
      clear hK K
      (try simp only [Act.put, List.setIfInBounds_toArray, List.set_cons_succ, List.set_cons_zero])
      refine wpAnyH_ready (rs := [7, 9]) (by kernel_rfl) (by simp) ?_
      refine AllReadyH.cons rfl (fun K hK => ?_) ?_
      · (try simp only [List.getElem_toArray, List.getElem_cons_succ, List.getElem_cons_zero])
        refine Eq.mpr (if_pos (by first | rfl | simp [Region.wanted, yielded, Act.put])) ?_
        have hne12 := ho.ne_blk hb12 (by decide)
        refine wp_appZs (.tmp 39) (.tmp 41) rfl x3.heap.size x3 hBc (Nat.le_refl _) (some ⟨g0, 0, none⟩) 0 0 [] (by first | rfl | simp [Act.eval]) ho A1 D c1 P (by first | rfl | simp [Act.eval]) (HRP.out.below hBc) (by omega) ?_
        intro A7 c7 xd ho hf7 hBc
        have s7 := hf7.size
        rw [Nat.zero_add, List.nil_append] at ho
        rw [Nat.zero_add]
        have hb12 := hf7.blk hb12 (fun h => hne12 _ h rfl)
        refine hK.out _ _ ?_ (fun hHeld => ?_)
        · exact K6.out _ hBc
        clear hK K
        (try simp only [Act.put, List.setIfInBounds_toArray, List.set_cons_succ, List.set_cons_zero])
        refine wpAnyH_ready (rs := [9]) (by kernel_rfl) (by simp) ?_
        refine AllReadyH.cons rfl (fun K hK => ?_) AllReadyH.nil
        (try simp only [List.getElem_toArray, List.getElem_cons_succ, List.getElem_cons_zero])
        refine Eq.mpr (if_pos (by first | rfl | simp [Region.wanted, yielded, Act.put])) ?_
        refine wp_bs1 _ rfl HC (by first | rfl | simp [Act.eval]) LHC.out x3.heap.size x3 hBc (Nat.le_refl _) ?_
        intro g1 xb hb9 hg9 hl9 hf9 hBc
        have s9 := hf9.size
        have ho := ho.frm hf9 (fun _ _ h => h)
        have hb12 := hf9.blk hb12 (fun h => h)
        refine hK.out _ _ ?_ (fun hHeld => ?_)
        · exact K6.out _ hBc
        clear hK K
        (try simp only [Act.put, List.setIfInBounds_toArray, List.set_cons_succ, List.set_cons_zero])
        refine wpAnyH_ready (rs := [10]) (by kernel_rfl) (by simp) ?_
        refine AllReadyH.cons rfl (fun K hK => ?_) AllReadyH.nil
        (try simp only [List.getElem_toArray, List.getElem_cons_succ, List.getElem_cons_zero])
        refine Eq.mpr (if_pos (by first | rfl | simp [Region.wanted, yielded, Act.put])) ?_
        have hne12 := ho.ne_blk hb12 (by decide)
        refine wp_appHs (.tmp 42) (.tmp 44) rfl x3.heap.size x3 hBc (Nat.le_refl _) A7 D c7 P (by first | rfl | simp [Act.eval]) ho (some ⟨g1, 0, none⟩) 1 1 [hh] (by first | rfl | simp [Act.eval]) (RdH.oneV hh32.out hHC.out hb9) (by omega) (by omega) ?_
        intro A10 c10 xe ho hf10 hBc
        have s10 := hf10.size
        rw [← HE1.out] at ho
        rw [← HE1.out]
        have hb12 := hf10.blk hb12 (fun h => hne12 _ h rfl)
        refine hK.out _ _ ?_ (fun hHeld => ?_)
        · exact K6.out _ hBc
        clear hK K
        (try simp only [Act.put, List.setIfInBounds_toArray, List.set_cons_succ, List.set_cons_zero])
        refine wpAnyH_take (i := 11) (v := .agg #[.int .i64 (n : Int), .int .i64 (i : Int), .slice A10 E1 c10]) rfl (by kernel_rfl) (by kernel_rfl) (by kernel_rfl) (fun _ _ _ h => h) (Or.inl ⟨by rfl, ?_⟩) (by assumption) ?_
        · intro w hSw; (try dsimp only at hSw); simp only [List.getElem_toArray, List.getElem_cons_succ, List.getElem_cons_zero]; first | (simp [execOp, Act.eval, BRL]; done) | (go_simp; done)
        (try simp only [List.getElem_toArray, List.getElem_cons_succ, List.getElem_cons_zero, Act.put, List.setIfInBounds_toArray, List.set_cons_succ, List.set_cons_zero])
        refine wpAnyH_ready (rs := [13]) (by kernel_rfl) (by simp) ?_
        refine AllReadyH.cons rfl (fun K hK => ?_) AllReadyH.nil
        (try simp only [List.getElem_toArray, List.getElem_cons_succ, List.getElem_cons_zero])
        refine Eq.mpr (if_pos (by first | rfl | simp [Region.wanted, yielded, Act.put])) ?_
        have hne := ho.ne_blk hb12 (by decide)
        refine wp_store_in 25 (.tmp 9) (.tmp 46) rfl g12 [.int .i64 0, .int .i64 0, .slice none 0 0] [.int .i64 (n : Int), .int .i64 (i : Int), .slice A10 E1 c10] 25 rfl rfl hb12 rfl I3b (by simp [Value.oneCell']) ?_
        intro xf hb12 ho13
        have ho := ho.frm (Frm.only ho13 (S := fun k => k = g12) rfl) (fun k hk he => hne k hk he)
        have hBc := hBc.trans (ho13.below (by omega))
        refine hK.out _ _ ?_ (fun hHeld => ?_)
        · exact K6.out _ hBc
        clear hK K
        (try simp only [Act.put, List.setIfInBounds_toArray, List.set_cons_succ, List.set_cons_zero])
        refine wpAnyH_done (by kernel_rfl) ?_ _
        go_wp2
        go_meet
        exact ⟨g12, A10, c10, rfl, hb12, ho.rd, hBc⟩
      refine AllReadyH.cons rfl (fun K hK => ?_) AllReadyH.nil
      (try simp only [List.getElem_toArray, List.getElem_cons_succ, List.getElem_cons_zero])
      refine Eq.mpr (if_pos (by first | rfl | simp [Region.wanted, yielded, Act.put])) ?_
      refine wp_bs1 _ rfl HC (by first | rfl | simp [Act.eval]) LHC.out x3.heap.size x3 hBc (Nat.le_refl _) ?_
      intro g1 xb hb9 hg9 hl9 hf9 hBc
      have s9 := hf9.size
      have ho := ho.frm hf9 (fun _ _ h => h)
      have hb12 := hf9.blk hb12 (fun h => h)
      refine hK.out _ _ ?_ (fun hHeld => ?_)
      · exact K6.out _ hBc
      clear hK K
      (try simp only [Act.put, List.setIfInBounds_toArray, List.set_cons_succ, List.set_cons_zero])
      refine wpAnyH_ready (rs := [7]) (by kernel_rfl) (by simp) ?_
      refine AllReadyH.cons rfl (fun K hK => ?_) AllReadyH.nil
      (try simp only [List.getElem_toArray, List.getElem_cons_succ, List.getElem_cons_zero])
      refine Eq.mpr (if_pos (by first | rfl | simp [Region.wanted, yielded, Act.put])) ?_
      have hne12 := ho.ne_blk hb12 (by decide)
      refine wp_appZs (.tmp 39) (.tmp 41) rfl x3.heap.size x3 hBc (Nat.le_refl _) (some ⟨g0, 0, none⟩) 0 0 [] (by first | rfl | simp [Act.eval]) ho A1 D c1 P (by first | rfl | simp [Act.eval]) (HRP.out.below hBc) (by omega) ?_
      intro A7 c7 xd ho hf7 hBc
      have s7 := hf7.size
      rw [Nat.zero_add, List.nil_append] at ho
      rw [Nat.zero_add]
      have hb9 := hf7.blk hb9 (by simp [blkOf]; omega)
      have hb12 := hf7.blk hb12 (fun h => hne12 _ h rfl)
      refine hK.out _ _ ?_ (fun hHeld => ?_)
      · exact K6.out _ hBc
      clear hK K
      (try simp only [Act.put, List.setIfInBounds_toArray, List.set_cons_succ, List.set_cons_zero])
      refine wpAnyH_ready (rs := [10]) (by kernel_rfl) (by simp) ?_
      refine AllReadyH.cons rfl (fun K hK => ?_) AllReadyH.nil
      (try simp only [List.getElem_toArray, List.getElem_cons_succ, List.getElem_cons_zero])
      refine Eq.mpr (if_pos (by first | rfl | simp [Region.wanted, yielded, Act.put])) ?_
      have hne12 := ho.ne_blk hb12 (by decide)
      refine wp_appHs (.tmp 42) (.tmp 44) rfl x3.heap.size x3 hBc (Nat.le_refl _) A7 D c7 P (by first | rfl | simp [Act.eval]) ho (some ⟨g1, 0, none⟩) 1 1 [hh] (by first | rfl | simp [Act.eval]) (RdH.oneV hh32.out hHC.out hb9) (by omega) (by omega) ?_
      intro A10 c10 xe ho hf10 hBc
      have s10 := hf10.size
      rw [← HE1.out] at ho
      rw [← HE1.out]
      have hb12 := hf10.blk hb12 (fun h => hne12 _ h rfl)
      refine hK.out _ _ ?_ (fun hHeld => ?_)
      · exact K6.out _ hBc
      clear hK K
      (try simp only [Act.put, List.setIfInBounds_toArray, List.set_cons_succ, List.set_cons_zero])
      refine wpAnyH_take (i := 11) (v := .agg #[.int .i64 (n : Int), .int .i64 (i : Int), .slice A10 E1 c10]) rfl (by kernel_rfl) (by kernel_rfl) (by kernel_rfl) (fun _ _ _ h => h) (Or.inl ⟨by rfl, ?_⟩) (by assumption) ?_
      · intro w hSw; (try dsimp only at hSw); simp only [List.getElem_toArray, List.getElem_cons_succ, List.getElem_cons_zero]; first | (simp [execOp, Act.eval, BRL]; done) | (go_simp; done)
      (try simp only [List.getElem_toArray, List.getElem_cons_succ, List.getElem_cons_zero, Act.put, List.setIfInBounds_toArray, List.set_cons_succ, List.set_cons_zero])
      refine wpAnyH_ready (rs := [13]) (by kernel_rfl) (by simp) ?_
      refine AllReadyH.cons rfl (fun K hK => ?_) AllReadyH.nil
      (try simp only [List.getElem_toArray, List.getElem_cons_succ, List.getElem_cons_zero])
      refine Eq.mpr (if_pos (by first | rfl | simp [Region.wanted, yielded, Act.put])) ?_
      have hne := ho.ne_blk hb12 (by decide)
      refine wp_store_in 25 (.tmp 9) (.tmp 46) rfl g12 [.int .i64 0, .int .i64 0, .slice none 0 0] [.int .i64 (n : Int), .int .i64 (i : Int), .slice A10 E1 c10] 25 rfl rfl hb12 rfl I3b (by simp [Value.oneCell']) ?_
      intro xf hb12 ho13
      have ho := ho.frm (Frm.only ho13 (S := fun k => k = g12) rfl) (fun k hk he => hne k hk he)
      have hBc := hBc.trans (ho13.below (by omega))
      refine hK.out _ _ ?_ (fun hHeld => ?_)
      · exact K6.out _ hBc
      clear hK K
      (try simp only [Act.put, List.setIfInBounds_toArray, List.set_cons_succ, List.set_cons_zero])
      refine wpAnyH_done (by kernel_rfl) ?_ _
      go_wp2
      go_meet
      exact ⟨g12, A10, c10, rfl, hb12, ho.rd, hBc⟩
    refine AllReadyH.cons rfl (fun K hK => ?_) AllReadyH.nil
    (try simp only [List.getElem_toArray, List.getElem_cons_succ, List.getElem_cons_zero])
    refine Eq.mpr (if_pos (by first | rfl | simp [Region.wanted, yielded, Act.put])) ?_
    refine wp_bs1 _ rfl HC (by first | rfl | simp [Act.eval]) LHC.out x3.heap.size x3 hBc (Nat.le_refl _) ?_
    intro g1 xb hb9 hg9 hl9 hf9 hBc
    have s9 := hf9.size
    have hb12 := hf9.blk hb12 (fun h => h)
    refine hK.out _ _ ?_ (fun hHeld => ?_)
    · exact K6.out _ hBc
    clear hK K
    (try simp only [Act.put, List.setIfInBounds_toArray, List.set_cons_succ, List.set_cons_zero])
    refine wpAnyH_ready (rs := [4]) (by kernel_rfl) (by simp) ?_
    refine AllReadyH.cons rfl (fun K hK => ?_) AllReadyH.nil
    (try simp only [List.getElem_toArray, List.getElem_cons_succ, List.getElem_cons_zero])
    refine Eq.mpr (if_pos (by first | rfl | simp [Region.wanted, yielded, Act.put])) ?_
    refine wp_bs0 rfl x3.heap.size x3 hBc (Nat.le_refl _) ?_
    intro g0 x0 ho hg0 hl0 hf0 hBc
    have s0 := hf0.size
    have hb9 := hf0.blk hb9 (fun h => h)
    have hb12 := hf0.blk hb12 (fun h => h)
    refine hK.out _ _ ?_ (fun hHeld => ?_)
    · exact K6.out _ hBc
    clear hK K
    (try simp only [Act.put, List.setIfInBounds_toArray, List.set_cons_succ, List.set_cons_zero])
    refine wpAnyH_ready (rs := [7]) (by kernel_rfl) (by simp) ?_
    refine AllReadyH.cons rfl (fun K hK => ?_) AllReadyH.nil
    (try simp only [List.getElem_toArray, List.getElem_cons_succ, List.getElem_cons_zero])
    refine Eq.mpr (if_pos (by first | rfl | simp [Region.wanted, yielded, Act.put])) ?_
    have hne12 := ho.ne_blk hb12 (by decide)
    refine wp_appZs (.tmp 39) (.tmp 41) rfl x3.heap.size x3 hBc (Nat.le_refl _) (some ⟨g0, 0, none⟩) 0 0 [] (by first | rfl | simp [Act.eval]) ho A1 D c1 P (by first | rfl | simp [Act.eval]) (HRP.out.below hBc) (by omega) ?_
    intro A7 c7 xd ho hf7 hBc
    have s7 := hf7.size
    rw [Nat.zero_add, List.nil_append] at ho
    rw [Nat.zero_add]
    have hb9 := hf7.blk hb9 (by simp [blkOf]; omega)
    have hb12 := hf7.blk hb12 (fun h => hne12 _ h rfl)
    refine hK.out _ _ ?_ (fun hHeld => ?_)
    · exact K6.out _ hBc
    clear hK K
    (try simp only [Act.put, List.setIfInBounds_toArray, List.set_cons_succ, List.set_cons_zero])
    refine wpAnyH_ready (rs := [10]) (by kernel_rfl) (by simp) ?_
    refine AllReadyH.cons rfl (fun K hK => ?_) AllReadyH.nil
    (try simp only [List.getElem_toArray, List.getElem_cons_succ, List.getElem_cons_zero])
    refine Eq.mpr (if_pos (by first | rfl | simp [Region.wanted, yielded, Act.put])) ?_
    have hne12 := ho.ne_blk hb12 (by decide)
    refine wp_appHs (.tmp 42) (.tmp 44) rfl x3.heap.size x3 hBc (Nat.le_refl _) A7 D c7 P (by first | rfl | simp [Act.eval]) ho (some ⟨g1, 0, none⟩) 1 1 [hh] (by first | rfl | simp [Act.eval]) (RdH.oneV hh32.out hHC.out hb9) (by omega) (by omega) ?_
    intro A10 c10 xe ho hf10 hBc
    have s10 := hf10.size
    rw [← HE1.out] at ho
    rw [← HE1.out]
    have hb12 := hf10.blk hb12 (fun h => hne12 _ h rfl)
    refine hK.out _ _ ?_ (fun hHeld => ?_)
    · exact K6.out _ hBc
    clear hK K
    (try simp only [Act.put, List.setIfInBounds_toArray, List.set_cons_succ, List.set_cons_zero])
    refine wpAnyH_take (i := 11) (v := .agg #[.int .i64 (n : Int), .int .i64 (i : Int), .slice A10 E1 c10]) rfl (by kernel_rfl) (by kernel_rfl) (by kernel_rfl) (fun _ _ _ h => h) (Or.inl ⟨by rfl, ?_⟩) (by assumption) ?_
    · intro w hSw; (try dsimp only at hSw); simp only [List.getElem_toArray, List.getElem_cons_succ, List.getElem_cons_zero]; first | (simp [execOp, Act.eval, BRL]; done) | (go_simp; done)
    (try simp only [List.getElem_toArray, List.getElem_cons_succ, List.getElem_cons_zero, Act.put, List.setIfInBounds_toArray, List.set_cons_succ, List.set_cons_zero])
    refine wpAnyH_ready (rs := [13]) (by kernel_rfl) (by simp) ?_
    refine AllReadyH.cons rfl (fun K hK => ?_) AllReadyH.nil
    (try simp only [List.getElem_toArray, List.getElem_cons_succ, List.getElem_cons_zero])
    refine Eq.mpr (if_pos (by first | rfl | simp [Region.wanted, yielded, Act.put])) ?_
    have hne := ho.ne_blk hb12 (by decide)
    refine wp_store_in 25 (.tmp 9) (.tmp 46) rfl g12 [.int .i64 0, .int .i64 0, .slice none 0 0] [.int .i64 (n : Int), .int .i64 (i : Int), .slice A10 E1 c10] 25 rfl rfl hb12 rfl I3b (by simp [Value.oneCell']) ?_
    intro xf hb12 ho13
    have ho := ho.frm (Frm.only ho13 (S := fun k => k = g12) rfl) (fun k hk he => hne k hk he)
    have hBc := hBc.trans (ho13.below (by omega))
    refine hK.out _ _ ?_ (fun hHeld => ?_)
    · exact K6.out _ hBc
    clear hK K
    (try simp only [Act.put, List.setIfInBounds_toArray, List.set_cons_succ, List.set_cons_zero])
    refine wpAnyH_done (by kernel_rfl) ?_ _
    go_wp2
    go_meet
    exact ⟨g12, A10, c10, rfl, hb12, ho.rd, hBc⟩
  case rest =>
    obtain ⟨g9, A3, c3, rfl, hb9, hr9, hB39⟩ := hcut
    have hBw := below_more hB3 hB39
    have hX9 := range_below hga (below_more hB0 (below_more h03 hB39)) hb
    have hb99 : b < wc.heap.size := Nat.lt_of_lt_of_le hb (below_more hB0 (below_more h03 hB39)).size
    have K7 : Hid (∀ W, Below wc.heap.size wc W → W.rangeAt g9 0 [.int .i64 (n : Int), .int .i64 (i : Int), .slice A3 E1 c3] ∧ W.rangeAt (w.heap.size) 0 HC ∧ W.rangeAt b (off + i * 32) X) := Lib.hid fun W h => ⟨(hb9.up h).range, ((hk03.up hB39).up h).range, range_below hX9 h hb99⟩
    go_upto_region 7 with fail
    refine wp_region_held_drew (S := fun W => W.rangeAt g9 0 [.int .i64 (n : Int), .int .i64 (i : Int), .slice A3 E1 c3] ∧ W.rangeAt (w.heap.size) 0 HC ∧ W.rangeAt b (off + i * 32) X) (by kernel_rfl) ?_ (fun hHeld => ?_)
    · exact K7.out _ (by ((repeat (first | with_reducible assumption | with_reducible exact Below.refl _ _ | with_reducible apply below_al | with_reducible apply below_dr | with_reducible refine below_more ?_ (by assumption)))))
    refine wpAnyH_take (i := 0) rfl (by kernel_rfl) (by kernel_rfl) (by kernel_rfl) (fun _ _ _ h => h) (yieldsIf_load_mid (by rfl) _ _ rfl _ _ rfl [.int .i64 (n : Int), .int .i64 (i : Int), .slice A3 E1 c3] _ (fun w hSw => by (try dsimp only at hSw); go_split_ands; assumption) Tryd.underlying25 rfl (by kernel_rfl)) (by assumption) ?_
    (try simp only [List.getElem_toArray, List.getElem_cons_succ, List.getElem_cons_zero, Act.put, List.setIfInBounds_toArray, List.set_cons_succ, List.set_cons_zero])
    refine wpAnyH_ready (rs := [1]) (by kernel_rfl) (by simp) ?_
    refine AllReadyH.cons rfl (fun K hK => ?_) AllReadyH.nil
    (try simp only [List.getElem_toArray, List.getElem_cons_succ, List.getElem_cons_zero])
    go_simp
    go_at_call 18; refine (CL1.out _ A3 c3).mono ?_; rintro e' z1 ⟨rfl, e1⟩
    (try (go_wp2_with fail))
    refine hK.out _ _ ?_ (fun hHeld => ?_)
    · exact K7.out _ (by ((repeat (first | with_reducible assumption | with_reducible exact Below.refl _ _ | with_reducible apply below_al | with_reducible apply below_dr | with_reducible refine below_more ?_ (by assumption)))))
    clear hK K
    (try simp only [Act.put, List.setIfInBounds_toArray, List.set_cons_succ, List.set_cons_zero])
    refine wpAnyH_take (i := 2) (v := ?_) rfl (by kernel_rfl) (by kernel_rfl) (by kernel_rfl) (fun _ _ _ h => h) (Or.inl ⟨by rfl, ?_⟩) (by assumption) ?_
    rotate_left 1
    · intro w hSw; (try dsimp only at hSw); simp only [List.getElem_toArray, List.getElem_cons_succ, List.getElem_cons_zero]; go_simp; try (with_reducible rfl)
    (try simp only [List.getElem_toArray, List.getElem_cons_succ, List.getElem_cons_zero, Act.put, List.setIfInBounds_toArray, List.set_cons_succ, List.set_cons_zero])
    refine wpAnyH_take (i := 3) (v := ?_) rfl (by kernel_rfl) (by kernel_rfl) (by kernel_rfl) (fun _ _ _ h => h) (Or.inl ⟨by rfl, ?_⟩) (by assumption) ?_
    rotate_left 1
    · intro w hSw; (try dsimp only at hSw); simp only [List.getElem_toArray, List.getElem_cons_succ, List.getElem_cons_zero]; go_simp; try (with_reducible rfl)
    (try simp only [List.getElem_toArray, List.getElem_cons_succ, List.getElem_cons_zero, Act.put, List.setIfInBounds_toArray, List.set_cons_succ, List.set_cons_zero])
    refine wpAnyH_take (i := 4) rfl (by kernel_rfl) (by kernel_rfl) (by kernel_rfl) (fun _ _ _ h => h) (yieldsIf_load_mid (by rfl) _ _ rfl _ _ rfl [.int .i64 (n : Int), .int .i64 (i : Int), .slice A3 E1 c3] _ (fun w hSw => by (try dsimp only at hSw); go_split_ands; assumption) Tryd.underlying25 rfl (by kernel_rfl)) (by assumption) ?_
    (try simp only [List.getElem_toArray, List.getElem_cons_succ, List.getElem_cons_zero, Act.put, List.setIfInBounds_toArray, List.set_cons_succ, List.set_cons_zero])
    refine wpAnyH_take (i := 5) rfl (by kernel_rfl) (by kernel_rfl) (by kernel_rfl) (fun _ _ _ h => h) (yieldsIf_load_mid (by rfl) _ _ rfl _ _ rfl HC _ (fun w hSw => by (try dsimp only at hSw); go_split_ands; assumption) Tryd.underlying35 rfl IH.out) (by assumption) ?_
    (try simp only [List.getElem_toArray, List.getElem_cons_succ, List.getElem_cons_zero, Act.put, List.setIfInBounds_toArray, List.set_cons_succ, List.set_cons_zero])
    refine wpAnyH_take (i := 6) (v := ?_) rfl (by kernel_rfl) (by kernel_rfl) (by kernel_rfl) (fun _ _ _ h => h) (Or.inl ⟨by rfl, ?_⟩) (by assumption) ?_
    rotate_left 1
    · intro w hSw; (try dsimp only at hSw); simp only [List.getElem_toArray, List.getElem_cons_succ, List.getElem_cons_zero]; go_simp; try (with_reducible rfl)
    (try simp only [List.getElem_toArray, List.getElem_cons_succ, List.getElem_cons_zero, Act.put, List.setIfInBounds_toArray, List.set_cons_succ, List.set_cons_zero])
    refine wpAnyH_take (i := 7) (v := ?_) rfl (by kernel_rfl) (by kernel_rfl) (by kernel_rfl) (fun _ _ _ h => h) (Or.inl ⟨by rfl, ?_⟩) (by assumption) ?_
    rotate_left 1
    · intro w hSw; (try dsimp only at hSw); simp only [List.getElem_toArray, List.getElem_cons_succ, List.getElem_cons_zero]; go_simp; try (with_reducible rfl)
    (try simp only [List.getElem_toArray, List.getElem_cons_succ, List.getElem_cons_zero, Act.put, List.setIfInBounds_toArray, List.set_cons_succ, List.set_cons_zero])
    refine wpAnyH_take (i := 8) (v := ?_) rfl (by kernel_rfl) (by kernel_rfl) (by kernel_rfl) (fun _ _ _ h => h) (Or.inl ⟨by rfl, ?_⟩) (by assumption) ?_
    rotate_left 1
    · intro w hSw; (try dsimp only at hSw); simp only [List.getElem_toArray, List.getElem_cons_succ, List.getElem_cons_zero]; go_simp; try (with_reducible rfl)
    (try simp only [List.getElem_toArray, List.getElem_cons_succ, List.getElem_cons_zero, Act.put, List.setIfInBounds_toArray, List.set_cons_succ, List.set_cons_zero])
    refine wpAnyH_take (i := 9) rfl (by kernel_rfl) (by kernel_rfl) (by kernel_rfl) (fun _ _ _ h => h) (yieldsIf_load_mid (by rfl) _ _ rfl _ _ rfl X _ (fun w hSw => by (try dsimp only at hSw); go_split_ands; assumption) Tryd.underlying35 rfl IX.out) (by assumption) ?_
    (try simp only [List.getElem_toArray, List.getElem_cons_succ, List.getElem_cons_zero, Act.put, List.setIfInBounds_toArray, List.set_cons_succ, List.set_cons_zero])
    refine wpAnyH_ready (rs := [10]) (by kernel_rfl) (by simp) ?_
    refine AllReadyH.cons rfl (fun K hK => ?_) AllReadyH.nil
    (try simp only [List.getElem_toArray, List.getElem_cons_succ, List.getElem_cons_zero])
    go_simp
    go_at_call 13; refine (CL2.out _ A3 c3 (hr9.below (by ((repeat (first | with_reducible assumption | with_reducible exact Below.refl _ _ | with_reducible apply below_al | with_reducible apply below_dr | with_reducible refine below_more ?_ (by assumption)))))) (below_more hBw (by ((repeat (first | with_reducible assumption | with_reducible exact Below.refl _ _ | with_reducible apply below_al | with_reducible apply below_dr | with_reducible refine below_more ?_ (by assumption))))))).mono ?_; rintro e' z10 ⟨rfl, e10⟩
    (try (go_wp2_with fail))
    refine hK.out _ _ ?_ (fun hHeld => ?_)
    · exact K7.out _ (by ((repeat (first | with_reducible assumption | with_reducible exact Below.refl _ _ | with_reducible apply below_al | with_reducible apply below_dr | with_reducible refine below_more ?_ (by assumption)))))
    clear hK K
    (try simp only [Act.put, List.setIfInBounds_toArray, List.set_cons_succ, List.set_cons_zero])
    refine wpAnyH_take (i := 11) (v := ?_) rfl (by kernel_rfl) (by kernel_rfl) (by kernel_rfl) (fun _ _ _ h => h) (Or.inl ⟨by rfl, ?_⟩) (by assumption) ?_
    rotate_left 1
    · intro w hSw; (try dsimp only at hSw); simp only [List.getElem_toArray, List.getElem_cons_succ, List.getElem_cons_zero]; go_simp; try (with_reducible rfl)
    (try simp only [List.getElem_toArray, List.getElem_cons_succ, List.getElem_cons_zero, Act.put, List.setIfInBounds_toArray, List.set_cons_succ, List.set_cons_zero])
    refine wpAnyH_take (i := 12) (v := ?_) rfl (by kernel_rfl) (by kernel_rfl) (by kernel_rfl) (fun _ _ _ h => h) (Or.inl ⟨by rfl, ?_⟩) (by assumption) ?_
    rotate_left 1
    · intro w hSw; (try dsimp only at hSw); simp only [List.getElem_toArray, List.getElem_cons_succ, List.getElem_cons_zero]; go_simp; try (with_reducible rfl)
    (try simp only [List.getElem_toArray, List.getElem_cons_succ, List.getElem_cons_zero, Act.put, List.setIfInBounds_toArray, List.set_cons_succ, List.set_cons_zero])
    refine wpAnyH_done (by kernel_rfl) ?_ _
    have hB9z : Below wc.heap.size wc z10 := by ((repeat (first | with_reducible assumption | with_reducible exact Below.refl _ _ | with_reducible apply below_al | with_reducible apply below_dr | with_reducible refine below_more ?_ (by assumption))))
    have hB3z := below_more hB39 hB9z
    have hBz := below_more hBw hB9z
    clear hb9 hr9 hX9 hb99 CL1 CL2 e1 e10 hB9z
    have KR : Hid (∀ W, Below z10.heap.size z10 W → RdH W A1 D P) := Lib.hid fun W h => HRP.out.below (below_more hB3z h)
    by_cases hD0 : D = 0
    · have hD0' : (D : Int) = 0 := by omega
      have t2 : z10.cell? ⟨g7, 2, none⟩ = some (.slice A1 D c1) := (hk7.up hB3z).cell 2
      clear K6 K7 KR
      go_wp2_with (go_at_call 8; refine (CA.out _ hBz).mono ?_; rintro e' v9 ⟨rfl, d9⟩)
      go_ret
      exact ⟨rfl, below_more hBz d9⟩
    · have hD0' : ¬ (D : Int) = 0 := by omega
      have hD1 : 1 ≤ D := by omega
      have t2 : z10.cell? ⟨g7, 2, none⟩ = some (.slice A1 D c1) := (hk7.up hB3z).cell 2
      obtain ⟨D0, hD0e⟩ : ∃ k, k = D - 1 := ⟨_, rfl⟩
      obtain ⟨c0, hc0e⟩ : ∃ k, k = c1 - 1 := ⟨_, rfl⟩
      have hsub : ∀ W, (Instr.sliceAt 22 (.slice A1 D c1) (some (.int .i64 1)) none none).run Tryd.prog W = .ok (.slice (sub32 A1 c1) D0 c0) W := fun W => by rw [hD0e, hc0e]; exact run_sub32 A1 D c1 hD1 W
      have BRS : ∀ W, (Instr.build 25 #[(0, .int .i64 (n : Int)), (1, .int .i64 (i : Int)), (2, .slice (sub32 A1 c1) D0 c0)]).run Tryd.prog W = .ok (.agg #[.int .i64 (n : Int), .int .i64 (i : Int), .slice (sub32 A1 c1) D0 c0]) W := fun W => run_build W _ _ _ (by kernel_rfl)
      have CS := Lib.hid fun (W : World) (A' : Option Addr) (c' : Nat) (h1 : RdH W A' D0 (P.drop 1)) (h2 : Below w.heap.size w W) => CS0.out hD1 W A' c' (by rw [← hD0e]; exact h1) h2
      rw [← hD0e] at CS
      have K11 : Hid (∀ W, Below z10.heap.size z10 W → W.cell? ⟨g7, 0, none⟩ = some (.int .i64 (n : Int)) ∧ W.cell? ⟨g7, 1, none⟩ = some (.int .i64 (i : Int)) ∧ W.cell? ⟨g7, 2, none⟩ = some (.slice A1 D c1)) := Lib.hid fun W h => ⟨(hk7.up (below_more hB3z h)).cell 0, (hk7.up (below_more hB3z h)).cell 1, (hk7.up (below_more hB3z h)).cell 2⟩
      have HC1 := Lib.hid hc1
      have hX10 := range_below hga (below_more hB0 (below_more h03 hB3z)) hb
      have hb10 : b < z10.heap.size := Nat.lt_of_lt_of_le hb (below_more hB0 (below_more h03 hB3z)).size
      have HDD : Hid (D - 1 = D0) := Lib.hid hD0e.symm
      clear K6 K7 hD0e hc0e CS0
      go_upto_region 11 with fail
      refine wp_region_held_drew (S := fun W => W.cell? ⟨g7, 0, none⟩ = some (.int .i64 (n : Int)) ∧ W.cell? ⟨g7, 1, none⟩ = some (.int .i64 (i : Int)) ∧ W.cell? ⟨g7, 2, none⟩ = some (.slice A1 D c1)) (by kernel_rfl) ?_ (fun hHeld => ?_)
      · exact K11.out _ (below_dr (Below.refl _ _))
      refine wpAnyH_take (i := 0) (v := ?_) rfl (by kernel_rfl) (by kernel_rfl) (by kernel_rfl) (fun _ _ _ h => h) (Or.inl ⟨by rfl, ?_⟩) (by assumption) ?_
      rotate_left 1
      · intro w hSw; (try dsimp only at hSw); simp only [List.getElem_toArray, List.getElem_cons_succ, List.getElem_cons_zero]; go_simp; try (with_reducible rfl)
      (try simp only [List.getElem_toArray, List.getElem_cons_succ, List.getElem_cons_zero, Act.put, List.setIfInBounds_toArray, List.set_cons_succ, List.set_cons_zero])
      refine wpAnyH_take (i := 1) (v := ?_) rfl (by kernel_rfl) (by kernel_rfl) (by kernel_rfl) (fun _ _ _ h => h) (Or.inl ⟨by rfl, ?_⟩) (by assumption) ?_
      rotate_left 1
      · intro w hSw; (try dsimp only at hSw); simp only [List.getElem_toArray, List.getElem_cons_succ, List.getElem_cons_zero]; go_simp; try (with_reducible rfl)
      (try simp only [List.getElem_toArray, List.getElem_cons_succ, List.getElem_cons_zero, Act.put, List.setIfInBounds_toArray, List.set_cons_succ, List.set_cons_zero])
      refine wpAnyH_take (i := 2) (v := ?_) rfl (by kernel_rfl) (by kernel_rfl) (by kernel_rfl) (fun _ _ _ h => h) (Or.inl ⟨by rfl, ?_⟩) (by assumption) ?_
      rotate_left 1
      · intro w hSw; (try dsimp only at hSw); simp only [List.getElem_toArray, List.getElem_cons_succ, List.getElem_cons_zero]; go_simp; try (with_reducible rfl)
      (try simp only [List.getElem_toArray, List.getElem_cons_succ, List.getElem_cons_zero, Act.put, List.setIfInBounds_toArray, List.set_cons_succ, List.set_cons_zero])
      refine wpAnyH_take (i := 3) (v := ?_) rfl (by kernel_rfl) (by kernel_rfl) (by kernel_rfl) (fun _ _ _ h => h) (Or.inl ⟨by rfl, ?_⟩) (by assumption) ?_
      rotate_left 1
      · intro w hSw; (try dsimp only at hSw); simp only [List.getElem_toArray, List.getElem_cons_succ, List.getElem_cons_zero]; go_simp; try (with_reducible rfl)
      (try simp only [List.getElem_toArray, List.getElem_cons_succ, List.getElem_cons_zero, Act.put, List.setIfInBounds_toArray, List.set_cons_succ, List.set_cons_zero])
      refine wpAnyH_take (i := 4) (v := ?_) rfl (by kernel_rfl) (by kernel_rfl) (by kernel_rfl) (fun _ _ _ h => h) (Or.inl ⟨by rfl, ?_⟩) (by assumption) ?_
      rotate_left 1
      · intro w hSw; (try dsimp only at hSw); simp only [List.getElem_toArray, List.getElem_cons_succ, List.getElem_cons_zero]; go_simp; try (with_reducible rfl)
      (try simp only [List.getElem_toArray, List.getElem_cons_succ, List.getElem_cons_zero, Act.put, List.setIfInBounds_toArray, List.set_cons_succ, List.set_cons_zero])
      refine wpAnyH_take (i := 5) (v := ?_) rfl (by kernel_rfl) (by kernel_rfl) (by kernel_rfl) (fun _ _ _ h => h) (Or.inl ⟨by rfl, ?_⟩) (by assumption) ?_
      rotate_left 1
      · intro w hSw; (try dsimp only at hSw); simp only [List.getElem_toArray, List.getElem_cons_succ, List.getElem_cons_zero]; go_simp; try (with_reducible rfl)
      (try simp only [List.getElem_toArray, List.getElem_cons_succ, List.getElem_cons_zero, Act.put, List.setIfInBounds_toArray, List.set_cons_succ, List.set_cons_zero])
      refine wpAnyH_take (i := 6) (v := .slice (sub32 A1 c1) D0 c0) rfl (by kernel_rfl) (by kernel_rfl) (by kernel_rfl) (fun _ _ _ h => h) (Or.inl ⟨by rfl, ?_⟩) (by assumption) ?_
      · intro w hSw; (try dsimp only at hSw); simp only [List.getElem_toArray, List.getElem_cons_succ, List.getElem_cons_zero]; first | (go_simp; done) | (simp [execOp, Act.eval, hsub]; done)
      (try simp only [List.getElem_toArray, List.getElem_cons_succ, List.getElem_cons_zero, Act.put, List.setIfInBounds_toArray, List.set_cons_succ, List.set_cons_zero])
      refine wpAnyH_take (i := 7) (v := .agg #[.int .i64 (n : Int), .int .i64 (i : Int), .slice (sub32 A1 c1) D0 c0]) rfl (by kernel_rfl) (by kernel_rfl) (by kernel_rfl) (fun _ _ _ h => h) (Or.inl ⟨by rfl, ?_⟩) (by assumption) ?_
      · intro w hSw; (try dsimp only at hSw); simp only [List.getElem_toArray, List.getElem_cons_succ, List.getElem_cons_zero]; first | (simp [execOp, Act.eval, BRS]; done) | (go_simp; done)
      (try simp only [List.getElem_toArray, List.getElem_cons_succ, List.getElem_cons_zero, Act.put, List.setIfInBounds_toArray, List.set_cons_succ, List.set_cons_zero])
      refine wpAnyH_ready (rs := [8]) (by kernel_rfl) (by simp) ?_
      refine AllReadyH.cons rfl (fun K hK => ?_) AllReadyH.nil
      (try simp only [List.getElem_toArray, List.getElem_cons_succ, List.getElem_cons_zero])
      refine Eq.mpr (if_pos (by first | rfl | simp [Region.wanted, yielded, Act.put])) ?_
      refine wp_allocT 25 [.int .i64 0, .int .i64 0, .slice none 0 0] Z3b rfl z10.heap.size z10 (below_dr (Below.refl _ _)) (Nat.le_refl _) ?_
      intro ga ya hba hga2 hla hfa hBa
      refine hK.out _ _ ?_ (fun hHeld => ?_)
      · exact K11.out _ hBa
      clear hK K
      (try simp only [Act.put, List.setIfInBounds_toArray, List.set_cons_succ, List.set_cons_zero])
      refine wpAnyH_ready (rs := [9]) (by kernel_rfl) (by simp) ?_
      refine AllReadyH.cons rfl (fun K hK => ?_) AllReadyH.nil
      (try simp only [List.getElem_toArray, List.getElem_cons_succ, List.getElem_cons_zero])
      refine Eq.mpr (if_pos (by first | rfl | simp [Region.wanted, yielded, Act.put])) ?_
      refine wp_store_in 25 (.tmp 10) (.tmp 72) rfl ga [.int .i64 0, .int .i64 0, .slice none 0 0] [.int .i64 (n : Int), .int .i64 (i : Int), .slice (sub32 A1 c1) D0 c0] 25 rfl rfl hba rfl I3b (by simp [Value.oneCell']) ?_
      intro yb hbb hob
      have hgz : z10.heap.size ≤ ga := hga2
      have hBb := hBa.trans (hob.below hgz)
      refine hK.out _ _ ?_ (fun hHeld => ?_)
      · exact K11.out _ hBb
      clear hK K
      (try simp only [Act.put, List.setIfInBounds_toArray, List.set_cons_succ, List.set_cons_zero])
      refine wpAnyH_done (by kernel_rfl) ?_ _
      have hr12 : RdH yb (sub32 A1 c1) D0 (P.drop 1) := by
        have := (KR.out _ hBb).tail hD1 HC1.out
        rw [HDD.out] at this
        exact this
      have hB12 := below_more hBz hBb
      have K12 : Hid (∀ W, Below yb.heap.size yb W → W.rangeAt ga 0 [.int .i64 (n : Int), .int .i64 (i : Int), .slice (sub32 A1 c1) D0 c0] ∧ W.rangeAt b (off + i * 32) X) := Lib.hid fun W h => ⟨(hbb.up h).range, range_below hX10 (hBb.trans (h.mono hBb.size)) hb10⟩
      clear hba hfa hBa hbb hob K11 KR hBb
      go_upto_region 12 with fail
      refine wp_region_held_drew (S := fun W => W.rangeAt ga 0 [.int .i64 (n : Int), .int .i64 (i : Int), .slice (sub32 A1 c1) D0 c0] ∧ W.rangeAt b (off + i * 32) X) (by kernel_rfl) ?_ (fun hHeld => ?_)
      · exact K12.out _ (by ((repeat (first | with_reducible assumption | with_reducible exact Below.refl _ _ | with_reducible apply below_al | with_reducible apply below_dr | with_reducible refine below_more ?_ (by assumption)))))
      refine wpAnyH_take (i := 0) rfl (by kernel_rfl) (by kernel_rfl) (by kernel_rfl) (fun _ _ _ h => h) (yieldsIf_load_mid (by rfl) _ _ rfl _ _ rfl [.int .i64 (n : Int), .int .i64 (i : Int), .slice (sub32 A1 c1) D0 c0] _ (fun w hSw => by (try dsimp only at hSw); go_split_ands; assumption) Tryd.underlying25 rfl (by kernel_rfl)) (by assumption) ?_
      (try simp only [List.getElem_toArray, List.getElem_cons_succ, List.getElem_cons_zero, Act.put, List.setIfInBounds_toArray, List.set_cons_succ, List.set_cons_zero])
      refine wpAnyH_take (i := 1) (v := ?_) rfl (by kernel_rfl) (by kernel_rfl) (by kernel_rfl) (fun _ _ _ h => h) (Or.inl ⟨by rfl, ?_⟩) (by assumption) ?_
      rotate_left 1
      · intro w hSw; (try dsimp only at hSw); simp only [List.getElem_toArray, List.getElem_cons_succ, List.getElem_cons_zero]; go_simp; try (with_reducible rfl)
      (try simp only [List.getElem_toArray, List.getElem_cons_succ, List.getElem_cons_zero, Act.put, List.setIfInBounds_toArray, List.set_cons_succ, List.set_cons_zero])
      refine wpAnyH_take (i := 2) (v := ?_) rfl (by kernel_rfl) (by kernel_rfl) (by kernel_rfl) (fun _ _ _ h => h) (Or.inl ⟨by rfl, ?_⟩) (by assumption) ?_
      rotate_left 1
      · intro w hSw; (try dsimp only at hSw); simp only [List.getElem_toArray, List.getElem_cons_succ, List.getElem_cons_zero]; go_simp; try (with_reducible rfl)
      (try simp only [List.getElem_toArray, List.getElem_cons_succ, List.getElem_cons_zero, Act.put, List.setIfInBounds_toArray, List.set_cons_succ, List.set_cons_zero])
      refine wpAnyH_take (i := 3) (v := ?_) rfl (by kernel_rfl) (by kernel_rfl) (by kernel_rfl) (fun _ _ _ h => h) (Or.inl ⟨by rfl, ?_⟩) (by assumption) ?_
      rotate_left 1
      · intro w hSw; (try dsimp only at hSw); simp only [List.getElem_toArray, List.getElem_cons_succ, List.getElem_cons_zero]; go_simp; try (with_reducible rfl)
      (try simp only [List.getElem_toArray, List.getElem_cons_succ, List.getElem_cons_zero, Act.put, List.setIfInBounds_toArray, List.set_cons_succ, List.set_cons_zero])
      refine wpAnyH_take (i := 4) rfl (by kernel_rfl) (by kernel_rfl) (by kernel_rfl) (fun _ _ _ h => h) (yieldsIf_load_mid (by rfl) _ _ rfl _ _ rfl X _ (fun w hSw => by (try dsimp only at hSw); go_split_ands; assumption) Tryd.underlying35 rfl IX.out) (by assumption) ?_
      (try simp only [List.getElem_toArray, List.getElem_cons_succ, List.getElem_cons_zero, Act.put, List.setIfInBounds_toArray, List.set_cons_succ, List.set_cons_zero])
      refine wpAnyH_ready (rs := [5, 9]) (by kernel_rfl) (by simp) ?_
      refine AllReadyH.cons rfl (fun K hK => ?_) ?_
      · (try simp only [List.getElem_toArray, List.getElem_cons_succ, List.getElem_cons_zero])
        go_simp
        go_at_call 15; refine (CS.out _ (sub32 A1 c1) c0 (hr12.below (by ((repeat (first | with_reducible assumption | with_reducible exact Below.refl _ _ | with_reducible apply below_al | with_reducible apply below_dr | with_reducible refine below_more ?_ (by assumption)))))) (below_more hB12 (by ((repeat (first | with_reducible assumption | with_reducible exact Below.refl _ _ | with_reducible apply below_al | with_reducible apply below_dr | with_reducible refine below_more ?_ (by assumption))))))).mono ?_; rintro e' u5 ⟨rfl, f5⟩
        (try (go_wp2_with fail))
        refine hK.out _ _ ?_ (fun hHeld => ?_)
        · exact K12.out _ (by ((repeat (first | with_reducible assumption | with_reducible exact Below.refl _ _ | with_reducible apply below_al | with_reducible apply below_dr | with_reducible refine below_more ?_ (by assumption)))))
        clear hK K
        (try simp only [Act.put, List.setIfInBounds_toArray, List.set_cons_succ, List.set_cons_zero])
        refine wpAnyH_take (i := 6) (v := ?_) rfl (by kernel_rfl) (by kernel_rfl) (by kernel_rfl) (fun _ _ _ h => h) (Or.inl ⟨by rfl, ?_⟩) (by assumption) ?_
        rotate_left 1
        · intro w hSw; (try dsimp only at hSw); simp only [List.getElem_toArray, List.getElem_cons_succ, List.getElem_cons_zero]; go_simp; try (with_reducible rfl)
        (try simp only [List.getElem_toArray, List.getElem_cons_succ, List.getElem_cons_zero, Act.put, List.setIfInBounds_toArray, List.set_cons_succ, List.set_cons_zero])
        refine wpAnyH_take (i := 7) (v := ?_) rfl (by kernel_rfl) (by kernel_rfl) (by kernel_rfl) (fun _ _ _ h => h) (Or.inl ⟨by rfl, ?_⟩) (by assumption) ?_
        rotate_left 1
        · intro w hSw; (try dsimp only at hSw); simp only [List.getElem_toArray, List.getElem_cons_succ, List.getElem_cons_zero]; go_simp; try (with_reducible rfl)
        (try simp only [List.getElem_toArray, List.getElem_cons_succ, List.getElem_cons_zero, Act.put, List.setIfInBounds_toArray, List.set_cons_succ, List.set_cons_zero])
        refine wpAnyH_take (i := 8) (v := ?_) rfl (by kernel_rfl) (by kernel_rfl) (by kernel_rfl) (fun _ _ _ h => h) (Or.inl ⟨by rfl, ?_⟩) (by assumption) ?_
        rotate_left 1
        · intro w hSw; (try dsimp only at hSw); simp only [List.getElem_toArray, List.getElem_cons_succ, List.getElem_cons_zero]; go_simp; try (with_reducible rfl)
        (try simp only [List.getElem_toArray, List.getElem_cons_succ, List.getElem_cons_zero, Act.put, List.setIfInBounds_toArray, List.set_cons_succ, List.set_cons_zero])
        refine wpAnyH_ready (rs := [9]) (by kernel_rfl) (by simp) ?_
        refine AllReadyH.cons rfl (fun K hK => ?_) AllReadyH.nil
        (try simp only [List.getElem_toArray, List.getElem_cons_succ, List.getElem_cons_zero])
        refine Eq.mpr (if_pos (by first | rfl | simp [Region.wanted, yielded, Act.put])) ?_
        refine wp_allocT 35 z32 (by kernel_rfl) rfl yb.heap.size yb (by ((repeat (first | with_reducible assumption | with_reducible exact Below.refl _ _ | with_reducible apply below_al | with_reducible apply below_dr | with_reducible refine below_more ?_ (by assumption))))) (Nat.le_refl _) ?_
        intro gc yc hbc hgc hlc hfc hBc2
        refine hK.out _ _ ?_ (fun hHeld => ?_)
        · exact K12.out _ (by ((repeat (first | with_reducible assumption | with_reducible exact Below.refl _ _ | with_reducible apply below_al | with_reducible apply below_dr | with_reducible refine below_more ?_ (by assumption)))))
        clear hK K
        (try simp only [Act.put, List.setIfInBounds_toArray, List.set_cons_succ, List.set_cons_zero])
        refine wpAnyH_ready (rs := [10]) (by kernel_rfl) (by simp) ?_
        refine AllReadyH.cons rfl (fun K hK => ?_) AllReadyH.nil
        (try simp only [List.getElem_toArray, List.getElem_cons_succ, List.getElem_cons_zero])
        refine Eq.mpr (if_pos (by first | rfl | simp [Region.wanted, yielded, Act.put])) ?_
        refine wp_store_in 35 (.tmp 11) (.tmp 80) rfl gc z32 z32 35 rfl rfl hbc rfl I32G O32 ?_
        intro yd hbd hod
        have h9 := hBc2.size
        have f5s := f5.size
        have hBd : Below yb.heap.size yb yd := (show Below yb.heap.size yb _ by ((repeat (first | with_reducible assumption | with_reducible exact Below.refl _ _ | with_reducible apply below_al | with_reducible apply below_dr | with_reducible refine below_more ?_ (by assumption))))).trans (hod.below (by have hq : yb.drew.heap.size = yb.heap.size := rfl; omega))
        refine hK.out _ _ ?_ (fun hHeld => ?_)
        · exact K12.out _ hBd
        clear hK K
        (try simp only [Act.put, List.setIfInBounds_toArray, List.set_cons_succ, List.set_cons_zero])
        refine wpAnyH_take (i := 11) (v := ?_) rfl (by kernel_rfl) (by kernel_rfl) (by kernel_rfl) (fun _ _ _ h => h) (Or.inl ⟨by rfl, ?_⟩) (by assumption) ?_
        rotate_left 1
        · intro w hSw; (try dsimp only at hSw); simp only [List.getElem_toArray, List.getElem_cons_succ, List.getElem_cons_zero]; go_simp; try (with_reducible rfl)
        (try simp only [List.getElem_toArray, List.getElem_cons_succ, List.getElem_cons_zero, Act.put, List.setIfInBounds_toArray, List.set_cons_succ, List.set_cons_zero])
        refine wpAnyH_done (by kernel_rfl) ?_ _
        go_wp2_with (go_at_call 8; refine (CA.out _ (below_more hB12 hBd)).mono ?_; rintro e' v9 ⟨rfl, d9⟩)
        go_ret
        exact ⟨rfl, below_more (below_more hB12 hBd) d9⟩
      refine AllReadyH.cons rfl (fun K hK => ?_) AllReadyH.nil
      (try simp only [List.getElem_toArray, List.getElem_cons_succ, List.getElem_cons_zero])
      refine Eq.mpr (if_pos (by first | rfl | simp [Region.wanted, yielded, Act.put])) ?_
      refine wp_allocT 35 z32 (by kernel_rfl) rfl yb.heap.size yb (by ((repeat (first | with_reducible assumption | with_reducible exact Below.refl _ _ | with_reducible apply below_al | with_reducible apply below_dr | with_reducible refine below_more ?_ (by assumption))))) (Nat.le_refl _) ?_
      intro gc yc hbc hgc hlc hfc hBc2
      refine hK.out _ _ ?_ (fun hHeld => ?_)
      · exact K12.out _ (by ((repeat (first | with_reducible assumption | with_reducible exact Below.refl _ _ | with_reducible apply below_al | with_reducible apply below_dr | with_reducible refine below_more ?_ (by assumption)))))
      clear hK K
      (try simp only [Act.put, List.setIfInBounds_toArray, List.set_cons_succ, List.set_cons_zero])
      refine wpAnyH_ready (rs := [5]) (by kernel_rfl) (by simp) ?_
      refine AllReadyH.cons rfl (fun K hK => ?_) AllReadyH.nil
      (try simp only [List.getElem_toArray, List.getElem_cons_succ, List.getElem_cons_zero])
      go_simp
      go_at_call 15; refine (CS.out _ (sub32 A1 c1) c0 (hr12.below (by ((repeat (first | with_reducible assumption | with_reducible exact Below.refl _ _ | with_reducible apply below_al | with_reducible apply below_dr | with_reducible refine below_more ?_ (by assumption)))))) (below_more hB12 (by ((repeat (first | with_reducible assumption | with_reducible exact Below.refl _ _ | with_reducible apply below_al | with_reducible apply below_dr | with_reducible refine below_more ?_ (by assumption))))))).mono ?_; rintro e' u5 ⟨rfl, f5⟩
      (try (go_wp2_with fail))
      refine hK.out _ _ ?_ (fun hHeld => ?_)
      · exact K12.out _ (by ((repeat (first | with_reducible assumption | with_reducible exact Below.refl _ _ | with_reducible apply below_al | with_reducible apply below_dr | with_reducible refine below_more ?_ (by assumption)))))
      clear hK K
      (try simp only [Act.put, List.setIfInBounds_toArray, List.set_cons_succ, List.set_cons_zero])
      refine wpAnyH_take (i := 6) (v := ?_) rfl (by kernel_rfl) (by kernel_rfl) (by kernel_rfl) (fun _ _ _ h => h) (Or.inl ⟨by rfl, ?_⟩) (by assumption) ?_
      rotate_left 1
      · intro w hSw; (try dsimp only at hSw); simp only [List.getElem_toArray, List.getElem_cons_succ, List.getElem_cons_zero]; go_simp; try (with_reducible rfl)
      (try simp only [List.getElem_toArray, List.getElem_cons_succ, List.getElem_cons_zero, Act.put, List.setIfInBounds_toArray, List.set_cons_succ, List.set_cons_zero])
      refine wpAnyH_take (i := 7) (v := ?_) rfl (by kernel_rfl) (by kernel_rfl) (by kernel_rfl) (fun _ _ _ h => h) (Or.inl ⟨by rfl, ?_⟩) (by assumption) ?_
      rotate_left 1
      · intro w hSw; (try dsimp only at hSw); simp only [List.getElem_toArray, List.getElem_cons_succ, List.getElem_cons_zero]; go_simp; try (with_reducible rfl)
      (try simp only [List.getElem_toArray, List.getElem_cons_succ, List.getElem_cons_zero, Act.put, List.setIfInBounds_toArray, List.set_cons_succ, List.set_cons_zero])
      refine wpAnyH_take (i := 8) (v := ?_) rfl (by kernel_rfl) (by kernel_rfl) (by kernel_rfl) (fun _ _ _ h => h) (Or.inl ⟨by rfl, ?_⟩) (by assumption) ?_
      rotate_left 1
      · intro w hSw; (try dsimp only at hSw); simp only [List.getElem_toArray, List.getElem_cons_succ, List.getElem_cons_zero]; go_simp; try (with_reducible rfl)
      (try simp only [List.getElem_toArray, List.getElem_cons_succ, List.getElem_cons_zero, Act.put, List.setIfInBounds_toArray, List.set_cons_succ, List.set_cons_zero])
      refine wpAnyH_ready (rs := [10]) (by kernel_rfl) (by simp) ?_
      refine AllReadyH.cons rfl (fun K hK => ?_) AllReadyH.nil
      (try simp only [List.getElem_toArray, List.getElem_cons_succ, List.getElem_cons_zero])
      refine Eq.mpr (if_pos (by first | rfl | simp [Region.wanted, yielded, Act.put])) ?_
      refine wp_store_in 35 (.tmp 11) (.tmp 80) rfl gc z32 z32 35 rfl rfl (hbc.up f5) rfl I32G O32 ?_
      intro yd hbd hod
      have h9 := hBc2.size
      have f5s := f5.size
      have hBd : Below yb.heap.size yb yd := (show Below yb.heap.size yb _ by ((repeat (first | with_reducible assumption | with_reducible exact Below.refl _ _ | with_reducible apply below_al | with_reducible apply below_dr | with_reducible refine below_more ?_ (by assumption))))).trans (hod.below (by have hq : yb.drew.heap.size = yb.heap.size := rfl; omega))
      refine hK.out _ _ ?_ (fun hHeld => ?_)
      · exact K12.out _ hBd
      clear hK K
      (try simp only [Act.put, List.setIfInBounds_toArray, List.set_cons_succ, List.set_cons_zero])
      refine wpAnyH_take (i := 11) (v := ?_) rfl (by kernel_rfl) (by kernel_rfl) (by kernel_rfl) (fun _ _ _ h => h) (Or.inl ⟨by rfl, ?_⟩) (by assumption) ?_
      rotate_left 1
      · intro w hSw; (try dsimp only at hSw); simp only [List.getElem_toArray, List.getElem_cons_succ, List.getElem_cons_zero]; go_simp; try (with_reducible rfl)
      (try simp only [List.getElem_toArray, List.getElem_cons_succ, List.getElem_cons_zero, Act.put, List.setIfInBounds_toArray, List.set_cons_succ, List.set_cons_zero])
      refine wpAnyH_done (by kernel_rfl) ?_ _
      go_wp2_with (go_at_call 8; refine (CA.out _ (below_more hB12 hBd)).mono ?_; rintro e' v9 ⟨rfl, d9⟩)
      go_ret
      exact ⟨rfl, below_more (below_more hB12 hBd) d9⟩
set_option maxRecDepth 100000 in
set_option maxHeartbeats 4000000 in
theorem walk (A : Option Addr) (n c : Nat) (l : List (List UInt8)) (k : Int) (h : List UInt8) (w : World) (hT : Tab w) (w0 : RdH w A n l ∧ n ≤ c ∧ c ≤ maxLen) (w1 : (Lit.int .i64 k).wf = true) (hh32 : h.length = 32) : Calls Tryd.prog 6 #[.slice A n c, .int .i64 k, .agg (h.map B8).toArray] w (Ret w (.bool true)) := by
  obtain ⟨hr, hnc, hcm⟩ := w0
  have CA : Hid (∀ W, Below w.heap.size w W → Calls Tryd.prog 8 #[] W (Ret W (.bool true))) := Lib.hid fun W h => awake9_calls W (hT.all h)
  by_cases h20 : 20 < n
  · exact asleepA A n c k _ w CA (by omega)
  by_cases h1 : k < 0
  · exact asleepB A n c k _ w CA (by omega) h1
  by_cases h2 : (n : Int) ≤ k
  · exact asleepC A n c k _ w CA (by omega) h1 h2
  obtain ⟨i, rfl⟩ : ∃ i : Nat, k = (i : Int) := ⟨k.toNat, by omega⟩
  have hi : i < n := by omega
  have hln := hr.len
  obtain ⟨b, off, rfl, hb, hga⟩ := hr.at_ hi
  have x32 : (hat l i).length = 32 := hat_32 hr.all (by omega)
  have hrg : ∀ m, m ≠ depth n → rgt (n : Int) (i : Int) m = 3 := fun m hm => by
    unfold rgt
    rw [if_neg (by omega), if_pos (by rw [Int.toNat_natCast]; exact hm)]
  have h32 : ∀ (x : List UInt8), x.length = 32 → (Tryd.prog.info? 35).map (·.size) = some (x.map B8).length := fun x hx => by rw [List.length_map, hx]; kernel_rfl
  refine main n c i b off (depth n) (depth n + 1) l (pth l i (depth n)) h _ _ w CA (by omega) h1 h2 (by omega) hb hga (Lib.hid (h32 _ x32)) (Lib.hid (h32 _ hh32)) (Lib.hid (by rw [List.length_map, hh32])) (Lib.hid rfl) (Lib.hid hh32) (Lib.hid rfl) (depth_le6 n (by omega)) (Lib.hid fun W hW => ?_) (Lib.hid fun W A' c' => ?_) (Lib.hid fun W A' c' hR hW => ?_) (Lib.hid fun hD W A' c' hR hW => ?_)
  · refine (bmake_calls _ n c i l W (hr.below hW) (hT.all hW) (by omega) hi hnc hcm).mono ?_
    rintro e w' ⟨A', c', rfl, k1, k2, _, k3⟩
    exact ⟨A', c', rfl, k1, k2, k3⟩
  · have := bright_calls (n : Int) (i : Int) A' (depth n + 1) c' W
    rw [hrg _ (by omega)] at this
    exact this
  · have := bcheck_calls (n : Int) (i : Int) A' (depth n + 1) c' _ h (hat l i) W hR (hT.all hW) x32 hh32
    have hc : chk (n : Int) (i : Int) (pth l i (depth n) ++ [h]) h (hat l i) = 3 := by
      unfold chk upE
      rw [hR.len, hrg _ (by omega)]
      simp
    rw [hc] at this
    exact this
  · have := bup_calls (n : Int) (i : Int) A' (depth n - 1) c' _ (hat l i) W hR (hT.all hW) x32
    have hc : upE (n : Int) (i : Int) ((pth l i (depth n)).drop 1) (hat l i) = (List.replicate 32 0, 3) := by
      unfold upE
      rw [hR.len, hrg _ (by omega)]
      simp
    rw [hc] at this
    exact this

set_option maxRecDepth 100000 in
theorem lifted (os : Os) (started : os.Started) (H : Type) (enc : TypeId × Value → H) :
    ReturnsInHanded {} Tryd.checked os 6 .any (fun w args => (Rows.branchLevelsSpec.pre enc Tryd.prog Tryd.f6 [] false w args ∧ laidMetH Tryd.prog laidT w) ∧ sizedMet enc Tryd.prog Tryd.f6 (OpenSpec.ofChange Rows.branchLevelsSpec) false w args)
      (Rows.branchLevelsSpec.post enc Tryd.prog Tryd.f6 false true false false) := by
  refine returnsInHanded_of_change_and (C := Tryd.checked) (X := fun w _ => laidMetH Tryd.prog laidT w) (fun _ _ _ hh h => h.of_heap hh) own started (by kernel_rfl) Tryd.func6
    (ChangeSpec.witness_shaped (enc := enc) (C := Tryd.checked) (os := os) (X := fun w _ => laidMetH Tryd.prog laidT w) false (World.doorLaid Tryd.prog 400 os) #[.slice none 0 0, .int .i64 0, .agg (Array.replicate 32 (.int .u8 0))] 8 rfl (World.shaped_of_RefB (by kernel_rfl) (by kernel_rfl)) (by kernel_rfl) (by kernel_rfl) (by kernel_rfl) (door_met os _)) ?_
  intro W base args ds gs before hval0 hW hcnd _ hL _
  have hval : ∀ (j : Nat) t v, Tryd.f6.params[j]? = some t → args[j]? = some v → Value.okWide Tryd.prog W .any base t v := hval0
  have hW' := hW
  obtain ⟨p, q, hA0, hV, rfl, hfz, hnd⟩ := hW
  have hA : DataW.TrodAll enc Tryd.prog W 0 (fun _ => true) true Tryd.f6.params.toList args.toList ds p := hA0
  rw [Tryd.params6] at hA hval
  obtain ⟨v0, vs0, d0, ds0, p0, q0, hargs, rfl, rfl, h0, r0⟩ := trodAll_cons hA
  obtain ⟨v1, vs1, d1, ds1, p1, q1, rfl, rfl, rfl, h1, r1⟩ := trodAll_cons r0
  obtain ⟨v2, vs2, d2, ds2, p2, q2, rfl, rfl, rfl, h2, r2⟩ := trodAll_cons r1
  obtain ⟨rfl, rfl, rfl⟩ := trodAll_nil r2
  obtain rfl : args = #[v0, v1, v2] := by cases args; simp_all
  obtain ⟨rfl, rfl⟩ := trodVars_none hV
  obtain ⟨a0, len0, cap0, rfl⟩ := okWide_slice Tryd.underlying22 (hval 0 22 v0 rfl rfl)
  have k0 := h0
  have lt0 : ∀ x ∈ p0, x.block < W.heap.size := by obtain ⟨m, hm⟩ := k0; exact DataW.trod_lt m _ _ _ hm
  obtain ⟨l0, w0⟩ := open_hashes h0
  obtain ⟨a1, rfl, rfl, rfl, w1⟩ := open_int Tryd.underlying3 (hval 1 3 v1 rfl rfl) h1
  have k2 := h2
  have lt2 : ∀ x ∈ p2, x.block < W.heap.size := by obtain ⟨m, hm⟩ := k2; exact DataW.trod_lt m _ _ _ hm
  obtain ⟨a2, rfl, w2⟩ := arrH1 (hval 2 35 v2 rfl rfl) h2
  clear hA0 hval0
  refine (walk a0 len0 cap0 l0 a1 a2 W (tab_of hL) w0 w1 w2).mono fun e W' ⟨he, bel⟩ => ?_
  subst he
  exact ⟨_, rfl, _, _, _, [], _, [], hW', trodAll_mk1 (shut_bool Tryd.underlying4 _), (trodAll_cons_mk (Below.trod laidOut (by kernel_rfl) (of_decide_eq_true (by kernel_rfl)) k0 bel lt0) (trodAll_cons_mk (shut_int Tryd.underlying3 w1) (trodAll_cons_mk (Below.trod laidOut (by kernel_rfl) (of_decide_eq_true (by kernel_rfl)) k2 bel lt2) trodAll_mk0))), rfl, bel.frame _, fun h => by cases h⟩

set_option maxRecDepth 100000 in
theorem over : Rows.branchLevelsRow.holds Tryd.pinned (OpenSpec.ofChange Rows.branchLevelsSpec) :=
  OpenClaim.holds_of_wide 6 Tryd.f6 rfl rfl rfl rfl rfl rfl rfl ⟨rfl, rfl, rfl, rfl, rfl⟩ rfl rfl rfl rfl rfl (by kernel_rfl) Tryd.func6 (by kernel_rfl)
    (of_decide_eq_true (by kernel_rfl)) (by unfold Func.isWrapper; first | (rw [if_pos (by decide +kernel)]; kernel_rfl) | (rw [if_neg (by decide +kernel)]; exact ⟨rfl, rfl⟩))
    (fun os started H enc _ => lifted os started H enc)

set_option maxRecDepth 100000 in
theorem proved : Rows.BranchLevelsCardSaid :=
  Claim7.holds_tied_plain_at .later [] [.data, .data] true Rows.branchLevelsCard.stood.harness false
    over (fun _ h => by cases h) (by kernel_rfl) (fun _ h => by cases h) branchLevels_row_tie rfl ⟨rfl, rfl⟩ (by kernel_rfl) rfl
    (fun f fn hf hfn => by
      obtain rfl : f = 6 := Option.some.inj ((show Tryd.prog.funcNamed "masthead/mastheadlaw09.BranchLevels" = some 6 by kernel_rfl).symm.trans hf) |>.symm
      obtain rfl : fn = Tryd.f6 := (Option.some.inj (Tryd.func6.symm.trans hfn)).symm
      exact ⟨by kernel_rfl, fun j t ht => by
        rw [Tryd.params6] at ht
        have hm : t ∈ [22, 3, 35] := by simpa using Array.mem_of_getElem? ht
        have hall : ([22, 3, 35].all fun u => !Tryd.prog.wantsStandIn u) = true := by kernel_rfl
        exact (show Tryd.prog.wantsStandIn t = false by simpa using List.all_eq_true.1 hall t hm)⟩)
    (by kernel_rfl)
end Go.Proofs.YtnfcnjboeocnmaaDoor.branchLevels
