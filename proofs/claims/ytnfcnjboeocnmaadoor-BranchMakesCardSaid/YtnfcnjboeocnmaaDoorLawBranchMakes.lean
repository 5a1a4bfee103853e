/- Proved: for every list of up to 20 hashes and every place: the leaf's branch is what the document says, or its error, and leads to the list's root, if that isn't doubled. The argument reads as it did. The condition is the card's own: sha2's two tables are as they are laid. -/
import Derived.Test.YtnfcnjboeocnmaaDoorRows
import Derived.Test.YtnfcnjboeocnmaaDoorMbn
import Derived.Test.YtnfcnjboeocnmaaDoorMaz
import Derived.Test.YtnfcnjboeocnmaaDoorMay
import Derived.Deep.RegionHeld3
import Derived.ProofKit
import Derived.OpenShut
import Derived.ShutString
import Derived.ChangeOld
import Derived.Test.YtnfcnjboeocnmaaDoorMac
import Derived.Test.YtnfcnjboeocnmaaDoorMal
import Derived.Test.YtnfcnjboeocnmaaDoorTie
import Derived.Test.YtnfcnjboeocnmaaDoorCards
import Derived.SevenTiedAt
namespace Go.Proofs.YtnfcnjboeocnmaaDoor.branchMakes
open Go.ChangeShapes Go.WideShapes Go.ChangeAt Go.RowKit
open Go.ChangeMaps (open_string shut_string)
set_option linter.unusedVariables false
set_option linter.unusedSimpArgs false

set_option maxRecDepth 100000 in
theorem own : ownKnob Tryd.prog.godebug = none := by kernel_rfl
set_option maxRecDepth 100000 in
theorem laidOut : laidOutB Tryd.prog = true := by kernel_rfl

set_option maxRecDepth 100000 in
set_option maxHeartbeats 4000000 in
theorem walkLow (A : Option Addr) (n c : Nat) (i : Int) (w : World) (CA : Hid (∀ W, Below w.heap.size w W → Calls Tryd.prog 8 #[] W (Ret W (.bool true)))) (hd : ¬ (20 : Int) < (n : Int)) (h1 : i < 0) (CB : Hid (∀ W, Calls Tryd.prog 9 #[.slice A n c, .int .i64 i] W (Ret W (.tuple #[.agg #[.int .i64 0, .int .i64 0, .slice none 0 0], .int .i64 5])))) : Calls Tryd.prog 3 #[.slice A n c, .int .i64 i] w (Ret w (.bool true)) := by
  go_enter Tryd.func3, Tryd.ntmps3
  go_upto_region 4 with (first
    | (go_at_call 9; refine (CB.out _).mono ?_; rintro e' x1 ⟨rfl, d1⟩)
    | ((with_reducible refine at_alloc 25 ?_); refine wpList_allocT rfl 25 [.int .i64 0, .int .i64 0, .slice none 0 0] Z3b rfl w.heap.size w d1 (Nat.le_refl _) ?_; intro gB x2 hbx2 hgx2 hlx2 hfx2 hBx2)
    | ((with_reducible refine at_store 25 (.tmp 5) (.tmp 17) ?_); refine wpList_store_blk rfl 25 (.tmp 5) (.tmp 17) rfl (gB) [.int .i64 0, .int .i64 0, .slice none 0 0] [.int .i64 0, .int .i64 0, .slice none 0 0] 25 rfl rfl (hbx2) rfl I3b (by simp [Value.oneCell']) ?_; intro x3 hx3 hox3))
  have hs1 := d1.size
  have hB3 : Below w.heap.size w x3 := hBx2.trans (hox3.below (by omega))
  have s0 : x3.cell? ⟨gB, 0, none⟩ = some (.int .i64 0) := hx3.cell 0
  have s1 : x3.cell? ⟨gB, 1, none⟩ = some (.int .i64 0) := hx3.cell 1
  have s2 : x3.cell? ⟨gB, 2, none⟩ = some (.slice none 0 0) := hx3.cell 2
  clear hbx2 hfx2 hBx2 hox3 hx3 d1
  go_wp2_with (go_at_call 8; refine (CA.out _ hB3).mono ?_; rintro e' v9 ⟨rfl, d9⟩)
  go_ret
  exact ⟨rfl, below_more hB3 d9⟩
set_option maxRecDepth 100000 in
set_option maxHeartbeats 4000000 in
theorem walkHigh (A : Option Addr) (n c : Nat) (i : Int) (w : World) (CA : Hid (∀ W, Below w.heap.size w W → Calls Tryd.prog 8 #[] W (Ret W (.bool true)))) (hd : ¬ (20 : Int) < (n : Int)) (h1 : ¬ i < 0) (h2 : (n : Int) ≤ i) (CB : Hid (∀ W, Calls Tryd.prog 9 #[.slice A n c, .int .i64 i] W (Ret W (.tuple #[.agg #[.int .i64 0, .int .i64 0, .slice none 0 0], .int .i64 5])))) : Calls Tryd.prog 3 #[.slice A n c, .int .i64 i] w (Ret w (.bool true)) := by
  go_enter Tryd.func3, Tryd.ntmps3
  go_upto_region 4 with (first
    | (go_at_call 9; refine (CB.out _).mono ?_; rintro e' x1 ⟨rfl, d1⟩)
    | ((with_reducible refine at_alloc 25 ?_); refine wpList_allocT rfl 25 [.int .i64 0, .int .i64 0, .slice none 0 0] Z3b rfl w.heap.size w d1 (Nat.le_refl _) ?_; intro gB x2 hbx2 hgx2 hlx2 hfx2 hBx2)
    | ((with_reducible refine at_store 25 (.tmp 5) (.tmp 17) ?_); refine wpList_store_blk rfl 25 (.tmp 5) (.tmp 17) rfl (gB) [.int .i64 0, .int .i64 0, .slice none 0 0] [.int .i64 0, .int .i64 0, .slice none 0 0] 25 rfl rfl (hbx2) rfl I3b (by simp [Value.oneCell']) ?_; intro x3 hx3 hox3))
  have hs1 := d1.size
  have hB3 : Below w.heap.size w x3 := hBx2.trans (hox3.below (by omega))
  have s0 : x3.cell? ⟨gB, 0, none⟩ = some (.int .i64 0) := hx3.cell 0
  have s1 : x3.cell? ⟨gB, 1, none⟩ = some (.int .i64 0) := hx3.cell 1
  have s2 : x3.cell? ⟨gB, 2, none⟩ = some (.slice none 0 0) := hx3.cell 2
  clear hbx2 hfx2 hBx2 hox3 hx3 d1
  go_wp2_with (go_at_call 8; refine (CA.out _ hB3).mono ?_; rintro e' v9 ⟨rfl, d9⟩)
  go_ret
  exact ⟨rfl, below_more hB3 d9⟩
set_option maxRecDepth 100000 in
set_option maxHeartbeats 4000000 in
theorem main (n c i b off D : Nat) (l P : List (List UInt8)) (X RT : List Value) (DB : Bool) (w : World) (CA : Hid (∀ W, Below w.heap.size w W → Calls Tryd.prog 8 #[] W (Ret W (.bool true)))) (hd : ¬ (20 : Int) < (n : Int)) (h1 : ¬ (i : Int) < 0) (h2 : ¬ (n : Int) ≤ (i : Int)) (h3 : (i : Int) < (n : Int)) (CF : Hid (∀ W, Below w.heap.size w W → Calls Tryd.prog 11 #[.slice (some ⟨b, off, none⟩) n c] W fun e w' => ∃ A' c', e = .returned (.slice A' n c') ∧ RdH w' A' n l ∧ Below W.heap.size W w')) (CM : Hid (Calls Tryd.prog 9 #[.slice (some ⟨b, off, none⟩) n c, .int .i64 (i : Int)] w fun e w' => ∃ A' c', e = .returned (.tuple #[.agg #[.int .i64 (n : Int), .int .i64 (i : Int), .slice A' D c'], .int .i64 0]) ∧ RdH w' A' D P ∧ Below w.heap.size w w')) (CD : Hid (∀ (W : World) (B' : Option Addr) (cB : Nat), RdH W B' n l → Calls Tryd.prog 10 #[.slice B' n cB, .int .i64 (i : Int)] W fun e w' => ∃ A' c', e = .returned (.agg #[.int .i64 (n : Int), .int .i64 (i : Int), .slice A' D c']) ∧ RdH w' A' D P ∧ Below W.heap.size W w')) (CDB : Hid (∀ (W : World) (B' : Option Addr) (cB : Nat), RdH W B' n l → Calls Tryd.prog 12 #[.slice B' n cB] W (Ret W (.bool DB)))) (CRT : Hid (∀ (W : World) (B' : Option Addr) (cB : Nat), RdH W B' n l → Calls Tryd.prog 14 #[.slice B' n cB] W (Ret W (.agg RT.toArray)))) (CC : Hid (DB = false → ∀ (W : World) (A' : Option Addr) (c' : Nat), Below w.heap.size w W → RdH W A' D P → Calls Tryd.prog 13 #[.agg #[.int .i64 (n : Int), .int .i64 (i : Int), .slice A' D c'], .agg RT.toArray, .agg X.toArray] W (Ret W (.int .i64 0)))) (hb : b < w.heap.size) (hga : w.rangeAt b (off + i * 32) X) (IX : Hid ((Tryd.prog.info? 35).map (·.size) = some X.length)) (hD : D ≤ 6) :
    Calls Tryd.prog 3 #[.slice (some ⟨b, off, none⟩) n c, .int .i64 (i : Int)] w (Ret w (.bool true)) := by
  go_enter Tryd.func3, Tryd.ntmps3
  go_upto_region 4 with (first
    | (go_at_call 9; refine CM.out.mono ?_; rintro e' x1 ⟨A1, c1, rfl, hr1, d1⟩)
    | ((with_reducible refine at_alloc 25 ?_); refine wpList_allocT rfl 25 [.int .i64 0, .int .i64 0, .slice none 0 0] Z3b rfl w.heap.size w d1 (Nat.le_refl _) ?_; intro gB x2 hbx2 hgx2 hlx2 hfx2 hBx2)
    | ((with_reducible refine at_store 25 (.tmp 5) (.tmp 17) ?_); refine wpList_store_blk rfl 25 (.tmp 5) (.tmp 17) rfl (gB) [.int .i64 0, .int .i64 0, .slice none 0 0] [.int .i64 (n : Int), .int .i64 (i : Int), .slice A1 D c1] 25 rfl rfl (hbx2) rfl I3b (by simp [Value.oneCell']) ?_; intro x3 hx3 hox3))
  have hs1 := d1.size
  have h13 : Below x1.heap.size x1 x3 := (hfx2.below (Nat.le_refl _) (fun _ h => h.elim)).trans (hox3.below (by omega))
  have hB3 : Below w.heap.size w x3 := below_more d1 h13
  have hr3 := hr1.below h13
  clear hbx2 hfx2 hBx2 hox3 hr1 d1 h13
  go_upto_region 7 with (first
    | (go_at_call 11; refine (CF.out _ hB3).mono ?_; rintro e' x4 ⟨A4, c4, rfl, hr4, d4⟩)
    | (go_at_call 10; refine (CD.out _ A4 c4 hr4).mono ?_; rintro e' x5 ⟨A2, c2, rfl, hr5, d5⟩)
    | ((with_reducible refine at_alloc 31 ?_); refine wpList_allocT rfl 31 [.int .i64 0, .int .i64 0, .slice none 0 0] Z3o rfl w.heap.size w (below_more (below_more hB3 d4) d5) (Nat.le_refl _) ?_; intro gR x6 hbx6 hgx6 hlx6 hfx6 hBx6)
    | ((with_reducible refine at_store 31 (.tmp 7) (.tmp 51) ?_); refine wpList_store_blk rfl 31 (.tmp 7) (.tmp 51) rfl (gR) [.int .i64 0, .int .i64 0, .slice none 0 0] [.int .i64 (n : Int), .int .i64 (i : Int), .slice A2 D c2] 31 rfl rfl (hbx6) rfl I3o (by simp [Value.oneCell']) ?_; intro x7 hx7 hox7))
  have hs4 := d4.size
  have hs5 := d5.size
  have h57 : Below x5.heap.size x5 x7 := (hfx6.below (Nat.le_refl _) (fun _ h => h.elim)).trans (hox7.below (by omega))
  have h37 : Below x3.heap.size x3 x7 := below_more (below_more d4 d5) h57
  have hB7 := below_more hB3 h37
  have hx37 := hx3.up h37
  have HR7 := Lib.hid (hr3.below h37)
  have HQ7 := Lib.hid (hr5.below h57)
  have s0 : x7.cell? ⟨gB, 0, none⟩ = some (.int .i64 (n : Int)) := hx37.cell 0
  have s1 : x7.cell? ⟨gB, 1, none⟩ = some (.int .i64 (i : Int)) := hx37.cell 1
  have s2 : x7.cell? ⟨gB, 2, none⟩ = some (.slice A1 D c1) := hx37.cell 2
  have t0 : x7.cell? ⟨gR, 0, none⟩ = some (.int .i64 (n : Int)) := hx7.cell 0
  have t1 : x7.cell? ⟨gR, 1, none⟩ = some (.int .i64 (i : Int)) := hx7.cell 1
  have t2 : x7.cell? ⟨gR, 2, none⟩ = some (.slice A2 D c2) := hx7.cell 2
  clear hbx6 hfx6 hBx6 hox7 hr3 hr4 hr5 d4 d5 h57 h37 hx3 CM CD hB3 hs1 hs4 hs5
  go_wp2
  go_loopw [80] (fun lv wr => ∃ (t : Nat), lv = .int .i64 (t : Int) ∧ t ≤ D ∧ Below x7.heap.size x7 wr) (fun lv _ => D - (intOf lv).toNat)
  case atStart => exact ⟨0, by first | rfl | go_num, by omega, by first | exact Below.refl _ _ | exact below_dr (Below.refl _ _)⟩
  case round =>
    obtain ⟨t, rfl, htD, hbel⟩ := hrel
    obtain ⟨wo, hwo⟩ : ∃ x, x = wr := ⟨_, rfl⟩
    rw [← hwo] at hbel ⊢
    clear hwo s0 s1 s2 t0 t1 t2
    by_cases hlt : t < D
    · have hlt' : (t : Int) < (D : Int) := by omega
      obtain ⟨V, hV⟩ : ∃ V, V = (hat P t).map B8 := ⟨_, rfl⟩
      have v32 : (hat P t).length = 32 := hat_32 HR7.out.all (by rw [HR7.out.len]; exact hlt)
      have IV : Hid ((Tryd.prog.info? 35).map (·.size) = some V.length) := Lib.hid (by rw [hV, List.length_map, v32]; kernel_rfl)
      have JV : Hid ((Tryd.prog.info? 34).map (·.size) = some V.length) := Lib.hid (by rw [hV, List.length_map, v32]; kernel_rfl)
      have heq : ∀ W, (Op.equalIn 10000 35 (.agg V.toArray) (.agg V.toArray)).run Tryd.prog W = .ok true W := fun W => by rw [hV]; exact eqG32 _ _ v32 v32 true (by simp) W
      obtain ⟨b1, o1, rfl, hb1, hg1⟩ := (HR7.out.below hbel).at_ hlt
      obtain ⟨b2, o2, rfl, hb2, hg2⟩ := (HQ7.out.below hbel).at_ hlt
      rw [← hV] at hg1 hg2
      have hxB := hx37.up hbel
      have hxR := hx7.up hbel
      have K12 : Hid (∀ W, Below wo.heap.size wo W → W.cell? ⟨gB, 2, none⟩ = some (.slice (some ⟨b1, o1, none⟩) D c1) ∧ W.cell? ⟨gR, 2, none⟩ = some (.slice (some ⟨b2, o2, none⟩) D c2) ∧ W.rangeAt b1 (o1 + t * 32) V ∧ W.rangeAt b2 (o2 + t * 32) V) := Lib.hid fun W h => ⟨(hxB.up h).cell 2, (hxR.up h).cell 2, range_below hg1 h hb1, range_below hg2 h hb2⟩
      have ht64 : t ≤ 6 := by omega
      clear hV v32 hg1 hg2 hxB hxR
      go_upto_region 12 with fail
      refine wp_region_held_drew (S := fun W => W.cell? ⟨gB, 2, none⟩ = some (.slice (some ⟨b1, o1, none⟩) D c1) ∧ W.cell? ⟨gR, 2, none⟩ = some (.slice (some ⟨b2, o2, none⟩) D c2) ∧ W.rangeAt b1 (o1 + t * 32) V ∧ W.rangeAt b2 (o2 + t * 32) V) (by kernel_rfl) ?_ (fun hHeld => ?_)
      · exact K12.out _ (below_dr (Below.refl _ _))
      refine wpAnyH_take (i := 0) (v := ?_) rfl (by kernel_rfl) (by kernel_rfl) (by kernel_rfl) (fun _ _ _ h => h) (Or.inl ⟨by rfl, ?_⟩) (by assumption) ?_
      rotate_left 1
      · intro w hSw; (try dsimp only at hSw); simp only [List.getElem_toArray, List.getElem_cons_succ, List.getElem_cons_zero]; go_simp; try (with_reducible rfl)
      (try simp only [List.getElem_toArray, List.getElem_cons_succ, List.getElem_cons_zero, Act.put, List.setIfInBounds_toArray, List.set_cons_succ, List.set_cons_zero])
      refine wpAnyH_take (i := 1) (v := ?_) rfl (by kernel_rfl) (by kernel_rfl) (by kernel_rfl) (fun _ _ _ h => h) (Or.inl ⟨by rfl, ?_⟩) (by assumption) ?_
      rotate_left 1
      · intro w hSw; (try dsimp only at hSw); simp only [List.getElem_toArray, List.getElem_cons_succ, List.getElem_cons_zero]; go_simp; try (with_reducible rfl)
      (try simp only [List.getElem_toArray, List.getElem_cons_succ, List.getElem_cons_zero, Act.put, List.setIfInBounds_toArray, List.set_cons_succ, List.set_cons_zero])
      refine wpAnyH_take (i := 2) (v := ?_) rfl (by kernel_rfl) (by kernel_rfl) (by kernel_rfl) (fun _ _ _ h => h) (Or.inl ⟨by rfl, ?_⟩) (by assumption) ?_
      rotate_left 1
      · intro w hSw; (try dsimp only at hSw); simp only [List.getElem_toArray, List.getElem_cons_succ, List.getElem_cons_zero]; go_simp; try (with_reducible rfl)
      (try simp only [List.getElem_toArray, List.getElem_cons_succ, List.getElem_cons_zero, Act.put, List.setIfInBounds_toArray, List.set_cons_succ, List.set_cons_zero])
      refine wpAnyH_take (i := 3) (v := ?_) rfl (by kernel_rfl) (by kernel_rfl) (by kernel_rfl) (fun _ _ _ h => h) (Or.inl ⟨by rfl, ?_⟩) (by assumption) ?_
      rotate_left 1
      · intro w hSw; (try dsimp only at hSw); simp only [List.getElem_toArray, List.getElem_cons_succ, List.getElem_cons_zero]; go_simp; try (with_reducible rfl)
      (try simp only [List.getElem_toArray, List.getElem_cons_succ, List.getElem_cons_zero, Act.put, List.setIfInBounds_toArray, List.set_cons_succ, List.set_cons_zero])
      refine wpAnyH_take (i := 4) rfl (by kernel_rfl) (by kernel_rfl) (by kernel_rfl) (fun _ _ _ h => h) (yieldsIf_load_mid (by rfl) _ _ rfl _ _ rfl V _ (fun w hSw => by (try dsimp only at hSw); go_split_ands; assumption) Tryd.underlying35 rfl IV.out) (by assumption) ?_
      (try simp only [List.getElem_toArray, List.getElem_cons_succ, List.getElem_cons_zero, Act.put, List.setIfInBounds_toArray, List.set_cons_succ, List.set_cons_zero])
      refine wpAnyH_take (i := 5) (v := ?_) rfl (by kernel_rfl) (by kernel_rfl) (by kernel_rfl) (fun _ _ _ h => h) (Or.inl ⟨by rfl, ?_⟩) (by assumption) ?_
      rotate_left 1
      · intro w hSw; (try dsimp only at hSw); simp only [List.getElem_toArray, List.getElem_cons_succ, List.getElem_cons_zero]; go_simp; try (with_reducible rfl)
      (try simp only [List.getElem_toArray, List.getElem_cons_succ, List.getElem_cons_zero, Act.put, List.setIfInBounds_toArray, List.set_cons_succ, List.set_cons_zero])
      refine wpAnyH_take (i := 6) (v := ?_) rfl (by kernel_rfl) (by kernel_rfl) (by kernel_rfl) (fun _ _ _ h => h) (Or.inl ⟨by rfl, ?_⟩) (by assumption) ?_
      rotate_left 1
      · intro w hSw; (try dsimp only at hSw); simp only [List.getElem_toArray, List.getElem_cons_succ, List.getElem_cons_zero]; go_simp; try (with_reducible rfl)
      (try simp only [List.getElem_toArray, List.getElem_cons_succ, List.getElem_cons_zero, Act.put, List.setIfInBounds_toArray, List.set_cons_succ, List.set_cons_zero])
      refine wpAnyH_take (i := 7) (v := ?_) rfl (by kernel_rfl) (by kernel_rfl) (by kernel_rfl) (fun _ _ _ h => h) (Or.inl ⟨by rfl, ?_⟩) (by assumption) ?_
      rotate_left 1
      · intro w hSw; (try dsimp only at hSw); simp only [List.getElem_toArray, List.getElem_cons_succ, List.getElem_cons_zero]; go_simp; try (with_reducible rfl)
      (try simp only [List.getElem_toArray, List.getElem_cons_succ, List.getElem_cons_zero, Act.put, List.setIfInBounds_toArray, List.set_cons_succ, List.set_cons_zero])
      refine wpAnyH_take (i := 8) (v := ?_) rfl (by kernel_rfl) (by kernel_rfl) (by kernel_rfl) (fun _ _ _ h => h) (Or.inl ⟨by rfl, ?_⟩) (by assumption) ?_
      rotate_left 1
      · intro w hSw; (try dsimp only at hSw); simp only [List.getElem_toArray, List.getElem_cons_succ, List.getElem_cons_zero]; go_simp; try (with_reducible rfl)
      (try simp only [List.getElem_toArray, List.getElem_cons_succ, List.getElem_cons_zero, Act.put, List.setIfInBounds_toArray, List.set_cons_succ, List.set_cons_zero])
      refine wpAnyH_take (i := 9) rfl (by kernel_rfl) (by kernel_rfl) (by kernel_rfl) (fun _ _ _ h => h) (yieldsIf_load_mid (by rfl) _ _ rfl _ _ rfl V _ (fun w hSw => by (try dsimp only at hSw); go_split_ands; assumption) Tryd.underlying34 rfl JV.out) (by assumption) ?_
      (try simp only [List.getElem_toArray, List.getElem_cons_succ, List.getElem_cons_zero, Act.put, List.setIfInBounds_toArray, List.set_cons_succ, List.set_cons_zero])
      refine wpAnyH_take (i := 10) (v := ?_) rfl (by kernel_rfl) (by kernel_rfl) (by kernel_rfl) (fun _ _ _ h => h) (Or.inl ⟨by rfl, ?_⟩) (by assumption) ?_
      rotate_left 1
      · intro w hSw; (try dsimp only at hSw); simp only [List.getElem_toArray, List.getElem_cons_succ, List.getElem_cons_zero]; go_simp; try (with_reducible rfl)
      (try simp only [List.getElem_toArray, List.getElem_cons_succ, List.getElem_cons_zero, Act.put, List.setIfInBounds_toArray, List.set_cons_succ, List.set_cons_zero])
      refine wpAnyH_done (by kernel_rfl) ?_ _
      go_wp2
      go_roundw
      case rel => exact ⟨t + 1, by go_num, by omega, below_dr hbel⟩
      case measure => simp [intOf]; omega
    · have hlt' : ¬ (t : Int) < (D : Int) := by omega
      have hBw := below_more hB7 hbel
      have hxB := hx37.up hbel
      have HRW := Lib.hid (HR7.out.below hbel)
      have hgw := range_below hga hBw hb
      have hbw : b < wo.heap.size := Nat.lt_of_lt_of_le hb hBw.size
      cases hDB : DB
      · rw [hDB] at CDB CC
        have CF17 : Hid (∀ W, Below wo.heap.size wo W → Calls Tryd.prog 11 #[.slice (some ⟨b, off, none⟩) n c] W fun e w' => ∃ A' c', e = .returned (.slice A' n c') ∧ RdH w' A' n l ∧ Below W.heap.size W w') := Lib.hid fun W h => CF.out W (below_more hBw h)
        have CC17' : Hid (∀ W, Below wo.heap.size wo W → Calls Tryd.prog 13 #[.agg #[.int .i64 (n : Int), .int .i64 (i : Int), .slice A1 D c1], .agg RT.toArray, .agg X.toArray] W (Ret W (.int .i64 0))) := Lib.hid fun W h => CC.out rfl W A1 c1 (below_more hBw h) (HRW.out.below h)
        have K17' : Hid (∀ W, Below wo.heap.size wo W → W.rangeAt gB 0 [.int .i64 (n : Int), .int .i64 (i : Int), .slice A1 D c1] ∧ W.rangeAt b (off + i * 32) X) := Lib.hid fun W h => ⟨(hxB.up h).range, range_below hgw h hbw⟩
        have hBwo := hBw
        clear hgw hxB CC hBw
        go_upto_region 17 with (first
          | (go_at_call 11; refine (CF17.out _ (by ((repeat (first | with_reducible assumption | with_reducible exact Below.refl _ _ | with_reducible apply below_al | with_reducible apply below_dr | with_reducible refine below_more ?_ (by assumption)))))).mono ?_; rintro e' z1 ⟨A5, c5, rfl, hr5, f1⟩)
          | (go_at_call 12; refine (CDB.out _ A5 c5 hr5).mono ?_; rintro e' z2 ⟨rfl, f2⟩))
        have hzz : Below wo.heap.size wo z2 := below_more f1 f2
        have hBw : Below w.heap.size w z2 := below_more hBwo hzz
        have CF17 := Lib.hid fun (W : World) (h : Below z2.heap.size z2 W) => CF17.out W (below_more hzz h)
        have CC17 := Lib.hid fun (W : World) (h : Below z2.heap.size z2 W) => CC17'.out W (below_more hzz h)
        have K17 := Lib.hid fun (W : World) (h : Below z2.heap.size z2 W) => K17'.out W (below_more hzz h)
        clear hr5 f1 f2 K17' CC17' hbel
        refine wp_region_held_drew (S := fun W => W.rangeAt gB 0 [.int .i64 (n : Int), .int .i64 (i : Int), .slice A1 D c1] ∧ W.rangeAt b (off + i * 32) X) (by kernel_rfl) ?_ (fun hHeld => ?_)
        · exact K17.out _ (by ((repeat (first | with_reducible assumption | with_reducible exact Below.refl _ _ | with_reducible apply below_al | with_reducible apply below_dr | with_reducible refine below_more ?_ (by assumption)))))
        refine wpAnyH_take (i := 0) rfl (by kernel_rfl) (by kernel_rfl) (by kernel_rfl) (fun _ _ _ h => h) (yieldsIf_load_mid (by rfl) _ _ rfl _ _ rfl [.int .i64 (n : Int), .int .i64 (i : Int), .slice A1 D c1] _ (fun w hSw => by (try dsimp only at hSw); go_split_ands; assumption) Tryd.underlying25 rfl (by kernel_rfl)) (by assumption) ?_
        (try simp only [List.getElem_toArray, List.getElem_cons_succ, List.getElem_cons_zero, Act.put, List.setIfInBounds_toArray, List.set_cons_succ, List.set_cons_zero])
        refine wpAnyH_take (i := 1) (v := ?_) rfl (by kernel_rfl) (by kernel_rfl) (by kernel_rfl) (fun _ _ _ h => h) (Or.inl ⟨by rfl, ?_⟩) (by assumption) ?_
        rotate_left 1
        · intro w hSw; (try dsimp only at hSw); simp only [List.getElem_toArray, List.getElem_cons_succ, List.getElem_cons_zero]; go_simp; try (with_reducible rfl)
        (try simp only [List.getElem_toArray, List.getElem_cons_succ, List.getElem_cons_zero, Act.put, List.setIfInBounds_toArray, List.set_cons_succ, List.set_cons_zero])
        refine wpAnyH_take (i := 4) (v := ?_) rfl (by kernel_rfl) (by kernel_rfl) (by kernel_rfl) (fun _ _ _ h => h) (Or.inl ⟨by rfl, ?_⟩) (by assumption) ?_
        rotate_left 1
        · intro w hSw; (try dsimp only at hSw); simp only [List.getElem_toArray, List.getElem_cons_succ, List.getElem_cons_zero]; go_simp; try (with_reducible rfl)
        (try simp only [List.getElem_toArray, List.getElem_cons_succ, List.getElem_cons_zero, Act.put, List.setIfInBounds_toArray, List.set_cons_succ, List.set_cons_zero])
        refine wpAnyH_take (i := 5) (v := ?_) rfl (by kernel_rfl) (by kernel_rfl) (by kernel_rfl) (fun _ _ _ h => h) (Or.inl ⟨by rfl, ?_⟩) (by assumption) ?_
        rotate_left 1
        · intro w hSw; (try dsimp only at hSw); simp only [List.getElem_toArray, List.getElem_cons_succ, List.getElem_cons_zero]; go_simp; try (with_reducible rfl)
        (try simp only [List.getElem_toArray, List.getElem_cons_succ, List.getElem_cons_zero, Act.put, List.setIfInBounds_toArray, List.set_cons_succ, List.set_cons_zero])
        refine wpAnyH_take (i := 6) (v := ?_) rfl (by kernel_rfl) (by kernel_rfl) (by kernel_rfl) (fun _ _ _ h => h) (Or.inl ⟨by rfl, ?_⟩) (by assumption) ?_
        rotate_left 1
        · intro w hSw; (try dsimp only at hSw); simp only [List.getElem_toArray, List.getElem_cons_succ, List.getElem_cons_zero]; go_simp; try (with_reducible rfl)
        (try simp only [List.getElem_toArray, List.getElem_cons_succ, List.getElem_cons_zero, Act.put, List.setIfInBounds_toArray, List.set_cons_succ, List.set_cons_zero])
        refine wpAnyH_take (i := 7) rfl (by kernel_rfl) (by kernel_rfl) (by kernel_rfl) (fun _ _ _ h => h) (yieldsIf_load_mid (by rfl) _ _ rfl _ _ rfl X _ (fun w hSw => by (try dsimp only at hSw); go_split_ands; assumption) Tryd.underlying35 rfl IX.out) (by assumption) ?_
        (try simp only [List.getElem_toArray, List.getElem_cons_succ, List.getElem_cons_zero, Act.put, List.setIfInBounds_toArray, List.set_cons_succ, List.set_cons_zero])
        refine wpAnyH_ready (rs := [2]) (by kernel_rfl) (by simp) ?_
        refine AllReadyH.cons rfl (fun K hK => ?_) AllReadyH.nil
        (try simp only [List.getElem_toArray, List.getElem_cons_succ, List.getElem_cons_zero])
        go_simp
        go_at_call 11; refine (CF17.out _ (by ((repeat (first | with_reducible assumption | with_reducible exact Below.refl _ _ | with_reducible apply below_al | with_reducible apply below_dr | with_reducible refine below_more ?_ (by assumption)))))).mono ?_; rintro e' y2 ⟨A4, c4, rfl, hr4, d4⟩; have HR4 := Lib.hid hr4; clear hr4
        (try (go_wp2_with fail))
        refine hK.out _ _ ?_ (fun hHeld => ?_)
        · exact K17.out _ (by ((repeat (first | with_reducible assumption | with_reducible exact Below.refl _ _ | with_reducible apply below_al | with_reducible apply below_dr | with_reducible refine below_more ?_ (by assumption)))))
        clear hK K
        (try simp only [Act.put, List.setIfInBounds_toArray, List.set_cons_succ, List.set_cons_zero])
        refine wpAnyH_ready (rs := [3]) (by kernel_rfl) (by simp) ?_
        refine AllReadyH.cons rfl (fun K hK => ?_) AllReadyH.nil
        (try simp only [List.getElem_toArray, List.getElem_cons_succ, List.getElem_cons_zero])
        go_simp
        go_at_call 14; refine ((CRT.out _ A4 c4 HR4.out)).mono ?_; rintro e' y3 ⟨rfl, d3⟩
        (try (go_wp2_with fail))
        refine hK.out _ _ ?_ (fun hHeld => ?_)
        · exact K17.out _ (by ((repeat (first | with_reducible assumption | with_reducible exact Below.refl _ _ | with_reducible apply below_al | with_reducible apply below_dr | with_reducible refine below_more ?_ (by assumption)))))
        clear hK K
        (try simp only [Act.put, List.setIfInBounds_toArray, List.set_cons_succ, List.set_cons_zero])
        refine wpAnyH_ready (rs := [8]) (by kernel_rfl) (by simp) ?_
        refine AllReadyH.cons rfl (fun K hK => ?_) AllReadyH.nil
        (try simp only [List.getElem_toArray, List.getElem_cons_succ, List.getElem_cons_zero])
        go_simp
        go_at_call 13; refine (CC17.out _ (by ((repeat (first | with_reducible assumption | with_reducible exact Below.refl _ _ | with_reducible apply below_al | with_reducible apply below_dr | with_reducible refine below_more ?_ (by assumption)))))).mono ?_; rintro e' y8 ⟨rfl, d8⟩
        (try (go_wp2_with fail))
        refine hK.out _ _ ?_ (fun hHeld => ?_)
        · exact K17.out _ (by ((repeat (first | with_reducible assumption | with_reducible exact Below.refl _ _ | with_reducible apply below_al | with_reducible apply below_dr | with_reducible refine below_more ?_ (by assumption)))))
        clear hK K
        (try simp only [Act.put, List.setIfInBounds_toArray, List.set_cons_succ, List.set_cons_zero])
        refine wpAnyH_take (i := 9) (v := ?_) rfl (by kernel_rfl) (by kernel_rfl) (by kernel_rfl) (fun _ _ _ h => h) (Or.inl ⟨by rfl, ?_⟩) (by assumption) ?_
        rotate_left 1
        · intro w hSw; (try dsimp only at hSw); simp only [List.getElem_toArray, List.getElem_cons_succ, List.getElem_cons_zero]; go_simp; try (with_reducible rfl)
        (try simp only [List.getElem_toArray, List.getElem_cons_succ, List.getElem_cons_zero, Act.put, List.setIfInBounds_toArray, List.set_cons_succ, List.set_cons_zero])
        refine wpAnyH_take (i := 10) (v := ?_) rfl (by kernel_rfl) (by kernel_rfl) (by kernel_rfl) (fun _ _ _ h => h) (Or.inl ⟨by rfl, ?_⟩) (by assumption) ?_
        rotate_left 1
        · intro w hSw; (try dsimp only at hSw); simp only [List.getElem_toArray, List.getElem_cons_succ, List.getElem_cons_zero]; go_simp; try (with_reducible rfl)
        (try simp only [List.getElem_toArray, List.getElem_cons_succ, List.getElem_cons_zero, Act.put, List.setIfInBounds_toArray, List.set_cons_succ, List.set_cons_zero])
        refine wpAnyH_ready (rs := [11]) (by kernel_rfl) (by simp) ?_
        refine AllReadyH.cons rfl (fun K hK => ?_) AllReadyH.nil
        (try simp only [List.getElem_toArray, List.getElem_cons_succ, List.getElem_cons_zero])
        go_simp
        go_at_call 8; refine (CA.out _ (below_more hBw (by ((repeat (first | with_reducible assumption | with_reducible exact Below.refl _ _ | with_reducible apply below_al | with_reducible apply below_dr | with_reducible refine below_more ?_ (by assumption))))))).mono ?_; rintro e' y11 ⟨rfl, d11⟩
        (try (go_wp2_with fail))
        refine hK.out _ _ ?_ (fun hHeld => ?_)
        · exact K17.out _ (by ((repeat (first | with_reducible assumption | with_reducible exact Below.refl _ _ | with_reducible apply below_al | with_reducible apply below_dr | with_reducible refine below_more ?_ (by assumption)))))
        clear hK K
        (try simp only [Act.put, List.setIfInBounds_toArray, List.set_cons_succ, List.set_cons_zero])
        refine wpAnyH_take (i := 12) (v := ?_) rfl (by kernel_rfl) (by kernel_rfl) (by kernel_rfl) (fun _ _ _ h => h) (Or.inl ⟨by rfl, ?_⟩) (by assumption) ?_
        rotate_left 1
        · intro w hSw; (try dsimp only at hSw); simp only [List.getElem_toArray, List.getElem_cons_succ, List.getElem_cons_zero]; go_simp; try (with_reducible rfl)
        (try simp only [List.getElem_toArray, List.getElem_cons_succ, List.getElem_cons_zero, Act.put, List.setIfInBounds_toArray, List.set_cons_succ, List.set_cons_zero])
        refine wpAnyH_take (i := 13) (v := ?_) rfl (by kernel_rfl) (by kernel_rfl) (by kernel_rfl) (fun _ _ _ h => h) (Or.inl ⟨by rfl, ?_⟩) (by assumption) ?_
        rotate_left 1
        · intro w hSw; (try dsimp only at hSw); simp only [List.getElem_toArray, List.getElem_cons_succ, List.getElem_cons_zero]; go_simp; try (with_reducible rfl)
        (try simp only [List.getElem_toArray, List.getElem_cons_succ, List.getElem_cons_zero, Act.put, List.setIfInBounds_toArray, List.set_cons_succ, List.set_cons_zero])
        refine wpAnyH_done (by kernel_rfl) ?_ _
        go_wp2
        go_ret
        exact ⟨rfl, below_more hBw (by ((repeat (first | with_reducible assumption | with_reducible exact Below.refl _ _ | with_reducible apply below_al | with_reducible apply below_dr | with_reducible refine below_more ?_ (by assumption)))))⟩
      · rw [hDB] at CDB
        have CF17 : Hid (∀ W, Below wo.heap.size wo W → Calls Tryd.prog 11 #[.slice (some ⟨b, off, none⟩) n c] W fun e w' => ∃ A' c', e = .returned (.slice A' n c') ∧ RdH w' A' n l ∧ Below W.heap.size W w') := Lib.hid fun W h => CF.out W (below_more hBw h)
        clear hgw hxB CC
        go_wp2_with (first
          | (go_at_call 11; refine (CF17.out _ (by ((repeat (first | with_reducible assumption | with_reducible exact Below.refl _ _ | with_reducible apply below_al | with_reducible apply below_dr | with_reducible refine below_more ?_ (by assumption)))))).mono ?_; rintro e' z1 ⟨A5, c5, rfl, hr5, f1⟩)
          | (go_at_call 12; refine (CDB.out _ A5 c5 hr5).mono ?_; rintro e' z2 ⟨rfl, f2⟩)
          | (go_at_call 8; refine (CA.out _ (below_more (below_more hBw f1) f2)).mono ?_; rintro e' v9 ⟨rfl, d9⟩))
        go_ret
        exact ⟨rfl, below_more (below_more (below_more hBw f1) f2) d9⟩
set_option maxRecDepth 100000 in
set_option maxHeartbeats 4000000 in
theorem walk (A : Option Addr) (n c : Nat) (l : List (List UInt8)) (k : Int) (w : World) (hT : Tab w) (w0 : RdH w A n l ∧ n ≤ c ∧ c ≤ maxLen) (w1 : (Lit.int .i64 k).wf = true) : Calls Tryd.prog 3 #[.slice A n c, .int .i64 k] w (Ret w (.bool true)) := by
  obtain ⟨hr, hnc, hcm⟩ := w0
  have CA : Hid (∀ W, Below w.heap.size w W → Calls Tryd.prog 8 #[] W (Ret W (.bool true))) := Lib.hid fun W h => awake9_calls W (hT.all h)
  by_cases h20 : 20 < n
  · have hd : (20 : Int) < (n : Int) := by omega
    clear hr hcm hnc hT
    go_enter Tryd.func3, Tryd.ntmps3
    go_wp2_with (go_at_call 8; refine (CA.out _ (Below.refl _ _)).mono ?_; rintro e' v9 ⟨rfl, d9⟩)
    go_ret
    exact ⟨rfl, d9⟩
  have hd : ¬ (20 : Int) < (n : Int) := by omega
  by_cases h1 : k < 0
  · exact walkLow A n c k w CA hd h1 (Lib.hid fun W => bmake_low A n c k W (by omega) h1)
  by_cases h2 : (n : Int) ≤ k
  · exact walkHigh A n c k w CA hd h1 h2 (Lib.hid fun W => bmake_high A n c k W (by omega) h1 h2)
  obtain ⟨i, rfl⟩ : ∃ i : Nat, k = (i : Int) := ⟨k.toNat, by omega⟩
  have hi : i < n := by omega
  have hln := hr.len
  obtain ⟨b, off, rfl, hb, hga⟩ := hr.at_ hi
  have x32 : (hat l i).length = 32 := hat_32 hr.all (by omega)
  refine main n c i b off (depth n) l (pth l i (depth n)) _ ((rootH l).map B8) (dbl l) w CA hd h1 h2 (by omega) (Lib.hid fun W h => ?_) (Lib.hid ?_) (Lib.hid fun W B' cB h => ?_) (Lib.hid fun W B' cB h => ?_) (Lib.hid fun W B' cB h => ?_) (Lib.hid fun hdb W A' c' h h2 => ?_) hb hga (Lib.hid (by rw [List.length_map, x32]; kernel_rfl)) (depth_le6 n (by omega))
  · refine (refs_calls _ n c l W (hr.below h) (by omega)).mono ?_
    rintro e w' ⟨A', c', rfl, k1, k2⟩
    exact ⟨A', c', rfl, k1, k2⟩
  · refine (bmake_calls _ n c i l w hr hT (by omega) hi hnc hcm).mono ?_
    rintro e w' ⟨A', c', rfl, k1, _, _, k2⟩
    exact ⟨A', c', rfl, k1, k2⟩
  · refine (dmake_calls B' n cB i l W h (by omega) hi).mono ?_
    rintro e w' ⟨A', c', rfl, k1, _, _, k2⟩
    exact ⟨A', c', rfl, k1, k2⟩
  · exact ddoubled_calls B' n cB l W h (by omega)
  · exact droot_calls B' n cB l W h (by omega)
  · have h0 := chk_made l i (by omega) (by omega) hdb
    rw [hln] at h0
    have := bcheck_calls (n : Int) (i : Int) A' (depth n) c' _ (rootH l) (hat l i) W h2 (hT.all h) x32 (rootH_len l hr.all)
    rw [h0] at this
    exact this

set_option maxRecDepth 100000 in
theorem lifted (os : Os) (started : os.Started) (H : Type) (enc : TypeId × Value → H) :
    ReturnsInHanded {} Tryd.checked os 3 .any (fun w args => (Rows.branchMakesSpec.pre enc Tryd.prog Tryd.f3 [] false w args ∧ laidMetH Tryd.prog laidT w) ∧ sizedMet enc Tryd.prog Tryd.f3 (OpenSpec.ofChange Rows.branchMakesSpec) false w args)
      (Rows.branchMakesSpec.post enc Tryd.prog Tryd.f3 false true false false) := by
  refine returnsInHanded_of_change_and (C := Tryd.checked) (X := fun w _ => laidMetH Tryd.prog laidT w) (fun _ _ _ hh h => h.of_heap hh) own started (by kernel_rfl) Tryd.func3
    (ChangeSpec.witness_shaped (enc := enc) (C := Tryd.checked) (os := os) (X := fun w _ => laidMetH Tryd.prog laidT w) false (World.doorLaid Tryd.prog 400 os) #[.slice none 0 0, .int .i64 0] 8 rfl (World.shaped_of_RefB (by kernel_rfl) (by kernel_rfl)) (by kernel_rfl) (by kernel_rfl) (by kernel_rfl) (door_met os _)) ?_
  intro W base args ds gs before hval0 hW hcnd _ hL _
  have hval : ∀ (j : Nat) t v, Tryd.f3.params[j]? = some t → args[j]? = some v → Value.okWide Tryd.prog W .any base t v := hval0
  have hW' := hW
  obtain ⟨p, q, hA0, hV, rfl, hfz, hnd⟩ := hW
  have hA : DataW.TrodAll enc Tryd.prog W 0 (fun _ => true) true Tryd.f3.params.toList args.toList ds p := hA0
  rw [Tryd.params3] at hA hval
  obtain ⟨v0, vs0, d0, ds0, p0, q0, hargs, rfl, rfl, h0, r0⟩ := trodAll_cons hA
  obtain ⟨v1, vs1, d1, ds1, p1, q1, rfl, rfl, rfl, h1, r1⟩ := trodAll_cons r0
  obtain ⟨rfl, rfl, rfl⟩ := trodAll_nil r1
  obtain rfl : args = #[v0, v1] := by cases args; simp_all
  obtain ⟨rfl, rfl⟩ := trodVars_none hV
  obtain ⟨a0, len0, cap0, rfl⟩ := okWide_slice Tryd.underlying22 (hval 0 22 v0 rfl rfl)
  have k0 := h0
  have lt0 : ∀ x ∈ p0, x.block < W.heap.size := by obtain ⟨m, hm⟩ := k0; exact DataW.trod_lt m _ _ _ hm
  obtain ⟨l0, w0⟩ := open_hashes h0
  obtain ⟨a1, rfl, rfl, rfl, w1⟩ := open_int Tryd.underlying3 (hval 1 3 v1 rfl rfl) h1
  clear hA0 hval0
  refine (walk a0 len0 cap0 l0 a1 W (tab_of hL) w0 w1).mono fun e W' ⟨he, bel⟩ => ?_
  subst he
  exact ⟨_, rfl, _, _, _, [], _, [], hW', trodAll_mk1 (shut_bool Tryd.underlying4 _), (trodAll_cons_mk (Below.trod laidOut (by kernel_rfl) (of_decide_eq_true (by kernel_rfl)) k0 bel lt0) (trodAll_cons_mk (shut_int Tryd.underlying3 w1) trodAll_mk0)), rfl, bel.frame _, fun h => by cases h⟩

set_option maxRecDepth 100000 in
theorem over : Rows.branchMakesRow.holds Tryd.pinned (OpenSpec.ofChange Rows.branchMakesSpec) :=
  OpenClaim.holds_of_wide 3 Tryd.f3 rfl rfl rfl rfl rfl rfl rfl ⟨rfl, rfl, rfl, rfl, rfl⟩ rfl rfl rfl rfl rfl (by kernel_rfl) Tryd.func3 (by kernel_rfl)
    (of_decide_eq_true (by kernel_rfl)) (by unfold Func.isWrapper; first | (rw [if_pos (by decide +kernel)]; kernel_rfl) | (rw [if_neg (by decide +kernel)]; exact ⟨rfl, rfl⟩))
    (fun os started H enc _ => lifted os started H enc)

set_option maxRecDepth 100000 in
theorem proved : Rows.BranchMakesCardSaid :=
  Claim7.holds_tied_plain_at .later [] [.data, .data] true Rows.branchMakesCard.stood.harness false
    over (fun _ h => by cases h) (by kernel_rfl) (fun _ h => by cases h) branchMakes_row_tie rfl ⟨rfl, rfl⟩ (by kernel_rfl) rfl
    (fun f fn hf hfn => by
      obtain rfl : f = 3 := Option.some.inj ((show Tryd.prog.funcNamed "masthead/mastheadlaw09.BranchMakes" = some 3 by kernel_rfl).symm.trans hf) |>.symm
      obtain rfl : fn = Tryd.f3 := (Option.some.inj (Tryd.func3.symm.trans hfn)).symm
      exact ⟨by kernel_rfl, fun j t ht => by
        rw [Tryd.params3] at ht
        have hm : t ∈ [22, 3] := by simpa using Array.mem_of_getElem? ht
        have hall : ([22, 3].all fun u => !Tryd.prog.wantsStandIn u) = true := by kernel_rfl
        exact (show Tryd.prog.wantsStandIn t = false by simpa using List.all_eq_true.1 hall t hm)⟩)
    (by kernel_rfl)
end Go.Proofs.YtnfcnjboeocnmaaDoor.branchMakes
