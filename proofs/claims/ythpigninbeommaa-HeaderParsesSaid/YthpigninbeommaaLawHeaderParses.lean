/- Proved: for every byte slice: of fewer than 80 bytes Parse answers ErrShort and a zero header, of more (up to 200) ErrForm and a zero header; of 80 bytes the document's header, whose bytes they are. The argument reads as it did. No condition. -/
import Derived.Test.YthpigninbeommaaRows
import Derived.Test.YthpigninbeommaaHdrQ
import Derived.Test.YthpigninbeommaaHdrN
import Derived.Deep.RegionHeld3
import Derived.ProofKit
import Derived.OpenShut
import Derived.ShutString
import Derived.ChangeOld
import Derived.Test.YthpigninbeommaaOpen
namespace Go.Proofs.Ythpigninbeommaa.headerParses
open Go.ChangeShapes Go.WideShapes Go.ChangeAt Go.RowKit
open Go.ChangeMaps (open_string shut_string)
set_option linter.unusedVariables false
set_option linter.unusedSimpArgs false

set_option maxRecDepth 100000 in
theorem own : ownKnob Try.prog.godebug = none := by kernel_rfl
set_option maxRecDepth 100000 in
theorem laidOut : laidOutB Try.prog = true := by kernel_rfl

set_option maxRecDepth 100000 in
set_option maxHeartbeats 4000000 in
theorem walk (A : Option Addr) (n c : Nat) (l : List UInt8) (w : World) (w0 : Rd w A n l ∧ n ≤ c ∧ c ≤ maxLen) :
    Calls Try.prog 3 #[.slice A n c] w (Ret w (.bool true)) := by
  obtain ⟨hr, hnc, hcm⟩ := w0
  have hl := hr.len
  have hzv := zeroH
  have heq0 : ∀ W, (Op.equalIn 10000 28 (.agg Hd.zero.cells.toArray) (.agg Hd.zero.cells.toArray)).run Try.prog W = .ok true W := eqG_self Hd.zero Hd.zero_ok
  clear hcm
  by_cases h200 : 200 < n
  · have hd : (200 : Int) < (n : Int) := by omega
    go_enter Try.func3, Try.ntmps3
    go_wp2_with (go_at_call 4; refine (awake_calls _).mono ?_; rintro e' v9 ⟨rfl, d9⟩)
    go_ret
    exact ⟨rfl, d9⟩
  have hd : ¬ (200 : Int) < (n : Int) := by omega
  by_cases h80 : n < 80
  · have hd1 : (n : Int) < 80 := by omega
    have hE := prsE_short l (by omega)
    obtain ⟨X, hX⟩ : ∃ X, X = Hd.zero.cells := ⟨_, rfl⟩
    have IX : Hid ((Try.prog.info? 28).map (·.size) = some X.length) := Lib.hid (by rw [hX]; exact Hd.sizeG Hd.zero_ok)
    have LX : Hid (Hd.zero.cells.length = X.length) := Lib.hid (by rw [hX])
    have OX : Hid (∀ v ∈ X, v.oneCell' = true) := Lib.hid (by rw [hX]; exact Hd.one _)
    have heq : ∀ W, (Op.equalIn 10000 28 (.agg X.toArray) (.agg Hd.zero.cells.toArray)).run Try.prog W = .ok true W := by rw [hX]; exact heq0
    have CP : Hid (Calls Try.prog 5 #[.slice A n c] w (Ret w (.tuple #[.agg X.toArray, .int .i64 2]))) := Lib.hid (by
      have := gparse_calls A n c l w (by omega) hr
      rw [prsH_bad l (by rw [hE]; omega), hE] at this
      rw [hX]
      exact this)
    clear hr hX hE
    go_enter Try.func3, Try.ntmps3
    go_wp2_with (first
      | (go_at_call 5; refine CP.out.mono ?_; rintro e' v1 ⟨rfl, d1⟩)
      | ((with_reducible refine at_store 28 (.tmp 3) (.tmp 12) ?_); refine wpList_store_blk rfl 28 (.tmp 3) (.tmp 12) rfl v1.heap.size Hd.zero.cells X 28 rfl rfl (Blk.new v1 _ _) LX.out IX.out OX.out ?_; intro x1 hb1 ho1; have k1 : Below w.heap.size w x1 := below_only (below_al d1 _) ho1 d1.size)
      | ((with_reducible refine at_loadG 28 (.tmp 3) ?_); refine load_midG ?_ 28 (.tmp 3) rfl (v1.heap.size) 0 rfl X _ (hb1.range) Try.underlying28 rfl IX.out ?_; (focus (simp [Region.wanted, yielded, Act.put]; done)))
      | (go_at_call 4; refine (awake_calls _).mono ?_; rintro e' v9 ⟨rfl, d9⟩))
    go_ret
    exact ⟨rfl, below_more k1 d9⟩
  have hd1 : ¬ (n : Int) < 80 := by omega
  by_cases h81 : 80 < n
  · have hd2 : (80 : Int) < (n : Int) := by omega
    have hE := prsE_long l (by omega)
    obtain ⟨X, hX⟩ : ∃ X, X = Hd.zero.cells := ⟨_, rfl⟩
    have IX : Hid ((Try.prog.info? 28).map (·.size) = some X.length) := Lib.hid (by rw [hX]; exact Hd.sizeG Hd.zero_ok)
    have LX : Hid (Hd.zero.cells.length = X.length) := Lib.hid (by rw [hX])
    have OX : Hid (∀ v ∈ X, v.oneCell' = true) := Lib.hid (by rw [hX]; exact Hd.one _)
    have heq : ∀ W, (Op.equalIn 10000 28 (.agg X.toArray) (.agg Hd.zero.cells.toArray)).run Try.prog W = .ok true W := by rw [hX]; exact heq0
    have CP : Hid (Calls Try.prog 5 #[.slice A n c] w (Ret w (.tuple #[.agg X.toArray, .int .i64 3]))) := Lib.hid (by
      have := gparse_calls A n c l w (by omega) hr
      rw [prsH_bad l (by rw [hE]; omega), hE] at this
      rw [hX]
      exact this)
    clear hr hX hE
    go_enter Try.func3, Try.ntmps3
    go_wp2_with (first
      | (go_at_call 5; refine CP.out.mono ?_; rintro e' v1 ⟨rfl, d1⟩)
      | ((with_reducible refine at_store 28 (.tmp 3) (.tmp 12) ?_); refine wpList_store_blk rfl 28 (.tmp 3) (.tmp 12) rfl v1.heap.size Hd.zero.cells X 28 rfl rfl (Blk.new v1 _ _) LX.out IX.out OX.out ?_; intro x1 hb1 ho1; have k1 : Below w.heap.size w x1 := below_only (below_al d1 _) ho1 d1.size)
      | ((with_reducible refine at_loadG 28 (.tmp 3) ?_); refine load_midG ?_ 28 (.tmp 3) rfl (v1.heap.size) 0 rfl X _ (hb1.range) Try.underlying28 rfl IX.out ?_; (focus (simp [Region.wanted, yielded, Act.put]; done)))
      | (go_at_call 4; refine (awake_calls _).mono ?_; rintro e' v9 ⟨rfl, d9⟩))
    go_ret
    exact ⟨rfl, below_more k1 d9⟩
  · have hd2 : ¬ (80 : Int) < (n : Int) := by omega
    have h80' : l.length = 80 := by omega
    have hE := prsE_ok l h80'
    have o := prsD_ok l h80'
    obtain ⟨X, hX⟩ : ∃ X, X = (prsD l).cells := ⟨_, rfl⟩
    obtain ⟨sb, hsb⟩ : ∃ sb : ByteArray, sb = ⟨l.toArray⟩ := ⟨_, rfl⟩
    have IX : Hid ((Try.prog.info? 28).map (·.size) = some X.length) := Lib.hid (by rw [hX]; exact Hd.sizeG o)
    have LX : Hid (Hd.zero.cells.length = X.length) := Lib.hid (by rw [hX, Hd.cells_len o]; rfl)
    have OX : Hid (∀ v ∈ X, v.oneCell' = true) := Lib.hid (by rw [hX]; exact Hd.one _)
    have heqR : ∀ W, (Op.equalIn 10000 33 (.agg X.toArray) (.agg X.toArray)).run Try.prog W = .ok true W := by rw [hX]; exact eqR_self _ o
    have CP : Hid (Calls Try.prog 5 #[.slice A n c] w (Ret w (.tuple #[.agg X.toArray, .int .i64 0]))) := Lib.hid (by
      have := gparse_calls A n c l w (by omega) hr
      rw [prsH_ok l h80', hE] at this
      rw [hX]
      exact this)
    have CR : Hid (∀ W, Calls Try.prog 6 #[.agg X.toArray] W (Ret W (.agg X.toArray))) := Lib.hid fun W => by rw [hX]; exact ref_calls _ o W
    have CD : Hid (∀ W, Calls Try.prog 7 #[.string sb] W (Ret W (.agg X.toArray))) := Lib.hid fun W => by rw [hX, hsb]; exact dparse_calls l h80' W
    have CB : Hid (∀ W, Calls Try.prog 8 #[.agg X.toArray] W fun e w' => ∃ A' n' c', e = .returned (.slice A' n' c') ∧ (convert 22 9 (.slice A' n' c')).run Try.prog w' = .ok (.string sb) w' ∧ Below W.heap.size W w') := Lib.hid fun W => by
      rw [hX]
      refine (gbytes_calls _ o W).mono ?_
      rintro e w' ⟨A', n', c', rfl, ho, hb⟩
      rw [prsD_bytes l h80'] at ho
      exact ⟨A', n', c', rfl, by rw [hsb]; exact conv8 w' A' n' c' _ ho.rd, hb⟩
    have HR := Lib.hid hr
    have HSB := Lib.hid hsb
    clear hX hE o hr hsb h80'
    go_enter Try.func3, Try.ntmps3
    go_upto_region 8 with (first
      | (go_at_call 5; refine CP.out.mono ?_; rintro e' v1 ⟨rfl, d1⟩)
      | ((with_reducible refine at_store 28 (.tmp 3) (.tmp 12) ?_); refine wpList_store_blk rfl 28 (.tmp 3) (.tmp 12) rfl v1.heap.size Hd.zero.cells X 28 rfl rfl (Blk.new v1 _ _) LX.out IX.out OX.out ?_; intro x1 hb1 ho1; have k1 : Below w.heap.size w x1 := below_only (below_al d1 _) ho1 d1.size))
    have K0 : Hid (∀ W, Below x1.heap.size x1 W → (convert 22 9 (.slice A n c)).run Try.prog W = .ok (.string sb) W ∧ W.rangeAt v1.heap.size 0 X) := Lib.hid fun W h => ⟨by rw [HSB.out]; exact conv8 W A n c l (HR.out.below (below_more k1 h)), (hb1.up h).range⟩
    have HB := Lib.hid k1
    clear k1 d1 ho1 hb1
    refine wp_region_held_drew (S := fun W => (convert 22 9 (.slice A n c)).run Try.prog W = .ok (.string sb) W ∧ W.rangeAt v1.heap.size 0 X) (by kernel_rfl) ?_ (fun hHeld => ?_)
    · exact K0.out _ (by ((repeat (first | with_reducible assumption | with_reducible exact Below.refl _ _ | with_reducible apply below_al | with_reducible apply below_dr | with_reducible refine below_more ?_ (by assumption)))))
    refine wpAnyH_take (i := 0) (v := ?_) rfl (by kernel_rfl) (by kernel_rfl) (by kernel_rfl) (fun _ _ _ h => h) (Or.inl ⟨by rfl, ?_⟩) (by assumption) ?_
    rotate_left 1
    · intro w hSw; (try dsimp only at hSw); simp only [List.getElem_toArray, List.getElem_cons_succ, List.getElem_cons_zero]; go_simp; try (with_reducible rfl)
    (try simp only [List.getElem_toArray, List.getElem_cons_succ, List.getElem_cons_zero, Act.put, List.setIfInBounds_toArray, List.set_cons_succ, List.set_cons_zero])
    refine wpAnyH_take (i := 1) (v := ?_) rfl (by kernel_rfl) (by kernel_rfl) (by kernel_rfl) (fun _ _ _ h => h) (Or.inl ⟨by rfl, ?_⟩) (by assumption) ?_
    rotate_left 1
    · intro w hSw; (try dsimp only at hSw); simp only [List.getElem_toArray, List.getElem_cons_succ, List.getElem_cons_zero]; go_simp; try (with_reducible rfl)
    (try simp only [List.getElem_toArray, List.getElem_cons_succ, List.getElem_cons_zero, Act.put, List.setIfInBounds_toArray, List.set_cons_succ, List.set_cons_zero])
    refine wpAnyH_take (i := 2) (v := ?_) rfl (by kernel_rfl) (by kernel_rfl) (by kernel_rfl) (fun _ _ _ h => h) (Or.inl ⟨by rfl, ?_⟩) (by assumption) ?_
    rotate_left 1
    · intro w hSw; (try dsimp only at hSw); simp only [List.getElem_toArray, List.getElem_cons_succ, List.getElem_cons_zero]; go_simp; try (with_reducible rfl)
    (try simp only [List.getElem_toArray, List.getElem_cons_succ, List.getElem_cons_zero, Act.put, List.setIfInBounds_toArray, List.set_cons_succ, List.set_cons_zero])
    refine wpAnyH_take (i := 3) rfl (by kernel_rfl) (by kernel_rfl) (by kernel_rfl) (fun _ _ _ h => h) (yieldsIf_load_mid (by rfl) _ _ rfl _ _ rfl X _ (fun w hSw => by (try dsimp only at hSw); go_split_ands; assumption) Try.underlying28 rfl IX.out) (by assumption) ?_
    (try simp only [List.getElem_toArray, List.getElem_cons_succ, List.getElem_cons_zero, Act.put, List.setIfInBounds_toArray, List.set_cons_succ, List.set_cons_zero])
    refine wpAnyH_take (i := 5) (v := ?_) rfl (by kernel_rfl) (by kernel_rfl) (by kernel_rfl) (fun _ _ _ h => h) (Or.inl ⟨by rfl, ?_⟩) (by assumption) ?_
    rotate_left 1
    · intro w hSw; (try dsimp only at hSw); simp only [List.getElem_toArray, List.getElem_cons_succ, List.getElem_cons_zero]; go_simp; try (with_reducible rfl)
    (try simp only [List.getElem_toArray, List.getElem_cons_succ, List.getElem_cons_zero, Act.put, List.setIfInBounds_toArray, List.set_cons_succ, List.set_cons_zero])
    refine wpAnyH_take (i := 6) (v := ?_) rfl (by kernel_rfl) (by kernel_rfl) (by kernel_rfl) (fun _ _ _ h => h) (Or.inl ⟨by rfl, ?_⟩) (by assumption) ?_
    rotate_left 1
    · intro w hSw; (try dsimp only at hSw); simp only [List.getElem_toArray, List.getElem_cons_succ, List.getElem_cons_zero]; go_simp; try (with_reducible rfl)
    (try simp only [List.getElem_toArray, List.getElem_cons_succ, List.getElem_cons_zero, Act.put, List.setIfInBounds_toArray, List.set_cons_succ, List.set_cons_zero])
    refine wpAnyH_ready (rs := [4]) (by kernel_rfl) (by simp) ?_
    refine AllReadyH.cons rfl (fun K hK => ?_) AllReadyH.nil
    (try simp only [List.getElem_toArray, List.getElem_cons_succ, List.getElem_cons_zero])
    go_simp
    go_at_call 6; refine (CR.out _).mono ?_; rintro e' x4 ⟨rfl, d4⟩
    (try (go_wp2_with fail))
    refine hK.out _ _ ?_ (fun hHeld => ?_)
    · exact K0.out _ (by ((repeat (first | with_reducible assumption | with_reducible exact Below.refl _ _ | with_reducible apply below_al | with_reducible apply below_dr | with_reducible refine below_more ?_ (by assumption)))))
    clear hK K
    (try simp only [Act.put, List.setIfInBounds_toArray, List.set_cons_succ, List.set_cons_zero])
    refine wpAnyH_ready (rs := [7]) (by kernel_rfl) (by simp) ?_
    refine AllReadyH.cons rfl (fun K hK => ?_) AllReadyH.nil
    (try simp only [List.getElem_toArray, List.getElem_cons_succ, List.getElem_cons_zero])
    go_simp
    go_at_call 7; refine (CD.out _).mono ?_; rintro e' x7 ⟨rfl, d7⟩
    (try (go_wp2_with fail))
    refine hK.out _ _ ?_ (fun hHeld => ?_)
    · exact K0.out _ (by ((repeat (first | with_reducible assumption | with_reducible exact Below.refl _ _ | with_reducible apply below_al | with_reducible apply below_dr | with_reducible refine below_more ?_ (by assumption)))))
    clear hK K
    (try simp only [Act.put, List.setIfInBounds_toArray, List.set_cons_succ, List.set_cons_zero])
    refine wpAnyH_take (i := 8) (v := ?_) rfl (by kernel_rfl) (by kernel_rfl) (by kernel_rfl) (fun _ _ _ h => h) (Or.inl ⟨by rfl, ?_⟩) (by assumption) ?_
    rotate_left 1
    · intro w hSw; (try dsimp only at hSw); simp only [List.getElem_toArray, List.getElem_cons_succ, List.getElem_cons_zero]; go_simp; try (with_reducible rfl)
    (try simp only [List.getElem_toArray, List.getElem_cons_succ, List.getElem_cons_zero, Act.put, List.setIfInBounds_toArray, List.set_cons_succ, List.set_cons_zero])
    refine wpAnyH_take (i := 9) (v := ?_) rfl (by kernel_rfl) (by kernel_rfl) (by kernel_rfl) (fun _ _ _ h => h) (Or.inl ⟨by rfl, ?_⟩) (by assumption) ?_
    rotate_left 1
    · intro w hSw; (try dsimp only at hSw); simp only [List.getElem_toArray, List.getElem_cons_succ, List.getElem_cons_zero]; go_simp; try (with_reducible rfl)
    (try simp only [List.getElem_toArray, List.getElem_cons_succ, List.getElem_cons_zero, Act.put, List.setIfInBounds_toArray, List.set_cons_succ, List.set_cons_zero])
    refine wpAnyH_take (i := 10) (v := ?_) rfl (by kernel_rfl) (by kernel_rfl) (by kernel_rfl) (fun _ _ _ h => h) (Or.inl ⟨by rfl, ?_⟩) (by assumption) ?_
    rotate_left 1
    · intro w hSw; (try dsimp only at hSw); simp only [List.getElem_toArray, List.getElem_cons_succ, List.getElem_cons_zero]; go_simp; try (with_reducible rfl)
    (try simp only [List.getElem_toArray, List.getElem_cons_succ, List.getElem_cons_zero, Act.put, List.setIfInBounds_toArray, List.set_cons_succ, List.set_cons_zero])
    refine wpAnyH_take (i := 11) rfl (by kernel_rfl) (by kernel_rfl) (by kernel_rfl) (fun _ _ _ h => h) (yieldsIf_load_mid (by rfl) _ _ rfl _ _ rfl X _ (fun w hSw => by (try dsimp only at hSw); go_split_ands; assumption) Try.underlying28 rfl IX.out) (by assumption) ?_
    (try simp only [List.getElem_toArray, List.getElem_cons_succ, List.getElem_cons_zero, Act.put, List.setIfInBounds_toArray, List.set_cons_succ, List.set_cons_zero])
    refine wpAnyH_take (i := 14) (v := ?_) rfl (by kernel_rfl) (by kernel_rfl) (by kernel_rfl) (fun _ _ _ h => h) (Or.inl ⟨by rfl, ?_⟩) (by assumption) ?_
    rotate_left 1
    · intro w hSw; (try dsimp only at hSw); simp only [List.getElem_toArray, List.getElem_cons_succ, List.getElem_cons_zero]; go_simp; try (with_reducible rfl)
    (try simp only [List.getElem_toArray, List.getElem_cons_succ, List.getElem_cons_zero, Act.put, List.setIfInBounds_toArray, List.set_cons_succ, List.set_cons_zero])
    refine wpAnyH_take (i := 15) (v := ?_) rfl (by kernel_rfl) (by kernel_rfl) (by kernel_rfl) (fun _ _ _ h => h) (Or.inl ⟨by rfl, ?_⟩) (by assumption) ?_
    rotate_left 1
    · intro w hSw; (try dsimp only at hSw); simp only [List.getElem_toArray, List.getElem_cons_succ, List.getElem_cons_zero]; go_simp; try (with_reducible rfl)
    (try simp only [List.getElem_toArray, List.getElem_cons_succ, List.getElem_cons_zero, Act.put, List.setIfInBounds_toArray, List.set_cons_succ, List.set_cons_zero])
    refine wpAnyH_ready (rs := [12]) (by kernel_rfl) (by simp) ?_
    refine AllReadyH.cons rfl (fun K hK => ?_) AllReadyH.nil
    (try simp only [List.getElem_toArray, List.getElem_cons_succ, List.getElem_cons_zero])
    go_simp
    go_at_call 8; refine (CB.out _).mono ?_; rintro e' x12 ⟨A12, n12, c12, rfl, hcv, d12⟩
    (try (go_wp2_with fail))
    refine hK.out _ _ ?_ (fun hHeld => ?_)
    · exact K0.out _ (by ((repeat (first | with_reducible assumption | with_reducible exact Below.refl _ _ | with_reducible apply below_al | with_reducible apply below_dr | with_reducible refine below_more ?_ (by assumption)))))
    clear hK K
    (try simp only [Act.put, List.setIfInBounds_toArray, List.set_cons_succ, List.set_cons_zero])
    refine wpAnyH_ready (rs := [13]) (by kernel_rfl) (by simp) ?_
    refine AllReadyH.cons rfl (fun K hK => ?_) AllReadyH.nil
    (try simp only [List.getElem_toArray, List.getElem_cons_succ, List.getElem_cons_zero])
    go_simp
    skip
    (try (go_wp2_with fail))
    refine hK.out _ _ ?_ (fun hHeld => ?_)
    · exact K0.out _ (by ((repeat (first | with_reducible assumption | with_reducible exact Below.refl _ _ | with_reducible apply below_al | with_reducible apply below_dr | with_reducible refine below_more ?_ (by assumption)))))
    clear hK K
    (try simp only [Act.put, List.setIfInBounds_toArray, List.set_cons_succ, List.set_cons_zero])
    refine wpAnyH_take (i := 16) (v := ?_) rfl (by kernel_rfl) (by kernel_rfl) (by kernel_rfl) (fun _ _ _ h => h) (Or.inl ⟨by rfl, ?_⟩) (by assumption) ?_
    rotate_left 1
    · intro w hSw; (try dsimp only at hSw); simp only [List.getElem_toArray, List.getElem_cons_succ, List.getElem_cons_zero]; go_simp; try (with_reducible rfl)
    (try simp only [List.getElem_toArray, List.getElem_cons_succ, List.getElem_cons_zero, Act.put, List.setIfInBounds_toArray, List.set_cons_succ, List.set_cons_zero])
    refine wpAnyH_take (i := 17) (v := ?_) rfl (by kernel_rfl) (by kernel_rfl) (by kernel_rfl) (fun _ _ _ h => h) (Or.inl ⟨by rfl, ?_⟩) (by assumption) ?_
    rotate_left 1
    · intro w hSw; (try dsimp only at hSw); simp only [List.getElem_toArray, List.getElem_cons_succ, List.getElem_cons_zero]; go_simp; try (with_reducible rfl)
    (try simp only [List.getElem_toArray, List.getElem_cons_succ, List.getElem_cons_zero, Act.put, List.setIfInBounds_toArray, List.set_cons_succ, List.set_cons_zero])
    refine wpAnyH_take (i := 18) (v := ?_) rfl (by kernel_rfl) (by kernel_rfl) (by kernel_rfl) (fun _ _ _ h => h) (Or.inl ⟨by rfl, ?_⟩) (by assumption) ?_
    rotate_left 1
    · intro w hSw; (try dsimp only at hSw); simp only [List.getElem_toArray, List.getElem_cons_succ, List.getElem_cons_zero]; go_simp; try (with_reducible rfl)
    (try simp only [List.getElem_toArray, List.getElem_cons_succ, List.getElem_cons_zero, Act.put, List.setIfInBounds_toArray, List.set_cons_succ, List.set_cons_zero])
    refine wpAnyH_ready (rs := [19]) (by kernel_rfl) (by simp) ?_
    refine AllReadyH.cons rfl (fun K hK => ?_) AllReadyH.nil
    (try simp only [List.getElem_toArray, List.getElem_cons_succ, List.getElem_cons_zero])
    go_simp
    go_at_call 4; refine (awake_calls _).mono ?_; rintro e' x19 ⟨rfl, d19⟩
    (try (go_wp2_with fail))
    refine hK.out _ _ ?_ (fun hHeld => ?_)
    · exact K0.out _ (by ((repeat (first | with_reducible assumption | with_reducible exact Below.refl _ _ | with_reducible apply below_al | with_reducible apply below_dr | with_reducible refine below_more ?_ (by assumption)))))
    clear hK K
    (try simp only [Act.put, List.setIfInBounds_toArray, List.set_cons_succ, List.set_cons_zero])
    refine wpAnyH_take (i := 20) (v := ?_) rfl (by kernel_rfl) (by kernel_rfl) (by kernel_rfl) (fun _ _ _ h => h) (Or.inl ⟨by rfl, ?_⟩) (by assumption) ?_
    rotate_left 1
    · intro w hSw; (try dsimp only at hSw); simp only [List.getElem_toArray, List.getElem_cons_succ, List.getElem_cons_zero]; go_simp; try (with_reducible rfl)
    (try simp only [List.getElem_toArray, List.getElem_cons_succ, List.getElem_cons_zero, Act.put, List.setIfInBounds_toArray, List.set_cons_succ, List.set_cons_zero])
    refine wpAnyH_take (i := 21) (v := ?_) rfl (by kernel_rfl) (by kernel_rfl) (by kernel_rfl) (fun _ _ _ h => h) (Or.inl ⟨by rfl, ?_⟩) (by assumption) ?_
    rotate_left 1
    · intro w hSw; (try dsimp only at hSw); simp only [List.getElem_toArray, List.getElem_cons_succ, List.getElem_cons_zero]; go_simp; try (with_reducible rfl)
    (try simp only [List.getElem_toArray, List.getElem_cons_succ, List.getElem_cons_zero, Act.put, List.setIfInBounds_toArray, List.set_cons_succ, List.set_cons_zero])
    refine wpAnyH_done (by kernel_rfl) ?_ _
    go_wp2
    go_ret
    exact ⟨rfl, below_more HB.out (show Below x1.heap.size x1 x19 by ((repeat (first | with_reducible assumption | with_reducible exact Below.refl _ _ | with_reducible apply below_al | with_reducible apply below_dr | with_reducible refine below_more ?_ (by assumption)))))⟩

set_option maxRecDepth 100000 in
theorem lifted (os : Os) (started : os.Started) (H : Type) (enc : TypeId × Value → H) :
    ReturnsInHanded {} Try.checked os 3 .any (Rows.headerParsesSpec.pre6 enc Try.prog Try.f3 Rows.headerParsesRow.domain false) (Rows.headerParsesSpec.post enc Try.prog Try.f3 false true false false) := by
  refine returnsInHanded_of_change (C := Try.checked) own started (by kernel_rfl) Try.func3
    (ChangeSpec.witness6 (enc := enc) (C := Try.checked) false ⟨#[], #[.slice none 0 0], []⟩ 8 (by kernel_rfl) (by kernel_rfl) (by kernel_rfl) (by kernel_rfl)) ?_
  intro W base args ds gs before hval0 hW hcnd _
  have hval : ∀ (j : Nat) t v, Try.f3.params[j]? = some t → args[j]? = some v → Value.okWide Try.prog W .any base t v := hval0
  have hW' := hW
  obtain ⟨p, q, hA0, hV, rfl, hfz, hnd⟩ := hW
  have hA : DataW.TrodAll enc Try.prog W 0 (fun _ => true) true Try.f3.params.toList args.toList ds p := hA0
  rw [Try.params3] at hA hval
  obtain ⟨v0, vs0, d0, ds0, p0, q0, hargs, rfl, rfl, h0, r0⟩ := trodAll_cons hA
  obtain ⟨rfl, rfl, rfl⟩ := trodAll_nil r0
  obtain rfl : args = #[v0] := by cases args; simp_all
  obtain ⟨rfl, rfl⟩ := trodVars_none hV
  obtain ⟨a0, len0, cap0, rfl⟩ := okWide_slice Try.underlying22 (hval 0 22 v0 rfl rfl)
  have k0 := h0
  have lt0 : ∀ x ∈ p0, x.block < W.heap.size := by obtain ⟨m, hm⟩ := k0; exact DataW.trod_lt m _ _ _ hm
  obtain ⟨l0, w0⟩ : ∃ l, Rd W a0 len0 l ∧ len0 ≤ cap0 ∧ cap0 ≤ maxLen := by
    obtain ⟨fuel, hf⟩ := h0
    rcases open_ints Try.underlying22 Try.underlying5 (by kernel_rfl) hf with ⟨hcs, _⟩ | ⟨x, l, c, zs, hcs, _, hl, hm, hz, _, hcell, hwz⟩
    · simp [Value.cells] at hcs
      obtain ⟨rfl, rfl, rfl⟩ := hcs
      exact ⟨[], Rd.nil _ _, by omega, by unfold maxLen; omega⟩
    · simp [Value.cells] at hcs
      obtain ⟨rfl, rfl, rfl⟩ := hcs
      obtain ⟨l, hr⟩ := rd_ints hcell hl (by simpa using hz) hwz
      exact ⟨l, hr, hl, hm⟩
  clear hA0 hval0
  refine (walk a0 len0 cap0 l0 W w0).mono fun e W' ⟨he, bel⟩ => ?_
  subst he
  exact ⟨_, rfl, _, _, _, [], _, [], hW', trodAll_mk1 (shut_bool Try.underlying4 _), (trodAll_cons_mk (Below.trod laidOut (by kernel_rfl) (of_decide_eq_true (by kernel_rfl)) k0 bel lt0) trodAll_mk0), rfl, bel.frame _, fun h => by cases h⟩

set_option maxRecDepth 100000 in
theorem over : Rows.headerParsesRow.holds Try.pinned (OpenSpec.ofChange Rows.headerParsesSpec) :=
  OpenClaim.holds_of_wide 3 Try.f3 rfl rfl rfl rfl rfl rfl rfl ⟨rfl, rfl, rfl, rfl, rfl⟩ rfl rfl rfl rfl rfl (by kernel_rfl) Try.func3 (by kernel_rfl)
    (of_decide_eq_true (by kernel_rfl)) (by unfold Func.isWrapper; first | (rw [if_pos (by decide +kernel)]; kernel_rfl) | (rw [if_neg (by decide +kernel)]; exact ⟨rfl, rfl⟩))
    (fun os started H enc _ => lifted os started H enc)

set_option maxRecDepth 100000 in
theorem proved : Rows.HeaderParsesSaid := over
end Go.Proofs.Ythpigninbeommaa.headerParses
