/- Proved: for every two wide numbers which is more, how many bits and which bytes a number has is what the document's digits say, and the arguments read as they did. No condition. -/
import Derived.Test.YthbbeknbdgkpkaaRows
import Derived.Test.YthbbeknbdgkpkaaWidK
import Derived.Test.YthbbeknbdgkpkaaWidH
import Derived.Test.YthbbeknbdgkpkaaWidG
import Derived.Test.YthbbeknbdgkpkaaWidO
import Derived.Test.YthbbeknbdgkpkaaArrW
import Derived.ProofKit
import Derived.Deep.RegionHeld3
import Derived.Deep.CutRange
import Derived.Deep.DeepCutAuto
import Derived.OpenShut
import Derived.ShutString
import Derived.ChangeOld
import Derived.Test.YthbbeknbdgkpkaaOpen
namespace Go.Proofs.Ythbbeknbdgkpkaa.wideTells
open Go.ChangeShapes Go.WideShapes Go.ChangeAt Go.RowKit
open Go.ChangeMaps (open_string shut_string)
set_option linter.unusedVariables false
set_option linter.unusedSimpArgs false

theorem own : ownKnob Try.prog.godebug = none := by kernel_rfl
theorem laidOut : laidOutB Try.prog = true := by kernel_rfl

theorem byte_of (x t : Nat) (ht : t < 32) : wd x (t / 8) / 2 ^ (8 * (t % 8)) % 256 = x / 256 ^ t % 256 := by
  have h8 := Nat.mod_lt t (show 0 < 8 by decide)
  have hd := Nat.div_add_mod t 8
  generalize t / 8 = q at *
  generalize t % 8 = r at *
  unfold wd
  have e1 : 256 ^ t = 2 ^ (64 * q) * 2 ^ (8 * r) := by rw [show (256 : Nat) = 2 ^ 8 from rfl, ← Nat.pow_mul, ← Nat.pow_add]; congr 1; omega
  rw [e1, ← Nat.div_div_eq_div_mul]
  generalize x / 2 ^ (64 * q) = y
  have e2 : 2 ^ 64 = 2 ^ (8 * r) * 2 ^ (64 - 8 * r) := by rw [← Nat.pow_add]; congr 1; omega
  rw [e2, Nat.mod_mul_right_div_self]
  have e3 : 2 ^ (64 - 8 * r) = 256 * 2 ^ (56 - 8 * r) := by rw [show (256 : Nat) = 2 ^ 8 from rfl, ← Nat.pow_add]; congr 1; omega
  rw [e3, Nat.mod_mul_right_mod]
set_option maxRecDepth 100000 in
set_option maxHeartbeats 16000000 in
theorem walkN (x y : Nat) (bx : x < 2 ^ 256) (by2 : y < 2 ^ 256) (w : World) : Calls Try.prog 8 #[.agg (cellsW (wd x)).toArray, .agg (cellsW (wd y)).toArray] w (Ret w (.bool true)) := by
  have gU := guardU
  obtain ⟨z, hz⟩ : ∃ z, z = cmpN x y := ⟨_, rfl⟩
  obtain ⟨L, hL⟩ : ∃ L, L = bl x := ⟨_, rfl⟩
  obtain ⟨B1, hB1⟩ : ∃ B, B = decide (x < y) := ⟨_, rfl⟩
  obtain ⟨B2, hB2⟩ : ∃ B, B = decide (y < x) := ⟨_, rfl⟩
  obtain ⟨X, hX⟩ : ∃ X, X = cellsW (wd x) := ⟨_, rfl⟩
  have IX : Hid ((Try.prog.info? 24).map (·.size) = some X.length) := Lib.hid (by rw [hX]; exact sizeW _)
  have LX : Hid (zerosW.length = X.length) := Lib.hid (by rw [hX]; rfl)
  have OX : Hid (∀ v ∈ X, v.oneCell' = true) := Lib.hid (by rw [hX]; exact cellsW_one _)
  obtain ⟨Y, hY⟩ : ∃ X, X = cellsW (wd y) := ⟨_, rfl⟩
  have IY : Hid ((Try.prog.info? 24).map (·.size) = some Y.length) := Lib.hid (by rw [hY]; exact sizeW _)
  have LY : Hid (zerosW.length = Y.length) := Lib.hid (by rw [hY]; rfl)
  have OY : Hid (∀ v ∈ Y, v.oneCell' = true) := Lib.hid (by rw [hY]; exact cellsW_one _)
  obtain ⟨H, hH⟩ : ∃ H, H = (little x 32).map B8 := ⟨_, rfl⟩
  have hHl : H.length = 32 := by rw [hH, List.length_map, little_len]
  have IH : Hid ((Try.prog.info? 49).map (·.size) = some H.length) := Lib.hid (by rw [hHl]; exact i32)
  have LH : Hid (H.length = 32) := Lib.hid hHl
  have OH : Hid (∀ v ∈ H, v.oneCell' = true) := Lib.hid (by rw [hH]; exact b8_one _)
  have CBX : Hid (∀ W, Calls Try.prog 12 #[.agg X.toArray] W (MkB W x)) := Lib.hid fun W => bigV ⟨bx, hX⟩ W
  have CBY : Hid (∀ W, Calls Try.prog 12 #[.agg Y.toArray] W (MkB W y)) := Lib.hid fun W => bigV ⟨by2, hY⟩ W
  have CL1 : Hid (∀ W A1 n1 c1 A2 n2 c2, RdI W A1 n1 (digs x) → RdI W A2 n2 (digs y) → Calls Try.prog 18 #[.slice A1 n1 c1, .slice A2 n2 c2] W (Ret W (.bool B1))) := Lib.hid fun W A1 n1 c1 A2 n2 c2 h1 h2 => lessV (Few.wide bx) (Few.wide by2) W A1 n1 c1 A2 n2 c2 h1 h2 B1 hB1.symm
  have CL2 : Hid (∀ W A1 n1 c1 A2 n2 c2, RdI W A1 n1 (digs y) → RdI W A2 n2 (digs x) → Calls Try.prog 18 #[.slice A1 n1 c1, .slice A2 n2 c2] W (Ret W (.bool B2))) := Lib.hid fun W A1 n1 c1 A2 n2 c2 h1 h2 => lessV (Few.wide by2) (Few.wide bx) W A1 n1 c1 A2 n2 c2 h1 h2 B2 hB2.symm
  have CPW : Hid (∀ (k : Nat) (W : World), k ≤ 256 → Calls Try.prog 29 #[.int .i64 (k : Int)] W (MkB W (2 ^ k))) := Lib.hid fun k W hk => bpow_calls k W (by omega)
  have CL3 : Hid (∀ (k : Nat) (W : World) A1 n1 c1 A2 n2 c2 (B : Bool), k ≤ 256 → decide (x < 2 ^ k) = B → RdI W A1 n1 (digs x) → RdI W A2 n2 (digs (2 ^ k)) → Calls Try.prog 18 #[.slice A1 n1 c1, .slice A2 n2 c2] W (Ret W (.bool B))) := Lib.hid fun k W A1 n1 c1 A2 n2 c2 B hk hB h1 h2 => lessV (Few.wide bx) (Nat.lt_of_le_of_lt (Nat.pow_le_pow_right (by decide) hk) (by decide)) W A1 n1 c1 A2 n2 c2 h1 h2 B hB
  have CBY2 : Hid (∀ W, Calls Try.prog 32 #[.agg X.toArray] W (Ret W (.agg H.toArray))) := Lib.hid fun W => by rw [hX, hH]; exact bytes_calls x W
  have CC : Hid (∀ W, Calls Try.prog 33 #[.agg X.toArray, .agg Y.toArray] W (Ret W (.int .i64 z))) := Lib.hid fun W => by rw [hX, hY, hz]; exact cmp_calls x y W bx by2
  have CLE : Hid (∀ W, Calls Try.prog 34 #[.agg X.toArray] W (Ret W (.int .i64 (L : Int)))) := Lib.hid fun W => by rw [hX, hL]; exact wlen_calls x W bx
  have CLI : Hid (∀ W, Calls Try.prog 35 #[.agg H.toArray] W (Ret W (.agg X.toArray))) := Lib.hid fun W => by
    have h := wlittle_calls (little x 32) W (little_len _ _)
    rw [numL_little, show 256 ^ 32 = 2 ^ 256 from by decide, uA_mod] at h
    rw [hX, hH]
    exact h
  have heqX : ∀ W, (Op.equalIn 10000 24 (.agg X.toArray) (.agg X.toArray)).run Try.prog W = .ok true W := fun W => by rw [hX]; exact u_same x W
  have HZ : Hid (z = cmpN x y ∧ B1 = decide (x < y) ∧ B2 = decide (y < x)) := Lib.hid ⟨hz, hB1, hB2⟩
  have HL : Hid (L = bl x ∧ x < 2 ^ 256) := Lib.hid ⟨hL, bx⟩
  have HXC : Hid (∀ (W : World) (tq : Nat), tq < 4 → Blk W w.heap.size X 24 → W.cell? ⟨w.heap.size, tq, none⟩ = some (.int .u64 (wd x tq : Int))) := Lib.hid fun W tq htq h => by rw [hX] at h; rw [h.cell tq, cellsW_at _ tq htq]
  have HHC : Hid (∀ (W : World) (g t : Nat), t < 32 → Blk W g H 49 → W.cell? ⟨g, t, none⟩ = some (.int .u8 ((x / 256 ^ t % 256 : Nat) : Int))) := Lib.hid fun W g t ht h => by
    rw [hH] at h
    rw [h.cell t, List.getElem?_map, List.getElem?_eq_getElem (by rw [little_len]; exact ht), little_get]
    show some (B8 _) = _
    unfold B8
    rw [ofNat_toNat]
  rw [← hX, ← hY]
  obtain ⟨w0, hw0⟩ : ∃ w0, w0 = ((w.alloc (.cells X.toArray 24)).alloc (.cells Y.toArray 24)) := ⟨_, rfl⟩
  have hbX : Blk w0 (w.heap.size) X 24 := by rw [hw0]; exact Blk.alloc (Blk.new' w X.toArray 24 (w.heap.size) (by simp)) _
  have hbY : Blk w0 (w.heap.size + 1) Y 24 := by rw [hw0]; exact Blk.new' (w.alloc _) Y.toArray 24 (w.heap.size + 1) (by simp)
  have HB : Hid (Still w w0) := Lib.hid (by rw [hw0]; exact Still.alloc (Still.alloc (Still.refl w) _) _)
  have K0 : Hid (∀ W, Still w0 W → (W.rangeAt w.heap.size 0 X ∧ W.rangeAt (w.heap.size + 1) 0 Y ∧ Still w0 W)) := Lib.hid fun W h => ⟨(Blk.step hbX h).range, (Blk.step hbY h).range, h⟩
  clear hX hY hH hHl hz hL hB1 hB2 bx by2
  go_enter Try.func8, Try.ntmps8
  go_upto_region 1 with fail
  rw [← hw0]
  clear hw0
  refine wp_region_held_drew (S := fun W => W.rangeAt w.heap.size 0 X ∧ W.rangeAt (w.heap.size + 1) 0 Y ∧ Still w0 W) (by kernel_rfl) ?_ (fun hHeld => ?_)
  · exact K0.out _ (by ((repeat (first | with_reducible exact Still.refl _ | with_reducible assumption | with_reducible apply Still.alloc | with_reducible apply Still.drew | with_reducible refine Still.step ?_ (by assumption) | with_reducible refine Still.trans ?_ (by assumption)))))
  refine wpAnyH_take (i := 0) rfl (by kernel_rfl) (by kernel_rfl) (by kernel_rfl) (fun _ _ _ h => h) (yieldsIf_load_mid (by rfl) _ _ rfl _ _ rfl X _ (fun w hSw => by (try dsimp only at hSw); go_split_ands; assumption) Try.underlying24 rfl IX.out) (by assumption) ?_
  (try simp only [List.getElem_toArray, List.getElem_cons_succ, List.getElem_cons_zero, Act.put, List.setIfInBounds_toArray, List.set_cons_succ, List.set_cons_zero])
  refine wpAnyH_take (i := 2) rfl (by kernel_rfl) (by kernel_rfl) (by kernel_rfl) (fun _ _ _ h => h) (yieldsIf_load_mid (by rfl) _ _ rfl _ _ rfl Y _ (fun w hSw => by (try dsimp only at hSw); go_split_ands; assumption) Try.underlying24 rfl IY.out) (by assumption) ?_
  (try simp only [List.getElem_toArray, List.getElem_cons_succ, List.getElem_cons_zero, Act.put, List.setIfInBounds_toArray, List.set_cons_succ, List.set_cons_zero])
  refine wpAnyH_ready (rs := [1]) (by kernel_rfl) (by simp) ?_
  refine AllReadyH.cons rfl (fun K hK => ?_) AllReadyH.nil
  (try simp only [List.getElem_toArray, List.getElem_cons_succ, List.getElem_cons_zero])
  go_simp
  go_at_call 12; refine (CBX.out _).mono ?_; rintro e' v1 ⟨A1, n1, c1, rfl, h1, h1c, h1m, d1⟩
  (try (go_wp2_with fail))
  refine hK.out _ _ ?_ (fun hHeld => ?_)
  · exact K0.out _ (by ((repeat (first | with_reducible exact Still.refl _ | with_reducible assumption | with_reducible apply Still.alloc | with_reducible apply Still.drew | with_reducible refine Still.step ?_ (by assumption) | with_reducible refine Still.trans ?_ (by assumption)))))
  clear hK K
  (try simp only [Act.put, List.setIfInBounds_toArray, List.set_cons_succ, List.set_cons_zero])
  refine wpAnyH_ready (rs := [3]) (by kernel_rfl) (by simp) ?_
  refine AllReadyH.cons rfl (fun K hK => ?_) AllReadyH.nil
  (try simp only [List.getElem_toArray, List.getElem_cons_succ, List.getElem_cons_zero])
  go_simp
  go_at_call 12; refine (CBY.out _).mono ?_; rintro e' v2 ⟨A2, n2, c2, rfl, h2, h2c, h2m, d2⟩
  (try (go_wp2_with fail))
  refine hK.out _ _ ?_ (fun hHeld => ?_)
  · exact K0.out _ (by ((repeat (first | with_reducible exact Still.refl _ | with_reducible assumption | with_reducible apply Still.alloc | with_reducible apply Still.drew | with_reducible refine Still.step ?_ (by assumption) | with_reducible refine Still.trans ?_ (by assumption)))))
  clear hK K
  (try simp only [Act.put, List.setIfInBounds_toArray, List.set_cons_succ, List.set_cons_zero])
  refine wpAnyH_take (i := 4) (v := ?_) rfl (by kernel_rfl) (by kernel_rfl) (by kernel_rfl) (fun _ _ _ h => h) (Or.inl ⟨by rfl, ?_⟩) (by assumption) ?_
  rotate_left 1
  · intro w hSw; (try dsimp only at hSw); simp only [List.getElem_toArray, List.getElem_cons_succ, List.getElem_cons_zero]; go_simp; try (with_reducible rfl)
  (try simp only [List.getElem_toArray, List.getElem_cons_succ, List.getElem_cons_zero, Act.put, List.setIfInBounds_toArray, List.set_cons_succ, List.set_cons_zero])
  refine wpAnyH_take (i := 5) (v := ?_) rfl (by kernel_rfl) (by kernel_rfl) (by kernel_rfl) (fun _ _ _ h => h) (Or.inl ⟨by rfl, ?_⟩) (by assumption) ?_
  rotate_left 1
  · intro w hSw; (try dsimp only at hSw); simp only [List.getElem_toArray, List.getElem_cons_succ, List.getElem_cons_zero]; go_simp; try (with_reducible rfl)
  (try simp only [List.getElem_toArray, List.getElem_cons_succ, List.getElem_cons_zero, Act.put, List.setIfInBounds_toArray, List.set_cons_succ, List.set_cons_zero])
  refine wpAnyH_done (by kernel_rfl) ?_ _
  skip
  clear K0
  go_upto_if 17 with (first
    | (go_at_call 18; refine (CL1.out _ _ _ _ _ _ _ (h1.still (by ((repeat (first | with_reducible exact Still.refl _ | with_reducible assumption | with_reducible apply Still.alloc | with_reducible apply Still.drew | with_reducible refine Still.step ?_ (by assumption) | with_reducible refine Still.trans ?_ (by assumption)))))) h2).mono ?_; rintro e' v3 ⟨rfl, d3⟩))
  obtain ⟨z1, hz1⟩ : ∃ z : Int, z = if B1 then -1 else 0 := ⟨_, rfl⟩
  have HZ1 := Lib.hid hz1
  clear hz1
  go_cut [7] (fun v wx => v = .int .i64 z1 ∧ v3 = wx)
  case first =>
    cases B1
    all_goals (go_wp2_with fail; go_meet; exact ⟨congrArg _ (by rw [HZ1.out]; rfl), rfl⟩)
  case rest =>
  obtain ⟨rfl, rfl⟩ := hcut
  go_upto_if 20 with (first
    | (go_at_call 18; refine (CL2.out _ _ _ _ _ _ _ (h2.still (by ((repeat (first | with_reducible exact Still.refl _ | with_reducible assumption | with_reducible apply Still.alloc | with_reducible apply Still.drew | with_reducible refine Still.step ?_ (by assumption) | with_reducible refine Still.trans ?_ (by assumption)))))) (h1.still (by ((repeat (first | with_reducible exact Still.refl _ | with_reducible assumption | with_reducible apply Still.alloc | with_reducible apply Still.drew | with_reducible refine Still.step ?_ (by assumption) | with_reducible refine Still.trans ?_ (by assumption))))))).mono ?_; rintro e' v4 ⟨rfl, d4⟩))
  go_cut [7] (fun v wx => v = .int .i64 z ∧ v4 = wx)
  case first =>
    obtain ⟨hz, hB1, hB2⟩ := HZ.out
    have hzz : z = if B2 then 1 else z1 := by
      rw [HZ1.out, hz, hB1, hB2]
      unfold cmpN
      by_cases e1 : x = y
      · simp [e1]
      · by_cases e2 : x < y
        · rw [if_neg e1, if_pos e2, decide_eq_true e2, decide_eq_false (by omega)]; rfl
        · rw [if_neg e1, if_neg e2, decide_eq_true (show y < x by omega)]; rfl
    have HZZ := Lib.hid hzz
    clear hz hB1 hB2 hzz HZ
    cases B2
    all_goals (go_wp2_with fail; go_meet; exact ⟨congrArg _ (by rw [HZZ.out]; rfl), rfl⟩)
  case rest =>
  obtain ⟨rfl, rfl⟩ := hcut
  have k1 : Blk v4 w.heap.size X 24 := by ((repeat (first | with_reducible assumption | with_reducible apply Blk.alloc | with_reducible apply Blk.drew | with_reducible refine Blk.step ?_ (by assumption) | with_reducible refine Blk.stepS ?_ (by assumption))))
  have k2 : Blk v4 (w.heap.size + 1) Y 24 := by ((repeat (first | with_reducible assumption | with_reducible apply Blk.alloc | with_reducible apply Blk.drew | with_reducible refine Blk.step ?_ (by assumption) | with_reducible refine Blk.stepS ?_ (by assumption))))
  have r1 : RdI v4 A1 n1 (digs x) := h1.still (by ((repeat (first | with_reducible exact Still.refl _ | with_reducible assumption | with_reducible apply Still.alloc | with_reducible apply Still.drew | with_reducible refine Still.step ?_ (by assumption) | with_reducible refine Still.trans ?_ (by assumption)))))
  have HB2 : Hid (Still w v4) := Lib.hid (HB.out.trans (show Still w0 v4 by ((repeat (first | with_reducible exact Still.refl _ | with_reducible assumption | with_reducible apply Still.alloc | with_reducible apply Still.drew | with_reducible refine Still.step ?_ (by assumption) | with_reducible refine Still.trans ?_ (by assumption))))))
  clear hbX hbY h1 h2 d1 d2 d3 d4 HB CL1 CL2 CBX CBY HZ
  go_upto_block 0 with fail
  go_cut [8] (fun v wx => v = .int .i64 (L : Int) ∧ Still v4 wx)
  case first =>
    go_wp2_with fail
    go_loopw [8] (fun v wr => ∃ t : Nat, t ≤ 256 ∧ v = .int .i64 (t : Int) ∧ Still v4 wr ∧ Hid (∀ j, j < t → 2 ^ j ≤ x)) (fun v _ => 256 - (intOf v).toNat)
    case atStart => exact ⟨0, by omega, rfl, Still.refl _, fun j hj => absurd hj (by omega)⟩
    case round =>
      obtain ⟨t, ht, rfl, hst, HT⟩ := hrel
      by_cases hlt : t < 256
      · have bt : (t : Int) < 256 := by omega
        obtain ⟨B, hB⟩ : ∃ B, B = decide (x < 2 ^ t) := ⟨_, rfl⟩
        obtain ⟨Pt, hPt⟩ : ∃ Pt, Pt = 2 ^ t := ⟨_, rfl⟩
        have CP : Hid (∀ W, Calls Try.prog 29 #[.int .i64 (t : Int)] W (MkB W Pt)) := Lib.hid fun W => by rw [hPt]; exact CPW.out t W ht
        have C3 : Hid (∀ W A2 n2 c2, RdI W A1 n1 (digs x) → RdI W A2 n2 (digs Pt) → Calls Try.prog 18 #[.slice A1 n1 c1, .slice A2 n2 c2] W (Ret W (.bool B))) := Lib.hid fun W A2 n2 c2 h1 h2 => by rw [hPt] at h2; exact CL3.out t W A1 n1 c1 A2 n2 c2 B ht hB.symm h1 h2
        by_cases hx2 : x < 2 ^ t
        · have FIN : Hid (L = t) := Lib.hid (by rw [HL.out.1]; exact bl_eq x t hx2 (fun h0 => HT.out (t - 1) (by omega)))
          rw [decide_eq_true hx2] at hB
          subst hB
          clear hPt hx2
          go_wp2_with (first
            | (go_at_call 29; refine (CP.out _).mono ?_; rintro e' v5 ⟨A5, n5, c5, rfl, h5, h5c, h5m, d5⟩)
            | (go_at_call 18; refine (C3.out _ _ _ _ (r1.still (by ((repeat (first | with_reducible exact Still.refl _ | with_reducible assumption | with_reducible apply Still.alloc | with_reducible apply Still.drew | with_reducible refine Still.step ?_ (by assumption) | with_reducible refine Still.trans ?_ (by assumption)))))) h5).mono ?_; rintro e' v6 ⟨rfl, d6⟩))
          go_meet
          exact ⟨congrArg _ (by rw [FIN.out]), by ((repeat (first | with_reducible exact Still.refl _ | with_reducible assumption | with_reducible apply Still.alloc | with_reducible apply Still.drew | with_reducible refine Still.step ?_ (by assumption) | with_reducible refine Still.trans ?_ (by assumption))))⟩
        · have FIN : Hid (∀ j, j < t + 1 → 2 ^ j ≤ x) := Lib.hid fun j hj => by
            rcases Nat.lt_or_ge j t with h | h
            · exact HT.out j h
            · have : j = t := by omega
              rw [this]; omega
          rw [decide_eq_false hx2] at hB
          subst hB
          clear hPt hx2
          go_wp2_with (first
            | (go_at_call 29; refine (CP.out _).mono ?_; rintro e' v5 ⟨A5, n5, c5, rfl, h5, h5c, h5m, d5⟩)
            | (go_at_call 18; refine (C3.out _ _ _ _ (r1.still (by ((repeat (first | with_reducible exact Still.refl _ | with_reducible assumption | with_reducible apply Still.alloc | with_reducible apply Still.drew | with_reducible refine Still.step ?_ (by assumption) | with_reducible refine Still.trans ?_ (by assumption)))))) h5).mono ?_; rintro e' v6 ⟨rfl, d6⟩))
          exact ⟨⟨t + 1, by omega, by go_num, by ((repeat (first | with_reducible exact Still.refl _ | with_reducible assumption | with_reducible apply Still.alloc | with_reducible apply Still.drew | with_reducible refine Still.step ?_ (by assumption) | with_reducible refine Still.trans ?_ (by assumption)))), FIN⟩, by simp [intOf]; omega⟩
      · have bt : ¬ (t : Int) < 256 := by omega
        have e : t = 256 := by omega
        subst e
        have FIN : Hid (L = 256) := Lib.hid (by rw [HL.out.1]; exact bl_eq x 256 HL.out.2 (fun h0 => HT.out 255 (by omega)))
        go_wp2_with fail
        go_meet
        exact ⟨congrArg _ (by rw [FIN.out]; rfl), hst⟩
  case rest =>
  obtain ⟨rfl, st1⟩ := hcut
  have k3 : Blk wc w.heap.size X 24 := Blk.stepS k1 st1
  have k4 : Blk wc (w.heap.size + 1) Y 24 := Blk.stepS k2 st1
  have HB3 : Hid (Still w wc) := Lib.hid (HB2.out.trans st1)
  clear k1 k2 r1 st1 HB2 CPW CL3 HL
  go_upto_block 2 with (first
    | ((with_reducible refine at_load 24 (.tmp 2) ?_); refine wpList_load_mid rfl 24 (.tmp 2) rfl (w.heap.size) 0 rfl X _ (Blk.range (t := 24) (by ((repeat (first | with_reducible assumption | with_reducible apply Blk.alloc | with_reducible apply Blk.drew | with_reducible refine Blk.step ?_ (by assumption) | with_reducible refine Blk.stepS ?_ (by assumption)))))) Try.underlying24 rfl IX.out ?_)
    | (go_at_call 32; refine (CBY2.out _).mono ?_; rintro e' v5 ⟨rfl, d5⟩)
    | ((with_reducible refine at_store 49 (.tmp 9) (.tmp 33) ?_); refine wpList_store_blk rfl 49 (.tmp 9) (.tmp 33) rfl v5.heap.size _ H _ rfl rfl (Blk.new v5 _ _) (by rw [LH.out]; rfl) IH.out OH.out ?_; intro w6 hbw6 how6; have dw6 := Only.still how6; clear how6))
  have k5 : Blk w6 w.heap.size X 24 := by ((repeat (first | with_reducible assumption | with_reducible apply Blk.alloc | with_reducible apply Blk.drew | with_reducible refine Blk.step ?_ (by assumption) | with_reducible refine Blk.stepS ?_ (by assumption))))
  have k6 : Blk w6 (w.heap.size + 1) Y 24 := by ((repeat (first | with_reducible assumption | with_reducible apply Blk.alloc | with_reducible apply Blk.drew | with_reducible refine Blk.step ?_ (by assumption) | with_reducible refine Blk.stepS ?_ (by assumption))))
  have HB4 : Hid (Still w w6) := Lib.hid (HB3.out.trans (show Still wc w6 by ((repeat (first | with_reducible exact Still.refl _ | with_reducible assumption | with_reducible apply Still.alloc | with_reducible apply Still.drew | with_reducible refine Still.step ?_ (by assumption) | with_reducible refine Still.trans ?_ (by assumption))))))
  clear k3 k4 d5 dw6 HB3
  go_cut [34] (fun _ wx => Still w6 wx)
  case first =>
    go_wp2_with fail
    go_loopw [34] (fun v wr => ∃ t : Nat, t ≤ 32 ∧ v = .int .i64 (t : Int) ∧ Still w6 wr) (fun v _ => 32 - (intOf v).toNat)
    case atStart => exact ⟨0, by omega, rfl, Still.refl _⟩
    case round =>
      obtain ⟨t, ht, rfl, hst⟩ := hrel
      by_cases hlt : t < 32
      · have bt : (t : Int) < 32 := by omega
        obtain ⟨tq, htq⟩ : ∃ q, q = t / 8 := ⟨_, rfl⟩
        obtain ⟨tr, htr⟩ : ∃ r, r = t % 8 := ⟨_, rfl⟩
        obtain ⟨sh, hsh⟩ : ∃ s, s = 8 * tr := ⟨_, rfl⟩
        obtain ⟨a, ha⟩ : ∃ a, a = wd x tq := ⟨_, rfl⟩
        obtain ⟨v, hv⟩ : ∃ v, v = a / 2 ^ sh := ⟨_, rfl⟩
        obtain ⟨b, hb⟩ : ∃ b, b = x / 256 ^ t % 256 := ⟨_, rfl⟩
        have hvb : v % 256 = b := by rw [hv, ha, hsh, htq, htr, hb]; exact byte_of x t hlt
        have btq : tq < 4 := by omega
        have bq4 : (tq : Int) < 4 := by omega
        have bq0 : (0 : Int) ≤ (tq : Int) := by omega
        have bt0 : (0 : Int) ≤ (t : Int) := by omega
        have m1 : (t : Int).tdiv 8 = (tq : Int) := by rw [Int.tdiv_eq_ediv_of_nonneg (by omega)]; omega
        have m2 : (t : Int).tmod 8 = (tr : Int) := by rw [Int.tmod_eq_emod_of_nonneg (by omega)]; omega
        have m1b : (t : Int) / 8 = (tq : Int) := by omega
        have m2b : (t : Int) % 8 = (tr : Int) := by omega
        have m3 : IntKind.i64.wrap (8 * (tr : Int)) = (sh : Int) := by rw [IntKind.wrap_i64]; omega
        have m3b : 8 * (tr : Int) = (sh : Int) := by omega
        have m3c : IntKind.i64.wrap (sh : Int) = (sh : Int) := by rw [IntKind.wrap_i64]; omega
        have m3d : IntKind.i64.wrap (tq : Int) = (tq : Int) := by rw [IntKind.wrap_i64]; omega
        have m3e : IntKind.i64.wrap (t : Int) = (t : Int) := by rw [IntKind.wrap_i64]; omega
        have m4 : (a : Int) / 2 ^ sh = (v : Int) := by rw [shr_nat, hv]
        have m5 : IntKind.u8.wrap (v : Int) = (b : Int) := by rw [IntKind.wrap_u8]; omega
        have hmin : min sh 64 = sh := Nat.min_eq_left (by omega)
        have K0 : Hid (∀ W, Still w6 W → (W.cell? ⟨v5.heap.size, t, none⟩ = some (.int .u8 (b : Int)) ∧ W.cell? ⟨w.heap.size, tq, none⟩ = some (.int .u64 (a : Int)) ∧ Still w6 W)) := Lib.hid fun W h => ⟨by rw [hb]; exact HHC.out W _ t hlt (Blk.stepS hbw6 h), by rw [ha]; exact HXC.out W tq btq (Blk.stepS k5 h), h⟩
        clear htq htr hsh ha hv hb hvb btq m3b
        go_upto_region 14 with fail
        refine wp_region_held_drew (S := fun W => W.cell? ⟨v5.heap.size, t, none⟩ = some (.int .u8 (b : Int)) ∧ W.cell? ⟨w.heap.size, tq, none⟩ = some (.int .u64 (a : Int)) ∧ Still w6 W) (by kernel_rfl) ?_ (fun hHeld => ?_)
        · exact K0.out _ (by ((repeat (first | with_reducible exact Still.refl _ | with_reducible assumption | with_reducible apply Still.alloc | with_reducible apply Still.drew | with_reducible refine Still.step ?_ (by assumption) | with_reducible refine Still.trans ?_ (by assumption)))))
        refine wpAnyH_take (i := 0) (v := ?_) rfl (by kernel_rfl) (by kernel_rfl) (by kernel_rfl) (fun _ _ _ h => h) (Or.inl ⟨by rfl, ?_⟩) (by assumption) ?_
        rotate_left 1
        · intro w hSw; (try dsimp only at hSw); simp only [List.getElem_toArray, List.getElem_cons_succ, List.getElem_cons_zero]; go_simp; try (with_reducible rfl)
        (try simp only [List.getElem_toArray, List.getElem_cons_succ, List.getElem_cons_zero, Act.put, List.setIfInBounds_toArray, List.set_cons_succ, List.set_cons_zero])
        refine wpAnyH_take (i := 1) (v := ?_) rfl (by kernel_rfl) (by kernel_rfl) (by kernel_rfl) (fun _ _ _ h => h) (Or.inl ⟨by rfl, ?_⟩) (by assumption) ?_
        rotate_left 1
        · intro w hSw; (try dsimp only at hSw); simp only [List.getElem_toArray, List.getElem_cons_succ, List.getElem_cons_zero]; go_simp; try (with_reducible rfl)
        (try simp only [List.getElem_toArray, List.getElem_cons_succ, List.getElem_cons_zero, Act.put, List.setIfInBounds_toArray, List.set_cons_succ, List.set_cons_zero])
        refine wpAnyH_take (i := 2) (v := ?_) rfl (by kernel_rfl) (by kernel_rfl) (by kernel_rfl) (fun _ _ _ h => h) (Or.inl ⟨by rfl, ?_⟩) (by assumption) ?_
        rotate_left 1
        · intro w hSw; (try dsimp only at hSw); simp only [List.getElem_toArray, List.getElem_cons_succ, List.getElem_cons_zero]; go_simp; try (with_reducible rfl)
        (try simp only [List.getElem_toArray, List.getElem_cons_succ, List.getElem_cons_zero, Act.put, List.setIfInBounds_toArray, List.set_cons_succ, List.set_cons_zero])
        refine wpAnyH_take (i := 3) (v := ?_) rfl (by kernel_rfl) (by kernel_rfl) (by kernel_rfl) (fun _ _ _ h => h) (Or.inl ⟨by rfl, ?_⟩) (by assumption) ?_
        rotate_left 1
        · intro w hSw; (try dsimp only at hSw); simp only [List.getElem_toArray, List.getElem_cons_succ, List.getElem_cons_zero]; go_simp; try (with_reducible rfl)
        (try simp only [List.getElem_toArray, List.getElem_cons_succ, List.getElem_cons_zero, Act.put, List.setIfInBounds_toArray, List.set_cons_succ, List.set_cons_zero])
        refine wpAnyH_take (i := 4) (v := ?_) rfl (by kernel_rfl) (by kernel_rfl) (by kernel_rfl) (fun _ _ _ h => h) (Or.inl ⟨by rfl, ?_⟩) (by assumption) ?_
        rotate_left 1
        · intro w hSw; (try dsimp only at hSw); simp only [List.getElem_toArray, List.getElem_cons_succ, List.getElem_cons_zero]; go_simp; try (with_reducible rfl)
        (try simp only [List.getElem_toArray, List.getElem_cons_succ, List.getElem_cons_zero, Act.put, List.setIfInBounds_toArray, List.set_cons_succ, List.set_cons_zero])
        refine wpAnyH_take (i := 5) (v := ?_) rfl (by kernel_rfl) (by kernel_rfl) (by kernel_rfl) (fun _ _ _ h => h) (Or.inl ⟨by rfl, ?_⟩) (by assumption) ?_
        rotate_left 1
        · intro w hSw; (try dsimp only at hSw); simp only [List.getElem_toArray, List.getElem_cons_succ, List.getElem_cons_zero]; go_simp; try (with_reducible rfl)
        (try simp only [List.getElem_toArray, List.getElem_cons_succ, List.getElem_cons_zero, Act.put, List.setIfInBounds_toArray, List.set_cons_succ, List.set_cons_zero])
        refine wpAnyH_take (i := 6) (v := ?_) rfl (by kernel_rfl) (by kernel_rfl) (by kernel_rfl) (fun _ _ _ h => h) (Or.inl ⟨by rfl, ?_⟩) (by assumption) ?_
        rotate_left 1
        · intro w hSw; (try dsimp only at hSw); simp only [List.getElem_toArray, List.getElem_cons_succ, List.getElem_cons_zero]; go_simp; try (with_reducible rfl)
        (try simp only [List.getElem_toArray, List.getElem_cons_succ, List.getElem_cons_zero, Act.put, List.setIfInBounds_toArray, List.set_cons_succ, List.set_cons_zero])
        refine wpAnyH_take (i := 7) (v := ?_) rfl (by kernel_rfl) (by kernel_rfl) (by kernel_rfl) (fun _ _ _ h => h) (Or.inl ⟨by rfl, ?_⟩) (by assumption) ?_
        rotate_left 1
        · intro w hSw; (try dsimp only at hSw); simp only [List.getElem_toArray, List.getElem_cons_succ, List.getElem_cons_zero]; go_simp; try (with_reducible rfl)
        (try simp only [List.getElem_toArray, List.getElem_cons_succ, List.getElem_cons_zero, Act.put, List.setIfInBounds_toArray, List.set_cons_succ, List.set_cons_zero])
        refine wpAnyH_take (i := 8) (v := ?_) rfl (by kernel_rfl) (by kernel_rfl) (by kernel_rfl) (fun _ _ _ h => h) (Or.inl ⟨by rfl, ?_⟩) (by assumption) ?_
        rotate_left 1
        · intro w hSw; (try dsimp only at hSw); simp only [List.getElem_toArray, List.getElem_cons_succ, List.getElem_cons_zero]; go_simp; try (with_reducible rfl)
        (try simp only [List.getElem_toArray, List.getElem_cons_succ, List.getElem_cons_zero, Act.put, List.setIfInBounds_toArray, List.set_cons_succ, List.set_cons_zero])
        refine wpAnyH_take (i := 9) (v := ?_) rfl (by kernel_rfl) (by kernel_rfl) (by kernel_rfl) (fun _ _ _ h => h) (Or.inl ⟨by rfl, ?_⟩) (by assumption) ?_
        rotate_left 1
        · intro w hSw; (try dsimp only at hSw); simp only [List.getElem_toArray, List.getElem_cons_succ, List.getElem_cons_zero]; go_simp; try (with_reducible rfl)
        (try simp only [List.getElem_toArray, List.getElem_cons_succ, List.getElem_cons_zero, Act.put, List.setIfInBounds_toArray, List.set_cons_succ, List.set_cons_zero])
        refine wpAnyH_take (i := 10) (v := ?_) rfl (by kernel_rfl) (by kernel_rfl) (by kernel_rfl) (fun _ _ _ h => h) (Or.inl ⟨by rfl, ?_⟩) (by assumption) ?_
        rotate_left 1
        · intro w hSw; (try dsimp only at hSw); simp only [List.getElem_toArray, List.getElem_cons_succ, List.getElem_cons_zero]; go_simp; try (with_reducible rfl)
        (try simp only [List.getElem_toArray, List.getElem_cons_succ, List.getElem_cons_zero, Act.put, List.setIfInBounds_toArray, List.set_cons_succ, List.set_cons_zero])
        refine wpAnyH_take (i := 11) (v := ?_) rfl (by kernel_rfl) (by kernel_rfl) (by kernel_rfl) (fun _ _ _ h => h) (Or.inl ⟨by rfl, ?_⟩) (by assumption) ?_
        rotate_left 1
        · intro w hSw; (try dsimp only at hSw); simp only [List.getElem_toArray, List.getElem_cons_succ, List.getElem_cons_zero]; go_simp; try (with_reducible rfl)
        (try simp only [List.getElem_toArray, List.getElem_cons_succ, List.getElem_cons_zero, Act.put, List.setIfInBounds_toArray, List.set_cons_succ, List.set_cons_zero])
        refine wpAnyH_take (i := 12) (v := ?_) rfl (by kernel_rfl) (by kernel_rfl) (by kernel_rfl) (fun _ _ _ h => h) (Or.inl ⟨by rfl, ?_⟩) (by assumption) ?_
        rotate_left 1
        · intro w hSw; (try dsimp only at hSw); simp only [List.getElem_toArray, List.getElem_cons_succ, List.getElem_cons_zero]; go_simp; try (with_reducible rfl)
        (try simp only [List.getElem_toArray, List.getElem_cons_succ, List.getElem_cons_zero, Act.put, List.setIfInBounds_toArray, List.set_cons_succ, List.set_cons_zero])
        refine wpAnyH_done (by kernel_rfl) ?_ _
        skip
        go_wp2_with fail
        exact ⟨⟨t + 1, by omega, by go_num, by ((repeat (first | with_reducible exact Still.refl _ | with_reducible assumption | with_reducible apply Still.alloc | with_reducible apply Still.drew | with_reducible refine Still.step ?_ (by assumption) | with_reducible refine Still.trans ?_ (by assumption))))⟩, by simp [intOf]; omega⟩
      · have bt : ¬ (t : Int) < 32 := by omega
        go_wp2_with fail
        go_meet
        exact hst
  case rest =>
  have K0 : Hid (∀ W, Still w6 W → (W.rangeAt w.heap.size 0 X ∧ W.rangeAt (w.heap.size + 1) 0 Y ∧ W.rangeAt v5.heap.size 0 H ∧ Still w6 W)) := Lib.hid fun W h => ⟨(Blk.stepS k5 h).range, (Blk.stepS k6 h).range, (Blk.stepS hbw6 h).range, h⟩
  clear k5 k6 hbw6
  go_upto_region 17 with fail
  refine wp_region_held_drew (S := fun W => W.rangeAt w.heap.size 0 X ∧ W.rangeAt (w.heap.size + 1) 0 Y ∧ W.rangeAt v5.heap.size 0 H ∧ Still w6 W) (by kernel_rfl) ?_ (fun hHeld => ?_)
  · exact K0.out _ (by ((repeat (first | with_reducible exact Still.refl _ | with_reducible assumption | with_reducible apply Still.alloc | with_reducible apply Still.drew | with_reducible refine Still.step ?_ (by assumption) | with_reducible refine Still.trans ?_ (by assumption)))))
  refine wpAnyH_take (i := 0) rfl (by kernel_rfl) (by kernel_rfl) (by kernel_rfl) (fun _ _ _ h => h) (yieldsIf_load_mid (by rfl) _ _ rfl _ _ rfl X _ (fun w hSw => by (try dsimp only at hSw); go_split_ands; assumption) Try.underlying24 rfl IX.out) (by assumption) ?_
  (try simp only [List.getElem_toArray, List.getElem_cons_succ, List.getElem_cons_zero, Act.put, List.setIfInBounds_toArray, List.set_cons_succ, List.set_cons_zero])
  refine wpAnyH_take (i := 1) rfl (by kernel_rfl) (by kernel_rfl) (by kernel_rfl) (fun _ _ _ h => h) (yieldsIf_load_mid (by rfl) _ _ rfl _ _ rfl Y _ (fun w hSw => by (try dsimp only at hSw); go_split_ands; assumption) Try.underlying24 rfl IY.out) (by assumption) ?_
  (try simp only [List.getElem_toArray, List.getElem_cons_succ, List.getElem_cons_zero, Act.put, List.setIfInBounds_toArray, List.set_cons_succ, List.set_cons_zero])
  refine wpAnyH_take (i := 3) (v := ?_) rfl (by kernel_rfl) (by kernel_rfl) (by kernel_rfl) (fun _ _ _ h => h) (Or.inl ⟨by rfl, ?_⟩) (by assumption) ?_
  rotate_left 1
  · intro w hSw; (try dsimp only at hSw); simp only [List.getElem_toArray, List.getElem_cons_succ, List.getElem_cons_zero]; go_simp; try (with_reducible rfl)
  (try simp only [List.getElem_toArray, List.getElem_cons_succ, List.getElem_cons_zero, Act.put, List.setIfInBounds_toArray, List.set_cons_succ, List.set_cons_zero])
  refine wpAnyH_ready (rs := [2]) (by kernel_rfl) (by simp) ?_
  refine AllReadyH.cons rfl (fun K hK => ?_) AllReadyH.nil
  (try simp only [List.getElem_toArray, List.getElem_cons_succ, List.getElem_cons_zero])
  go_simp
  go_at_call 33; refine (CC.out _).mono ?_; rintro e' u2 ⟨rfl, e2⟩
  (try (go_wp2_with fail))
  refine hK.out _ _ ?_ (fun hHeld => ?_)
  · exact K0.out _ (by ((repeat (first | with_reducible exact Still.refl _ | with_reducible assumption | with_reducible apply Still.alloc | with_reducible apply Still.drew | with_reducible refine Still.step ?_ (by assumption) | with_reducible refine Still.trans ?_ (by assumption)))))
  clear hK K
  (try simp only [Act.put, List.setIfInBounds_toArray, List.set_cons_succ, List.set_cons_zero])
  refine wpAnyH_take (i := 4) (v := ?_) rfl (by kernel_rfl) (by kernel_rfl) (by kernel_rfl) (fun _ _ _ h => h) (Or.inl ⟨by rfl, ?_⟩) (by assumption) ?_
  rotate_left 1
  · intro w hSw; (try dsimp only at hSw); simp only [List.getElem_toArray, List.getElem_cons_succ, List.getElem_cons_zero]; go_simp; try (with_reducible rfl)
  (try simp only [List.getElem_toArray, List.getElem_cons_succ, List.getElem_cons_zero, Act.put, List.setIfInBounds_toArray, List.set_cons_succ, List.set_cons_zero])
  refine wpAnyH_take (i := 5) (v := ?_) rfl (by kernel_rfl) (by kernel_rfl) (by kernel_rfl) (fun _ _ _ h => h) (Or.inl ⟨by rfl, ?_⟩) (by assumption) ?_
  rotate_left 1
  · intro w hSw; (try dsimp only at hSw); simp only [List.getElem_toArray, List.getElem_cons_succ, List.getElem_cons_zero]; go_simp; try (with_reducible rfl)
  (try simp only [List.getElem_toArray, List.getElem_cons_succ, List.getElem_cons_zero, Act.put, List.setIfInBounds_toArray, List.set_cons_succ, List.set_cons_zero])
  refine wpAnyH_take (i := 6) rfl (by kernel_rfl) (by kernel_rfl) (by kernel_rfl) (fun _ _ _ h => h) (yieldsIf_load_mid (by rfl) _ _ rfl _ _ rfl X _ (fun w hSw => by (try dsimp only at hSw); go_split_ands; assumption) Try.underlying24 rfl IX.out) (by assumption) ?_
  (try simp only [List.getElem_toArray, List.getElem_cons_succ, List.getElem_cons_zero, Act.put, List.setIfInBounds_toArray, List.set_cons_succ, List.set_cons_zero])
  refine wpAnyH_take (i := 8) (v := ?_) rfl (by kernel_rfl) (by kernel_rfl) (by kernel_rfl) (fun _ _ _ h => h) (Or.inl ⟨by rfl, ?_⟩) (by assumption) ?_
  rotate_left 1
  · intro w hSw; (try dsimp only at hSw); simp only [List.getElem_toArray, List.getElem_cons_succ, List.getElem_cons_zero]; go_simp; try (with_reducible rfl)
  (try simp only [List.getElem_toArray, List.getElem_cons_succ, List.getElem_cons_zero, Act.put, List.setIfInBounds_toArray, List.set_cons_succ, List.set_cons_zero])
  refine wpAnyH_ready (rs := [7]) (by kernel_rfl) (by simp) ?_
  refine AllReadyH.cons rfl (fun K hK => ?_) AllReadyH.nil
  (try simp only [List.getElem_toArray, List.getElem_cons_succ, List.getElem_cons_zero])
  go_simp
  go_at_call 34; refine (CLE.out _).mono ?_; rintro e' u7 ⟨rfl, e7⟩
  (try (go_wp2_with fail))
  refine hK.out _ _ ?_ (fun hHeld => ?_)
  · exact K0.out _ (by ((repeat (first | with_reducible exact Still.refl _ | with_reducible assumption | with_reducible apply Still.alloc | with_reducible apply Still.drew | with_reducible refine Still.step ?_ (by assumption) | with_reducible refine Still.trans ?_ (by assumption)))))
  clear hK K
  (try simp only [Act.put, List.setIfInBounds_toArray, List.set_cons_succ, List.set_cons_zero])
  refine wpAnyH_take (i := 9) (v := ?_) rfl (by kernel_rfl) (by kernel_rfl) (by kernel_rfl) (fun _ _ _ h => h) (Or.inl ⟨by rfl, ?_⟩) (by assumption) ?_
  rotate_left 1
  · intro w hSw; (try dsimp only at hSw); simp only [List.getElem_toArray, List.getElem_cons_succ, List.getElem_cons_zero]; go_simp; try (with_reducible rfl)
  (try simp only [List.getElem_toArray, List.getElem_cons_succ, List.getElem_cons_zero, Act.put, List.setIfInBounds_toArray, List.set_cons_succ, List.set_cons_zero])
  refine wpAnyH_take (i := 10) (v := ?_) rfl (by kernel_rfl) (by kernel_rfl) (by kernel_rfl) (fun _ _ _ h => h) (Or.inl ⟨by rfl, ?_⟩) (by assumption) ?_
  rotate_left 1
  · intro w hSw; (try dsimp only at hSw); simp only [List.getElem_toArray, List.getElem_cons_succ, List.getElem_cons_zero]; go_simp; try (with_reducible rfl)
  (try simp only [List.getElem_toArray, List.getElem_cons_succ, List.getElem_cons_zero, Act.put, List.setIfInBounds_toArray, List.set_cons_succ, List.set_cons_zero])
  refine wpAnyH_take (i := 11) (v := ?_) rfl (by kernel_rfl) (by kernel_rfl) (by kernel_rfl) (fun _ _ _ h => h) (Or.inl ⟨by rfl, ?_⟩) (by assumption) ?_
  rotate_left 1
  · intro w hSw; (try dsimp only at hSw); simp only [List.getElem_toArray, List.getElem_cons_succ, List.getElem_cons_zero]; go_simp; try (with_reducible rfl)
  (try simp only [List.getElem_toArray, List.getElem_cons_succ, List.getElem_cons_zero, Act.put, List.setIfInBounds_toArray, List.set_cons_succ, List.set_cons_zero])
  refine wpAnyH_take (i := 12) rfl (by kernel_rfl) (by kernel_rfl) (by kernel_rfl) (fun _ _ _ h => h) (yieldsIf_load_mid (by rfl) _ _ rfl _ _ rfl H _ (fun w hSw => by (try dsimp only at hSw); go_split_ands; assumption) Try.underlying49 rfl IH.out) (by assumption) ?_
  (try simp only [List.getElem_toArray, List.getElem_cons_succ, List.getElem_cons_zero, Act.put, List.setIfInBounds_toArray, List.set_cons_succ, List.set_cons_zero])
  refine wpAnyH_take (i := 14) rfl (by kernel_rfl) (by kernel_rfl) (by kernel_rfl) (fun _ _ _ h => h) (yieldsIf_load_mid (by rfl) _ _ rfl _ _ rfl X _ (fun w hSw => by (try dsimp only at hSw); go_split_ands; assumption) Try.underlying24 rfl IX.out) (by assumption) ?_
  (try simp only [List.getElem_toArray, List.getElem_cons_succ, List.getElem_cons_zero, Act.put, List.setIfInBounds_toArray, List.set_cons_succ, List.set_cons_zero])
  refine wpAnyH_ready (rs := [13]) (by kernel_rfl) (by simp) ?_
  refine AllReadyH.cons rfl (fun K hK => ?_) AllReadyH.nil
  (try simp only [List.getElem_toArray, List.getElem_cons_succ, List.getElem_cons_zero])
  go_simp
  go_at_call 35; refine (CLI.out _).mono ?_; rintro e' u13 ⟨rfl, e13⟩
  (try (go_wp2_with fail))
  refine hK.out _ _ ?_ (fun hHeld => ?_)
  · exact K0.out _ (by ((repeat (first | with_reducible exact Still.refl _ | with_reducible assumption | with_reducible apply Still.alloc | with_reducible apply Still.drew | with_reducible refine Still.step ?_ (by assumption) | with_reducible refine Still.trans ?_ (by assumption)))))
  clear hK K
  (try simp only [Act.put, List.setIfInBounds_toArray, List.set_cons_succ, List.set_cons_zero])
  refine wpAnyH_take (i := 15) (v := ?_) rfl (by kernel_rfl) (by kernel_rfl) (by kernel_rfl) (fun _ _ _ h => h) (Or.inl ⟨by rfl, ?_⟩) (by assumption) ?_
  rotate_left 1
  · intro w hSw; (try dsimp only at hSw); simp only [List.getElem_toArray, List.getElem_cons_succ, List.getElem_cons_zero]; go_simp; try (with_reducible rfl)
  (try simp only [List.getElem_toArray, List.getElem_cons_succ, List.getElem_cons_zero, Act.put, List.setIfInBounds_toArray, List.set_cons_succ, List.set_cons_zero])
  refine wpAnyH_take (i := 16) (v := ?_) rfl (by kernel_rfl) (by kernel_rfl) (by kernel_rfl) (fun _ _ _ h => h) (Or.inl ⟨by rfl, ?_⟩) (by assumption) ?_
  rotate_left 1
  · intro w hSw; (try dsimp only at hSw); simp only [List.getElem_toArray, List.getElem_cons_succ, List.getElem_cons_zero]; go_simp; try (with_reducible rfl)
  (try simp only [List.getElem_toArray, List.getElem_cons_succ, List.getElem_cons_zero, Act.put, List.setIfInBounds_toArray, List.set_cons_succ, List.set_cons_zero])
  refine wpAnyH_take (i := 17) (v := ?_) rfl (by kernel_rfl) (by kernel_rfl) (by kernel_rfl) (fun _ _ _ h => h) (Or.inl ⟨by rfl, ?_⟩) (by assumption) ?_
  rotate_left 1
  · intro w hSw; (try dsimp only at hSw); simp only [List.getElem_toArray, List.getElem_cons_succ, List.getElem_cons_zero]; go_simp; try (with_reducible rfl)
  (try simp only [List.getElem_toArray, List.getElem_cons_succ, List.getElem_cons_zero, Act.put, List.setIfInBounds_toArray, List.set_cons_succ, List.set_cons_zero])
  refine wpAnyH_ready (rs := [18]) (by kernel_rfl) (by simp) ?_
  refine AllReadyH.cons rfl (fun K hK => ?_) AllReadyH.nil
  (try simp only [List.getElem_toArray, List.getElem_cons_succ, List.getElem_cons_zero])
  go_simp
  go_at_call 20; refine (awake4_calls _).mono ?_; rintro e' u18 ⟨rfl, e18⟩
  (try (go_wp2_with fail))
  refine hK.out _ _ ?_ (fun hHeld => ?_)
  · exact K0.out _ (by ((repeat (first | with_reducible exact Still.refl _ | with_reducible assumption | with_reducible apply Still.alloc | with_reducible apply Still.drew | with_reducible refine Still.step ?_ (by assumption) | with_reducible refine Still.trans ?_ (by assumption)))))
  clear hK K
  (try simp only [Act.put, List.setIfInBounds_toArray, List.set_cons_succ, List.set_cons_zero])
  refine wpAnyH_take (i := 19) (v := ?_) rfl (by kernel_rfl) (by kernel_rfl) (by kernel_rfl) (fun _ _ _ h => h) (Or.inl ⟨by rfl, ?_⟩) (by assumption) ?_
  rotate_left 1
  · intro w hSw; (try dsimp only at hSw); simp only [List.getElem_toArray, List.getElem_cons_succ, List.getElem_cons_zero]; go_simp; try (with_reducible rfl)
  (try simp only [List.getElem_toArray, List.getElem_cons_succ, List.getElem_cons_zero, Act.put, List.setIfInBounds_toArray, List.set_cons_succ, List.set_cons_zero])
  refine wpAnyH_take (i := 20) (v := ?_) rfl (by kernel_rfl) (by kernel_rfl) (by kernel_rfl) (fun _ _ _ h => h) (Or.inl ⟨by rfl, ?_⟩) (by assumption) ?_
  rotate_left 1
  · intro w hSw; (try dsimp only at hSw); simp only [List.getElem_toArray, List.getElem_cons_succ, List.getElem_cons_zero]; go_simp; try (with_reducible rfl)
  (try simp only [List.getElem_toArray, List.getElem_cons_succ, List.getElem_cons_zero, Act.put, List.setIfInBounds_toArray, List.set_cons_succ, List.set_cons_zero])
  refine wpAnyH_done (by kernel_rfl) ?_ _
  go_wp2_with fail
  go_ret
  exact ⟨rfl, HB4.out.trans (show Still w6 u18 by ((repeat (first | with_reducible exact Still.refl _ | with_reducible assumption | with_reducible apply Still.alloc | with_reducible apply Still.drew | with_reducible refine Still.step ?_ (by assumption) | with_reducible refine Still.trans ?_ (by assumption)))))⟩
theorem walk (u v : U4) (w : World) (hu : u.ok) (hv : v.ok) : Calls Try.prog 8 #[.agg u.arr, .agg v.arr] w (Ret w (.bool true)) := by
  rw [u.uA hu, v.uA hv]
  exact walkN u.val v.val (u.val_lt hu) (v.val_lt hv) w

set_option maxRecDepth 100000 in
theorem lifted (os : Os) (started : os.Started) (H : Type) (enc : TypeId × Value → H) :
    ReturnsInHanded {} Try.checked os 8 .any (Rows.wideTellsSpec.pre6 enc Try.prog Try.f8 Rows.wideTellsRow.domain false) (Rows.wideTellsSpec.post enc Try.prog Try.f8 false true false false) := by
  refine returnsInHanded_of_change (C := Try.checked) own started (by kernel_rfl) Try.func8
    (ChangeSpec.witness6 (enc := enc) (C := Try.checked) false ⟨#[], #[.agg #[.int .u64 0, .int .u64 0, .int .u64 0, .int .u64 0], .agg #[.int .u64 0, .int .u64 0, .int .u64 0, .int .u64 0]], []⟩ 8 (by kernel_rfl) (by kernel_rfl) (by kernel_rfl) (by kernel_rfl)) ?_
  intro W base args ds gs before hval0 hW hcnd _
  have hval : ∀ (j : Nat) t v, Try.f8.params[j]? = some t → args[j]? = some v → Value.okWide Try.prog W .any base t v := hval0
  have hW' := hW
  obtain ⟨p, q, hA0, hV, rfl, hfz, hnd⟩ := hW
  have hA : DataW.TrodAll enc Try.prog W 0 (fun _ => true) true Try.f8.params.toList args.toList ds p := hA0
  rw [Try.params8] at hA hval
  obtain ⟨v0, vs0, d0, ds0, p0, q0, hargs, rfl, rfl, h0, r0⟩ := trodAll_cons hA
  obtain ⟨v1, vs1, d1, ds1, p1, q1, rfl, rfl, rfl, h1, r1⟩ := trodAll_cons r0
  obtain ⟨rfl, rfl, rfl⟩ := trodAll_nil r1
  obtain rfl : args = #[v0, v1] := by cases args; simp_all
  obtain ⟨rfl, rfl⟩ := trodVars_none hV
  have k0 := h0
  have lt0 : ∀ x ∈ p0, x.block < W.heap.size := by obtain ⟨m, hm⟩ := k0; exact DataW.trod_lt m _ _ _ hm
  obtain ⟨a0, rfl, w0⟩ := arrW (hval 0 24 v0 rfl rfl) h0
  have k1 := h1
  have lt1 : ∀ x ∈ p1, x.block < W.heap.size := by obtain ⟨m, hm⟩ := k1; exact DataW.trod_lt m _ _ _ hm
  obtain ⟨a1, rfl, w1⟩ := arrW (hval 1 24 v1 rfl rfl) h1
  clear hA0 hval0
  refine (walk a0 a1 W w0 w1).mono fun e W' ⟨he, bel⟩ => ?_
  subst he
  exact ⟨_, rfl, _, _, _, [], _, [], hW', trodAll_mk1 (shut_bool Try.underlying4 _), (trodAll_cons_mk (Below.trod laidOut (by kernel_rfl) (of_decide_eq_true (by kernel_rfl)) k0 bel lt0) (trodAll_cons_mk (Below.trod laidOut (by kernel_rfl) (of_decide_eq_true (by kernel_rfl)) k1 bel lt1) trodAll_mk0)), rfl, bel.frame _, fun h => by cases h⟩

theorem over : Rows.wideTellsRow.holds Try.pinned (OpenSpec.ofChange Rows.wideTellsSpec) :=
  OpenClaim.holds_of_wide 8 Try.f8 rfl rfl rfl rfl rfl rfl rfl ⟨rfl, rfl, rfl, rfl, rfl⟩ rfl rfl rfl rfl rfl (by kernel_rfl) Try.func8 (by kernel_rfl)
    (of_decide_eq_true (by kernel_rfl)) (by unfold Func.isWrapper; first | (rw [if_pos (by decide +kernel)]; kernel_rfl) | (rw [if_neg (by decide +kernel)]; exact ⟨rfl, rfl⟩))
    (fun os started H enc _ => lifted os started H enc)

theorem proved : Rows.WideTellsSaid := over
end Go.Proofs.Ythbbeknbdgkpkaa.wideTells
