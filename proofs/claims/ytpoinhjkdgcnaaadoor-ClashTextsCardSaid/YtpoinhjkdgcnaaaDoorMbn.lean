/- Merged texts: ClbB. -/
import Derived.Test.YtpoinhjkdgcnaaaDoorMbm
import Derived.Test.YtpoinhjkdgcnaaaDoorMbc
import Derived.Test.YtpoinhjkdgcnaaaDoorMas
import Derived.Test.YtpoinhjkdgcnaaaDoorMba
import Derived.Deep.RegionHeld3
/- The contract of package clash's pairs. -/
namespace Go.Proofs.YtpoinhjkdgcnaaaDoor
open Go.RowKit
set_option linter.unusedVariables false
set_option linter.unusedSimpArgs false

/-- The texts of the level above a list of hashes. -/
def pl (L : List (List UInt8)) : List (List UInt8) := (List.range ((L.length + 1) / 2)).map fun j => hat L (2 * j) ++ hat L (beside L.length j)
set_option maxRecDepth 100000 in
theorem pl_len (L : List (List UInt8)) : (pl L).length = (L.length + 1) / 2 := by simp [pl]
set_option maxRecDepth 100000 in
theorem pl_at (L : List (List UInt8)) (j : Nat) (h : j < (L.length + 1) / 2) : hat (pl L) j = hat L (2 * j) ++ hat L (beside L.length j) := by
  unfold pl
  show List.getD _ _ _ = _
  rw [List.getD_eq_getElem?_getD, List.getElem?_map, List.getElem?_range h]
  rfl
set_option maxRecDepth 100000 in
theorem tlev_pl (S : List (List UInt8)) (k : Nat) : tlev S k = pl (lev k S) := by
  unfold tlev pl
  rw [lev_len]
  rfl
set_option maxRecDepth 100000 in
theorem rd_range {W : World} {b o : Nat} {x : List UInt8} (h : W.rangeAt b o (x.map B8)) (hb : b < W.heap.size) (h32 : x.length = 32) : Rd W (some ⟨b, o, none⟩) 32 x :=
  ⟨h32, fun _ => ⟨b, o, rfl, hb, fun j hj => h j _ (by rw [List.getElem?_map, List.getElem?_eq_getElem hj]; rfl)⟩⟩
set_option maxRecDepth 100000 in
set_option maxHeartbeats 4000000 in
theorem gpairs_calls (A : Option Addr) (n c : Nat) (L : List (List UInt8)) (w : World) (hr : RdH w A n L) (hn : n ≤ 64) :
    Calls Tryd.prog 26 #[.slice A n c] w fun e w' => ∃ A' c', e = .returned (.slice A' ((n + 1) / 2) c') ∧ OwnT w' w.heap.size A' ((n + 1) / 2) c' (pl L) ∧ Below w.heap.size w w' := by
  have hln := hr.len
  have HR := Lib.hid hr
  have hsa : ∀ (q o : Nat) W, (Instr.sliceAt 47 (.pointer (some ⟨q, o, none⟩)) none none none).run Tryd.prog W = .ok (.slice (some ⟨q, o, none⟩) 32 32) W := fun q o W => run_sl_all 47 5 32 Tryd.underlying47 size8 q o (by omega) W
  obtain ⟨hf, hhf⟩ : ∃ z, z = (n + 1) / 2 := ⟨_, rfl⟩
  rw [← hhf]
  clear hr
  go_enter Tryd.func26, Tryd.ntmps26
  go_wp2
  go_loopw [3, 4] (fun ov kv wr => ∃ (j a : Nat) (A1 : Option Addr) (c1 : Nat), kv = .int .i64 (a : Int) ∧ ov = .slice A1 j c1 ∧ a = 2 * j ∧ j ≤ hf ∧ OwnT wr w.heap.size A1 j c1 ((pl L).take j) ∧ Below w.heap.size w wr) (fun _ kv _ => n + 1 - (intOf kv).toNat)
  case atStart => exact ⟨0, 0, none, 0, by first | rfl | go_num, rfl, rfl, by omega, by rw [List.take_zero]; exact OwnT.nil _ _, Below.refl _ _⟩
  case round =>
    obtain ⟨j, a2, A1, c1, rfl, rfl, ha, hjf, hown, hbel⟩ := hrel
    obtain ⟨wo, hwo⟩ : ∃ x, x = wr := ⟨_, rfl⟩
    rw [← hwo] at hown hbel ⊢
    clear hwo
    by_cases hlt : a2 < n
    · have hlt' : (a2 : Int) < (n : Int) := by omega
      have hjl : j < (L.length + 1) / 2 := by omega
      have hjh : j < hf := by omega
      obtain ⟨bb, off, rfl, hbb, hga⟩ := (HR.out).at_ hlt
      obtain ⟨bb', off', e', _, hga2⟩ := (HR.out).at_ (k := beside n j) (by unfold beside; split <;> omega)
      injection e' with e'
      injection e' with e1 e2
      subst e1
      subst e2
      have hga := range_below hga hbel hbb
      have hga2 := range_below hga2 hbel hbb
      have hsz := hbel.size
      have hnx := take_hat (pl L) j (by rw [pl_len]; exact hjl)
      rw [pl_at L j hjl, hln] at hnx
      obtain ⟨x, hx⟩ : ∃ z, z = hat L (2 * j) := ⟨_, rfl⟩
      have x32 : x.length = 32 := by rw [hx]; exact hat_32 HR.out.all (by omega)
      obtain ⟨X, hX⟩ : ∃ V, V = x.map B8 := ⟨_, rfl⟩
      have HX := Lib.hid hX
      have IX : Hid ((Tryd.prog.info? 47).map (·.size) = some X.length) := Lib.hid (by rw [hX, List.length_map, x32]; kernel_rfl)
      have LX : Hid (z32.length = X.length) := Lib.hid (by rw [hX, List.length_map, x32]; rfl)
      have OX : Hid (∀ v ∈ X, v.oneCell' = true) := Lib.hid (by rw [hX]; exact b8_one _)
      obtain ⟨y, hy⟩ : ∃ z, z = hat L (beside n j) := ⟨_, rfl⟩
      have y32 : y.length = 32 := by rw [hy]; exact hat_32 HR.out.all (by unfold beside; split <;> omega)
      obtain ⟨Y, hY⟩ : ∃ V, V = y.map B8 := ⟨_, rfl⟩
      have HY := Lib.hid hY
      have IY : Hid ((Tryd.prog.info? 47).map (·.size) = some Y.length) := Lib.hid (by rw [hY, List.length_map, y32]; kernel_rfl)
      have LY : Hid (z32.length = Y.length) := Lib.hid (by rw [hY, List.length_map, y32]; rfl)
      have OY : Hid (∀ v ∈ Y, v.oneCell' = true) := Lib.hid (by rw [hY]; exact b8_one _)
      rw [← hx, ← hy] at hnx
      obtain ⟨J, hJ⟩ : ∃ J, J = (pl L).take j := ⟨_, rfl⟩
      rw [← hJ] at hown hnx
      have HNX := Lib.hid hnx
      rw [ha, ← hx, ← hX] at hga
      rw [← hy, ← hY] at hga2
      rw [← ha] at hga
      have HRX : Hid (∀ W, Below w.heap.size w W → Rd W (some ⟨bb, off + a2 * 32, none⟩) 32 x) := Lib.hid fun W h => by
        obtain ⟨b3, off3, e3, hb3, hg3⟩ := (HR.out).at_ hlt
        injection e3 with e3
        injection e3 with e4 e5
        subst e4
        subst e5
        have := range_below hg3 h hb3
        rw [ha, ← hx] at this
        rw [ha]
        exact rd_range this (Nat.lt_of_lt_of_le hb3 h.size) x32
      obtain ⟨b2, hb2⟩ : ∃ z, z = a2 + 1 := ⟨_, rfl⟩
      obtain ⟨n1, hn1⟩ : ∃ z, z = n - 1 := ⟨_, rfl⟩
      have u1 : IntKind.i64.wrap ((a2 : Int) + 1) = (b2 : Int) := by rw [IntKind.wrap_i64]; omega
      have u2 : IntKind.i64.wrap ((n : Int) - 1) = (n1 : Int) := by rw [IntKind.wrap_i64]; omega
      by_cases hbs : 2 * j + 1 < n
      · have t1 : (b2 : Int) < (n1 : Int) ∨ b2 = n1 := by omega
        have t2 : ¬ (n1 : Int) < (b2 : Int) := by omega
        have t3 : ¬ n1 < b2 := by omega
        have t4 : b2 ≤ n1 := by omega
        have hlt3 : (b2 : Int) < (n : Int) := by omega
        have e : beside n j = b2 := by unfold beside; rw [if_pos (by omega)]; omega
        rw [e] at hga2
        have HA := Lib.hid ha
        clear hx hy hX hY hJ hnx ha hb2 hn1 e t1 hbs
        have ho := hown
        have hB := hbel
        go_upto_region 6 with (first
            | ((with_reducible refine at_load 47 (.tmp 19) ?_); refine wpList_load_mid rfl 47 (.tmp 19) rfl (bb) (off + b2 * 32) (by first | rfl | (simp [Act.eval]; done)) Y _ hga2 Tryd.underlying47 rfl IY.out ?_)
            | ((with_reducible refine at_alloc 47 ?_); refine wpList_allocT rfl 47 z32 (by kernel_rfl) rfl w.heap.size w hB (Nat.le_refl _) ?_; intro g5 z5 hb5 hg5 hl5 hf5 hB; have ho := ho.frm hf5 (fun _ h => h.elim) (fun _ h => h.elim))
            | ((with_reducible refine at_store 47 (.tmp 5) (.tmp 20) ?_); refine wpList_store_blk rfl 47 (.tmp 5) (.tmp 20) rfl g5 z32 Y 47 rfl rfl hb5 LY.out IY.out OY.out ?_; intro s5 hk5 ho5; have ho := ho.only hb5 (by decide) (by decide) ho5; have hB := hB.trans (ho5.below (by omega))))
        have hRx := HRX.out _ hB
        have hRy := hash_rd hk5 HY.out y32
        clear hb5 hk5 ho5 hf5 hown hbel hga hga2 t2 t3 t4
        refine wp_region_held_drew (S := fun _ => True) (by kernel_rfl) ?_ (fun hHeld => ?_)
        · trivial
        refine wpAnyH_take (i := 0) (v := ?_) rfl (by kernel_rfl) (by kernel_rfl) (by kernel_rfl) (fun _ _ _ h => h) (Or.inl ⟨by rfl, ?_⟩) (by assumption) ?_
        rotate_left 1
        · intro w hSw; (try dsimp only at hSw); simp only [List.getElem_toArray, List.getElem_cons_succ, List.getElem_cons_zero]; go_simp; try (with_reducible rfl)
        (try simp only [List.getElem_toArray, List.getElem_cons_succ, List.getElem_cons_zero, Act.put, List.setIfInBounds_toArray, List.set_cons_succ, List.set_cons_zero])
        refine wpAnyH_take (i := 1) (v := ?_) rfl (by kernel_rfl) (by kernel_rfl) (by kernel_rfl) (fun _ _ _ h => h) (Or.inl ⟨by rfl, ?_⟩) (by assumption) ?_
        rotate_left 1
        · intro w hSw; (try dsimp only at hSw); simp only [List.getElem_toArray, List.getElem_cons_succ, List.getElem_cons_zero]; go_simp; try (with_reducible rfl)
        (try simp only [List.getElem_toArray, List.getElem_cons_succ, List.getElem_cons_zero, Act.put, List.setIfInBounds_toArray, List.set_cons_succ, List.set_cons_zero])
        refine wpAnyH_take (i := 2) (v := ?_) rfl (by kernel_rfl) (by kernel_rfl) (by kernel_rfl) (fun _ _ _ h => h) (Or.inl ⟨by rfl, ?_⟩) (by assumption) ?_
        rotate_left 1
        · intro w hSw; (try dsimp only at hSw); simp only [List.getElem_toArray, List.getElem_cons_succ, List.getElem_cons_zero]; go_simp; try (with_reducible rfl)
        (try simp only [List.getElem_toArray, List.getElem_cons_succ, List.getElem_cons_zero, Act.put, List.setIfInBounds_toArray, List.set_cons_succ, List.set_cons_zero])
        refine wpAnyH_take (i := 3) (v := .pointer (some ⟨bb, off + a2 * 32, none⟩)) rfl (by kernel_rfl) (by kernel_rfl) (by kernel_rfl) (fun _ _ _ h => h) (Or.inl ⟨by rfl, ?_⟩) (by assumption) ?_
        · intro w hSw; (try dsimp only at hSw); simp only [List.getElem_toArray, List.getElem_cons_succ, List.getElem_cons_zero]; first | (go_simp; done) | (simp [execOp, Act.eval]; done)
        (try simp only [List.getElem_toArray, List.getElem_cons_succ, List.getElem_cons_zero, Act.put, List.setIfInBounds_toArray, List.set_cons_succ, List.set_cons_zero])
        refine wpAnyH_take (i := 4) (v := .slice (some ⟨bb, off + a2 * 32, none⟩) 32 32) rfl (by kernel_rfl) (by kernel_rfl) (by kernel_rfl) (fun _ _ _ h => h) (Or.inl ⟨by rfl, ?_⟩) (by assumption) ?_
        · intro w hSw; (try dsimp only at hSw); simp only [List.getElem_toArray, List.getElem_cons_succ, List.getElem_cons_zero]; first | (go_simp; done) | (simp [execOp, Act.eval, hsa]; done)
        (try simp only [List.getElem_toArray, List.getElem_cons_succ, List.getElem_cons_zero, Act.put, List.setIfInBounds_toArray, List.set_cons_succ, List.set_cons_zero])
        refine wpAnyH_take (i := 5) (v := .slice (some ⟨g5, 0, none⟩) 32 32) rfl (by kernel_rfl) (by kernel_rfl) (by kernel_rfl) (fun _ _ _ h => h) (Or.inl ⟨by rfl, ?_⟩) (by assumption) ?_
        · intro w hSw; (try dsimp only at hSw); simp only [List.getElem_toArray, List.getElem_cons_succ, List.getElem_cons_zero]; first | (go_simp; done) | (simp [execOp, Act.eval, hsa]; done)
        (try simp only [List.getElem_toArray, List.getElem_cons_succ, List.getElem_cons_zero, Act.put, List.setIfInBounds_toArray, List.set_cons_succ, List.set_cons_zero])
        refine wpAnyH_ready (rs := [6]) (by kernel_rfl) (by simp) ?_
        refine AllReadyH.cons rfl (fun K hK => ?_) AllReadyH.nil
        (try simp only [List.getElem_toArray, List.getElem_cons_succ, List.getElem_cons_zero])
        refine Eq.mpr (if_pos (by first | rfl | simp [Region.wanted, yielded, Act.put])) ?_
        refine wp_bsV2 _ _ rfl (some ⟨bb, off + a2 * 32, none⟩) (some ⟨g5, 0, none⟩) 32 32 32 32 (by first | rfl | (simp [Act.eval]; done)) (by first | rfl | (simp [Act.eval]; done)) ?_
        intro g6 x6 hb6 hg6 hl6 hB6
        have ho := (ho.up (below_dr (Below.refl _ _))).up hB6
        have hB := below_more (below_dr hB) hB6
        have hRx := hRx.drew.below hB6
        have hRy := hRy.drew.below hB6
        refine hK.out _ _ ?_ (fun hHeld => ?_)
        · trivial
        clear hK K
        (try simp only [Act.put, List.setIfInBounds_toArray, List.set_cons_succ, List.set_cons_zero])
        refine wpAnyH_ready (rs := [7]) (by kernel_rfl) (by simp) ?_
        refine AllReadyH.cons rfl (fun K hK => ?_) AllReadyH.nil
        (try simp only [List.getElem_toArray, List.getElem_cons_succ, List.getElem_cons_zero])
        go_simp
        go_at_call 25; refine (join_two _ g6 _ _ 32 32 32 32 x y hb6 hRx (by omega) (by unfold maxLen; omega) hRy (by omega) (by unfold maxLen; omega) (by omega)).mono ?_; rintro e' x7 ⟨A7, n7, c7, rfl, ho7, hB7⟩
        (try (go_wp2_with fail))
        refine hK.out _ _ ?_ (fun hHeld => ?_)
        · trivial
        clear hK K
        (try simp only [Act.put, List.setIfInBounds_toArray, List.set_cons_succ, List.set_cons_zero])
        have ho := ho.up hB7
        have hB := below_more hB hB7
        refine wpAnyH_ready (rs := [8]) (by kernel_rfl) (by simp) ?_
        refine AllReadyH.cons rfl (fun K hK => ?_) AllReadyH.nil
        (try simp only [List.getElem_toArray, List.getElem_cons_succ, List.getElem_cons_zero])
        refine Eq.mpr (if_pos (by first | rfl | simp [Region.wanted, yielded, Act.put])) ?_
        refine wp_bsV _ rfl A7 n7 c7 (by first | rfl | (simp [Act.eval]; done)) ?_
        intro g8 x8 hb8 hg8 hl8 hB8
        have ho := ho.up hB8
        have ho7 := ho7.up hB8
        have hB := below_more hB hB8
        refine hK.out _ _ ?_ (fun hHeld => ?_)
        · trivial
        clear hK K
        (try simp only [Act.put, List.setIfInBounds_toArray, List.set_cons_succ, List.set_cons_zero])
        refine wpAnyH_ready (rs := [9]) (by kernel_rfl) (by simp) ?_
        refine AllReadyH.cons rfl (fun K hK => ?_) AllReadyH.nil
        (try simp only [List.getElem_toArray, List.getElem_cons_succ, List.getElem_cons_zero])
        refine Eq.mpr (if_pos (by first | rfl | simp [Region.wanted, yielded, Act.put])) ?_
        refine wp_appT (.tmp 21) (.tmp 29) rfl w.heap.size w hB (Nat.le_refl _) A1 j c1 J (by first | rfl | (simp [Act.eval]; done)) ho (some ⟨g8, 0, none⟩) 1 1 [x ++ y] (by first | rfl | (simp [Act.eval]; done)) (srcT_one hb8 ho7) (by omega) ?_
        intro A9 c9 x9 ho9 hf9 hB9
        refine hK.out _ _ ?_ (fun hHeld => ?_)
        · trivial
        clear hK K
        (try simp only [Act.put, List.setIfInBounds_toArray, List.set_cons_succ, List.set_cons_zero])
        refine wpAnyH_take (i := 10) (v := ?_) rfl (by kernel_rfl) (by kernel_rfl) (by kernel_rfl) (fun _ _ _ h => h) (Or.inl ⟨by rfl, ?_⟩) (by assumption) ?_
        rotate_left 1
        · intro w hSw; (try dsimp only at hSw); simp only [List.getElem_toArray, List.getElem_cons_succ, List.getElem_cons_zero]; go_simp; try (with_reducible rfl)
        (try simp only [List.getElem_toArray, List.getElem_cons_succ, List.getElem_cons_zero, Act.put, List.setIfInBounds_toArray, List.set_cons_succ, List.set_cons_zero])
        refine wpAnyH_done (by kernel_rfl) ?_ _
        clear hb6 hB6 hB7 ho7 hb8 hB8 ho hf9 hRx hRy hB
        go_wp2
        go_roundw
        case rel => exact ⟨j + 1, a2 + 2, A9, c9, by first | rfl | go_num, rfl, by have := HA.out; omega, by omega, by rw [HNX.out]; exact ho9, hB9⟩
        case measure => simp [intOf]; omega
      · have t1 : n1 = a2 := by omega
        have t2 : (n1 : Int) < (b2 : Int) := by omega
        have t3 : n1 < b2 := by omega
        have t4 : ¬ b2 ≤ n1 := by omega
        have hlt3 : (n1 : Int) < (n : Int) := by omega
        have e : beside n j = n1 := by unfold beside; rw [if_neg (by omega)]; omega
        rw [e] at hga2
        have HA := Lib.hid ha
        clear hx hy hX hY hJ hnx ha hb2 hn1 e t1 hbs
        have ho := hown
        have hB := hbel
        go_upto_region 6 with (first
            | ((with_reducible refine at_load 47 (.tmp 19) ?_); refine wpList_load_mid rfl 47 (.tmp 19) rfl (bb) (off + n1 * 32) (by first | rfl | (simp [Act.eval]; done)) Y _ hga2 Tryd.underlying47 rfl IY.out ?_)
            | ((with_reducible refine at_alloc 47 ?_); refine wpList_allocT rfl 47 z32 (by kernel_rfl) rfl w.heap.size w hB (Nat.le_refl _) ?_; intro g5 z5 hb5 hg5 hl5 hf5 hB; have ho := ho.frm hf5 (fun _ h => h.elim) (fun _ h => h.elim))
            | ((with_reducible refine at_store 47 (.tmp 5) (.tmp 20) ?_); refine wpList_store_blk rfl 47 (.tmp 5) (.tmp 20) rfl g5 z32 Y 47 rfl rfl hb5 LY.out IY.out OY.out ?_; intro s5 hk5 ho5; have ho := ho.only hb5 (by decide) (by decide) ho5; have hB := hB.trans (ho5.below (by omega))))
        have hRx := HRX.out _ hB
        have hRy := hash_rd hk5 HY.out y32
        clear hb5 hk5 ho5 hf5 hown hbel hga hga2 t2 t3 t4
        refine wp_region_held_drew (S := fun _ => True) (by kernel_rfl) ?_ (fun hHeld => ?_)
        · trivial
        refine wpAnyH_take (i := 0) (v := ?_) rfl (by kernel_rfl) (by kernel_rfl) (by kernel_rfl) (fun _ _ _ h => h) (Or.inl ⟨by rfl, ?_⟩) (by assumption) ?_
        rotate_left 1
        · intro w hSw; (try dsimp only at hSw); simp only [List.getElem_toArray, List.getElem_cons_succ, List.getElem_cons_zero]; go_simp; try (with_reducible rfl)
        (try simp only [List.getElem_toArray, List.getElem_cons_succ, List.getElem_cons_zero, Act.put, List.setIfInBounds_toArray, List.set_cons_succ, List.set_cons_zero])
        refine wpAnyH_take (i := 1) (v := ?_) rfl (by kernel_rfl) (by kernel_rfl) (by kernel_rfl) (fun _ _ _ h => h) (Or.inl ⟨by rfl, ?_⟩) (by assumption) ?_
        rotate_left 1
        · intro w hSw; (try dsimp only at hSw); simp only [List.getElem_toArray, List.getElem_cons_succ, List.getElem_cons_zero]; go_simp; try (with_reducible rfl)
        (try simp only [List.getElem_toArray, List.getElem_cons_succ, List.getElem_cons_zero, Act.put, List.setIfInBounds_toArray, List.set_cons_succ, List.set_cons_zero])
        refine wpAnyH_take (i := 2) (v := ?_) rfl (by kernel_rfl) (by kernel_rfl) (by kernel_rfl) (fun _ _ _ h => h) (Or.inl ⟨by rfl, ?_⟩) (by assumption) ?_
        rotate_left 1
        · intro w hSw; (try dsimp only at hSw); simp only [List.getElem_toArray, List.getElem_cons_succ, List.getElem_cons_zero]; go_simp; try (with_reducible rfl)
        (try simp only [List.getElem_toArray, List.getElem_cons_succ, List.getElem_cons_zero, Act.put, List.setIfInBounds_toArray, List.set_cons_succ, List.set_cons_zero])
        refine wpAnyH_take (i := 3) (v := .pointer (some ⟨bb, off + a2 * 32, none⟩)) rfl (by kernel_rfl) (by kernel_rfl) (by kernel_rfl) (fun _ _ _ h => h) (Or.inl ⟨by rfl, ?_⟩) (by assumption) ?_
        · intro w hSw; (try dsimp only at hSw); simp only [List.getElem_toArray, List.getElem_cons_succ, List.getElem_cons_zero]; first | (go_simp; done) | (simp [execOp, Act.eval]; done)
        (try simp only [List.getElem_toArray, List.getElem_cons_succ, List.getElem_cons_zero, Act.put, List.setIfInBounds_toArray, List.set_cons_succ, List.set_cons_zero])
        refine wpAnyH_take (i := 4) (v := .slice (some ⟨bb, off + a2 * 32, none⟩) 32 32) rfl (by kernel_rfl) (by kernel_rfl) (by kernel_rfl) (fun _ _ _ h => h) (Or.inl ⟨by rfl, ?_⟩) (by assumption) ?_
        · intro w hSw; (try dsimp only at hSw); simp only [List.getElem_toArray, List.getElem_cons_succ, List.getElem_cons_zero]; first | (go_simp; done) | (simp [execOp, Act.eval, hsa]; done)
        (try simp only [List.getElem_toArray, List.getElem_cons_succ, List.getElem_cons_zero, Act.put, List.setIfInBounds_toArray, List.set_cons_succ, List.set_cons_zero])
        refine wpAnyH_take (i := 5) (v := .slice (some ⟨g5, 0, none⟩) 32 32) rfl (by kernel_rfl) (by kernel_rfl) (by kernel_rfl) (fun _ _ _ h => h) (Or.inl ⟨by rfl, ?_⟩) (by assumption) ?_
        · intro w hSw; (try dsimp only at hSw); simp only [List.getElem_toArray, List.getElem_cons_succ, List.getElem_cons_zero]; first | (go_simp; done) | (simp [execOp, Act.eval, hsa]; done)
        (try simp only [List.getElem_toArray, List.getElem_cons_succ, List.getElem_cons_zero, Act.put, List.setIfInBounds_toArray, List.set_cons_succ, List.set_cons_zero])
        refine wpAnyH_ready (rs := [6]) (by kernel_rfl) (by simp) ?_
        refine AllReadyH.cons rfl (fun K hK => ?_) AllReadyH.nil
        (try simp only [List.getElem_toArray, List.getElem_cons_succ, List.getElem_cons_zero])
        refine Eq.mpr (if_pos (by first | rfl | simp [Region.wanted, yielded, Act.put])) ?_
        refine wp_bsV2 _ _ rfl (some ⟨bb, off + a2 * 32, none⟩) (some ⟨g5, 0, none⟩) 32 32 32 32 (by first | rfl | (simp [Act.eval]; done)) (by first | rfl | (simp [Act.eval]; done)) ?_
        intro g6 x6 hb6 hg6 hl6 hB6
        have ho := (ho.up (below_dr (Below.refl _ _))).up hB6
        have hB := below_more (below_dr hB) hB6
        have hRx := hRx.drew.below hB6
        have hRy := hRy.drew.below hB6
        refine hK.out _ _ ?_ (fun hHeld => ?_)
        · trivial
        clear hK K
        (try simp only [Act.put, List.setIfInBounds_toArray, List.set_cons_succ, List.set_cons_zero])
        refine wpAnyH_ready (rs := [7]) (by kernel_rfl) (by simp) ?_
        refine AllReadyH.cons rfl (fun K hK => ?_) AllReadyH.nil
        (try simp only [List.getElem_toArray, List.getElem_cons_succ, List.getElem_cons_zero])
        go_simp
        go_at_call 25; refine (join_two _ g6 _ _ 32 32 32 32 x y hb6 hRx (by omega) (by unfold maxLen; omega) hRy (by omega) (by unfold maxLen; omega) (by omega)).mono ?_; rintro e' x7 ⟨A7, n7, c7, rfl, ho7, hB7⟩
        (try (go_wp2_with fail))
        refine hK.out _ _ ?_ (fun hHeld => ?_)
        · trivial
        clear hK K
        (try simp only [Act.put, List.setIfInBounds_toArray, List.set_cons_succ, List.set_cons_zero])
        have ho := ho.up hB7
        have hB := below_more hB hB7
        refine wpAnyH_ready (rs := [8]) (by kernel_rfl) (by simp) ?_
        refine AllReadyH.cons rfl (fun K hK => ?_) AllReadyH.nil
        (try simp only [List.getElem_toArray, List.getElem_cons_succ, List.getElem_cons_zero])
        refine Eq.mpr (if_pos (by first | rfl | simp [Region.wanted, yielded, Act.put])) ?_
        refine wp_bsV _ rfl A7 n7 c7 (by first | rfl | (simp [Act.eval]; done)) ?_
        intro g8 x8 hb8 hg8 hl8 hB8
        have ho := ho.up hB8
        have ho7 := ho7.up hB8
        have hB := below_more hB hB8
        refine hK.out _ _ ?_ (fun hHeld => ?_)
        · trivial
        clear hK K
        (try simp only [Act.put, List.setIfInBounds_toArray, List.set_cons_succ, List.set_cons_zero])
        refine wpAnyH_ready (rs := [9]) (by kernel_rfl) (by simp) ?_
        refine AllReadyH.cons rfl (fun K hK => ?_) AllReadyH.nil
        (try simp only [List.getElem_toArray, List.getElem_cons_succ, List.getElem_cons_zero])
        refine Eq.mpr (if_pos (by first | rfl | simp [Region.wanted, yielded, Act.put])) ?_
        refine wp_appT (.tmp 21) (.tmp 29) rfl w.heap.size w hB (Nat.le_refl _) A1 j c1 J (by first | rfl | (simp [Act.eval]; done)) ho (some ⟨g8, 0, none⟩) 1 1 [x ++ y] (by first | rfl | (simp [Act.eval]; done)) (srcT_one hb8 ho7) (by omega) ?_
        intro A9 c9 x9 ho9 hf9 hB9
        refine hK.out _ _ ?_ (fun hHeld => ?_)
        · trivial
        clear hK K
        (try simp only [Act.put, List.setIfInBounds_toArray, List.set_cons_succ, List.set_cons_zero])
        refine wpAnyH_take (i := 10) (v := ?_) rfl (by kernel_rfl) (by kernel_rfl) (by kernel_rfl) (fun _ _ _ h => h) (Or.inl ⟨by rfl, ?_⟩) (by assumption) ?_
        rotate_left 1
        · intro w hSw; (try dsimp only at hSw); simp only [List.getElem_toArray, List.getElem_cons_succ, List.getElem_cons_zero]; go_simp; try (with_reducible rfl)
        (try simp only [List.getElem_toArray, List.getElem_cons_succ, List.getElem_cons_zero, Act.put, List.setIfInBounds_toArray, List.set_cons_succ, List.set_cons_zero])
        refine wpAnyH_done (by kernel_rfl) ?_ _
        clear hb6 hB6 hB7 ho7 hb8 hB8 ho hf9 hRx hRy hB
        go_wp2
        go_roundw
        case rel => exact ⟨j + 1, a2 + 2, A9, c9, by first | rfl | go_num, rfl, by have := HA.out; omega, by omega, by rw [HNX.out]; exact ho9, hB9⟩
        case measure => simp [intOf]; omega
    · have hlt' : ¬ (a2 : Int) < (n : Int) := by omega
      have e : j = hf := by omega
      rw [List.take_of_length_le (by rw [pl_len]; omega)] at hown
      have HO := Lib.hid hown
      have HE := Lib.hid e
      clear hown e hhf ha
      go_wp2
      go_ret
      exact ⟨A1, c1, by rw [← HE.out]; rfl, by rw [← HE.out]; exact HO.out, hbel⟩
end Go.Proofs.YtpoinhjkdgcnaaaDoor
