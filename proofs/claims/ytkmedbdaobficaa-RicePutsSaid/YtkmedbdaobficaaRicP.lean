/- The walks of RicePuts and RiceSizes, over what packages bit and rice are to answer. -/
import Derived.Test.YtkmedbdaobficaaRicC
import Derived.Deep.RegionHeld3
import Derived.Deep.CutRange
import Derived.Deep.DeepCutAuto
namespace Go.Proofs.Ytkmedbdaobficaa
open Go.RowKit
set_option linter.unusedVariables false
set_option linter.unusedSimpArgs false

set_option maxRecDepth 100000 in
set_option maxHeartbeats 4000000 in
theorem ricePuts_walk {BW : World → Nat → (Nat → Prop) → List Bool → Prop} {BR : World → Nat → Nat → (Nat → Prop) → List Bool → Prop} (K : BitOk BW BR) (Q : RiceOk BW BR) (p : Int) (n : Nat) (hn : n < 18446744073709551616) (hp0 : -9223372036854775808 ≤ p) (hp1 : p ≤ 9223372036854775807) (w : World) : Calls Try.prog 3 #[.int .i64 p, .int .u64 (n : Int)] w (Ret w (.bool true)) := by
  have HK := Lib.hid K
  have HQ := Lib.hid Q
  have CA : Hid (∀ W, Calls Try.prog 10 #[] W (Ret W (.bool true))) := Lib.hid fun W => awake12_calls K Q W
  obtain ⟨q, hq⟩ : ∃ z, z = rq p n := ⟨_, rfl⟩
  have CO : Hid (∀ W, Calls Try.prog 9 #[.int .i64 p, .int .u64 (n : Int)] W (Ret W (.int .u64 (q : Int)))) := Lib.hid fun W => by rw [hq]; exact xones_calls p n hn W
  clear K Q
  by_cases hbig : 65536 < q
  · have CP : Hid (∀ (W : World) r S l, BW W r S l → Calls Try.prog 11 #[.pointer (some ⟨r, 0, none⟩), .int .i64 p, .int .u64 (n : Int)] W (Ret W (.int .i64 4))) := Lib.hid fun W r S l h => HQ.out.putB W r S l p n h hn hp0 hp1 (by omega)
    have CB : Hid (∀ W, Calls Try.prog 12 #[.int .i64 p, .int .u64 (n : Int)] W (Ret W (.tuple #[.string ⟨#[]⟩, .bool false]))) := Lib.hid fun W => xbits_big p n hn (by omega) W
    have CL : Hid (∀ (W : World) r S, BW W r S [] → Calls Try.prog 13 #[.pointer (some ⟨r, 0, none⟩)] W (Ret W (.int .i64 0))) := Lib.hid fun W r S h => HK.out.len W r S [] h (by simp)
    have g1 : (600 : Int) < (q : Int) := by omega
    have g2 : ¬ (q : Int) ≤ 65536 := by omega
    have g3 : ¬ q ≤ 65536 := by omega
    clear hq
    go_enter Try.func3, Try.ntmps3
    go_upto_region 2 with (first
      | (go_at_call 8; refine (HK.out.new _).mono ?_; rintro e' w1 ⟨r, S, rfl, hW, hB, hS⟩))
    go_wp2_with (first
      | (go_at_call 9; refine (CO.out _).mono ?_; rintro e' w2 ⟨rfl, hB2⟩; have hB := below_more hB hB2; have hW := HK.out.wfrm hW (X := fun _ => False) (Frm.of_below hB2) (fun _ h => h.elim))
      | (go_at_call 11; refine (CP.out _ _ _ _ hW).mono ?_; rintro e' w3 ⟨rfl, hB3⟩; have hB := below_more hB hB3; have hW := HK.out.wfrm hW (X := fun _ => False) (Frm.of_below hB3) (fun _ h => h.elim))
      | (go_at_call 12; refine (CB.out _).mono ?_; rintro e' w4 ⟨rfl, hB4⟩; have hB := below_more hB hB4; have hW := HK.out.wfrm hW (X := fun _ => False) (Frm.of_below hB4) (fun _ h => h.elim))
      | (go_at_call 13; refine (CL.out _ _ _ hW).mono ?_; rintro e' w5 ⟨rfl, hB5⟩; have hB := below_more hB hB5; have hW := HK.out.wfrm hW (X := fun _ => False) (Frm.of_below hB5) (fun _ h => h.elim))
      | (go_at_call 10; refine (CA.out _).mono ?_; rintro e' y9 ⟨rfl, hB9⟩))
    go_ret
    exact ⟨rfl, below_more hB hB9⟩
  by_cases hmid : 600 < q
  · have g1 : (600 : Int) < (q : Int) := by omega
    have g2 : (q : Int) ≤ 65536 := by omega
    have g3 : q ≤ 65536 := by omega
    clear hq
    go_enter Try.func3, Try.ntmps3
    go_upto_region 2 with (first
      | (go_at_call 8; refine (HK.out.new _).mono ?_; rintro e' w1 ⟨r, S, rfl, hW, hB, hS⟩))
    go_wp2_with (first
      | (go_at_call 9; refine (CO.out _).mono ?_; rintro e' w2 ⟨rfl, hB2⟩; have hB := below_more hB hB2; have hW := HK.out.wfrm hW (X := fun _ => False) (Frm.of_below hB2) (fun _ h => h.elim))
      | (go_at_call 10; refine (CA.out _).mono ?_; rintro e' y9 ⟨rfl, hB9⟩))
    go_ret
    exact ⟨rfl, below_more hB hB9⟩
  · have g1 : ¬ (600 : Int) < (q : Int) := by omega
    obtain ⟨V, hV⟩ : ∃ z, z = [] ++ rcode p n := ⟨_, rfl⟩
    obtain ⟨s2, hs2⟩ : ∃ z, z = tx V := ⟨_, rfl⟩
    obtain ⟨N2, hN2⟩ : ∃ z, z = V.length := ⟨_, rfl⟩
    have hsz2 : s2.size = N2 := by rw [hs2, tx_size, hN2]
    have hVn : N2 = q + hld p 32 + 1 := by rw [hN2, hV, List.nil_append, rcode_len, hq]
    have hk3 := hld_le p 32
    obtain ⟨pb, hpb⟩ : ∃ z, z = (⟨(pack V).toArray⟩ : ByteArray) := ⟨_, rfl⟩
    have CP : Hid (∀ (W : World) r S, BW W r S [] → Calls Try.prog 11 #[.pointer (some ⟨r, 0, none⟩), .int .i64 p, .int .u64 (n : Int)] W fun e w' => ∃ S', e = .returned (.int .i64 0) ∧ BW w' r S' V ∧ Frm S W w' ∧ ∀ i, S' i → S i ∨ W.heap.size ≤ i) := Lib.hid fun W r S h => by rw [hV]; exact HQ.out.put W r S [] p n h hn hp0 hp1 (by omega) (by simp)
    have CB : Hid (∀ W, Calls Try.prog 12 #[.int .i64 p, .int .u64 (n : Int)] W (Ret W (.tuple #[.string s2, .bool true]))) := Lib.hid fun W => by rw [hs2, hV, List.nil_append]; exact xbits_ok p n hn (by omega) W
    have CL : Hid (∀ (W : World) {r} S, BW W r S V → Calls Try.prog 13 #[.pointer (some ⟨r, 0, none⟩)] W (Ret W (.int .i64 (N2 : Int)))) := Lib.hid fun W r S h => by rw [hN2]; exact HK.out.len W r S V h (by omega)
    have CBy : Hid (∀ (W : World) {r} S, BW W r S V → Calls Try.prog 14 #[.pointer (some ⟨r, 0, none⟩)] W fun e w' => ∃ A n c, e = .returned (.slice A n c) ∧ Rd w' A n (pack V) ∧ Below W.heap.size W w') := Lib.hid fun W r S h => by
      refine (HK.out.bytes W r S V h (by omega)).mono ?_
      rintro e w' ⟨A, n, c, rfl, k1, _, _, k2⟩
      exact ⟨A, n, c, rfl, k1, k2⟩
    have RB : Hid (∀ W, Calls Try.prog 15 #[.string s2] W (Ret W (.string ⟨(pack V).toArray⟩))) := Lib.hid fun W => by rw [hs2]; exact zbytes_calls V (by omega) W
    have CS : Hid (∀ W, Calls Try.prog 16 #[.int .i64 p, .int .u64 (n : Int)] W (Ret W (.int .u64 (N2 : Int)))) := Lib.hid fun W => by
      have := HQ.out.size W p n hn hp0 hp1
      rw [show rsz p n = N2 from by unfold rsz; rw [← hq, if_neg (by omega)]; omega] at this
      exact this
    have u1 : IntKind.u64.wrap (N2 : Int) = (N2 : Int) := by rw [IntKind.wrap_u64]; omega
    clear hq hV hs2 hN2 hVn hpb pb
    go_enter Try.func3, Try.ntmps3
    go_upto_region 2 with (first
      | (go_at_call 8; refine (HK.out.new _).mono ?_; rintro e' w1 ⟨r, S, rfl, hW, hB, hS⟩))
    go_upto_region 11 with (first
      | (go_at_call 9; refine (CO.out _).mono ?_; rintro e' w2 ⟨rfl, hB2⟩; have hW := HK.out.wfrm hW (X := fun _ => False) (Frm.of_below hB2) (fun _ h => h.elim); have hB := below_more hB hB2)
      | (go_at_call 11; refine (CP.out _ _ _ hW).mono ?_; rintro e' w3 ⟨S2, rfl, hW, hF3, hS3⟩; have hB := below_frmB hB hF3 hB.size hS)
      | (go_at_call 12; refine (CB.out _).mono ?_; rintro e' w4 ⟨rfl, hB4⟩; have hB := below_more hB hB4; have hW := HK.out.wfrm hW (X := fun _ => False) (Frm.of_below hB4) (fun _ h => h.elim)))
    have hW := HK.out.wfrm hW (X := fun _ => False) (Frm.of_below (Below.refl _ _).drew) (fun _ h => h.elim)
    have hB := hB.drew
    refine wp_region_held_drew (S := fun _ => True) (by kernel_rfl) ?_ (fun hHeld => ?_)
    · trivial
    refine wpAnyH_take (i := 0) (v := ?_) rfl (by kernel_rfl) (by kernel_rfl) (by kernel_rfl) (fun _ _ _ h => h) (Or.inl ⟨by rfl, ?_⟩) (by assumption) ?_
    rotate_left 1
    · intro w hSw; (try dsimp only at hSw); simp only [List.getElem_toArray, List.getElem_cons_succ, List.getElem_cons_zero]; go_simp; try (with_reducible rfl)
    (try simp only [List.getElem_toArray, List.getElem_cons_succ, List.getElem_cons_zero, Act.put, List.setIfInBounds_toArray, List.set_cons_succ, List.set_cons_zero])
    refine wpAnyH_take (i := 1) (v := ?_) rfl (by kernel_rfl) (by kernel_rfl) (by kernel_rfl) (fun _ _ _ h => h) (Or.inl ⟨by rfl, ?_⟩) (by assumption) ?_
    rotate_left 1
    · intro w hSw; (try dsimp only at hSw); simp only [List.getElem_toArray, List.getElem_cons_succ, List.getElem_cons_zero]; go_simp; try (with_reducible rfl)
    (try simp only [List.getElem_toArray, List.getElem_cons_succ, List.getElem_cons_zero, Act.put, List.setIfInBounds_toArray, List.set_cons_succ, List.set_cons_zero])
    refine wpAnyH_take (i := 2) (v := ?_) rfl (by kernel_rfl) (by kernel_rfl) (by kernel_rfl) (fun _ _ _ h => h) (Or.inl ⟨by rfl, ?_⟩) (by assumption) ?_
    rotate_left 1
    · intro w hSw; (try dsimp only at hSw); simp only [List.getElem_toArray, List.getElem_cons_succ, List.getElem_cons_zero]; go_simp; try (with_reducible rfl)
    (try simp only [List.getElem_toArray, List.getElem_cons_succ, List.getElem_cons_zero, Act.put, List.setIfInBounds_toArray, List.set_cons_succ, List.set_cons_zero])
    refine wpAnyH_take (i := 3) (v := ?_) rfl (by kernel_rfl) (by kernel_rfl) (by kernel_rfl) (fun _ _ _ h => h) (Or.inl ⟨by rfl, ?_⟩) (by assumption) ?_
    rotate_left 1
    · intro w hSw; (try dsimp only at hSw); simp only [List.getElem_toArray, List.getElem_cons_succ, List.getElem_cons_zero]; go_simp; try (with_reducible rfl)
    (try simp only [List.getElem_toArray, List.getElem_cons_succ, List.getElem_cons_zero, Act.put, List.setIfInBounds_toArray, List.set_cons_succ, List.set_cons_zero])
    refine wpAnyH_take (i := 5) (v := ?_) rfl (by kernel_rfl) (by kernel_rfl) (by kernel_rfl) (fun _ _ _ h => h) (Or.inl ⟨by rfl, ?_⟩) (by assumption) ?_
    rotate_left 1
    · intro w hSw; (try dsimp only at hSw); simp only [List.getElem_toArray, List.getElem_cons_succ, List.getElem_cons_zero]; go_simp; try (with_reducible rfl)
    (try simp only [List.getElem_toArray, List.getElem_cons_succ, List.getElem_cons_zero, Act.put, List.setIfInBounds_toArray, List.set_cons_succ, List.set_cons_zero])
    refine wpAnyH_take (i := 6) (v := .int .i64 (N2 : Int)) rfl (by kernel_rfl) (by kernel_rfl) (by kernel_rfl) (fun _ _ _ h => h) (Or.inl ⟨by rfl, ?_⟩) (by assumption) ?_
    · intro w hSw; (try dsimp only at hSw); simp only [List.getElem_toArray, List.getElem_cons_succ, List.getElem_cons_zero]; first | (go_simp; done) | (simp [execOp, Act.eval, hsz2, go_sem]; done)
    (try simp only [List.getElem_toArray, List.getElem_cons_succ, List.getElem_cons_zero, Act.put, List.setIfInBounds_toArray, List.set_cons_succ, List.set_cons_zero])
    refine wpAnyH_ready (rs := [4]) (by kernel_rfl) (by simp) ?_
    refine AllReadyH.cons rfl (fun K hK => ?_) AllReadyH.nil
    (try simp only [List.getElem_toArray, List.getElem_cons_succ, List.getElem_cons_zero])
    go_simp
    go_at_call 13; refine (CL.out _ _ hW).mono ?_; rintro e' x4 ⟨rfl, hB4⟩
    (try (go_wp2_with fail))
    refine hK.out _ _ ?_ (fun hHeld => ?_)
    · trivial
    clear hK K
    (try simp only [Act.put, List.setIfInBounds_toArray, List.set_cons_succ, List.set_cons_zero])
    have hB := below_more hB hB4
    have hW := HK.out.wfrm hW (X := fun _ => False) (Frm.of_below hB4) (fun _ h => h.elim)
    refine wpAnyH_take (i := 7) (v := .bool true) rfl (by kernel_rfl) (by kernel_rfl) (by kernel_rfl) (fun _ _ _ h => h) (Or.inl ⟨by rfl, ?_⟩) (by assumption) ?_
    · intro w hSw; (try dsimp only at hSw); simp only [List.getElem_toArray, List.getElem_cons_succ, List.getElem_cons_zero]; first | (go_simp; done) | (simp [execOp, Act.eval]; done)
    (try simp only [List.getElem_toArray, List.getElem_cons_succ, List.getElem_cons_zero, Act.put, List.setIfInBounds_toArray, List.set_cons_succ, List.set_cons_zero])
    refine wpAnyH_take (i := 8) (v := ?_) rfl (by kernel_rfl) (by kernel_rfl) (by kernel_rfl) (fun _ _ _ h => h) (Or.inl ⟨by rfl, ?_⟩) (by assumption) ?_
    rotate_left 1
    · intro w hSw; (try dsimp only at hSw); simp only [List.getElem_toArray, List.getElem_cons_succ, List.getElem_cons_zero]; go_simp; try (with_reducible rfl)
    (try simp only [List.getElem_toArray, List.getElem_cons_succ, List.getElem_cons_zero, Act.put, List.setIfInBounds_toArray, List.set_cons_succ, List.set_cons_zero])
    refine wpAnyH_take (i := 9) (v := ?_) rfl (by kernel_rfl) (by kernel_rfl) (by kernel_rfl) (fun _ _ _ h => h) (Or.inl ⟨by rfl, ?_⟩) (by assumption) ?_
    rotate_left 1
    · intro w hSw; (try dsimp only at hSw); simp only [List.getElem_toArray, List.getElem_cons_succ, List.getElem_cons_zero]; go_simp; try (with_reducible rfl)
    (try simp only [List.getElem_toArray, List.getElem_cons_succ, List.getElem_cons_zero, Act.put, List.setIfInBounds_toArray, List.set_cons_succ, List.set_cons_zero])
    refine wpAnyH_take (i := 10) (v := ?_) rfl (by kernel_rfl) (by kernel_rfl) (by kernel_rfl) (fun _ _ _ h => h) (Or.inl ⟨by rfl, ?_⟩) (by assumption) ?_
    rotate_left 1
    · intro w hSw; (try dsimp only at hSw); simp only [List.getElem_toArray, List.getElem_cons_succ, List.getElem_cons_zero]; go_simp; try (with_reducible rfl)
    (try simp only [List.getElem_toArray, List.getElem_cons_succ, List.getElem_cons_zero, Act.put, List.setIfInBounds_toArray, List.set_cons_succ, List.set_cons_zero])
    refine wpAnyH_take (i := 13) (v := ?_) rfl (by kernel_rfl) (by kernel_rfl) (by kernel_rfl) (fun _ _ _ h => h) (Or.inl ⟨by rfl, ?_⟩) (by assumption) ?_
    rotate_left 1
    · intro w hSw; (try dsimp only at hSw); simp only [List.getElem_toArray, List.getElem_cons_succ, List.getElem_cons_zero]; go_simp; try (with_reducible rfl)
    (try simp only [List.getElem_toArray, List.getElem_cons_succ, List.getElem_cons_zero, Act.put, List.setIfInBounds_toArray, List.set_cons_succ, List.set_cons_zero])
    refine wpAnyH_ready (rs := [11]) (by kernel_rfl) (by simp) ?_
    refine AllReadyH.cons rfl (fun K hK => ?_) AllReadyH.nil
    (try simp only [List.getElem_toArray, List.getElem_cons_succ, List.getElem_cons_zero])
    go_simp
    go_at_call 14; refine (CBy.out _ _ hW).mono ?_; rintro e' x1 ⟨A8, n8, c8, rfl, hR8, hB8⟩
    (try (go_wp2_with fail))
    refine hK.out _ _ ?_ (fun hHeld => ?_)
    · trivial
    clear hK K
    (try simp only [Act.put, List.setIfInBounds_toArray, List.set_cons_succ, List.set_cons_zero])
    have hB := below_more hB hB8
    refine wpAnyH_ready (rs := [12, 14]) (by kernel_rfl) (by simp) ?_
    refine AllReadyH.cons rfl (fun K hK => ?_) ?_
    · (try simp only [List.getElem_toArray, List.getElem_cons_succ, List.getElem_cons_zero])
      refine Eq.mpr (if_pos (by first | rfl | simp [Region.wanted, yielded, Act.put])) ?_
      refine wp_cvR _ rfl (by first | rfl | (simp [Act.eval]; done)) (conv8 _ A8 n8 c8 _ hR8) ?_
      refine hK.out _ _ ?_ (fun hHeld => ?_)
      · trivial
      clear hK K
      (try simp only [Act.put, List.setIfInBounds_toArray, List.set_cons_succ, List.set_cons_zero])
      refine wpAnyH_ready (rs := [14]) (by kernel_rfl) (by simp) ?_
      refine AllReadyH.cons rfl (fun K hK => ?_) AllReadyH.nil
      (try simp only [List.getElem_toArray, List.getElem_cons_succ, List.getElem_cons_zero])
      go_simp
      go_at_call 15; refine (RB.out _).mono ?_; rintro e' x2 ⟨rfl, hB9⟩
      (try (go_wp2_with fail))
      refine hK.out _ _ ?_ (fun hHeld => ?_)
      · trivial
      clear hK K
      (try simp only [Act.put, List.setIfInBounds_toArray, List.set_cons_succ, List.set_cons_zero])
      have hB := below_more hB hB9
      have hR8 := hR8.below hB9
      refine wpAnyH_take (i := 15) (v := .bool true) rfl (by kernel_rfl) (by kernel_rfl) (by kernel_rfl) (fun _ _ _ h => h) (Or.inl ⟨by rfl, ?_⟩) (by assumption) ?_
      · intro w hSw; (try dsimp only at hSw); simp only [List.getElem_toArray, List.getElem_cons_succ, List.getElem_cons_zero]; first | (go_simp; done) | (simp [execOp, Act.eval]; done)
      (try simp only [List.getElem_toArray, List.getElem_cons_succ, List.getElem_cons_zero, Act.put, List.setIfInBounds_toArray, List.set_cons_succ, List.set_cons_zero])
      refine wpAnyH_take (i := 16) (v := ?_) rfl (by kernel_rfl) (by kernel_rfl) (by kernel_rfl) (fun _ _ _ h => h) (Or.inl ⟨by rfl, ?_⟩) (by assumption) ?_
      rotate_left 1
      · intro w hSw; (try dsimp only at hSw); simp only [List.getElem_toArray, List.getElem_cons_succ, List.getElem_cons_zero]; go_simp; try (with_reducible rfl)
      (try simp only [List.getElem_toArray, List.getElem_cons_succ, List.getElem_cons_zero, Act.put, List.setIfInBounds_toArray, List.set_cons_succ, List.set_cons_zero])
      refine wpAnyH_take (i := 17) (v := ?_) rfl (by kernel_rfl) (by kernel_rfl) (by kernel_rfl) (fun _ _ _ h => h) (Or.inl ⟨by rfl, ?_⟩) (by assumption) ?_
      rotate_left 1
      · intro w hSw; (try dsimp only at hSw); simp only [List.getElem_toArray, List.getElem_cons_succ, List.getElem_cons_zero]; go_simp; try (with_reducible rfl)
      (try simp only [List.getElem_toArray, List.getElem_cons_succ, List.getElem_cons_zero, Act.put, List.setIfInBounds_toArray, List.set_cons_succ, List.set_cons_zero])
      refine wpAnyH_take (i := 18) (v := ?_) rfl (by kernel_rfl) (by kernel_rfl) (by kernel_rfl) (fun _ _ _ h => h) (Or.inl ⟨by rfl, ?_⟩) (by assumption) ?_
      rotate_left 1
      · intro w hSw; (try dsimp only at hSw); simp only [List.getElem_toArray, List.getElem_cons_succ, List.getElem_cons_zero]; go_simp; try (with_reducible rfl)
      (try simp only [List.getElem_toArray, List.getElem_cons_succ, List.getElem_cons_zero, Act.put, List.setIfInBounds_toArray, List.set_cons_succ, List.set_cons_zero])
      refine wpAnyH_take (i := 19) (v := ?_) rfl (by kernel_rfl) (by kernel_rfl) (by kernel_rfl) (fun _ _ _ h => h) (Or.inl ⟨by rfl, ?_⟩) (by assumption) ?_
      rotate_left 1
      · intro w hSw; (try dsimp only at hSw); simp only [List.getElem_toArray, List.getElem_cons_succ, List.getElem_cons_zero]; go_simp; try (with_reducible rfl)
      (try simp only [List.getElem_toArray, List.getElem_cons_succ, List.getElem_cons_zero, Act.put, List.setIfInBounds_toArray, List.set_cons_succ, List.set_cons_zero])
      refine wpAnyH_take (i := 21) (v := ?_) rfl (by kernel_rfl) (by kernel_rfl) (by kernel_rfl) (fun _ _ _ h => h) (Or.inl ⟨by rfl, ?_⟩) (by assumption) ?_
      rotate_left 1
      · intro w hSw; (try dsimp only at hSw); simp only [List.getElem_toArray, List.getElem_cons_succ, List.getElem_cons_zero]; go_simp; try (with_reducible rfl)
      (try simp only [List.getElem_toArray, List.getElem_cons_succ, List.getElem_cons_zero, Act.put, List.setIfInBounds_toArray, List.set_cons_succ, List.set_cons_zero])
      refine wpAnyH_take (i := 22) (v := .int .i64 (N2 : Int)) rfl (by kernel_rfl) (by kernel_rfl) (by kernel_rfl) (fun _ _ _ h => h) (Or.inl ⟨by rfl, ?_⟩) (by assumption) ?_
      · intro w hSw; (try dsimp only at hSw); simp only [List.getElem_toArray, List.getElem_cons_succ, List.getElem_cons_zero]; first | (go_simp; done) | (simp [execOp, Act.eval, hsz2, go_sem]; done)
      (try simp only [List.getElem_toArray, List.getElem_cons_succ, List.getElem_cons_zero, Act.put, List.setIfInBounds_toArray, List.set_cons_succ, List.set_cons_zero])
      refine wpAnyH_take (i := 23) (v := .int .u64 (N2 : Int)) rfl (by kernel_rfl) (by kernel_rfl) (by kernel_rfl) (fun _ _ _ h => h) (Or.inl ⟨by rfl, ?_⟩) (by assumption) ?_
      · intro w hSw; (try dsimp only at hSw); simp only [List.getElem_toArray, List.getElem_cons_succ, List.getElem_cons_zero]; first | (go_simp; done) | (simp [execOp, Act.eval, u1]; done) | (go_simp; simp [u1]; done)
      (try simp only [List.getElem_toArray, List.getElem_cons_succ, List.getElem_cons_zero, Act.put, List.setIfInBounds_toArray, List.set_cons_succ, List.set_cons_zero])
      refine wpAnyH_ready (rs := [20]) (by kernel_rfl) (by simp) ?_
      refine AllReadyH.cons rfl (fun K hK => ?_) AllReadyH.nil
      (try simp only [List.getElem_toArray, List.getElem_cons_succ, List.getElem_cons_zero])
      go_simp
      go_at_call 16; refine (CS.out _).mono ?_; rintro e' x5 ⟨rfl, hB5⟩
      (try (go_wp2_with fail))
      refine hK.out _ _ ?_ (fun hHeld => ?_)
      · trivial
      clear hK K
      (try simp only [Act.put, List.setIfInBounds_toArray, List.set_cons_succ, List.set_cons_zero])
      have hB := below_more hB hB5
      refine wpAnyH_take (i := 24) (v := .bool true) rfl (by kernel_rfl) (by kernel_rfl) (by kernel_rfl) (fun _ _ _ h => h) (Or.inl ⟨by rfl, ?_⟩) (by assumption) ?_
      · intro w hSw; (try dsimp only at hSw); simp only [List.getElem_toArray, List.getElem_cons_succ, List.getElem_cons_zero]; first | (go_simp; done) | (simp [execOp, Act.eval]; done)
      (try simp only [List.getElem_toArray, List.getElem_cons_succ, List.getElem_cons_zero, Act.put, List.setIfInBounds_toArray, List.set_cons_succ, List.set_cons_zero])
      refine wpAnyH_take (i := 25) (v := ?_) rfl (by kernel_rfl) (by kernel_rfl) (by kernel_rfl) (fun _ _ _ h => h) (Or.inl ⟨by rfl, ?_⟩) (by assumption) ?_
      rotate_left 1
      · intro w hSw; (try dsimp only at hSw); simp only [List.getElem_toArray, List.getElem_cons_succ, List.getElem_cons_zero]; go_simp; try (with_reducible rfl)
      (try simp only [List.getElem_toArray, List.getElem_cons_succ, List.getElem_cons_zero, Act.put, List.setIfInBounds_toArray, List.set_cons_succ, List.set_cons_zero])
      refine wpAnyH_take (i := 26) (v := ?_) rfl (by kernel_rfl) (by kernel_rfl) (by kernel_rfl) (fun _ _ _ h => h) (Or.inl ⟨by rfl, ?_⟩) (by assumption) ?_
      rotate_left 1
      · intro w hSw; (try dsimp only at hSw); simp only [List.getElem_toArray, List.getElem_cons_succ, List.getElem_cons_zero]; go_simp; try (with_reducible rfl)
      (try simp only [List.getElem_toArray, List.getElem_cons_succ, List.getElem_cons_zero, Act.put, List.setIfInBounds_toArray, List.set_cons_succ, List.set_cons_zero])
      refine wpAnyH_ready (rs := [27]) (by kernel_rfl) (by simp) ?_
      refine AllReadyH.cons rfl (fun K hK => ?_) AllReadyH.nil
      (try simp only [List.getElem_toArray, List.getElem_cons_succ, List.getElem_cons_zero])
      go_simp
      go_at_call 10; refine (CA.out _).mono ?_; rintro e' x3 ⟨rfl, hBA⟩
      (try (go_wp2_with fail))
      refine hK.out _ _ ?_ (fun hHeld => ?_)
      · trivial
      clear hK K
      (try simp only [Act.put, List.setIfInBounds_toArray, List.set_cons_succ, List.set_cons_zero])
      refine wpAnyH_take (i := 28) (v := ?_) rfl (by kernel_rfl) (by kernel_rfl) (by kernel_rfl) (fun _ _ _ h => h) (Or.inl ⟨by rfl, ?_⟩) (by assumption) ?_
      rotate_left 1
      · intro w hSw; (try dsimp only at hSw); simp only [List.getElem_toArray, List.getElem_cons_succ, List.getElem_cons_zero]; go_simp; try (with_reducible rfl)
      (try simp only [List.getElem_toArray, List.getElem_cons_succ, List.getElem_cons_zero, Act.put, List.setIfInBounds_toArray, List.set_cons_succ, List.set_cons_zero])
      refine wpAnyH_take (i := 29) (v := ?_) rfl (by kernel_rfl) (by kernel_rfl) (by kernel_rfl) (fun _ _ _ h => h) (Or.inl ⟨by rfl, ?_⟩) (by assumption) ?_
      rotate_left 1
      · intro w hSw; (try dsimp only at hSw); simp only [List.getElem_toArray, List.getElem_cons_succ, List.getElem_cons_zero]; go_simp; try (with_reducible rfl)
      (try simp only [List.getElem_toArray, List.getElem_cons_succ, List.getElem_cons_zero, Act.put, List.setIfInBounds_toArray, List.set_cons_succ, List.set_cons_zero])
      refine wpAnyH_done (by kernel_rfl) ?_ _
      go_wp2
      go_ret
      exact ⟨rfl, below_more hB hBA⟩
    refine AllReadyH.cons rfl (fun K hK => ?_) AllReadyH.nil
    (try simp only [List.getElem_toArray, List.getElem_cons_succ, List.getElem_cons_zero])
    go_simp
    go_at_call 15; refine (RB.out _).mono ?_; rintro e' x2 ⟨rfl, hB9⟩
    (try (go_wp2_with fail))
    refine hK.out _ _ ?_ (fun hHeld => ?_)
    · trivial
    clear hK K
    (try simp only [Act.put, List.setIfInBounds_toArray, List.set_cons_succ, List.set_cons_zero])
    have hB := below_more hB hB9
    have hR8 := hR8.below hB9
    refine wpAnyH_ready (rs := [12]) (by kernel_rfl) (by simp) ?_
    refine AllReadyH.cons rfl (fun K hK => ?_) AllReadyH.nil
    (try simp only [List.getElem_toArray, List.getElem_cons_succ, List.getElem_cons_zero])
    refine Eq.mpr (if_pos (by first | rfl | simp [Region.wanted, yielded, Act.put])) ?_
    refine wp_cvR _ rfl (by first | rfl | (simp [Act.eval]; done)) (conv8 _ A8 n8 c8 _ hR8) ?_
    refine hK.out _ _ ?_ (fun hHeld => ?_)
    · trivial
    clear hK K
    (try simp only [Act.put, List.setIfInBounds_toArray, List.set_cons_succ, List.set_cons_zero])
    refine wpAnyH_take (i := 15) (v := .bool true) rfl (by kernel_rfl) (by kernel_rfl) (by kernel_rfl) (fun _ _ _ h => h) (Or.inl ⟨by rfl, ?_⟩) (by assumption) ?_
    · intro w hSw; (try dsimp only at hSw); simp only [List.getElem_toArray, List.getElem_cons_succ, List.getElem_cons_zero]; first | (go_simp; done) | (simp [execOp, Act.eval]; done)
    (try simp only [List.getElem_toArray, List.getElem_cons_succ, List.getElem_cons_zero, Act.put, List.setIfInBounds_toArray, List.set_cons_succ, List.set_cons_zero])
    refine wpAnyH_take (i := 16) (v := ?_) rfl (by kernel_rfl) (by kernel_rfl) (by kernel_rfl) (fun _ _ _ h => h) (Or.inl ⟨by rfl, ?_⟩) (by assumption) ?_
    rotate_left 1
    · intro w hSw; (try dsimp only at hSw); simp only [List.getElem_toArray, List.getElem_cons_succ, List.getElem_cons_zero]; go_simp; try (with_reducible rfl)
    (try simp only [List.getElem_toArray, List.getElem_cons_succ, List.getElem_cons_zero, Act.put, List.setIfInBounds_toArray, List.set_cons_succ, List.set_cons_zero])
    refine wpAnyH_take (i := 17) (v := ?_) rfl (by kernel_rfl) (by kernel_rfl) (by kernel_rfl) (fun _ _ _ h => h) (Or.inl ⟨by rfl, ?_⟩) (by assumption) ?_
    rotate_left 1
    · intro w hSw; (try dsimp only at hSw); simp only [List.getElem_toArray, List.getElem_cons_succ, List.getElem_cons_zero]; go_simp; try (with_reducible rfl)
    (try simp only [List.getElem_toArray, List.getElem_cons_succ, List.getElem_cons_zero, Act.put, List.setIfInBounds_toArray, List.set_cons_succ, List.set_cons_zero])
    refine wpAnyH_take (i := 18) (v := ?_) rfl (by kernel_rfl) (by kernel_rfl) (by kernel_rfl) (fun _ _ _ h => h) (Or.inl ⟨by rfl, ?_⟩) (by assumption) ?_
    rotate_left 1
    · intro w hSw; (try dsimp only at hSw); simp only [List.getElem_toArray, List.getElem_cons_succ, List.getElem_cons_zero]; go_simp; try (with_reducible rfl)
    (try simp only [List.getElem_toArray, List.getElem_cons_succ, List.getElem_cons_zero, Act.put, List.setIfInBounds_toArray, List.set_cons_succ, List.set_cons_zero])
    refine wpAnyH_take (i := 19) (v := ?_) rfl (by kernel_rfl) (by kernel_rfl) (by kernel_rfl) (fun _ _ _ h => h) (Or.inl ⟨by rfl, ?_⟩) (by assumption) ?_
    rotate_left 1
    · intro w hSw; (try dsimp only at hSw); simp only [List.getElem_toArray, List.getElem_cons_succ, List.getElem_cons_zero]; go_simp; try (with_reducible rfl)
    (try simp only [List.getElem_toArray, List.getElem_cons_succ, List.getElem_cons_zero, Act.put, List.setIfInBounds_toArray, List.set_cons_succ, List.set_cons_zero])
    refine wpAnyH_take (i := 21) (v := ?_) rfl (by kernel_rfl) (by kernel_rfl) (by kernel_rfl) (fun _ _ _ h => h) (Or.inl ⟨by rfl, ?_⟩) (by assumption) ?_
    rotate_left 1
    · intro w hSw; (try dsimp only at hSw); simp only [List.getElem_toArray, List.getElem_cons_succ, List.getElem_cons_zero]; go_simp; try (with_reducible rfl)
    (try simp only [List.getElem_toArray, List.getElem_cons_succ, List.getElem_cons_zero, Act.put, List.setIfInBounds_toArray, List.set_cons_succ, List.set_cons_zero])
    refine wpAnyH_take (i := 22) (v := .int .i64 (N2 : Int)) rfl (by kernel_rfl) (by kernel_rfl) (by kernel_rfl) (fun _ _ _ h => h) (Or.inl ⟨by rfl, ?_⟩) (by assumption) ?_
    · intro w hSw; (try dsimp only at hSw); simp only [List.getElem_toArray, List.getElem_cons_succ, List.getElem_cons_zero]; first | (go_simp; done) | (simp [execOp, Act.eval, hsz2, go_sem]; done)
    (try simp only [List.getElem_toArray, List.getElem_cons_succ, List.getElem_cons_zero, Act.put, List.setIfInBounds_toArray, List.set_cons_succ, List.set_cons_zero])
    refine wpAnyH_take (i := 23) (v := .int .u64 (N2 : Int)) rfl (by kernel_rfl) (by kernel_rfl) (by kernel_rfl) (fun _ _ _ h => h) (Or.inl ⟨by rfl, ?_⟩) (by assumption) ?_
    · intro w hSw; (try dsimp only at hSw); simp only [List.getElem_toArray, List.getElem_cons_succ, List.getElem_cons_zero]; first | (go_simp; done) | (simp [execOp, Act.eval, u1]; done) | (go_simp; simp [u1]; done)
    (try simp only [List.getElem_toArray, List.getElem_cons_succ, List.getElem_cons_zero, Act.put, List.setIfInBounds_toArray, List.set_cons_succ, List.set_cons_zero])
    refine wpAnyH_ready (rs := [20]) (by kernel_rfl) (by simp) ?_
    refine AllReadyH.cons rfl (fun K hK => ?_) AllReadyH.nil
    (try simp only [List.getElem_toArray, List.getElem_cons_succ, List.getElem_cons_zero])
    go_simp
    go_at_call 16; refine (CS.out _).mono ?_; rintro e' x5 ⟨rfl, hB5⟩
    (try (go_wp2_with fail))
    refine hK.out _ _ ?_ (fun hHeld => ?_)
    · trivial
    clear hK K
    (try simp only [Act.put, List.setIfInBounds_toArray, List.set_cons_succ, List.set_cons_zero])
    have hB := below_more hB hB5
    refine wpAnyH_take (i := 24) (v := .bool true) rfl (by kernel_rfl) (by kernel_rfl) (by kernel_rfl) (fun _ _ _ h => h) (Or.inl ⟨by rfl, ?_⟩) (by assumption) ?_
    · intro w hSw; (try dsimp only at hSw); simp only [List.getElem_toArray, List.getElem_cons_succ, List.getElem_cons_zero]; first | (go_simp; done) | (simp [execOp, Act.eval]; done)
    (try simp only [List.getElem_toArray, List.getElem_cons_succ, List.getElem_cons_zero, Act.put, List.setIfInBounds_toArray, List.set_cons_succ, List.set_cons_zero])
    refine wpAnyH_take (i := 25) (v := ?_) rfl (by kernel_rfl) (by kernel_rfl) (by kernel_rfl) (fun _ _ _ h => h) (Or.inl ⟨by rfl, ?_⟩) (by assumption) ?_
    rotate_left 1
    · intro w hSw; (try dsimp only at hSw); simp only [List.getElem_toArray, List.getElem_cons_succ, List.getElem_cons_zero]; go_simp; try (with_reducible rfl)
    (try simp only [List.getElem_toArray, List.getElem_cons_succ, List.getElem_cons_zero, Act.put, List.setIfInBounds_toArray, List.set_cons_succ, List.set_cons_zero])
    refine wpAnyH_take (i := 26) (v := ?_) rfl (by kernel_rfl) (by kernel_rfl) (by kernel_rfl) (fun _ _ _ h => h) (Or.inl ⟨by rfl, ?_⟩) (by assumption) ?_
    rotate_left 1
    · intro w hSw; (try dsimp only at hSw); simp only [List.getElem_toArray, List.getElem_cons_succ, List.getElem_cons_zero]; go_simp; try (with_reducible rfl)
    (try simp only [List.getElem_toArray, List.getElem_cons_succ, List.getElem_cons_zero, Act.put, List.setIfInBounds_toArray, List.set_cons_succ, List.set_cons_zero])
    refine wpAnyH_ready (rs := [27]) (by kernel_rfl) (by simp) ?_
    refine AllReadyH.cons rfl (fun K hK => ?_) AllReadyH.nil
    (try simp only [List.getElem_toArray, List.getElem_cons_succ, List.getElem_cons_zero])
    go_simp
    go_at_call 10; refine (CA.out _).mono ?_; rintro e' x3 ⟨rfl, hBA⟩
    (try (go_wp2_with fail))
    refine hK.out _ _ ?_ (fun hHeld => ?_)
    · trivial
    clear hK K
    (try simp only [Act.put, List.setIfInBounds_toArray, List.set_cons_succ, List.set_cons_zero])
    refine wpAnyH_take (i := 28) (v := ?_) rfl (by kernel_rfl) (by kernel_rfl) (by kernel_rfl) (fun _ _ _ h => h) (Or.inl ⟨by rfl, ?_⟩) (by assumption) ?_
    rotate_left 1
    · intro w hSw; (try dsimp only at hSw); simp only [List.getElem_toArray, List.getElem_cons_succ, List.getElem_cons_zero]; go_simp; try (with_reducible rfl)
    (try simp only [List.getElem_toArray, List.getElem_cons_succ, List.getElem_cons_zero, Act.put, List.setIfInBounds_toArray, List.set_cons_succ, List.set_cons_zero])
    refine wpAnyH_take (i := 29) (v := ?_) rfl (by kernel_rfl) (by kernel_rfl) (by kernel_rfl) (fun _ _ _ h => h) (Or.inl ⟨by rfl, ?_⟩) (by assumption) ?_
    rotate_left 1
    · intro w hSw; (try dsimp only at hSw); simp only [List.getElem_toArray, List.getElem_cons_succ, List.getElem_cons_zero]; go_simp; try (with_reducible rfl)
    (try simp only [List.getElem_toArray, List.getElem_cons_succ, List.getElem_cons_zero, Act.put, List.setIfInBounds_toArray, List.set_cons_succ, List.set_cons_zero])
    refine wpAnyH_done (by kernel_rfl) ?_ _
    go_wp2
    go_ret
    exact ⟨rfl, below_more hB hBA⟩
set_option maxRecDepth 100000 in
set_option maxHeartbeats 4000000 in
theorem riceSizes_walk {BW : World → Nat → (Nat → Prop) → List Bool → Prop} {BR : World → Nat → Nat → (Nat → Prop) → List Bool → Prop} (K : BitOk BW BR) (Q : RiceOk BW BR) (p : Int) (n : Nat) (hn : n < 18446744073709551616) (hp0 : -9223372036854775808 ≤ p) (hp1 : p ≤ 9223372036854775807) (w : World) : Calls Try.prog 4 #[.int .i64 p, .int .u64 (n : Int)] w (Ret w (.bool true)) := by
  have CA : Hid (∀ W, Calls Try.prog 10 #[] W (Ret W (.bool true))) := Lib.hid fun W => awake12_calls K Q W
  obtain ⟨q, hq⟩ : ∃ z, z = rq p n := ⟨_, rfl⟩
  obtain ⟨k, hk⟩ : ∃ z, z = hld p 32 := ⟨_, rfl⟩
  have hk3 : k ≤ 32 := by rw [hk]; exact hld_le _ _
  have hqn : q < 18446744073709551616 := by rw [hq]; exact Nat.lt_of_le_of_lt (rq_le _ _) hn
  obtain ⟨k1, hk1⟩ : ∃ z, z = k + 1 := ⟨_, rfl⟩
  obtain ⟨M, hM⟩ : ∃ z, z = 18446744073709551615 - k1 := ⟨_, rfl⟩
  have CO : Hid (∀ W, Calls Try.prog 9 #[.int .i64 p, .int .u64 (n : Int)] W (Ret W (.int .u64 (q : Int)))) := Lib.hid fun W => by rw [hq]; exact xones_calls p n hn W
  have CH : Hid (∀ W, Calls Try.prog 17 #[.int .i64 p] W (Ret W (.int .i64 (k : Int)))) := Lib.hid fun W => by rw [hk]; exact xheld_calls p W
  have CS0 := fun W => Q.size W p n hn hp0 hp1
  have hrs : rsz p n = if 18446744073709551615 < q + k1 then 18446744073709551615 else q + k1 := by unfold rsz; rw [hq, hk1, hk]
  rw [hrs] at CS0
  have u1 : IntKind.u64.wrap (k : Int) = (k : Int) := by rw [IntKind.wrap_u64]; omega
  have u2 : IntKind.u64.wrap ((k : Int) + 1) = (k1 : Int) := by rw [IntKind.wrap_u64]; omega
  have u3 : IntKind.u64.wrap (18446744073709551615 - (k1 : Int)) = (M : Int) := by rw [IntKind.wrap_u64]; omega
  clear K Q hq hk hrs
  by_cases hbig : 18446744073709551615 < q + k1
  · rw [if_pos hbig] at CS0
    have CS : Hid (∀ W, Calls Try.prog 16 #[.int .i64 p, .int .u64 (n : Int)] W (Ret W (.int .u64 18446744073709551615))) := Lib.hid CS0
    have g1 : (M : Int) < (q : Int) := by omega
    clear CS0 hM hk1 hbig
    go_enter Try.func4, Try.ntmps4
    go_wp2_with (first
      | (go_at_call 9; refine (CO.out _).mono ?_; rintro e' w2 ⟨rfl, hB2⟩)
      | (go_at_call 17; refine (CH.out _).mono ?_; rintro e' w3 ⟨rfl, hB3⟩; have hB3 := below_more hB2 hB3)
      | (go_at_call 16; refine (CS.out _).mono ?_; rintro e' w4 ⟨rfl, hB4⟩; have hB4 := below_more hB3 hB4)
      | (go_at_call 10; refine (CA.out _).mono ?_; rintro e' y9 ⟨rfl, hB9⟩))
    go_ret
    exact ⟨rfl, below_more hB4 hB9⟩
  · rw [if_neg hbig] at CS0
    obtain ⟨T, hT⟩ : ∃ z, z = q + k1 := ⟨_, rfl⟩
    rw [← hT] at CS0
    have CS : Hid (∀ W, Calls Try.prog 16 #[.int .i64 p, .int .u64 (n : Int)] W (Ret W (.int .u64 (T : Int)))) := Lib.hid CS0
    have g1 : ¬ (M : Int) < (q : Int) := by omega
    have u4 : IntKind.u64.wrap ((q : Int) + (k1 : Int)) = (T : Int) := by rw [IntKind.wrap_u64]; omega
    clear CS0 hM hk1 hbig hT
    go_enter Try.func4, Try.ntmps4
    go_wp2_with (first
      | (go_at_call 9; refine (CO.out _).mono ?_; rintro e' w2 ⟨rfl, hB2⟩)
      | (go_at_call 17; refine (CH.out _).mono ?_; rintro e' w3 ⟨rfl, hB3⟩; have hB3 := below_more hB2 hB3)
      | (go_at_call 16; refine (CS.out _).mono ?_; rintro e' w4 ⟨rfl, hB4⟩; have hB4 := below_more hB3 hB4)
      | (go_at_call 10; refine (CA.out _).mono ?_; rintro e' y9 ⟨rfl, hB9⟩))
    go_ret
    exact ⟨rfl, below_more hB4 hB9⟩
end Go.Proofs.Ytkmedbdaobficaa
