/- Merged texts: TxnE. -/
import Derived.Test.YthkkllcpogagiaaDoorMas
import Derived.Deep.RegionHeld3
import Derived.Deep.CutRange
import Derived.Deep.DeepCutAuto
/- The document's Bytes of layer 14. -/
namespace Go.Proofs.YthkkllcpogagiaaDoor
open Go.RowKit
set_option linter.unusedVariables false
set_option linter.unusedSimpArgs false

set_option maxRecDepth 100000 in
set_option maxHeartbeats 8000000 in
theorem tbytes_calls (s : Nat) (A : Option Addr) (n c : Nat) (O : List (Nat × List UInt8)) (w : World) (hA : RdG w 2 A n (O.map DO)) (hn : n ≤ 1000) (hs64 : s < 18446744073709551616) (h64 : ∀ o ∈ O, o.1 < 18446744073709551616) (hy : ∀ o ∈ O, o.2.length ≤ 1000) :
    Calls Tryd.prog 7 #[.agg #[.int .u64 (s : Int), .slice A n c]] w (Ret w (.tuple #[.string ⟨(tbB s O).toArray⟩, .int .i64 (tbE s O : Int)])) := by
  have hln : O.length = n := by have := hA.len; simpa using this
  have hB0 : Below w.heap.size w (w.alloc (.cells #[.int .u64 (s : Int), .slice A n c] 36)) := below_al (Below.refl _ w) _
  by_cases h8 : 8 < n
  · have h8' : (8 : Int) < (n : Int) := by omega
    have HE4 : Hid (tbE s O = 4 ∧ tbB s O = []) := Lib.hid (by
      have e4 : tbE s O = 4 := by unfold tbE; rw [if_pos (by omega)]
      exact ⟨e4, by unfold tbB; rw [if_neg (by omega)]⟩)
    clear hA h64 hy hln
    go_enter Tryd.func7, Tryd.ntmps7
    go_wp2
    go_ret2
    rw [HE4.out.1, HE4.out.2]
    exact ⟨rfl, hB0⟩
  have h8' : ¬ (8 : Int) < (n : Int) := by omega
  have k1 : Blk (w.alloc (.cells #[.int .u64 (s : Int), .slice A n c] 36)) w.heap.size [.int .u64 (s : Int), .slice A n c] 36 := Blk.new w _ _
  obtain ⟨W0, hW0⟩ : ∃ z, z = w.alloc (.cells #[.int .u64 (s : Int), .slice A n c] 36) := ⟨_, rfl⟩
  obtain ⟨g1, hg1⟩ : ∃ z, z = w.heap.size := ⟨_, rfl⟩
  rw [← hW0, ← hg1] at k1
  rw [← hW0] at hB0
  have c11 : W0.cell? ⟨g1, 1, none⟩ = some (.slice A n c) := k1.cell 1
  have HW0 := Lib.hid hW0
  have HG1 := Lib.hid hg1
  obtain ⟨S1, hS1⟩ : ∃ z : ByteArray, z = ⟨(little s 8).toArray⟩ := ⟨_, rfl⟩
  obtain ⟨S2, hS2⟩ : ∃ z : ByteArray, z = ⟨([1] ++ little s 8).toArray⟩ := ⟨_, rfl⟩
  obtain ⟨S3, hS3⟩ : ∃ z : ByteArray, z = ⟨(cnt n).toArray⟩ := ⟨_, rfl⟩
  obtain ⟨H0, hH0⟩ : ∃ z, z = [1] ++ (little s 8 ++ cnt O.length) := ⟨_, rfl⟩
  obtain ⟨S4, hS4⟩ : ∃ z : ByteArray, z = ⟨H0.toArray⟩ := ⟨_, rfl⟩
  have CN1 : Hid (∀ W, Calls Tryd.prog 19 #[.int .u64 (s : Int), .int .i64 8] W (Ret W (.string S1))) := Lib.hid fun W => by rw [hS1]; exact nnum_calls s 8 8 rfl hs64 W
  have CV1 : Hid (∀ W, Calls Tryd.prog 20 #[.int .u64 (n : Int)] W (Ret W (.string S3))) := Lib.hid fun W => by rw [hS3]; exact nvar_calls n (by omega) W
  have AD1 : ∀ W, (Op.stringOp .add ⟨#[1]⟩ S1).run Tryd.prog W = .ok (.string S2) W := fun W => by
    rw [hS1, hS2]
    exact bstr_add [1] _ (by simp) (by simp) W
  have AD2 : ∀ W, (Op.stringOp .add S2 S3).run Tryd.prog W = .ok (.string S4) W := fun W => by
    rw [hS2, hS3, hS4, hH0, hln, ← List.append_assoc]
    exact bstr_add _ _ (by simp) (by rw [cnt_len]; have := more_le n; omega) W
  have hwn : IntKind.u64.wrap (n : Int) = (n : Int) := by rw [IntKind.wrap_u64]; omega
  have HS4 := Lib.hid hS4
  have HH0 := Lib.hid hH0
  have HA := Lib.hid hA
  have HL := Lib.hid hln
  have H64 := Lib.hid h64
  have HY := Lib.hid hy
  have HB0 := Lib.hid hB0
  clear hA hln h64 hy hS1 hS2 hS3 hS4 hH0 hW0 hg1 hB0
  go_enter Tryd.func7, Tryd.ntmps7
  go_upto_region 1 with fail
  rw [← HW0.out, ← HG1.out]
  go_upto_region 3 with fail
  clear c11
  have k1 := k1.drew
  have hB := HB0.out.drew
  refine wp_region_held_drew (S := fun W => W.cell? ⟨g1, 0, none⟩ = some (.int .u64 (s : Int)) ∧ W.cell? ⟨g1, 1, none⟩ = some (.slice A n c)) (by kernel_rfl) ?_ (fun hHeld => ?_)
  · exact ⟨k1.cell 0, k1.cell 1⟩
  refine wpAnyH_take (i := 0) (v := ?_) rfl (by kernel_rfl) (by kernel_rfl) (by kernel_rfl) (fun _ _ _ h => h) (Or.inl ⟨by rfl, ?_⟩) (by assumption) ?_
  rotate_left 1
  · intro w hSw; (try dsimp only at hSw); simp only [List.getElem_toArray, List.getElem_cons_succ, List.getElem_cons_zero]; go_simp; try (with_reducible rfl)
  (try simp only [List.getElem_toArray, List.getElem_cons_succ, List.getElem_cons_zero, Act.put, List.setIfInBounds_toArray, List.set_cons_succ, List.set_cons_zero])
  refine wpAnyH_take (i := 1) (v := .int .u64 (s : Int)) rfl (by kernel_rfl) (by kernel_rfl) (by kernel_rfl) (fun _ _ _ h => h) (Or.inl ⟨by rfl, ?_⟩) (by assumption) ?_
  · intro w hSw; (try dsimp only at hSw); simp only [List.getElem_toArray, List.getElem_cons_succ, List.getElem_cons_zero]; first | (go_simp; done) | (simp [execOp, Act.eval, hSw.1]; done)
  (try simp only [List.getElem_toArray, List.getElem_cons_succ, List.getElem_cons_zero, Act.put, List.setIfInBounds_toArray, List.set_cons_succ, List.set_cons_zero])
  refine wpAnyH_take (i := 4) (v := ?_) rfl (by kernel_rfl) (by kernel_rfl) (by kernel_rfl) (fun _ _ _ h => h) (Or.inl ⟨by rfl, ?_⟩) (by assumption) ?_
  rotate_left 1
  · intro w hSw; (try dsimp only at hSw); simp only [List.getElem_toArray, List.getElem_cons_succ, List.getElem_cons_zero]; go_simp; try (with_reducible rfl)
  (try simp only [List.getElem_toArray, List.getElem_cons_succ, List.getElem_cons_zero, Act.put, List.setIfInBounds_toArray, List.set_cons_succ, List.set_cons_zero])
  refine wpAnyH_take (i := 5) (v := .slice A n c) rfl (by kernel_rfl) (by kernel_rfl) (by kernel_rfl) (fun _ _ _ h => h) (Or.inl ⟨by rfl, ?_⟩) (by assumption) ?_
  · intro w hSw; (try dsimp only at hSw); simp only [List.getElem_toArray, List.getElem_cons_succ, List.getElem_cons_zero]; first | (go_simp; done) | (simp [execOp, Act.eval, hSw.2]; done)
  (try simp only [List.getElem_toArray, List.getElem_cons_succ, List.getElem_cons_zero, Act.put, List.setIfInBounds_toArray, List.set_cons_succ, List.set_cons_zero])
  refine wpAnyH_take (i := 6) (v := ?_) rfl (by kernel_rfl) (by kernel_rfl) (by kernel_rfl) (fun _ _ _ h => h) (Or.inl ⟨by rfl, ?_⟩) (by assumption) ?_
  rotate_left 1
  · intro w hSw; (try dsimp only at hSw); simp only [List.getElem_toArray, List.getElem_cons_succ, List.getElem_cons_zero]; go_simp; try (with_reducible rfl)
  (try simp only [List.getElem_toArray, List.getElem_cons_succ, List.getElem_cons_zero, Act.put, List.setIfInBounds_toArray, List.set_cons_succ, List.set_cons_zero])
  refine wpAnyH_take (i := 7) (v := .int .u64 (n : Int)) rfl (by kernel_rfl) (by kernel_rfl) (by kernel_rfl) (fun _ _ _ h => h) (Or.inl ⟨by rfl, ?_⟩) (by assumption) ?_
  · intro w hSw; (try dsimp only at hSw); simp only [List.getElem_toArray, List.getElem_cons_succ, List.getElem_cons_zero]; first | (go_simp; done) | (simp [execOp, Act.eval, hwn]; done)
  (try simp only [List.getElem_toArray, List.getElem_cons_succ, List.getElem_cons_zero, Act.put, List.setIfInBounds_toArray, List.set_cons_succ, List.set_cons_zero])
  refine wpAnyH_ready (rs := [2]) (by kernel_rfl) (by simp) ?_
  refine AllReadyH.cons rfl (fun K hK => ?_) AllReadyH.nil
  (try simp only [List.getElem_toArray, List.getElem_cons_succ, List.getElem_cons_zero])
  go_simp
  go_at_call 19; refine (CN1.out _).mono ?_; rintro e' x1 ⟨rfl, hB1⟩
  (try (go_wp2_with fail))
  refine hK.out _ _ ?_ (fun hHeld => ?_)
  · exact ⟨(k1.below hB1 k1.lt).cell 0, (k1.below hB1 k1.lt).cell 1⟩
  clear hK K
  (try simp only [Act.put, List.setIfInBounds_toArray, List.set_cons_succ, List.set_cons_zero])
  have k1 := k1.below hB1 k1.lt
  have hB := below_more hB hB1
  refine wpAnyH_take (i := 3) (v := .string S2) rfl (by kernel_rfl) (by kernel_rfl) (by kernel_rfl) (fun _ _ _ h => h) (Or.inl ⟨by rfl, ?_⟩) (by assumption) ?_
  · intro w hSw; (try dsimp only at hSw); simp only [List.getElem_toArray, List.getElem_cons_succ, List.getElem_cons_zero]; first | (go_simp; done) | (simp [execOp, Act.eval, AD1]; done)
  (try simp only [List.getElem_toArray, List.getElem_cons_succ, List.getElem_cons_zero, Act.put, List.setIfInBounds_toArray, List.set_cons_succ, List.set_cons_zero])
  refine wpAnyH_ready (rs := [8]) (by kernel_rfl) (by simp) ?_
  refine AllReadyH.cons rfl (fun K hK => ?_) AllReadyH.nil
  (try simp only [List.getElem_toArray, List.getElem_cons_succ, List.getElem_cons_zero])
  go_simp
  go_at_call 20; refine (CV1.out _).mono ?_; rintro e' x2 ⟨rfl, hB2⟩
  (try (go_wp2_with fail))
  refine hK.out _ _ ?_ (fun hHeld => ?_)
  · exact ⟨(k1.below hB2 k1.lt).cell 0, (k1.below hB2 k1.lt).cell 1⟩
  clear hK K
  (try simp only [Act.put, List.setIfInBounds_toArray, List.set_cons_succ, List.set_cons_zero])
  have k1 := k1.below hB2 k1.lt
  have hB := below_more hB hB2
  refine wpAnyH_take (i := 9) (v := .string S4) rfl (by kernel_rfl) (by kernel_rfl) (by kernel_rfl) (fun _ _ _ h => h) (Or.inl ⟨by rfl, ?_⟩) (by assumption) ?_
  · intro w hSw; (try dsimp only at hSw); simp only [List.getElem_toArray, List.getElem_cons_succ, List.getElem_cons_zero]; first | (go_simp; done) | (simp [execOp, Act.eval, AD2]; done)
  (try simp only [List.getElem_toArray, List.getElem_cons_succ, List.getElem_cons_zero, Act.put, List.setIfInBounds_toArray, List.set_cons_succ, List.set_cons_zero])
  refine wpAnyH_take (i := 10) (v := ?_) rfl (by kernel_rfl) (by kernel_rfl) (by kernel_rfl) (fun _ _ _ h => h) (Or.inl ⟨by rfl, ?_⟩) (by assumption) ?_
  rotate_left 1
  · intro w hSw; (try dsimp only at hSw); simp only [List.getElem_toArray, List.getElem_cons_succ, List.getElem_cons_zero]; go_simp; try (with_reducible rfl)
  (try simp only [List.getElem_toArray, List.getElem_cons_succ, List.getElem_cons_zero, Act.put, List.setIfInBounds_toArray, List.set_cons_succ, List.set_cons_zero])
  refine wpAnyH_done (by kernel_rfl) ?_ _
  have k1 := k1
  have HB3 := Lib.hid hB
  have c11 : x2.cell? ⟨g1, 1, none⟩ = some (.slice A n c) := k1.cell 1
  clear hB hB1 hB2 AD1 AD2 CN1 CV1 hwn k1
  go_upto_region 5 with fail
  go_loopw [24, 4] (fun cv ov wr => ∃ (i : Nat) (Z : ByteArray), i ≤ n ∧ cv = .int .i64 (i : Int) ∧ ov = .string Z ∧ Z = ⟨(H0 ++ osenc (O.take i)).toArray⟩ ∧ (∀ j (hj : j < O.length), j < i → O[j].2.length ≤ 64) ∧ Below w.heap.size w wr) (fun cv _ _ => n - (intOf cv).toNat)
  case atStart => exact ⟨0, S4, Nat.zero_le _, rfl, rfl, by rw [HS4.out, List.take_zero, osenc_nil, List.append_nil], fun j _ hj => absurd hj (by omega), HB3.out⟩
  case round =>
    obtain ⟨i, Z, hin, rfl, rfl, hZ, hall, hbel⟩ := hrel
    by_cases hlt : i < n
    · have hlt' : (i : Int) < (n : Int) := by omega
      have hio : i < O.length := by rw [HL.out]; exact hlt
      obtain ⟨b1, o1, hl1, rfl, hb1, r1⟩ := (HA.out.below hbel).at_ hlt
      rw [List.getElem_map] at r1
      have hv64 := H64.out O[i] (List.getElem_mem hio)
      have hyl := HY.out O[i] (List.getElem_mem hio)
      obtain ⟨v, hv⟩ : ∃ z, z = O[i].1 := ⟨_, rfl⟩
      obtain ⟨y, hy⟩ : ∃ z, z = O[i].2 := ⟨_, rfl⟩
      have HOI : Hid (O[i] = (v, y)) := Lib.hid (by rw [hv, hy])
      obtain ⟨Y, hY⟩ : ∃ z : ByteArray, z = ⟨y.toArray⟩ := ⟨_, rfl⟩
      obtain ⟨q, hq⟩ : ∃ z, z = y.length := ⟨_, rfl⟩
      have hqs : Y.size = q := by rw [hY, bstr_size, hq]
      have HYY := Lib.hid hY
      have HZZ := Lib.hid hZ
      have hD : DO O[i] = [.int .u64 (v : Int), .string Y] := by rw [hY, hy, hv]; rfl
      rw [hD] at r1
      rw [← hv] at hv64
      rw [← hy] at hyl
      have sc0 : wr.cell? ⟨b1, o1 + i * 2, none⟩ = some (.int .u64 (v : Int)) := r1 0 _ rfl
      have sc1 : wr.cell? ⟨b1, o1 + i * 2 + 1, none⟩ = some (.string Y) := r1 1 _ rfl
      have HBL := Lib.hid hbel
      clear r1 hD hl1 hb1 hbel hv hy hY hZ
      go_upto_region 7 with fail
      have hba : Below wr.heap.size wr (wr.alloc (.cells #[.int .u64 (v : Int), .string Y] 57)) := (Below.refl _ wr).alloc (Nat.le_refl _) _
      have k6 : Blk (wr.alloc (.cells #[.int .u64 (v : Int), .string Y] 57)) wr.heap.size [.int .u64 (v : Int), .string Y] 57 := Blk.new wr _ _
      obtain ⟨w6, hw6⟩ : ∃ z, z = wr.alloc (.cells #[.int .u64 (v : Int), .string Y] 57) := ⟨_, rfl⟩
      obtain ⟨g6, hg6⟩ : ∃ z, z = wr.heap.size := ⟨_, rfl⟩
      rw [← hw6, ← hg6] at k6
      rw [← hw6] at hba
      rw [← hw6, ← hg6]
      have s60 : w6.cell? ⟨g6, 0, none⟩ = some (.int .u64 (v : Int)) := k6.cell 0
      have s61 : w6.cell? ⟨g6, 1, none⟩ = some (.string Y) := k6.cell 1
      have HB6 := Lib.hid (below_more HBL.out hba)
      clear hba hw6 hg6 sc0 sc1
      by_cases hq64 : 64 < q
      · have hq64' : (64 : Int) < (q : Int) := by omega
        have hlong : long O = true := by
          unfold long
          rw [List.any_eq_true]
          exact ⟨O[i], List.getElem_mem hio, by rw [HOI.out]; simp; omega⟩
        have HE4 : Hid (tbE s O = 4 ∧ tbB s O = []) := Lib.hid (by
          have e4 : tbE s O = 4 := by unfold tbE; rw [if_neg (by rw [HL.out]; omega), if_pos hlong]
          exact ⟨e4, by unfold tbB; rw [if_neg (by omega)]⟩)
        clear hall hq hlong k6
        go_wp2
        go_ret2
        rw [HE4.out.1, HE4.out.2]
        exact ⟨rfl, HB6.out⟩
      · have hq64' : ¬ (64 : Int) < (q : Int) := by omega
        obtain ⟨U0, hU0⟩ : ∃ z : ByteArray, z = ⟨(little v 8).toArray⟩ := ⟨_, rfl⟩
        obtain ⟨U1, hU1⟩ : ∃ z : ByteArray, z = ⟨(cnt y.length ++ y).toArray⟩ := ⟨_, rfl⟩
        obtain ⟨U2, hU2⟩ : ∃ z : ByteArray, z = ⟨(oenc (v, y)).toArray⟩ := ⟨_, rfl⟩
        obtain ⟨Z2, hZ2⟩ : ∃ z : ByteArray, z = ⟨(H0 ++ osenc (O.take (i + 1))).toArray⟩ := ⟨_, rfl⟩
        have htk : osenc (O.take (i + 1)) = osenc (O.take i) ++ oenc (v, y) := by rw [List.take_succ_eq_append_getElem hio, osenc_snoc, HOI.out]
        have CN2 : Hid (∀ W, Calls Tryd.prog 19 #[.int .u64 (v : Int), .int .i64 8] W (Ret W (.string U0))) := Lib.hid fun W => by rw [hU0]; exact nnum_calls v 8 8 rfl hv64 W
        have CT2 : Hid (∀ W, Calls Tryd.prog 21 #[.string Y] W (Ret W (.string U1))) := Lib.hid fun W => by rw [hU1, HYY.out]; exact ntext_calls y (by omega) W
        have AD3 : ∀ W, (Op.stringOp .add U0 U1).run Tryd.prog W = .ok (.string U2) W := fun W => by
          rw [hU0, hU1, hU2]
          exact bstr_add _ _ (by simp) (by rw [List.length_append, cnt_len]; have := more_le y.length; omega) W
        have hol : ∀ j, j ≤ n → (osenc (O.take j)).length ≤ j * 2000 := fun j => by
          induction j with
          | zero => intro _; simp [osenc]
          | succ j ih =>
            intro hj
            have h1 := ih (by omega)
            have hjo : j < O.length := by rw [HL.out]; omega
            have h2 := HY.out O[j] (List.getElem_mem hjo)
            have h3 := more_le O[j].2.length
            rw [List.take_succ_eq_append_getElem hjo, osenc_snoc, List.length_append]
            unfold oenc
            rw [List.length_append, List.length_append, little_len, cnt_len]
            omega
        have hol1 := hol i (by omega)
        have AD4 : ∀ W, (Op.stringOp .add Z U2).run Tryd.prog W = .ok (.string Z2) W := fun W => by
          rw [HZZ.out, hU2, hZ2, htk, ← List.append_assoc]
          refine bstr_add _ _ ?_ ?_ W
          · rw [List.length_append, HH0.out, List.length_append, List.length_append, little_len, cnt_len]
            have := more_le O.length
            simp
            omega
          · unfold oenc
            rw [List.length_append, List.length_append, little_len, cnt_len]
            have := more_le y.length
            simp
            omega
        have HZ2 := Lib.hid hZ2
        have HL2 : Hid (∀ j (hj : j < O.length), j < i + 1 → O[j].2.length ≤ 64) := Lib.hid fun j hj hji => by
          rcases Nat.lt_or_ge j i with h | h
          · exact hall j hj h
          · have e : j = i := by omega
            subst e
            rw [HOI.out]
            show y.length ≤ 64
            omega
        clear hall hq hU0 hU1 hU2 hZ2 htk hol hol1 hyl
        go_upto_region 9 with fail
        clear s60 s61
        have k6 := k6.drew
        have hB := HB6.out.drew
        refine wp_region_held_drew (S := fun W => W.cell? ⟨g6, 0, none⟩ = some (.int .u64 (v : Int)) ∧ W.cell? ⟨g6, 1, none⟩ = some (.string Y)) (by kernel_rfl) ?_ (fun hHeld => ?_)
        · exact ⟨k6.cell 0, k6.cell 1⟩
        refine wpAnyH_take (i := 0) (v := ?_) rfl (by kernel_rfl) (by kernel_rfl) (by kernel_rfl) (fun _ _ _ h => h) (Or.inl ⟨by rfl, ?_⟩) (by assumption) ?_
        rotate_left 1
        · intro w hSw; (try dsimp only at hSw); simp only [List.getElem_toArray, List.getElem_cons_succ, List.getElem_cons_zero]; go_simp; try (with_reducible rfl)
        (try simp only [List.getElem_toArray, List.getElem_cons_succ, List.getElem_cons_zero, Act.put, List.setIfInBounds_toArray, List.set_cons_succ, List.set_cons_zero])
        refine wpAnyH_take (i := 1) (v := ?_) rfl (by kernel_rfl) (by kernel_rfl) (by kernel_rfl) (fun _ _ _ h => h) (Or.inl ⟨by rfl, ?_⟩) (by assumption) ?_
        rotate_left 1
        · intro w hSw; (try dsimp only at hSw); simp only [List.getElem_toArray, List.getElem_cons_succ, List.getElem_cons_zero]; go_simp; try (with_reducible rfl)
        (try simp only [List.getElem_toArray, List.getElem_cons_succ, List.getElem_cons_zero, Act.put, List.setIfInBounds_toArray, List.set_cons_succ, List.set_cons_zero])
        refine wpAnyH_take (i := 2) (v := .int .u64 (v : Int)) rfl (by kernel_rfl) (by kernel_rfl) (by kernel_rfl) (fun _ _ _ h => h) (Or.inl ⟨by rfl, ?_⟩) (by assumption) ?_
        · intro w hSw; (try dsimp only at hSw); simp only [List.getElem_toArray, List.getElem_cons_succ, List.getElem_cons_zero]; first | (go_simp; done) | (simp [execOp, Act.eval, hSw.1]; done)
        (try simp only [List.getElem_toArray, List.getElem_cons_succ, List.getElem_cons_zero, Act.put, List.setIfInBounds_toArray, List.set_cons_succ, List.set_cons_zero])
        refine wpAnyH_take (i := 4) (v := ?_) rfl (by kernel_rfl) (by kernel_rfl) (by kernel_rfl) (fun _ _ _ h => h) (Or.inl ⟨by rfl, ?_⟩) (by assumption) ?_
        rotate_left 1
        · intro w hSw; (try dsimp only at hSw); simp only [List.getElem_toArray, List.getElem_cons_succ, List.getElem_cons_zero]; go_simp; try (with_reducible rfl)
        (try simp only [List.getElem_toArray, List.getElem_cons_succ, List.getElem_cons_zero, Act.put, List.setIfInBounds_toArray, List.set_cons_succ, List.set_cons_zero])
        refine wpAnyH_take (i := 5) (v := .string Y) rfl (by kernel_rfl) (by kernel_rfl) (by kernel_rfl) (fun _ _ _ h => h) (Or.inl ⟨by rfl, ?_⟩) (by assumption) ?_
        · intro w hSw; (try dsimp only at hSw); simp only [List.getElem_toArray, List.getElem_cons_succ, List.getElem_cons_zero]; first | (go_simp; done) | (simp [execOp, Act.eval, hSw.2]; done)
        (try simp only [List.getElem_toArray, List.getElem_cons_succ, List.getElem_cons_zero, Act.put, List.setIfInBounds_toArray, List.set_cons_succ, List.set_cons_zero])
        refine wpAnyH_ready (rs := [3]) (by kernel_rfl) (by simp) ?_
        refine AllReadyH.cons rfl (fun K hK => ?_) AllReadyH.nil
        (try simp only [List.getElem_toArray, List.getElem_cons_succ, List.getElem_cons_zero])
        go_simp
        go_at_call 19; refine (CN2.out _).mono ?_; rintro e' x1 ⟨rfl, hB1⟩
        (try (go_wp2_with fail))
        refine hK.out _ _ ?_ (fun hHeld => ?_)
        · exact ⟨(k6.below hB1 k6.lt).cell 0, (k6.below hB1 k6.lt).cell 1⟩
        clear hK K
        (try simp only [Act.put, List.setIfInBounds_toArray, List.set_cons_succ, List.set_cons_zero])
        have k6 := k6.below hB1 k6.lt
        have hB := below_more hB hB1
        refine wpAnyH_ready (rs := [6]) (by kernel_rfl) (by simp) ?_
        refine AllReadyH.cons rfl (fun K hK => ?_) AllReadyH.nil
        (try simp only [List.getElem_toArray, List.getElem_cons_succ, List.getElem_cons_zero])
        go_simp
        go_at_call 21; refine (CT2.out _).mono ?_; rintro e' x2 ⟨rfl, hB2⟩
        (try (go_wp2_with fail))
        refine hK.out _ _ ?_ (fun hHeld => ?_)
        · exact ⟨(k6.below hB2 k6.lt).cell 0, (k6.below hB2 k6.lt).cell 1⟩
        clear hK K
        (try simp only [Act.put, List.setIfInBounds_toArray, List.set_cons_succ, List.set_cons_zero])
        have k6 := k6.below hB2 k6.lt
        have hB := below_more hB hB2
        refine wpAnyH_take (i := 7) (v := .string U2) rfl (by kernel_rfl) (by kernel_rfl) (by kernel_rfl) (fun _ _ _ h => h) (Or.inl ⟨by rfl, ?_⟩) (by assumption) ?_
        · intro w hSw; (try dsimp only at hSw); simp only [List.getElem_toArray, List.getElem_cons_succ, List.getElem_cons_zero]; first | (go_simp; done) | (simp [execOp, Act.eval, AD3]; done)
        (try simp only [List.getElem_toArray, List.getElem_cons_succ, List.getElem_cons_zero, Act.put, List.setIfInBounds_toArray, List.set_cons_succ, List.set_cons_zero])
        refine wpAnyH_take (i := 8) (v := .string Z2) rfl (by kernel_rfl) (by kernel_rfl) (by kernel_rfl) (fun _ _ _ h => h) (Or.inl ⟨by rfl, ?_⟩) (by assumption) ?_
        · intro w hSw; (try dsimp only at hSw); simp only [List.getElem_toArray, List.getElem_cons_succ, List.getElem_cons_zero]; first | (go_simp; done) | (simp [execOp, Act.eval, AD4]; done)
        (try simp only [List.getElem_toArray, List.getElem_cons_succ, List.getElem_cons_zero, Act.put, List.setIfInBounds_toArray, List.set_cons_succ, List.set_cons_zero])
        refine wpAnyH_take (i := 9) (v := ?_) rfl (by kernel_rfl) (by kernel_rfl) (by kernel_rfl) (fun _ _ _ h => h) (Or.inl ⟨by rfl, ?_⟩) (by assumption) ?_
        rotate_left 1
        · intro w hSw; (try dsimp only at hSw); simp only [List.getElem_toArray, List.getElem_cons_succ, List.getElem_cons_zero]; go_simp; try (with_reducible rfl)
        (try simp only [List.getElem_toArray, List.getElem_cons_succ, List.getElem_cons_zero, Act.put, List.setIfInBounds_toArray, List.set_cons_succ, List.set_cons_zero])
        refine wpAnyH_done (by kernel_rfl) ?_ _
        go_wp2
        go_roundw
        case rel => exact ⟨i + 1, Z2, by omega, by go_num, rfl, HZ2.out, HL2.out, hB⟩
        case measure => simp [intOf]; omega
    · have hlt' : ¬ (i : Int) < (n : Int) := by omega
      have e : i = n := by omega
      subst e
      rw [List.take_of_length_le (by rw [HL.out]; omega)] at hZ
      have hln2 : long O = false := long_of fun o ho => by
        obtain ⟨j, hj, rfl⟩ := List.getElem_of_mem ho
        exact hall j hj (by rw [← HL.out]; exact hj)
      have hten : H0 ++ osenc O = tenc s O := by unfold tenc; rw [HH0.out, List.append_assoc ([1] : List UInt8)]
      rw [hten] at hZ
      obtain ⟨q, hq⟩ : ∃ z, z = (tenc s O).length := ⟨_, rfl⟩
      have hqs : Z.size = q := by rw [hZ, bstr_size, hq]
      have HBB := Lib.hid hbel
      by_cases hq64 : q = 64
      · have hq64' : (q : Int) = 64 := by omega
        have HE3 : Hid (tbE s O = 3 ∧ tbB s O = []) := Lib.hid (by
          have e3 : tbE s O = 3 := by unfold tbE; rw [if_neg (by rw [HL.out]; omega), if_neg (by rw [hln2]; simp), if_pos (by omega)]
          exact ⟨e3, by unfold tbB; rw [if_neg (by omega)]⟩)
        clear hZ hall hln2 hten hq hbel
        go_wp2
        go_ret2
        rw [HE3.out.1, HE3.out.2]
        exact ⟨rfl, HBB.out⟩
      · have hq64' : ¬ (q : Int) = 64 := by omega
        have HE0 : Hid (tbE s O = 0 ∧ Z = ⟨(tbB s O).toArray⟩) := Lib.hid (by
          have e0 : tbE s O = 0 := by unfold tbE; rw [if_neg (by rw [HL.out]; omega), if_neg (by rw [hln2]; simp), if_neg (by omega)]
          exact ⟨e0, by unfold tbB; rw [if_pos e0, hZ]⟩)
        clear hZ hall hln2 hten hq hbel
        go_wp2
        go_ret2
        rw [HE0.out.1, ← HE0.out.2]
        exact ⟨rfl, HBB.out⟩
end Go.Proofs.YthkkllcpogagiaaDoor
