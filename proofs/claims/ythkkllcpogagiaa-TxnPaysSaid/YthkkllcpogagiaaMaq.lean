/- Merged texts: TxnB TxnC. -/
import Derived.Test.YthkkllcpogagiaaMap
import Derived.Test.YthkkllcpogagiaaMae
/- The document's Same, of one and the same, and its Sum of layer 14. -/
namespace Go.Proofs.Ythkkllcpogagiaa
open Go.RowKit
set_option linter.unusedVariables false
set_option linter.unusedSimpArgs false

set_option maxRecDepth 100000 in
set_option maxHeartbeats 4000000 in
theorem tsame_calls (s : Nat) (A B : Option Addr) (n c d : Nat) (O : List (Nat × List UInt8)) (w : World) (hA : RdG w 2 A n (O.map DO)) (hB : RdG w 2 B n (O.map DO)) (hn : n ≤ 1000) :
    Calls Try.prog 9 #[.agg #[.int .u64 (s : Int), .slice A n c], .agg #[.int .u64 (s : Int), .slice B n d]] w (Ret w (.bool true)) := by
  have hln : O.length = n := by have := hA.len; simpa using this
  have HA := Lib.hid hA
  have HB := Lib.hid hB
  have HL := Lib.hid hln
  clear hA hB hln
  go_enter Try.func9, Try.ntmps9
  go_upto_region 1 with fail
  obtain ⟨W0, hW0⟩ : ∃ z, z = (w.alloc (.cells #[.int .u64 (s : Int), .slice A n c] 33)).alloc (.cells #[.int .u64 (s : Int), .slice B n d] 33) := ⟨_, rfl⟩
  obtain ⟨g2, hg2⟩ : ∃ g, g = w.heap.size := ⟨_, rfl⟩
  rw [← hg2]
  obtain ⟨g3, hg3⟩ : ∃ g, g = g2 + 1 := ⟨_, rfl⟩
  rw [← hg3]
  have k2 : Blk W0 g2 [.int .u64 (s : Int), .slice A n c] 33 := by rw [hW0]; exact (Blk.new' _ _ _ _ (by rw [hg2])).alloc _
  have k3 : Blk W0 g3 [.int .u64 (s : Int), .slice B n d] 33 := by rw [hW0]; exact Blk.new' _ _ _ _ (by rw [hg3, hg2]; simp)
  have hB0 : Below w.heap.size w W0 := by rw [hW0]; exact below_al (below_al (Below.refl _ w) _) _
  rw [← hW0]
  have s20 : W0.cell? ⟨g2, 0, none⟩ = some (.int .u64 (s : Int)) := k2.cell 0
  have s21 : W0.cell? ⟨g2, 1, none⟩ = some (.slice A n c) := k2.cell 1
  have s30 : W0.cell? ⟨g3, 0, none⟩ = some (.int .u64 (s : Int)) := k3.cell 0
  have s31 : W0.cell? ⟨g3, 1, none⟩ = some (.slice B n d) := k3.cell 1
  have HK := Lib.hid (And.intro k2 (And.intro k3 hB0))
  clear k2 k3 hB0 hW0 hg2 hg3
  go_upto_region 4 with fail
  clear s20 s21 s30 s31
  go_loopw [23] (fun cv wr => ∃ (i : Nat), i ≤ n ∧ cv = .int .i64 (i : Int) ∧ Below W0.heap.size W0 wr) (fun cv _ => n - (intOf cv).toNat)
  case atStart => exact ⟨0, Nat.zero_le _, rfl, Below.refl _ _⟩
  case round =>
    obtain ⟨i, hin, rfl, hbel⟩ := hrel
    have hbw : Below w.heap.size w wr := HK.out.2.2.trans (hbel.mono HK.out.2.2.size)
    by_cases hlt : i < n
    · have hlt' : (i : Int) < (n : Int) := by omega
      obtain ⟨b1, o1, hl1, rfl, hb1, r1⟩ := (HA.out.below hbw).at_ hlt
      obtain ⟨b2, o2, hl2, rfl, hb2, r2⟩ := (HB.out.below hbw).at_ hlt
      rw [List.getElem_map] at r1 r2
      obtain ⟨v, hv⟩ : ∃ z, z = (O[i]'(by rw [HL.out]; exact hlt)).1 := ⟨_, rfl⟩
      obtain ⟨Z, hZ⟩ : ∃ z : ByteArray, z = ⟨(O[i]'(by rw [HL.out]; exact hlt)).2.toArray⟩ := ⟨_, rfl⟩
      have hD : DO (O[i]'(by rw [HL.out]; exact hlt)) = [.int .u64 (v : Int), .string Z] := by rw [hZ, hv]; rfl
      rw [hD] at r1 r2
      have s2 : wr.cell? ⟨g2, 1, none⟩ = some (.slice (some ⟨b1, o1, none⟩) n c) := (HK.out.1.below hbel HK.out.1.lt).cell 1
      have s3 : wr.cell? ⟨g3, 1, none⟩ = some (.slice (some ⟨b2, o2, none⟩) n d) := (HK.out.2.1.below hbel HK.out.2.1.lt).cell 1
      have HBD : Hid (Below W0.heap.size W0 wr.drew) := Lib.hid hbel.drew
      clear hv hZ hD hbel hbw hb1 hb2 hl1 hl2
      go_upto_region 6 with fail
      refine wp_region_held_drew (S := fun W => W.cell? ⟨g2, 1, none⟩ = some (.slice (some ⟨b1, o1, none⟩) n c) ∧ W.cell? ⟨g3, 1, none⟩ = some (.slice (some ⟨b2, o2, none⟩) n d) ∧ W.rangeAt b1 (o1 + i * 2) [.int .u64 (v : Int), .string Z] ∧ W.rangeAt b2 (o2 + i * 2) [.int .u64 (v : Int), .string Z]) (by kernel_rfl) ?_ (fun hHeld => ?_)
      · exact ⟨s2, s3, r1, r2⟩
      refine wpAnyH_take (i := 0) (v := ?_) rfl (by kernel_rfl) (by kernel_rfl) (by kernel_rfl) (fun _ _ _ h => h) (Or.inl ⟨by rfl, ?_⟩) (by assumption) ?_
      rotate_left 1
      · intro w hSw; (try dsimp only at hSw); simp only [List.getElem_toArray, List.getElem_cons_succ, List.getElem_cons_zero]; go_simp; try (with_reducible rfl)
      (try simp only [List.getElem_toArray, List.getElem_cons_succ, List.getElem_cons_zero, Act.put, List.setIfInBounds_toArray, List.set_cons_succ, List.set_cons_zero])
      refine wpAnyH_take (i := 1) (v := .slice (some ⟨b1, o1, none⟩) n c) rfl (by kernel_rfl) (by kernel_rfl) (by kernel_rfl) (fun _ _ _ h => h) (Or.inl ⟨by rfl, ?_⟩) (by assumption) ?_
      · intro w hSw; (try dsimp only at hSw); simp only [List.getElem_toArray, List.getElem_cons_succ, List.getElem_cons_zero]; first | (go_simp; done) | (simp [execOp, Act.eval, hSw.1]; done)
      (try simp only [List.getElem_toArray, List.getElem_cons_succ, List.getElem_cons_zero, Act.put, List.setIfInBounds_toArray, List.set_cons_succ, List.set_cons_zero])
      refine wpAnyH_take (i := 2) (v := ?_) rfl (by kernel_rfl) (by kernel_rfl) (by kernel_rfl) (fun _ _ _ h => h) (Or.inl ⟨by rfl, ?_⟩) (by assumption) ?_
      rotate_left 1
      · intro w hSw; (try dsimp only at hSw); simp only [List.getElem_toArray, List.getElem_cons_succ, List.getElem_cons_zero]; go_simp; try (with_reducible rfl)
      (try simp only [List.getElem_toArray, List.getElem_cons_succ, List.getElem_cons_zero, Act.put, List.setIfInBounds_toArray, List.set_cons_succ, List.set_cons_zero])
      refine wpAnyH_take (i := 3) (v := ?_) rfl (by kernel_rfl) (by kernel_rfl) (by kernel_rfl) (fun _ _ _ h => h) (Or.inl ⟨by rfl, ?_⟩) (by assumption) ?_
      rotate_left 1
      · intro w hSw; (try dsimp only at hSw); simp only [List.getElem_toArray, List.getElem_cons_succ, List.getElem_cons_zero]; go_simp; try (with_reducible rfl)
      (try simp only [List.getElem_toArray, List.getElem_cons_succ, List.getElem_cons_zero, Act.put, List.setIfInBounds_toArray, List.set_cons_succ, List.set_cons_zero])
      refine wpAnyH_take (i := 4) rfl (by kernel_rfl) (by kernel_rfl) (by kernel_rfl) (fun _ _ _ h => h) (yieldsIf_load_mid (by rfl) _ _ rfl _ _ rfl [.int .u64 (v : Int), .string Z] _ (fun w hSw => hSw.2.2.1) Try.underlying67 rfl (by kernel_rfl)) (by assumption) ?_
      (try simp only [List.getElem_toArray, List.getElem_cons_succ, List.getElem_cons_zero, Act.put, List.setIfInBounds_toArray, List.set_cons_succ, List.set_cons_zero])
      refine wpAnyH_take (i := 5) (v := ?_) rfl (by kernel_rfl) (by kernel_rfl) (by kernel_rfl) (fun _ _ _ h => h) (Or.inl ⟨by rfl, ?_⟩) (by assumption) ?_
      rotate_left 1
      · intro w hSw; (try dsimp only at hSw); simp only [List.getElem_toArray, List.getElem_cons_succ, List.getElem_cons_zero]; go_simp; try (with_reducible rfl)
      (try simp only [List.getElem_toArray, List.getElem_cons_succ, List.getElem_cons_zero, Act.put, List.setIfInBounds_toArray, List.set_cons_succ, List.set_cons_zero])
      refine wpAnyH_take (i := 6) (v := .slice (some ⟨b2, o2, none⟩) n d) rfl (by kernel_rfl) (by kernel_rfl) (by kernel_rfl) (fun _ _ _ h => h) (Or.inl ⟨by rfl, ?_⟩) (by assumption) ?_
      · intro w hSw; (try dsimp only at hSw); simp only [List.getElem_toArray, List.getElem_cons_succ, List.getElem_cons_zero]; first | (go_simp; done) | (simp [execOp, Act.eval, hSw.2.1]; done)
      (try simp only [List.getElem_toArray, List.getElem_cons_succ, List.getElem_cons_zero, Act.put, List.setIfInBounds_toArray, List.set_cons_succ, List.set_cons_zero])
      refine wpAnyH_take (i := 7) (v := ?_) rfl (by kernel_rfl) (by kernel_rfl) (by kernel_rfl) (fun _ _ _ h => h) (Or.inl ⟨by rfl, ?_⟩) (by assumption) ?_
      rotate_left 1
      · intro w hSw; (try dsimp only at hSw); simp only [List.getElem_toArray, List.getElem_cons_succ, List.getElem_cons_zero]; go_simp; try (with_reducible rfl)
      (try simp only [List.getElem_toArray, List.getElem_cons_succ, List.getElem_cons_zero, Act.put, List.setIfInBounds_toArray, List.set_cons_succ, List.set_cons_zero])
      refine wpAnyH_take (i := 8) (v := ?_) rfl (by kernel_rfl) (by kernel_rfl) (by kernel_rfl) (fun _ _ _ h => h) (Or.inl ⟨by rfl, ?_⟩) (by assumption) ?_
      rotate_left 1
      · intro w hSw; (try dsimp only at hSw); simp only [List.getElem_toArray, List.getElem_cons_succ, List.getElem_cons_zero]; go_simp; try (with_reducible rfl)
      (try simp only [List.getElem_toArray, List.getElem_cons_succ, List.getElem_cons_zero, Act.put, List.setIfInBounds_toArray, List.set_cons_succ, List.set_cons_zero])
      refine wpAnyH_take (i := 9) rfl (by kernel_rfl) (by kernel_rfl) (by kernel_rfl) (fun _ _ _ h => h) (yieldsIf_load_mid (by rfl) _ _ rfl _ _ rfl [.int .u64 (v : Int), .string Z] _ (fun w hSw => hSw.2.2.2) Try.underlying67 rfl (by kernel_rfl)) (by assumption) ?_
      (try simp only [List.getElem_toArray, List.getElem_cons_succ, List.getElem_cons_zero, Act.put, List.setIfInBounds_toArray, List.set_cons_succ, List.set_cons_zero])
      refine wpAnyH_take (i := 10) (v := .bool false) rfl (by kernel_rfl) (by kernel_rfl) (by kernel_rfl) (fun _ _ _ h => h) (Or.inl ⟨by rfl, ?_⟩) (by assumption) ?_
      · intro w hSw; (try dsimp only at hSw); simp only [List.getElem_toArray, List.getElem_cons_succ, List.getElem_cons_zero]; first | (go_simp; done) | (simp [execOp, Act.eval, NEQ.out v Z]; done)
      (try simp only [List.getElem_toArray, List.getElem_cons_succ, List.getElem_cons_zero, Act.put, List.setIfInBounds_toArray, List.set_cons_succ, List.set_cons_zero])
      refine wpAnyH_done (by kernel_rfl) ?_ _
      go_wp2
      go_roundw
      case rel => exact ⟨i + 1, by omega, by go_num, HBD.out⟩
      case measure => simp [intOf]; omega
    · have hlt' : ¬ (i : Int) < (n : Int) := by omega
      have HBB := Lib.hid hbw
      clear hbel hbw
      go_wp2
      go_ret
      exact ⟨rfl, HBB.out⟩
end Go.Proofs.Ythkkllcpogagiaa

/- The document's Sum of layer 14. -/
namespace Go.Proofs.Ythkkllcpogagiaa
open Go.RowKit
set_option linter.unusedVariables false
set_option linter.unusedSimpArgs false

set_option maxRecDepth 100000 in
theorem txt_eq (a b : List UInt8) : ((⟨a.toArray⟩ : ByteArray).toList == (⟨b.toArray⟩ : ByteArray).toList) = decide (a = b) := by
  rw [ByteArray.toList_mk, ByteArray.toList_mk]
  by_cases h : a = b
  · simp [h]
  · simp [h]
set_option maxRecDepth 100000 in
theorem paid_take (t : List UInt8) (O : List (Nat × List UInt8)) (i : Nat) (h : i < O.length) : paid t (O.take (i + 1)) = paid t (O.take i) + (if O[i].2 = t then O[i].1 else 0) := by
  rw [List.take_succ_eq_append_getElem h, paid_snoc]
set_option maxRecDepth 100000 in
theorem pays_take (t : List UInt8) (O : List (Nat × List UInt8)) (i : Nat) (h : i < O.length) : pays t (O.take (i + 1)) = (pays t (O.take i) || decide (O[i].2 = t)) := by
  rw [List.take_succ_eq_append_getElem h, pays_snoc]
set_option maxRecDepth 100000 in
theorem paid_le (t : List UInt8) (M : Nat) (O : List (Nat × List UInt8)) (h : ∀ o ∈ O, o.1 ≤ M) : ∀ i, i ≤ O.length → paid t (O.take i) ≤ i * M
  | 0, _ => by rw [List.take_zero, Nat.zero_mul]; exact Nat.le_refl _
  | i + 1, hi => by
    have h1 := paid_le t M O h i (by omega)
    have h2 := h O[i] (List.getElem_mem hi)
    rw [paid_take t O i hi, Nat.succ_mul]
    split <;> omega
set_option maxRecDepth 100000 in
theorem digs_six (p i : Nat) (hi : i ≤ 1000) (h : p ≤ i * 18446744073709551615) : (digs p).length ≤ 6 := (digs_len p 6).2 (by
  have h6 : (65536 : Nat) ^ 6 = 79228162514264337593543950336 := by decide
  omega)
set_option maxRecDepth 100000 in
theorem digs_four (v : Nat) (h : v < 18446744073709551616) : (digs v).length ≤ 4 := (digs_len v 4).2 (by
  have h4 : (65536 : Nat) ^ 4 = 18446744073709551616 := by decide
  omega)
set_option maxRecDepth 100000 in
set_option maxHeartbeats 4000000 in
theorem tsum_calls (s : Nat) (A : Option Addr) (n c : Nat) (O : List (Nat × List UInt8)) (t : List UInt8) (w : World) (hA : RdG w 2 A n (O.map DO)) (hn : n ≤ 1000) (h64 : ∀ o ∈ O, o.1 < 18446744073709551616) :
    Calls Try.prog 13 #[.agg #[.int .u64 (s : Int), .slice A n c], .string ⟨t.toArray⟩] w fun e w' => ∃ A' m c', e = .returned (.tuple #[.slice A' m c', .bool (pays t O)]) ∧ RdI w' A' m (digs (paid t O)) ∧ m ≤ c' ∧ c' ≤ maxLen ∧ Below w.heap.size w w' := by
  have hln : O.length = n := by have := hA.len; simpa using this
  have HA := Lib.hid hA
  have HL := Lib.hid hln
  have H64 := Lib.hid h64
  have HP64 : Hid (∀ i, i ≤ n → paid t (O.take i) ≤ i * 18446744073709551615) := Lib.hid fun i hi => paid_le t 18446744073709551615 O (fun o ho => by have := h64 o ho; omega) i (by omega)
  obtain ⟨T, hT⟩ : ∃ z : ByteArray, z = ⟨t.toArray⟩ := ⟨_, rfl⟩
  have HT := Lib.hid hT
  rw [← hT]
  have CO : Hid (∀ (W : World) (v : Nat), v < 18446744073709551616 → Calls Try.prog 33 #[.slice (some ⟨W.heap.size, 0, none⟩) 1 1] (W.alloc (.cells #[.int .u64 (v : Int)] 24)) (MkB W v)) := Lib.hid fun W v hv => by
    have hk := Blk.new W #[.int .u64 (v : Int)] 24
    have h := of_calls (some ⟨W.heap.size, 0, none⟩) 1 1 [v] _ (by omega) (fun x hx => by rw [List.mem_singleton.1 hx]; omega) ⟨rfl, fun _ => ⟨W.heap.size, 0, rfl, hk.lt, fun j hj => by
      have e : j = 0 := by omega
      subst e
      exact hk.cell 0⟩⟩
    rw [show valW [v] = v from by simp [valW]] at h
    refine h.mono ?_
    rintro e w' ⟨A', m, c', h1, h2, h3, h4, h5⟩
    exact ⟨A', m, c', h1, h2, h3, h4, ((Below.refl _ W).alloc (Nat.le_refl _) _).trans (h5.mono (by simp))⟩
  clear hA hln h64 hT
  go_enter Try.func13, Try.ntmps13
  go_upto_region 4 with fail
  have hB0 : Below w.heap.size w (w.alloc (.cells #[.int .u64 (s : Int), .slice A n c] 33)) := below_al (Below.refl _ w) _
  have HB0 := Lib.hid hB0
  clear hB0
  go_loopw [13, 6, 7] (fun cv sv pv wr => ∃ (i p : Nat) (f : Bool) (A1 : Option Addr) (m1 c1 : Nat), i ≤ n ∧ cv = .int .i64 (i : Int) ∧ sv = .slice A1 m1 c1 ∧ pv = .bool f ∧ p = paid t (O.take i) ∧ f = pays t (O.take i) ∧ RdI wr A1 m1 (digs p) ∧ m1 ≤ c1 ∧ c1 ≤ maxLen ∧ Below w.heap.size w wr) (fun cv _ _ _ => n - (intOf cv).toNat)
  case atStart => exact ⟨0, 0, false, none, 0, 0, Nat.zero_le _, rfl, rfl, rfl, rfl, rfl, by rw [digs_zero]; exact RdI.nil _ _, Nat.le_refl _, by unfold maxLen; omega, HB0.out⟩
  case round =>
    obtain ⟨i, p, f, A1, m1, c1, hin, rfl, rfl, rfl, hp, hf, hrd, hmc, hcm, hbel⟩ := hrel
    by_cases hlt : i < n
    · have hlt' : (i : Int) < (n : Int) := by omega
      have hio : i < O.length := by rw [HL.out]; exact hlt
      obtain ⟨b1, o1, hl1, rfl, hb1, r1⟩ := (HA.out.below hbel).at_ hlt
      rw [List.getElem_map] at r1
      have hv64 := H64.out O[i] (List.getElem_mem hio)
      have hpt := paid_take t O i hio
      have hft := pays_take t O i hio
      rw [← hp] at hpt
      rw [← hf] at hft
      have hpb := HP64.out i hin
      rw [← hp] at hpb
      obtain ⟨v, hv⟩ : ∃ z, z = O[i].1 := ⟨_, rfl⟩
      obtain ⟨y, hy⟩ : ∃ z, z = O[i].2 := ⟨_, rfl⟩
      obtain ⟨Z, hZ⟩ : ∃ z : ByteArray, z = ⟨y.toArray⟩ := ⟨_, rfl⟩
      have hD : DO O[i] = [.int .u64 (v : Int), .string Z] := by rw [hZ, hy, hv]; rfl
      rw [hD] at r1
      rw [← hv] at hv64 hpt
      rw [← hy] at hft hpt
      have sc0 : wr.cell? ⟨b1, o1 + i * 2, none⟩ = some (.int .u64 (v : Int)) := r1 0 _ rfl
      have sc1 : wr.cell? ⟨b1, o1 + i * 2 + 1, none⟩ = some (.string Z) := r1 1 _ rfl
      have hdl : m1 ≤ 10000 := by
        have h1 := hrd.len
        have h2 := digs_six p i (by omega) hpb
        omega
      have HZ := Lib.hid hZ
      clear hv hy r1 hD hio hl1 hb1 hp hf hpb hZ
      go_upto_region 6 with fail
      have hba : Below wr.heap.size wr (wr.alloc (.cells #[.int .u64 (v : Int), .string Z] 67)) := (Below.refl _ wr).alloc (Nat.le_refl _) _
      have k5 : Blk (wr.alloc (.cells #[.int .u64 (v : Int), .string Z] 67)) wr.heap.size [.int .u64 (v : Int), .string Z] 67 := Blk.new wr _ _
      obtain ⟨w5, hw5⟩ : ∃ z, z = wr.alloc (.cells #[.int .u64 (v : Int), .string Z] 67) := ⟨_, rfl⟩
      rw [← hw5] at hba k5
      rw [← hw5]
      obtain ⟨g5, hg5⟩ : ∃ z, z = wr.heap.size := ⟨_, rfl⟩
      rw [← hg5] at k5
      rw [← hg5]
      have s50 : w5.cell? ⟨g5, 0, none⟩ = some (.int .u64 (v : Int)) := k5.cell 0
      have s51 : w5.cell? ⟨g5, 1, none⟩ = some (.string Z) := k5.cell 1
      have HRD := Lib.hid (hrd.below hba)
      have HBE := Lib.hid (below_more hbel hba)
      have HMC := Lib.hid (And.intro hmc hcm)
      clear hba k5 hw5 hg5 hrd hbel sc0 sc1 hmc hcm
      by_cases he : y = t
      · have hq : (Z.toList == T.toList) = true := by rw [HZ.out, HT.out, txt_eq]; exact decide_eq_true he
        rw [if_pos he] at hpt
        rw [decide_eq_true he, Bool.or_true] at hft
        have HP := Lib.hid (And.intro hpt hft)
        have CF := Lib.hid (CO.out w5 v hv64)
        clear he hpt hft
        go_wp2_with (first
          | (go_at_call 33; refine CF.out.mono ?_; rintro e' w6 ⟨A6, m6, c6, rfl, hr6, hm6, hc6, hB6⟩
             have CA := Lib.hid (badd_calls A1 A6 m1 m6 c1 c6 p v w6 hdl (by have h1 := hr6.len; have h2 := digs_four v hv64; omega) (HRD.out.below hB6) hr6))
          | (go_at_call 32; refine CA.out.mono ?_; rintro e' w7 ⟨A7, m7, c7, rfl, hr7, hm7, hc7, hB7⟩))
        go_roundw
        case rel => exact ⟨i + 1, p + v, true, A7, m7, c7, by omega, by go_num, rfl, rfl, HP.out.1.symm, HP.out.2.symm, hr7, hm7, hc7, below_more (below_more HBE.out hB6) hB7⟩
        case measure => simp [intOf]; omega
      · have hq : (Z.toList == T.toList) = false := by rw [HZ.out, HT.out, txt_eq]; exact decide_eq_false he
        rw [if_neg he, Nat.add_zero] at hpt
        rw [decide_eq_false he, Bool.or_false] at hft
        have HP := Lib.hid (And.intro hpt hft)
        clear he hpt hft
        go_wp2
        go_roundw
        case rel => exact ⟨i + 1, p, f, A1, m1, c1, by omega, by go_num, rfl, rfl, HP.out.1.symm, HP.out.2.symm, HRD.out, HMC.out.1, HMC.out.2, HBE.out⟩
        case measure => simp [intOf]; omega
    · have hlt' : ¬ (i : Int) < (n : Int) := by omega
      have e : i = n := by omega
      subst e
      rw [List.take_of_length_le (by rw [HL.out]; omega)] at hp hf
      have HH := Lib.hid (And.intro hp (And.intro hf (And.intro hrd (And.intro hmc (And.intro hcm hbel)))))
      clear hp hf hrd hmc hcm hbel
      go_wp2
      go_ret2
      obtain ⟨h1, h2, h3, h4, h5, h6⟩ := HH.out
      rw [← h1, ← h2]
      exact ⟨A1, m1, c1, rfl, h3, h4, h5, h6⟩
end Go.Proofs.Ythkkllcpogagiaa
