/- Merged texts: HdrB. -/
import Derived.Test.YthpigninbeommaaDoorMat
import Derived.Test.YthpigninbeommaaDoorMas
/- The contracts of the document's own Bytes of layer 7. -/
namespace Go.Proofs.YthpigninbeommaaDoor
open Go.RowKit
set_option linter.unusedVariables false
set_option linter.unusedSimpArgs false

set_option maxRecDepth 100000 in
set_option maxHeartbeats 4000000 in
theorem hbytes_calls (h : Hd) (o : h.ok) (w : World) : Calls Tryd.prog 9 #[.agg h.cells.toArray] w (Ret w (.string ⟨h.bytes.toArray⟩)) := by
  obtain ⟨X, hX⟩ : ∃ X, X = h.cells := ⟨_, rfl⟩
  obtain ⟨vv, hvv⟩ : ∃ vv, vv = h.v := ⟨_, rfl⟩
  obtain ⟨tt, htt⟩ : ∃ tt, tt = h.t := ⟨_, rfl⟩
  obtain ⟨bb, hbb⟩ : ∃ bb, bb = h.b := ⟨_, rfl⟩
  obtain ⟨nn, hnn⟩ : ∃ nn, nn = h.n := ⟨_, rfl⟩
  have bv : vv < 4294967296 := hvv ▸ o.v
  have bt : tt < 4294967296 := htt ▸ o.t
  have bb' : bb < 4294967296 := hbb ▸ o.b
  have bn : nn < 4294967296 := hnn ▸ o.n
  have wv : IntKind.u64.wrap (vv : Int) = (vv : Int) := by rw [IntKind.wrap_u64]; omega
  have wt : IntKind.u64.wrap (tt : Int) = (tt : Int) := by rw [IntKind.wrap_u64]; omega
  have wb : IntKind.u64.wrap (bb : Int) = (bb : Int) := by rw [IntKind.wrap_u64]; omega
  have wn : IntKind.u64.wrap (nn : Int) = (nn : Int) := by rw [IntKind.wrap_u64]; omega
  obtain ⟨svv, hsvv⟩ : ∃ s : ByteArray, s = ⟨(little vv 4).toArray⟩ := ⟨_, rfl⟩
  obtain ⟨stt, hstt⟩ : ∃ s : ByteArray, s = ⟨(little tt 4).toArray⟩ := ⟨_, rfl⟩
  obtain ⟨sbb, hsbb⟩ : ∃ s : ByteArray, s = ⟨(little bb 4).toArray⟩ := ⟨_, rfl⟩
  obtain ⟨snn, hsnn⟩ : ∃ s : ByteArray, s = ⟨(little nn 4).toArray⟩ := ⟨_, rfl⟩
  obtain ⟨sp, hsp⟩ : ∃ s : ByteArray, s = ⟨h.p.toArray⟩ := ⟨_, rfl⟩
  obtain ⟨sr, hsr⟩ : ∃ s : ByteArray, s = ⟨h.r.toArray⟩ := ⟨_, rfl⟩
  have hp := o.p
  have hr := o.r
  obtain ⟨a2, ha2⟩ : ∃ s : ByteArray, s = ⟨(little vv 4 ++ h.p).toArray⟩ := ⟨_, rfl⟩
  have add2 : ∀ W, (Op.stringOp .add svv sp).run Tryd.prog W = .ok (.string a2) W := fun W => by rw [ha2, hsvv, hsp]; exact bstr_add (little vv 4) (h.p) (by (try simp only [List.length_append, little_len]); omega) (by (try simp only [List.length_append, little_len]); omega) W
  obtain ⟨a3, ha3⟩ : ∃ s : ByteArray, s = ⟨(little vv 4 ++ h.p ++ h.r).toArray⟩ := ⟨_, rfl⟩
  have add3 : ∀ W, (Op.stringOp .add a2 sr).run Tryd.prog W = .ok (.string a3) W := fun W => by rw [ha3, ha2, hsr]; exact bstr_add (little vv 4 ++ h.p) (h.r) (by (try simp only [List.length_append, little_len]); omega) (by (try simp only [List.length_append, little_len]); omega) W
  obtain ⟨a4, ha4⟩ : ∃ s : ByteArray, s = ⟨(little vv 4 ++ h.p ++ h.r ++ little tt 4).toArray⟩ := ⟨_, rfl⟩
  have add4 : ∀ W, (Op.stringOp .add a3 stt).run Tryd.prog W = .ok (.string a4) W := fun W => by rw [ha4, ha3, hstt]; exact bstr_add (little vv 4 ++ h.p ++ h.r) (little tt 4) (by (try simp only [List.length_append, little_len]); omega) (by (try simp only [List.length_append, little_len]); omega) W
  obtain ⟨a5, ha5⟩ : ∃ s : ByteArray, s = ⟨(little vv 4 ++ h.p ++ h.r ++ little tt 4 ++ little bb 4).toArray⟩ := ⟨_, rfl⟩
  have add5 : ∀ W, (Op.stringOp .add a4 sbb).run Tryd.prog W = .ok (.string a5) W := fun W => by rw [ha5, ha4, hsbb]; exact bstr_add (little vv 4 ++ h.p ++ h.r ++ little tt 4) (little bb 4) (by (try simp only [List.length_append, little_len]); omega) (by (try simp only [List.length_append, little_len]); omega) W
  obtain ⟨a6, ha6⟩ : ∃ s : ByteArray, s = ⟨(little vv 4 ++ h.p ++ h.r ++ little tt 4 ++ little bb 4 ++ little nn 4).toArray⟩ := ⟨_, rfl⟩
  have add6 : ∀ W, (Op.stringOp .add a5 snn).run Tryd.prog W = .ok (.string a6) W := fun W => by rw [ha6, ha5, hsnn]; exact bstr_add (little vv 4 ++ h.p ++ h.r ++ little tt 4 ++ little bb 4) (little nn 4) (by (try simp only [List.length_append, little_len]); omega) (by (try simp only [List.length_append, little_len]); omega) W
  have N1 : Hid (∀ W, Calls Tryd.prog 26 #[.int .u64 (vv : Int), .int .i64 4] W (Ret W (.string svv))) := Lib.hid fun W => by rw [hsvv]; exact nnum_calls vv 4 4 (by decide) (by omega) W
  have N2 : Hid (∀ W, Calls Tryd.prog 26 #[.int .u64 (tt : Int), .int .i64 4] W (Ret W (.string stt))) := Lib.hid fun W => by rw [hstt]; exact nnum_calls tt 4 4 (by decide) (by omega) W
  have N3 : Hid (∀ W, Calls Tryd.prog 26 #[.int .u64 (bb : Int), .int .i64 4] W (Ret W (.string sbb))) := Lib.hid fun W => by rw [hsbb]; exact nnum_calls bb 4 4 (by decide) (by omega) W
  have N4 : Hid (∀ W, Calls Tryd.prog 26 #[.int .u64 (nn : Int), .int .i64 4] W (Ret W (.string snn))) := Lib.hid fun W => by rw [hsnn]; exact nnum_calls nn 4 4 (by decide) (by omega) W
  have hfin : (⟨h.bytes.toArray⟩ : ByteArray) = a6 := by
    rw [ha6, hvv, htt, hbb, hnn]
    unfold Hd.bytes
    simp only [List.append_assoc]
  rw [hfin]
  have hb0 : Blk (w.alloc (.cells X.toArray 34)) w.heap.size X 34 := Blk.new w X.toArray 34
  have HB := Lib.hid (below_al (Below.refl _ w) (.cells X.toArray 34))
  obtain ⟨w0, hw0⟩ : ∃ w0, w0 = w.alloc (.cells X.toArray 34) := ⟨_, rfl⟩
  rw [← hw0] at hb0 HB
  have K0 : Hid (∀ W, Below w0.heap.size w0 W → (W.cell? ⟨w.heap.size, 0, none⟩ = some (.int .u32 (vv : Int)) ∧ W.cell? ⟨w.heap.size, 65, none⟩ = some (.int .u32 (tt : Int)) ∧ W.cell? ⟨w.heap.size, 66, none⟩ = some (.int .u32 (bb : Int)) ∧ W.cell? ⟨w.heap.size, 67, none⟩ = some (.int .u32 (nn : Int)) ∧ (convert 27 9 (.slice (some ⟨w.heap.size, 1, none⟩) 32 32)).run Tryd.prog W = .ok (.string sp) W ∧ (convert 27 9 (.slice (some ⟨w.heap.size, 33, none⟩) 32 32)).run Tryd.prog W = .ok (.string sr) W)) := Lib.hid fun W hb => by
    have hk := hb0.up hb
    have hc := Hd.ct o
    rw [hX] at hk
    refine ⟨?_, ?_, ?_, ?_, ?_, ?_⟩
    · rw [hk.cell, hvv]; exact h.c0
    · rw [hk.cell, htt]; exact hc.1
    · rw [hk.cell, hbb]; exact hc.2.1
    · rw [hk.cell, hnn]; exact hc.2.2
    · rw [hsp]; exact conv8 W _ _ _ _ (hk.rd 1 32 h.p hp (fun j hj => Hd.cp o j hj))
    · rw [hsr]; exact conv8 W _ _ _ _ (hk.rd 33 32 h.r hr (fun j hj => Hd.cr o j hj))
  have hsa : ∀ (k : Nat) W, (Instr.sliceAt 23 (.pointer (some ⟨w.heap.size, k, none⟩)) none none none).run Tryd.prog W = .ok (.slice (some ⟨w.heap.size, k, none⟩) 32 32) W := fun k W => run_sl_all 23 5 32 Tryd.underlying23 size8 w.heap.size k (by omega) W
  rw [← hX]
  clear hX hvv htt hbb hnn hsvv hstt hsbb hsnn hsp hsr ha2 ha3 ha4 ha5 ha6 hfin hb0 o hp hr bv bt bb' bn
  go_enter Tryd.func9, Tryd.ntmps9
  go_upto_region 1 with fail
  rw [← hw0]
  clear hw0
  refine wp_region_held_drew (S := fun W => W.cell? ⟨w.heap.size, 0, none⟩ = some (.int .u32 (vv : Int)) ∧ W.cell? ⟨w.heap.size, 65, none⟩ = some (.int .u32 (tt : Int)) ∧ W.cell? ⟨w.heap.size, 66, none⟩ = some (.int .u32 (bb : Int)) ∧ W.cell? ⟨w.heap.size, 67, none⟩ = some (.int .u32 (nn : Int)) ∧ (convert 27 9 (.slice (some ⟨w.heap.size, 1, none⟩) 32 32)).run Tryd.prog W = .ok (.string sp) W ∧ (convert 27 9 (.slice (some ⟨w.heap.size, 33, none⟩) 32 32)).run Tryd.prog W = .ok (.string sr) W) (by kernel_rfl) ?_ (fun hHeld => ?_)
  · exact K0.out _ (by ((repeat (first | with_reducible assumption | with_reducible exact Below.refl _ _ | with_reducible apply below_al | with_reducible apply below_dr | with_reducible refine below_more ?_ (by assumption)))))
  refine wpAnyH_take (i := 0) (v := ?_) rfl (by kernel_rfl) (by kernel_rfl) (by kernel_rfl) (fun _ _ _ h => h) (Or.inl ⟨by rfl, ?_⟩) (by assumption) ?_
  rotate_left 1
  · intro w hSw; (try dsimp only at hSw); simp only [List.getElem_toArray, List.getElem_cons_succ, List.getElem_cons_zero]; go_simp; try (with_reducible rfl)
  (try simp only [List.getElem_toArray, List.getElem_cons_succ, List.getElem_cons_zero, Act.put, List.setIfInBounds_toArray, List.set_cons_succ, List.set_cons_zero])
  refine wpAnyH_take (i := 1) (v := ?_) rfl (by kernel_rfl) (by kernel_rfl) (by kernel_rfl) (fun _ _ _ h => h) (Or.inl ⟨by rfl, ?_⟩) (by assumption) ?_
  rotate_left 1
  · intro w hSw; (try dsimp only at hSw); simp only [List.getElem_toArray, List.getElem_cons_succ, List.getElem_cons_zero]; go_simp; try (with_reducible rfl)
  (try simp only [List.getElem_toArray, List.getElem_cons_succ, List.getElem_cons_zero, Act.put, List.setIfInBounds_toArray, List.set_cons_succ, List.set_cons_zero])
  refine wpAnyH_take (i := 2) (v := ?_) rfl (by kernel_rfl) (by kernel_rfl) (by kernel_rfl) (fun _ _ _ h => h) (Or.inl ⟨by rfl, ?_⟩) (by assumption) ?_
  rotate_left 1
  · intro w hSw; (try dsimp only at hSw); simp only [List.getElem_toArray, List.getElem_cons_succ, List.getElem_cons_zero]; go_simp; try (with_reducible rfl)
  (try simp only [List.getElem_toArray, List.getElem_cons_succ, List.getElem_cons_zero, Act.put, List.setIfInBounds_toArray, List.set_cons_succ, List.set_cons_zero])
  refine wpAnyH_take (i := 4) (v := ?_) rfl (by kernel_rfl) (by kernel_rfl) (by kernel_rfl) (fun _ _ _ h => h) (Or.inl ⟨by rfl, ?_⟩) (by assumption) ?_
  rotate_left 1
  · intro w hSw; (try dsimp only at hSw); simp only [List.getElem_toArray, List.getElem_cons_succ, List.getElem_cons_zero]; go_simp; try (with_reducible rfl)
  (try simp only [List.getElem_toArray, List.getElem_cons_succ, List.getElem_cons_zero, Act.put, List.setIfInBounds_toArray, List.set_cons_succ, List.set_cons_zero])
  refine wpAnyH_take (i := 5) (v := .slice (some ⟨w.heap.size, 1, none⟩) 32 32) rfl (by kernel_rfl) (by kernel_rfl) (by kernel_rfl) (fun _ _ _ h => h) (Or.inl ⟨by rfl, ?_⟩) (by assumption) ?_
  · intro w hSw; (try dsimp only at hSw); simp only [List.getElem_toArray, List.getElem_cons_succ, List.getElem_cons_zero]; first | (go_simp; done) | (simp [execOp, Act.eval, hsa]; done)
  (try simp only [List.getElem_toArray, List.getElem_cons_succ, List.getElem_cons_zero, Act.put, List.setIfInBounds_toArray, List.set_cons_succ, List.set_cons_zero])
  refine wpAnyH_take (i := 6) (v := ?_) rfl (by kernel_rfl) (by kernel_rfl) (by kernel_rfl) (fun _ _ _ h => h) (Or.inl ⟨by rfl, ?_⟩) (by assumption) ?_
  rotate_left 1
  · intro w hSw; (try dsimp only at hSw); simp only [List.getElem_toArray, List.getElem_cons_succ, List.getElem_cons_zero]; go_simp; try (with_reducible rfl)
  (try simp only [List.getElem_toArray, List.getElem_cons_succ, List.getElem_cons_zero, Act.put, List.setIfInBounds_toArray, List.set_cons_succ, List.set_cons_zero])
  refine wpAnyH_take (i := 8) (v := ?_) rfl (by kernel_rfl) (by kernel_rfl) (by kernel_rfl) (fun _ _ _ h => h) (Or.inl ⟨by rfl, ?_⟩) (by assumption) ?_
  rotate_left 1
  · intro w hSw; (try dsimp only at hSw); simp only [List.getElem_toArray, List.getElem_cons_succ, List.getElem_cons_zero]; go_simp; try (with_reducible rfl)
  (try simp only [List.getElem_toArray, List.getElem_cons_succ, List.getElem_cons_zero, Act.put, List.setIfInBounds_toArray, List.set_cons_succ, List.set_cons_zero])
  refine wpAnyH_take (i := 9) (v := .slice (some ⟨w.heap.size, 33, none⟩) 32 32) rfl (by kernel_rfl) (by kernel_rfl) (by kernel_rfl) (fun _ _ _ h => h) (Or.inl ⟨by rfl, ?_⟩) (by assumption) ?_
  · intro w hSw; (try dsimp only at hSw); simp only [List.getElem_toArray, List.getElem_cons_succ, List.getElem_cons_zero]; first | (go_simp; done) | (simp [execOp, Act.eval, hsa]; done)
  (try simp only [List.getElem_toArray, List.getElem_cons_succ, List.getElem_cons_zero, Act.put, List.setIfInBounds_toArray, List.set_cons_succ, List.set_cons_zero])
  refine wpAnyH_take (i := 10) (v := ?_) rfl (by kernel_rfl) (by kernel_rfl) (by kernel_rfl) (fun _ _ _ h => h) (Or.inl ⟨by rfl, ?_⟩) (by assumption) ?_
  rotate_left 1
  · intro w hSw; (try dsimp only at hSw); simp only [List.getElem_toArray, List.getElem_cons_succ, List.getElem_cons_zero]; go_simp; try (with_reducible rfl)
  (try simp only [List.getElem_toArray, List.getElem_cons_succ, List.getElem_cons_zero, Act.put, List.setIfInBounds_toArray, List.set_cons_succ, List.set_cons_zero])
  refine wpAnyH_ready (rs := [3]) (by kernel_rfl) (by simp) ?_
  refine AllReadyH.cons rfl (fun K hK => ?_) AllReadyH.nil
  (try simp only [List.getElem_toArray, List.getElem_cons_succ, List.getElem_cons_zero])
  go_simp
  go_at_call 26; refine (N1.out _).mono ?_; rintro e' x1 ⟨rfl, dx1⟩
  (try (go_wp2_with fail))
  refine hK.out _ _ ?_ (fun hHeld => ?_)
  · exact K0.out _ (by ((repeat (first | with_reducible assumption | with_reducible exact Below.refl _ _ | with_reducible apply below_al | with_reducible apply below_dr | with_reducible refine below_more ?_ (by assumption)))))
  clear hK K
  (try simp only [Act.put, List.setIfInBounds_toArray, List.set_cons_succ, List.set_cons_zero])
  refine wpAnyH_take (i := 7) (v := .string a2) rfl (by kernel_rfl) (by kernel_rfl) (by kernel_rfl) (fun _ _ _ h => h) (Or.inl ⟨by rfl, ?_⟩) (by assumption) ?_
  · intro w hSw; (try dsimp only at hSw); simp only [List.getElem_toArray, List.getElem_cons_succ, List.getElem_cons_zero]; first | (go_simp; done) | (go_simp; simp [add2]; done) | (simp [execOp, Act.eval, binOp, add2]; done)
  (try simp only [List.getElem_toArray, List.getElem_cons_succ, List.getElem_cons_zero, Act.put, List.setIfInBounds_toArray, List.set_cons_succ, List.set_cons_zero])
  refine wpAnyH_take (i := 11) (v := .string a3) rfl (by kernel_rfl) (by kernel_rfl) (by kernel_rfl) (fun _ _ _ h => h) (Or.inl ⟨by rfl, ?_⟩) (by assumption) ?_
  · intro w hSw; (try dsimp only at hSw); simp only [List.getElem_toArray, List.getElem_cons_succ, List.getElem_cons_zero]; first | (go_simp; done) | (go_simp; simp [add3]; done) | (simp [execOp, Act.eval, binOp, add3]; done)
  (try simp only [List.getElem_toArray, List.getElem_cons_succ, List.getElem_cons_zero, Act.put, List.setIfInBounds_toArray, List.set_cons_succ, List.set_cons_zero])
  refine wpAnyH_take (i := 12) (v := ?_) rfl (by kernel_rfl) (by kernel_rfl) (by kernel_rfl) (fun _ _ _ h => h) (Or.inl ⟨by rfl, ?_⟩) (by assumption) ?_
  rotate_left 1
  · intro w hSw; (try dsimp only at hSw); simp only [List.getElem_toArray, List.getElem_cons_succ, List.getElem_cons_zero]; go_simp; try (with_reducible rfl)
  (try simp only [List.getElem_toArray, List.getElem_cons_succ, List.getElem_cons_zero, Act.put, List.setIfInBounds_toArray, List.set_cons_succ, List.set_cons_zero])
  refine wpAnyH_done (by kernel_rfl) ?_ _
  go_wp2_with fail
  refine wp_region_held_drew (S := fun W => W.cell? ⟨w.heap.size, 0, none⟩ = some (.int .u32 (vv : Int)) ∧ W.cell? ⟨w.heap.size, 65, none⟩ = some (.int .u32 (tt : Int)) ∧ W.cell? ⟨w.heap.size, 66, none⟩ = some (.int .u32 (bb : Int)) ∧ W.cell? ⟨w.heap.size, 67, none⟩ = some (.int .u32 (nn : Int)) ∧ (convert 27 9 (.slice (some ⟨w.heap.size, 1, none⟩) 32 32)).run Tryd.prog W = .ok (.string sp) W ∧ (convert 27 9 (.slice (some ⟨w.heap.size, 33, none⟩) 32 32)).run Tryd.prog W = .ok (.string sr) W) (by kernel_rfl) ?_ (fun hHeld => ?_)
  · exact K0.out _ (by ((repeat (first | with_reducible assumption | with_reducible exact Below.refl _ _ | with_reducible apply below_al | with_reducible apply below_dr | with_reducible refine below_more ?_ (by assumption)))))
  refine wpAnyH_take (i := 0) (v := ?_) rfl (by kernel_rfl) (by kernel_rfl) (by kernel_rfl) (fun _ _ _ h => h) (Or.inl ⟨by rfl, ?_⟩) (by assumption) ?_
  rotate_left 1
  · intro w hSw; (try dsimp only at hSw); simp only [List.getElem_toArray, List.getElem_cons_succ, List.getElem_cons_zero]; go_simp; try (with_reducible rfl)
  (try simp only [List.getElem_toArray, List.getElem_cons_succ, List.getElem_cons_zero, Act.put, List.setIfInBounds_toArray, List.set_cons_succ, List.set_cons_zero])
  refine wpAnyH_take (i := 1) (v := ?_) rfl (by kernel_rfl) (by kernel_rfl) (by kernel_rfl) (fun _ _ _ h => h) (Or.inl ⟨by rfl, ?_⟩) (by assumption) ?_
  rotate_left 1
  · intro w hSw; (try dsimp only at hSw); simp only [List.getElem_toArray, List.getElem_cons_succ, List.getElem_cons_zero]; go_simp; try (with_reducible rfl)
  (try simp only [List.getElem_toArray, List.getElem_cons_succ, List.getElem_cons_zero, Act.put, List.setIfInBounds_toArray, List.set_cons_succ, List.set_cons_zero])
  refine wpAnyH_take (i := 2) (v := ?_) rfl (by kernel_rfl) (by kernel_rfl) (by kernel_rfl) (fun _ _ _ h => h) (Or.inl ⟨by rfl, ?_⟩) (by assumption) ?_
  rotate_left 1
  · intro w hSw; (try dsimp only at hSw); simp only [List.getElem_toArray, List.getElem_cons_succ, List.getElem_cons_zero]; go_simp; try (with_reducible rfl)
  (try simp only [List.getElem_toArray, List.getElem_cons_succ, List.getElem_cons_zero, Act.put, List.setIfInBounds_toArray, List.set_cons_succ, List.set_cons_zero])
  refine wpAnyH_take (i := 3) (v := ?_) rfl (by kernel_rfl) (by kernel_rfl) (by kernel_rfl) (fun _ _ _ h => h) (Or.inl ⟨by rfl, ?_⟩) (by assumption) ?_
  rotate_left 1
  · intro w hSw; (try dsimp only at hSw); simp only [List.getElem_toArray, List.getElem_cons_succ, List.getElem_cons_zero]; go_simp; try (with_reducible rfl)
  (try simp only [List.getElem_toArray, List.getElem_cons_succ, List.getElem_cons_zero, Act.put, List.setIfInBounds_toArray, List.set_cons_succ, List.set_cons_zero])
  refine wpAnyH_take (i := 6) (v := ?_) rfl (by kernel_rfl) (by kernel_rfl) (by kernel_rfl) (fun _ _ _ h => h) (Or.inl ⟨by rfl, ?_⟩) (by assumption) ?_
  rotate_left 1
  · intro w hSw; (try dsimp only at hSw); simp only [List.getElem_toArray, List.getElem_cons_succ, List.getElem_cons_zero]; go_simp; try (with_reducible rfl)
  (try simp only [List.getElem_toArray, List.getElem_cons_succ, List.getElem_cons_zero, Act.put, List.setIfInBounds_toArray, List.set_cons_succ, List.set_cons_zero])
  refine wpAnyH_take (i := 7) (v := ?_) rfl (by kernel_rfl) (by kernel_rfl) (by kernel_rfl) (fun _ _ _ h => h) (Or.inl ⟨by rfl, ?_⟩) (by assumption) ?_
  rotate_left 1
  · intro w hSw; (try dsimp only at hSw); simp only [List.getElem_toArray, List.getElem_cons_succ, List.getElem_cons_zero]; go_simp; try (with_reducible rfl)
  (try simp only [List.getElem_toArray, List.getElem_cons_succ, List.getElem_cons_zero, Act.put, List.setIfInBounds_toArray, List.set_cons_succ, List.set_cons_zero])
  refine wpAnyH_take (i := 8) (v := ?_) rfl (by kernel_rfl) (by kernel_rfl) (by kernel_rfl) (fun _ _ _ h => h) (Or.inl ⟨by rfl, ?_⟩) (by assumption) ?_
  rotate_left 1
  · intro w hSw; (try dsimp only at hSw); simp only [List.getElem_toArray, List.getElem_cons_succ, List.getElem_cons_zero]; go_simp; try (with_reducible rfl)
  (try simp only [List.getElem_toArray, List.getElem_cons_succ, List.getElem_cons_zero, Act.put, List.setIfInBounds_toArray, List.set_cons_succ, List.set_cons_zero])
  refine wpAnyH_take (i := 11) (v := ?_) rfl (by kernel_rfl) (by kernel_rfl) (by kernel_rfl) (fun _ _ _ h => h) (Or.inl ⟨by rfl, ?_⟩) (by assumption) ?_
  rotate_left 1
  · intro w hSw; (try dsimp only at hSw); simp only [List.getElem_toArray, List.getElem_cons_succ, List.getElem_cons_zero]; go_simp; try (with_reducible rfl)
  (try simp only [List.getElem_toArray, List.getElem_cons_succ, List.getElem_cons_zero, Act.put, List.setIfInBounds_toArray, List.set_cons_succ, List.set_cons_zero])
  refine wpAnyH_take (i := 12) (v := ?_) rfl (by kernel_rfl) (by kernel_rfl) (by kernel_rfl) (fun _ _ _ h => h) (Or.inl ⟨by rfl, ?_⟩) (by assumption) ?_
  rotate_left 1
  · intro w hSw; (try dsimp only at hSw); simp only [List.getElem_toArray, List.getElem_cons_succ, List.getElem_cons_zero]; go_simp; try (with_reducible rfl)
  (try simp only [List.getElem_toArray, List.getElem_cons_succ, List.getElem_cons_zero, Act.put, List.setIfInBounds_toArray, List.set_cons_succ, List.set_cons_zero])
  refine wpAnyH_take (i := 13) (v := ?_) rfl (by kernel_rfl) (by kernel_rfl) (by kernel_rfl) (fun _ _ _ h => h) (Or.inl ⟨by rfl, ?_⟩) (by assumption) ?_
  rotate_left 1
  · intro w hSw; (try dsimp only at hSw); simp only [List.getElem_toArray, List.getElem_cons_succ, List.getElem_cons_zero]; go_simp; try (with_reducible rfl)
  (try simp only [List.getElem_toArray, List.getElem_cons_succ, List.getElem_cons_zero, Act.put, List.setIfInBounds_toArray, List.set_cons_succ, List.set_cons_zero])
  refine wpAnyH_ready (rs := [4]) (by kernel_rfl) (by simp) ?_
  refine AllReadyH.cons rfl (fun K hK => ?_) AllReadyH.nil
  (try simp only [List.getElem_toArray, List.getElem_cons_succ, List.getElem_cons_zero])
  go_simp
  go_at_call 26; refine (N2.out _).mono ?_; rintro e' x2 ⟨rfl, dx2⟩
  (try (go_wp2_with fail))
  refine hK.out _ _ ?_ (fun hHeld => ?_)
  · exact K0.out _ (by ((repeat (first | with_reducible assumption | with_reducible exact Below.refl _ _ | with_reducible apply below_al | with_reducible apply below_dr | with_reducible refine below_more ?_ (by assumption)))))
  clear hK K
  (try simp only [Act.put, List.setIfInBounds_toArray, List.set_cons_succ, List.set_cons_zero])
  refine wpAnyH_take (i := 5) (v := .string a4) rfl (by kernel_rfl) (by kernel_rfl) (by kernel_rfl) (fun _ _ _ h => h) (Or.inl ⟨by rfl, ?_⟩) (by assumption) ?_
  · intro w hSw; (try dsimp only at hSw); simp only [List.getElem_toArray, List.getElem_cons_succ, List.getElem_cons_zero]; first | (go_simp; done) | (go_simp; simp [add4]; done) | (simp [execOp, Act.eval, binOp, add4]; done)
  (try simp only [List.getElem_toArray, List.getElem_cons_succ, List.getElem_cons_zero, Act.put, List.setIfInBounds_toArray, List.set_cons_succ, List.set_cons_zero])
  refine wpAnyH_ready (rs := [9]) (by kernel_rfl) (by simp) ?_
  refine AllReadyH.cons rfl (fun K hK => ?_) AllReadyH.nil
  (try simp only [List.getElem_toArray, List.getElem_cons_succ, List.getElem_cons_zero])
  go_simp
  go_at_call 26; refine (N3.out _).mono ?_; rintro e' x3 ⟨rfl, dx3⟩
  (try (go_wp2_with fail))
  refine hK.out _ _ ?_ (fun hHeld => ?_)
  · exact K0.out _ (by ((repeat (first | with_reducible assumption | with_reducible exact Below.refl _ _ | with_reducible apply below_al | with_reducible apply below_dr | with_reducible refine below_more ?_ (by assumption)))))
  clear hK K
  (try simp only [Act.put, List.setIfInBounds_toArray, List.set_cons_succ, List.set_cons_zero])
  refine wpAnyH_take (i := 10) (v := .string a5) rfl (by kernel_rfl) (by kernel_rfl) (by kernel_rfl) (fun _ _ _ h => h) (Or.inl ⟨by rfl, ?_⟩) (by assumption) ?_
  · intro w hSw; (try dsimp only at hSw); simp only [List.getElem_toArray, List.getElem_cons_succ, List.getElem_cons_zero]; first | (go_simp; done) | (go_simp; simp [add5]; done) | (simp [execOp, Act.eval, binOp, add5]; done)
  (try simp only [List.getElem_toArray, List.getElem_cons_succ, List.getElem_cons_zero, Act.put, List.setIfInBounds_toArray, List.set_cons_succ, List.set_cons_zero])
  refine wpAnyH_ready (rs := [14]) (by kernel_rfl) (by simp) ?_
  refine AllReadyH.cons rfl (fun K hK => ?_) AllReadyH.nil
  (try simp only [List.getElem_toArray, List.getElem_cons_succ, List.getElem_cons_zero])
  go_simp
  go_at_call 26; refine (N4.out _).mono ?_; rintro e' x4 ⟨rfl, dx4⟩
  (try (go_wp2_with fail))
  refine hK.out _ _ ?_ (fun hHeld => ?_)
  · exact K0.out _ (by ((repeat (first | with_reducible assumption | with_reducible exact Below.refl _ _ | with_reducible apply below_al | with_reducible apply below_dr | with_reducible refine below_more ?_ (by assumption)))))
  clear hK K
  (try simp only [Act.put, List.setIfInBounds_toArray, List.set_cons_succ, List.set_cons_zero])
  refine wpAnyH_take (i := 15) (v := .string a6) rfl (by kernel_rfl) (by kernel_rfl) (by kernel_rfl) (fun _ _ _ h => h) (Or.inl ⟨by rfl, ?_⟩) (by assumption) ?_
  · intro w hSw; (try dsimp only at hSw); simp only [List.getElem_toArray, List.getElem_cons_succ, List.getElem_cons_zero]; first | (go_simp; done) | (go_simp; simp [add6]; done) | (simp [execOp, Act.eval, binOp, add6]; done)
  (try simp only [List.getElem_toArray, List.getElem_cons_succ, List.getElem_cons_zero, Act.put, List.setIfInBounds_toArray, List.set_cons_succ, List.set_cons_zero])
  refine wpAnyH_take (i := 16) (v := ?_) rfl (by kernel_rfl) (by kernel_rfl) (by kernel_rfl) (fun _ _ _ h => h) (Or.inl ⟨by rfl, ?_⟩) (by assumption) ?_
  rotate_left 1
  · intro w hSw; (try dsimp only at hSw); simp only [List.getElem_toArray, List.getElem_cons_succ, List.getElem_cons_zero]; go_simp; try (with_reducible rfl)
  (try simp only [List.getElem_toArray, List.getElem_cons_succ, List.getElem_cons_zero, Act.put, List.setIfInBounds_toArray, List.set_cons_succ, List.set_cons_zero])
  refine wpAnyH_done (by kernel_rfl) ?_ _
  go_wp2
  go_ret
  exact ⟨rfl, below_more HB.out (show Below w0.heap.size w0 x4 by ((repeat (first | with_reducible assumption | with_reducible exact Below.refl _ _ | with_reducible apply below_al | with_reducible apply below_dr | with_reducible refine below_more ?_ (by assumption)))))⟩
end Go.Proofs.YthpigninbeommaaDoor
