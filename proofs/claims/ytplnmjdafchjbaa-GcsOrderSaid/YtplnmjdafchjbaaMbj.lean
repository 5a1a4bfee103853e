/- Merged texts: GcsY. -/
import Derived.Test.YtplnmjdafchjbaaMbi
import Derived.Test.YtplnmjdafchjbaaMad
import Derived.Test.YtplnmjdafchjbaaMaf
/- Package gcs: hashes. -/
namespace Go.Proofs.Ytplnmjdafchjbaa
open Go.RowKit
set_option linter.unusedVariables false
set_option linter.unusedSimpArgs false

set_option maxRecDepth 100000 in
theorem once_grow : ∀ (L out : List (List UInt8)), out.length ≤ (L.foldl onceS out).length
  | [], out => Nat.le_refl _
  | s :: L, out => by
    rw [List.foldl_cons]
    refine Nat.le_trans ?_ (once_grow L (onceS out s))
    unfold onceS
    split
    · exact Nat.le_refl _
    · simp
set_option maxRecDepth 100000 in
theorem once_upto (L : List (List UInt8)) (j : Nat) : (once (L.take j)).length ≤ (once L).length := by
  have h := once_grow (L.drop j) (once (L.take j))
  unfold once at h ⊢
  rw [← List.foldl_append, List.take_append_drop] at h
  exact h
set_option maxRecDepth 100000 in
theorem once_next (L : List (List UInt8)) (i : Nat) (h : i < L.length) : once (L.take (i + 1)) = onceS (once (L.take i)) L[i] := by
  rw [List.take_succ_eq_append_getElem h, once_snoc]
set_option maxRecDepth 100000 in
set_option maxHeartbeats 8000000 in
theorem hashes_calls (w : World) (k l : Nat) (A : Option Addr) (n c : Nat) (L : List (List UInt8)) (hk : k < 2 ^ 64) (hl : l < 2 ^ 64) (hr : RdM w A n L) (hn : n ≤ 2000) (hL : ∀ t ∈ L, t.length ≤ 1000) :
    Calls Try.prog 19 #[.agg #[.int .u64 (k : Int), .int .u64 (l : Int)], .slice A n c] w fun e w' => Below w.heap.size w w' ∧
      (((once L).length ≤ 1000 ∧ ∃ A' c', e = .returned (.tuple #[.slice A' (once L).length c', .int .i64 0]) ∧ OwnR w' w.heap.size 22 A' (once L).length c' (((once L).map (sipH k l)).map VN)) ∨
       (1000 < (once L).length ∧ e = .returned (.tuple #[.slice none 0 0, .int .i64 4]))) := by
  have hln := hr.len
  have HT := Lib.hid hr
  have HLN := Lib.hid hln
  have hk0 : Blk (w.alloc (.cells #[.int .u64 (k : Int), .int .u64 (l : Int)] 23)) w.heap.size [.int .u64 (k : Int), .int .u64 (l : Int)] 23 := Blk.new w _ _
  have HB0 : Hid (Below w.heap.size w (w.alloc (.cells #[.int .u64 (k : Int), .int .u64 (l : Int)] 23))) := Lib.hid (below_al (Below.refl _ _) _)
  have HK0 := Lib.hid hk0
  have CH : Hid (∀ (W : World) (X : Option Addr) (m d : Nat) (t : List UInt8), t ∈ L → Rd W X m t → m ≤ d → Calls Try.prog 45 #[.agg #[.int .u64 (k : Int), .int .u64 (l : Int)], .slice X m d] W (Ret W (.int .u64 (sipH k l t : Int)))) := Lib.hid fun W X m d t hmem ht hmd => shash_calls k l X m d t W hk hl (by have := hL t hmem; have := ht.len; omega) hmd ht
  obtain ⟨O, hO⟩ : ∃ z, z = once L := ⟨_, rfl⟩
  have HOO := Lib.hid hO
  rw [← hO]
  clear hr hln hL hO hk0
  go_enter Try.func19, Try.ntmps19
  go_upto_region 3 with (first
    | ((with_reducible refine at_ssM 84 ?_); refine wpList_ssM rfl 84 rfl ?_; intro b w1 hb1 hs1 hB1 hlt1))
  obtain ⟨base, hbase⟩ : ∃ z, z = w1.heap.size := ⟨_, rfl⟩
  have hsz : w.heap.size + 1 = b := by simpa using hb1
  have HK1 : Hid (Blk w1 w.heap.size [.int .u64 (k : Int), .int .u64 (l : Int)] 23) := Lib.hid (HK0.out.up hB1)
  have HB1 : Hid (Below w.heap.size w w1 ∧ base ≤ w1.heap.size) := Lib.hid ⟨below_more HB0.out hB1, by omega⟩
  have HS1 := Lib.hid hs1
  have hbb : b < base ∧ w.heap.size < b := by omega
  clear hb1 hs1 hB1 hlt1 hbase HK0 HB0 hsz
  go_wp2
  go_loopw [13, 6] (fun iv ov wr => ∃ (i p : Nat) (A2 : Option Addr) (c2 : Nat) (T : List (List UInt8)), iv = .int .i64 (i : Int) ∧ ov = .slice A2 p c2 ∧ i ≤ n ∧ p ≤ 1000 ∧ Hid (T = once (L.take i) ∧ T.length = p) ∧ Hid (SetS wr b T) ∧ Hid (OwnR wr base 22 A2 p c2 ((T.map (sipH k l)).map VN)) ∧ Hid (Blk wr w.heap.size [.int .u64 (k : Int), .int .u64 (l : Int)] 23) ∧ Hid (Below w.heap.size w wr ∧ base ≤ wr.heap.size)) (fun iv _ _ => n - (intOf iv).toNat)
  case atStart => exact ⟨0, 0, none, 0, [], by first | rfl | go_num, by first | rfl | go_num, by omega, by omega, Lib.hid ⟨rfl, rfl⟩, HS1, Lib.hid (OwnR.nil _ _ _), HK1, HB1⟩
  case round =>
    clear HS1 HK1 HB1
    obtain ⟨i, p, A2, c2, T, rfl, rfl, hin, hp, HTT, HS, HO, HK, HB⟩ := hrel
    by_cases hlt : i < n
    · have hlt' : (i : Int) < (n : Int) := by omega
      obtain ⟨bb, off, A3, m3, c3, hl3, rfl, sc0, h1, h2, h3⟩ := HT.out.at_ hlt
      have hbw : bb < w.heap.size := by
        obtain ⟨b', off', e, hb', _⟩ := HT.out.2 (by omega)
        injection e with e
        injection e with e1 e2 _
        omega
      have sc := (HB.out.1.cell (p := ⟨bb, off + i, none⟩) hbw).trans sc0
      have h3' := h3.below HB.out.1
      have hcv0 := conv8 wr A3 m3 c3 _ h3'
      obtain ⟨s, hs⟩ : ∃ z, z = L[i] := ⟨_, rfl⟩
      have hmem : s ∈ L := by rw [hs]; exact List.getElem_mem hl3
      have HN : Hid (once (L.take (i + 1)) = onceS T s) := Lib.hid (by rw [once_next L i hl3, HTT.out.1, hs])
      rw [← hs] at hcv0 h3 h3'
      obtain ⟨S, hS⟩ : ∃ z : ByteArray, z = ⟨s.toArray⟩ := ⟨_, rfl⟩
      have hcv : (convert 27 9 (.slice A3 m3 c3)).run Try.prog wr = .ok (.string S) wr := by rw [hS]; exact hcv0
      have HVS : Hid (Value.string S = VT s) := Lib.hid (by rw [hS]; rfl)
      have HR3 := Lib.hid h3
      have HMD := Lib.hid (And.intro hmem h1)
      clear sc0 h1 h2 h3 h3' hcv0 hs hS hmem hl3
      by_cases hin' : s ∈ T
      · have HN2 : Hid (T = once (L.take (i + 1)) ∧ T.length = p) := Lib.hid ⟨by rw [HN.out]; unfold onceS; rw [if_pos hin'], HTT.out.2⟩
        have HD : Hid (decide (s ∈ T) = true) := Lib.hid (decide_eq_true hin')
        go_wp2_with (first
          | ((with_reducible refine at_ssL 84 (.tmp 17) (.tmp 19) ?_); refine wpList_ssL rfl (.tmp 17) (.tmp 19) rfl HS.out s (by first | rfl | simp [Act.eval]) (by first | exact HVS.out | (simp [Act.eval]; exact HVS.out)) ?_; rw [HD.out]))
        go_roundw
        case rel => exact ⟨i + 1, p, A2, c2, T, by go_num, rfl, by omega, hp, HN2, HS, HO, HK, HB⟩
        case measure => simp [intOf]; omega
      · have HD : Hid (decide (s ∈ T) = false) := Lib.hid (decide_eq_false hin')
        have HNI := Lib.hid hin'
        have HN2 : Hid (once (L.take (i + 1)) = T ++ [s]) := Lib.hid (by rw [HN.out]; unfold onceS; rw [if_neg hin'])
        have HTL : Hid (T.length = p) := Lib.hid HTT.out.2
        by_cases hbig : p = 1000
        · have hbig' : (p : Int) = 1000 := by omega
          have HBIG : Hid (1000 < O.length) := Lib.hid (by
            have h := once_upto L (i + 1)
            rw [HN2.out, ← HOO.out, List.length_append, HTL.out] at h
            simp at h
            omega)
          clear hin'
          go_wp2_with (first
            | ((with_reducible refine at_ssL 84 (.tmp 17) (.tmp 19) ?_); refine wpList_ssL rfl (.tmp 17) (.tmp 19) rfl HS.out s (by first | rfl | simp [Act.eval]) (by first | exact HVS.out | (simp [Act.eval]; exact HVS.out)) ?_; rw [HD.out])
            | ((with_reducible refine at_ssN 84 (.tmp 21) ?_); refine wpList_ssN rfl (.tmp 21) rfl HS.out (by first | rfl | simp [Act.eval]) ?_; rw [HTL.out]))
          go_ret2
          exact ⟨HB.out.1, .inr ⟨HBIG.out, rfl⟩⟩
        · have hbig' : ¬ (p : Int) = 1000 := by omega
          obtain ⟨x, hx⟩ : ∃ z, z = sipH k l s := ⟨_, rfl⟩
          have CX : Hid (∀ (W : World) (X : Option Addr) (m d : Nat), Rd W X m s → m ≤ d → Calls Try.prog 45 #[.agg #[.int .u64 (k : Int), .int .u64 (l : Int)], .slice X m d] W (Ret W (.int .u64 (x : Int)))) := Lib.hid fun W X m d h1 h2 => by
            rw [hx]
            exact CH.out W X m d s HMD.out.1 h1 h2
          have HX := Lib.hid hx
          clear hin' hx
          go_wp2_with (first
            | ((with_reducible refine at_ssL 84 (.tmp 17) (.tmp 19) ?_); refine wpList_ssL rfl (.tmp 17) (.tmp 19) rfl HS.out s (by first | rfl | simp [Act.eval]) (by first | exact HVS.out | (simp [Act.eval]; exact HVS.out)) ?_; rw [HD.out])
            | ((with_reducible refine at_ssN 84 (.tmp 21) ?_); refine wpList_ssN rfl (.tmp 21) rfl HS.out (by first | rfl | simp [Act.eval]) ?_; rw [HTL.out])
            | ((with_reducible refine at_ssU 84 (.tmp 24) (.tmp 26) _ ?_); refine wpList_ssU rfl (.tmp 24) (.tmp 26) _ rfl HS.out s HNI.out (by first | rfl | simp [Act.eval]) (by first | exact HVS.out | (simp [Act.eval]; exact HVS.out)) (by first | rfl | simp [Act.eval]) ?_; intro w2 hs2 hF2; have HS2 := Lib.hid hs2; have HB2 : Hid (Below w.heap.size w w2 ∧ base ≤ w2.heap.size) := Lib.hid ⟨below_frm HB.out.1 hF2 (fun i hi => by rw [hi]; omega), Nat.le_trans HB.out.2 hF2.size⟩; have HO2 := Lib.hid (HO.out.frm hF2 (fun g hg h => by have h1 := (HO.out.blk g hg).1; omega)); have hk2 := hF2.blk HK.out (by omega); have HK2 := Lib.hid hk2; have D := Lib.hid (CX.out w2 A3 m3 c3 (HR3.out.below HB2.out.1) HMD.out.2); clear hs2 hF2)
            | ((with_reducible refine at_load 23 (.tmp 2) ?_); refine wpList_load_mid rfl 23 (.tmp 2) rfl (w.heap.size) (0) (by first | rfl | simp [Act.eval]) [.int .u64 (k : Int), .int .u64 (l : Int)] _ (Blk.range hk2) Try.underlying23 rfl (by kernel_rfl) ?_)
            | (go_at_call 45; refine D.out.mono ?_; rintro e' w3 ⟨rfl, d3⟩; clear hk2)
            | ((with_reducible refine at_bsX 35 1 #[(0, .tmp 30)] ?_); refine wpList_bsR rfl 35 22 (VN 0) (VN x) Try.underlying35 infoU rfl rfl (.tmp 30) rfl (by first | rfl | simp [Act.eval]) ?_; intro g w5 hb5 hg5 hl5 d5)
            | ((with_reducible refine at_appX 35 (.tmp 27) (.tmp 31) ?_); refine wpList_appR rfl 35 22 (VN 0) 8 Try.underlying35 infoUb rfl (by decide) (.tmp 27) (.tmp 31) rfl base w5 (Below.refl _ _) (Nat.le_trans (Nat.le_trans HB2.out.2 d3.size) d5.size) A2 p c2 ((T.map (sipH k l)).map VN) (by first | rfl | simp [Act.eval]) ((HO2.out.up d3).up d5) _ 1 1 [VN x] (by first | rfl | simp [Act.eval]) hb5.rdR (fun u hu => by rw [List.mem_singleton.1 hu]; rfl) (by omega) ?_; intro A6 c6 w6 ho6 hf6 hB6))
          have HB6 : Hid (Below w.heap.size w w6 ∧ base ≤ w6.heap.size) := Lib.hid ⟨(below_more (below_more HB2.out.1 d3) d5).trans (hB6.mono (by omega)), Nat.le_trans (Nat.le_trans (Nat.le_trans HB2.out.2 d3.size) d5.size) hB6.size⟩
          have HS6 : Hid (SetS w6 b (T ++ [s])) := Lib.hid (((HS2.out.up d3).up d5).below hB6 hbb.1)
          have HK6 : Hid (Blk w6 w.heap.size [.int .u64 (k : Int), .int .u64 (l : Int)] 23) := Lib.hid (((HK2.out.up d3).up d5).below hB6 (by omega))
          have HO6 : Hid (OwnR w6 base 22 A6 (p + 1) c6 (((T ++ [s]).map (sipH k l)).map VN)) := Lib.hid (by rw [List.map_append, List.map_append]; show OwnR _ _ _ _ _ _ (_ ++ [VN (sipH k l s)]); rw [← HX.out]; exact ho6)
          clear d3 d5 hb5 hg5 hl5 ho6 hf6 hB6
          go_roundw
          case rel => exact ⟨i + 1, p + 1, A6, c6, T ++ [s], by go_num, rfl, by omega, by omega, Lib.hid ⟨HN2.out.symm, by rw [List.length_append, HTL.out]; rfl⟩, HS6, HO6, HK6, HB6⟩
          case measure => simp [intOf]; omega
    · have hlt' : ¬ (i : Int) < (n : Int) := by omega
      have e : i = n := by omega
      have HOT : Hid (O = T) := Lib.hid (by rw [HOO.out, HTT.out.1, e, List.take_of_length_le (by rw [HLN.out]; exact Nat.le_refl _)])
      have HTL : Hid (T.length = p) := Lib.hid HTT.out.2
      clear e
      go_wp2
      go_ret2
      refine ⟨HB.out.1, .inl ⟨by rw [HOT.out, HTL.out]; exact hp, A2, c2, by rw [HOT.out, HTL.out]; rfl, ?_⟩⟩
      rw [HOT.out, HTL.out]
      have h9 := HO.out.low (show w.heap.size ≤ base by omega)
      first
        | exact h9
        | (rw [List.map_map] at h9; exact h9)
end Go.Proofs.Ytplnmjdafchjbaa
